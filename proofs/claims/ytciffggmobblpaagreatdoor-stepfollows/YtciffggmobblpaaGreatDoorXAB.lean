import Derived.Test.YtciffggmobblpaaGreatDoorXAA
import Derived.Laws.IdiomStrings
import Derived.Lib.MapLaws
import Derived.Lib.TrimUEq
import Derived.Lib.LaidTab
import Derived.ChangeSame
import Derived.Laws.Rows
import Derived.Shelf.Utf8.AppendRunePlain
import Derived.Ground.NamesProg
import Derived.Test.YtciffggmobblpaaGreatDoorProg
import Derived.Laws.OwnMore
namespace Go.Proofs.YtciffggmobblpaaGreatDoor
open Go.RowKit
def hexRun:Nat→List UInt8→Nat→Nat×Nat
 | 0,_,n=>(0,n)
 | _+1,[],n=>(0,n)
 | f+1,c :: r,n=>match hexD c with
  | some d=>((hexRun f r (16*n+d)).1+1,(hexRun f r (16*n+d)).2)
  | none=>(0,n)
def brS (l:List UInt8) (i:Nat):Nat×Nat:=
 if l.length < i+3∨bt l (i+2)≠123 then (0,0) else
  if (hexRun 6 (l.drop (i+3)) 0).1=0∨l.length≤i+3+(hexRun 6 (l.drop (i+3)) 0).1∨bt l (i+3+(hexRun 6 (l.drop (i+3)) 0).1)≠125∨1114111 < (hexRun 6 (l.drop (i+3)) 0).2∨(55296≤(hexRun 6 (l.drop (i+3)) 0).2∧(hexRun 6 (l.drop (i+3)) 0).2≤57343) then (0,0)
  else (4+(hexRun 6 (l.drop (i+3)) 0).1,(hexRun 6 (l.drop (i+3)) 0).2)
end Go.Proofs.YtciffggmobblpaaGreatDoor
namespace Go.Proofs.YtciffggmobblpaaGreatDoor
open Go.RowKit
def utfL (n:Nat):List UInt8:=
 if n < 128 then [UInt8.ofNat n] else if n < 2048 then [UInt8.ofNat (192+n / 64),UInt8.ofNat (128+n % 64)]
 else if n < 65536 then [UInt8.ofNat (224+n / 4096),UInt8.ofNat (128+n / 64 % 64),UInt8.ofNat (128+n % 64)]
 else [UInt8.ofNat (240+n / 262144),UInt8.ofNat (128+n / 4096 % 64),UInt8.ofNat (128+n / 64 % 64),UInt8.ofNat (128+n % 64)]
theorem ofN (n:Nat) (h:n < 256):((UInt8.ofNat n).toNat:Int)=(n:Int):=by rw [UInt8.toNat_ofNat'];omega
end Go.Proofs.YtciffggmobblpaaGreatDoor
namespace Go.Proofs.YtciffggmobblpaaGreatDoor
open Go.RowKit
def escS (l:List UInt8) (i:Nat):Nat×List UInt8:=
 if l.length≤i+1 then (0,[])
 else if bt l (i+1)=34 then (2,[34])
 else if bt l (i+1)=92 then (2,[92])
 else if bt l (i+1)=110 then (2,[10])
 else if bt l (i+1)=114 then (2,[13])
 else if bt l (i+1)=116 then (2,[9])
 else if bt l (i+1)=120 then (if i+3 < l.length then match hexD (l.getD (i+2) 0),hexD (l.getD (i+3) 0) with
  | some a,some b=>(4,[UInt8.ofNat (16*a+b)])
  | _,_=>(0,[]) else (0,[]))
 else if bt l (i+1)=117 then (if 0 < (brS l i).1 then ((brS l i).1,utfL (brS l i).2) else (0,[]))
 else (0,[])
theorem utfL_len (n:Nat):(utfL n).length≤4:=by
 unfold utfL
 repeat' split
 all_goals simp
theorem brS_end (l:List UInt8) (i:Nat) (h:0 < (brS l i).1):5≤(brS l i).1∧i+(brS l i).1≤l.length:=by
 unfold brS at h ⊢
 split at h
 ·simp at h
 ·split at h
  ·simp at h
  ·rename_i h1 h2
   rw [if_neg h1,if_neg h2]
   show 5≤4+(hexRun 6 (l.drop (i+3)) 0).1∧i+(4+(hexRun 6 (l.drop (i+3)) 0).1)≤l.length
   omega
theorem escS_end (l:List UInt8) (i:Nat) (h:0 < (escS l i).1):i+(escS l i).1≤l.length∧(escS l i).2.length≤(escS l i).1:=by
 unfold escS at h ⊢
 split at h
 ·simp at h
 rename_i g0
 rw [if_neg g0]
 repeat' split
 all_goals first
  | (simp;omega)
  | (rename_i g;have hb1:=brS_end l i g;have hu:=utfL_len (brS l i).2;exact ⟨hb1.2,by omega⟩)
  | skip
 all_goals simp_all
 have hb1:=brS_end l i (by assumption)
 have hu:=utfL_len (brS l i).2
 exact ⟨hb1.2,by omega⟩
end Go.Proofs.YtciffggmobblpaaGreatDoor
namespace Go.Proofs.YtciffggmobblpaaGreatDoor
open Go.RowKit
theorem dc_asc {l:List UInt8} {i:Nat} (h:bt l i < 128):dc l i=(bt l i,1):=by
 unfold dc Lib.decodeN
 rw [if_pos h]
theorem dc_big {l:List UInt8} {i:Nat} (h:¬bt l i < 128):128≤(dc l i).1∧(dc l i).1≤1114111:=by
 unfold dc
 have:=bt_lt l i
 have:=bt_lt l (i+1)
 have:=bt_lt l (i+2)
 have:=bt_lt l (i+3)
 rcases Lib.decodeN_shape (l.length - i) (bt l i) (bt l (i+1)) (bt l (i+2)) (bt l (i+3)) with ⟨a1,e⟩ | ⟨a1,a2,a3,a4,e⟩ | ⟨a1,a2,a3,a4,a5,a6,e⟩ | ⟨a1,a2,a3,a4,a5,a6,a7,e⟩ | e
 all_goals rw [e]
 all_goals simp only
 all_goals omega
theorem lo1_asc {l:List UInt8} {i:Nat} (h:bt l i < 128):lo1 l i=false:=by
 unfold lo1
 rw [dc_asc h]
 refine decide_eq_false (fun e=>?_)
 injection e with e1 _
 omega
def chr (l:List UInt8) (i:Nat):Int:=if i < l.length then (if lo1 l i then -1 else ((dc l i).1:Int)) else -2
theorem chars_head (l:List UInt8) (i:Nat):∃ r,chars l i=(chr l i,(if i < l.length then i else l.length)) :: r:=by
 unfold chr
 by_cases h:i < l.length
 ·rw [chars_lt h,if_pos h,if_pos h];exact ⟨_,rfl⟩
 ·rw [chars_end h,if_neg h,if_neg h];exact ⟨_,rfl⟩
theorem chars_asc {l:List UInt8} {i:Nat} (h:i < l.length) (hb:bt l i < 128):chars l i=((bt l i:Int),i) :: chars l (i+1):=by
 rw [chars_lt h,lo1_asc hb,dc_asc hb]
 rfl
theorem chr_asc (l:List UInt8) (i k:Nat) (hk:k < 128):chr l i=(k:Int)↔i < l.length∧bt l i=k:=by
 unfold chr
 by_cases h:i < l.length
 ·rw [if_pos h]
  by_cases hb:bt l i < 128
  ·rw [lo1_asc hb,dc_asc hb]
   simp only [Bool.false_eq_true,if_false]
   omega
  ·have:=dc_big hb
   split <;> omega
 ·rw [if_neg h]
  omega
theorem chr_range (l:List UInt8) (i:Nat):-2≤chr l i∧chr l i≤1114111:=by
 unfold chr
 split
 ·split
  ·omega
  ·by_cases hb:bt l i < 128
   ·rw [dc_asc hb];simp only;omega
   ·have:=dc_big hb;omega
 ·omega
theorem hexI_chr (l:List UInt8) (i:Nat) (h:i < l.length):(hexD (l.getD i 0)=none∧¬0≤hexI (chr l i))∨∃ d:Nat,hexD (l.getD i 0)=some d∧hexI (chr l i)=d∧bt l i < 128:=by
 have hc:bt l i=(l.getD i 0).toNat:=rfl
 by_cases hb:bt l i < 128
 ·have he:chr l i=(bt l i:Int):=(chr_asc l i (bt l i) hb).2 ⟨h,rfl⟩
  rw [he]
  unfold hexD hexI
  rw [←hc]
  by_cases a1:48≤bt l i∧bt l i≤57
  ·exact .inr ⟨bt l i - 48,by rw [if_pos a1],by rw [if_pos (by omega)];omega,hb⟩
  ·by_cases a2:97≤bt l i∧bt l i≤102
   ·exact .inr ⟨bt l i - 87,by rw [if_neg a1,if_pos a2],by rw [if_neg (by omega),if_pos (by omega)];omega,hb⟩
   ·by_cases a3:65≤bt l i∧bt l i≤70
    ·exact .inr ⟨bt l i - 55,by rw [if_neg a1,if_neg a2,if_pos a3],by rw [if_neg (by omega),if_neg (by omega),if_pos (by omega)];omega,hb⟩
    ·exact .inl ⟨by rw [if_neg a1,if_neg a2,if_neg a3],by rw [if_neg (by omega),if_neg (by omega),if_neg (by omega)];omega⟩
 ·refine .inl ⟨?_,?_⟩
  ·unfold hexD
   rw [←hc,if_neg (by omega),if_neg (by omega),if_neg (by omega)]
  ·have hr:chr l i=-1∨128≤chr l i:=by
    unfold chr
    rw [if_pos h]
    have:=dc_big hb
    split
    ·exact .inl rfl
    ·exact .inr (by omega)
   unfold hexI
   repeat' split
   all_goals omega
theorem getD_drop {l:List UInt8} {i:Nat} (h:i < l.length):l.drop i=l.getD i 0 :: l.drop (i+1):=by
 rw [List.drop_eq_getElem_cons h]
 simp [List.getD,List.getElem?_eq_getElem h]
theorem hexC_chars (f:Nat):∀ (l:List UInt8) (i n:Nat),hexC f (chars l i) n=hexRun f (l.drop i) n:=by
 induction f with
 | zero=>intro l i n;rfl
 | succ f ih=>
  intro l i n
  by_cases h:i < l.length
  ·rw [getD_drop h]
   rcases hexI_chr l i h with ⟨h1,h2⟩ | ⟨d,h1,h2,h3⟩
   ·obtain ⟨r,hr⟩:=chars_head l i
    rw [hr,hexC,if_neg h2,hexRun,h1]
   ·rw [chars_asc h h3,hexC]
    have he:chr l i=(bt l i:Int):=(chr_asc l i (bt l i) h3).2 ⟨h,rfl⟩
    rw [he] at h2
    simp only [h2]
    rw [if_pos (by omega),hexRun,h1,show ((d:Int)).toNat=d from Int.toNat_natCast d,ih]
  ·rw [chars_end h,List.drop_eq_nil_of_le (by omega),hexRun,hexC,if_neg (show ¬0≤hexI (-2) by decide)]
end Go.Proofs.YtciffggmobblpaaGreatDoor
namespace Go.Proofs.YtciffggmobblpaaGreatDoor
open Go.RowKit
theorem take_own (l:List UInt8) (i:Nat) (h:i < l.length) (hlo:lo1 l i=false):Lib.runeCells ((dc l i).1:Int)=Lib.byteCells ((l.drop i).take (dc l i).2):=by
 have hd:Lib.decodeL (l.drop i)=dc l i:=by
  have:=Lib.decodeL_drop ⟨l.toArray⟩ i
  rw [←dc_decode]
  simpa using this
 have hn:l.drop i≠[]:=fun e=>by
  have:=congrArg List.length e
  simp at this
  omega
 have hne:¬(dc l i=(65533,1)):=of_decide_eq_false hlo
 have he:=Lib.encode_decode (l.drop i) hn (by rw [hd];exact fun hh=>hne (Prod.ext hh.1 hh.2))
 rw [hd] at he
 rw [←Lib.byteCells_encodeRune,he]
theorem hv8 (a:Int) (b:Nat) (hb:b < 256) (e:a=(b:Int)):Value.int .u8 a=Value.int .u8 ((UInt8.ofNat b).toNat:Int):=by rw [ofN b hb,e]
theorem utf_cells (n:Nat) (h:n≤1114111) (hs:¬(55296≤n∧n≤57343)):Lib.runeCells (n:Int)=Lib.byteCells (utfL n):=by
 unfold utfL Lib.runeCells Lib.byteCells
 by_cases h1:n < 128
 ·rw [if_pos h1,Lib.encodeRuneZ_one (by omega) (by omega)]
  exact congrArg (fun x=>[x]) (hv8 _ _ (by omega) rfl)
 ·rw [if_neg h1]
  by_cases h2:n < 2048
  ·rw [if_pos h2,Lib.encodeRuneZ_two (by omega) (by omega)]
   simp only [List.map]
   rw [hv8 (192+(n:Int) / 64) (192+n / 64) (by omega) (by omega),hv8 (128+(n:Int) % 64) (128+n % 64) (by omega) (by omega)]
  ·rw [if_neg h2]
   by_cases h3:n < 65536
   ·rw [if_pos h3,Lib.encodeRuneZ_three (by omega)]
    simp only [List.map]
    rw [hv8 (224+(n:Int) / 4096) (224+n / 4096) (by omega) (by omega),hv8 (128+(n:Int) / 64 % 64) (128+n / 64 % 64) (by omega) (by omega),hv8 (128+(n:Int) % 64) (128+n % 64) (by omega) (by omega)]
   ·rw [if_neg h3,Lib.encodeRuneZ_four (by omega) (by omega)]
    simp only [List.map]
    rw [hv8 (240+(n:Int) / 262144) (240+n / 262144) (by omega) (by omega),hv8 (128+(n:Int) / 4096 % 64) (128+n / 4096 % 64) (by omega) (by omega),hv8 (128+(n:Int) / 64 % 64) (128+n / 64 % 64) (by omega) (by omega),hv8 (128+(n:Int) % 64) (128+n % 64) (by omega) (by omega)]
theorem add_add (a:Addr) (i j:Nat):(a.add i).add j=a.add (i+j):=by simp [Addr.add];split <;> split <;> simp_all <;> omega
theorem CH.drop {W:World} {ad:Addr} {C:List (Int×Nat)} (h:CH W ad C) (k:Nat):CH W (ad.add (k*2)) (C.drop k):=fun j c hc=>by
 rw [List.getElem?_drop] at hc
 have:=h (k+j) c hc
 rw [add_add,add_add]
 rw [show k*2+j*2=(k+j)*2 by omega,show k*2+(j*2+1)=(k+j)*2+1 by omega]
 exact this
theorem chars_no (l:List UInt8):∀ (m i:Nat),l.length - i≤m→∃ (k:Nat) (c:Int×Nat),(chars l i)[k]?=some c∧¬0≤hexI c.1
 | m,i,hm=>by
  by_cases h:i < l.length
  ·have hp:=dc_pos l i
   match m,hm with
   | 0,hm=>omega
   | m+1,hm=>
    obtain ⟨k,c,h1,h2⟩:=chars_no l m (i+(dc l i).2) (by omega)
    exact ⟨k+1,c,by rw [chars_lt h];exact h1,h2⟩
  ·exact ⟨0,(-2,l.length),by rw [chars_end h];rfl,(by decide:¬0≤hexI (-2))⟩
theorem chars_range (l:List UInt8):∀ (m i:Nat),l.length - i≤m→∀ c∈chars l i,-2≤c.1∧c.1≤1114111
 | m,i,hm=>by
  intro c hc
  by_cases h:i < l.length
  ·have hp:=dc_pos l i
   match m,hm with
   | 0,hm=>omega
   | m+1,hm=>
    obtain ⟨r,hr⟩:=chars_head l i
    have hr2:=hr
    rw [chars_lt h] at hr2
    rw [hr] at hc
    rcases List.mem_cons.1 hc with e | e
    ·rw [e];exact chr_range l i
    ·have:=(List.cons.inj hr2).2
     rw [←this] at e
     exact chars_range l m (i+(dc l i).2) (by omega) c e
  ·rw [chars_end h] at hc
   rw [List.mem_singleton.1 hc]
   exact (by decide:(-2:Int)≤-2∧(-2:Int)≤1114111)
theorem chars_len (l:List UInt8):∀ (m i:Nat),l.length - i≤m→(chars l i).length≤m+1
 | m,i,hm=>by
  by_cases h:i < l.length
  ·have hp:=dc_pos l i
   match m,hm with
   | 0,hm=>omega
   | m+1,hm=>
    rw [chars_lt h]
    have:=chars_len l m (i+(dc l i).2) (by omega)
    simp only [List.length_cons]
    omega
  ·rw [chars_end h];simp
theorem drop_hex (f:Nat):∀ (l:List UInt8) (i n:Nat),(chars l i).drop (hexRun f (l.drop i) n).1=chars l (i+(hexRun f (l.drop i) n).1):=by
 induction f with
 | zero=>intro l i n;rfl
 | succ f ih=>
  intro l i n
  by_cases h:i < l.length
  ·rw [getD_drop h]
   rcases hexI_chr l i h with ⟨h1,h2⟩ | ⟨d,h1,h2,h3⟩
   ·rw [hexRun,h1];rfl
   ·rw [hexRun,h1]
    show (chars l i).drop ((hexRun f (l.drop (i+1)) (16*n+d)).1+1)=chars l (i+((hexRun f (l.drop (i+1)) (16*n+d)).1+1))
    rw [chars_asc h h3,List.drop_succ_cons,ih]
    exact congrArg (chars l) (by rw [Nat.add_assoc,Nat.add_comm 1])
  ·have hd:l.drop i=[]:=List.drop_eq_nil_of_le (by omega)
   rw [hd,hexRun];rfl
theorem hexRun_le (f:Nat):∀ (r:List UInt8) (n:Nat),(hexRun f r n).1≤r.length∧(hexRun f r n).1≤f:=by
 induction f with
 | zero=>intro r n;exact ⟨Nat.zero_le _,Nat.le_refl _⟩
 | succ f ih=>
  intro r n
  cases r with
  | nil=>exact ⟨Nat.le_refl _,Nat.zero_le _⟩
  | cons c r=>
   rw [hexRun]
   cases hexD c with
   | none=>exact ⟨Nat.zero_le _,Nat.zero_le _⟩
   | some d=>
    have:=ih r (16*n+d)
    show (hexRun f r (16*n+d)).1+1≤(c :: r).length∧(hexRun f r (16*n+d)).1+1≤f+1
    simp only [List.length_cons]
    omega
end Go.Proofs.YtciffggmobblpaaGreatDoor
namespace Go.Proofs.YtciffggmobblpaaGreatDoor
open Go.RowKit
def pairData {H:Type} (k:IntKind) (zs:List (Int×Int)):DataW H:=.agg (zs.map fun z=>.agg [.lit (.int k z.1),.lit (.int k z.2)])
def pairCells (k:IntKind) (zs:List (Int×Int)):List Value:=zs.flatMap fun z=>[.int k z.1,.int k z.2]
theorem pairCells_at (k:IntKind) (zs:List (Int×Int)):∀ (i:Nat) (z:Int×Int),zs[i]?=some z→(pairCells k zs)[i*2]?=some (.int k z.1)∧(pairCells k zs)[i*2+1]?=some (.int k z.2):=by
 induction zs with
 | nil=>intro i z h;simp at h
 | cons y zs ih=>
  intro i z h
  cases i with
  | zero=>
   simp at h
   subst h
   exact ⟨rfl,rfl⟩
  | succ i=>
   have:=ih i z (by simpa using h)
   rw [show (i+1)*2=i*2+1+1 by omega,show i*2+1+1+1=i*2+1+1+1 by omega]
   exact this
theorem pairCells_len (k:IntKind) (zs:List (Int×Int)):(pairCells k zs).length=zs.length*2:=by
 induction zs with
 | nil=>rfl
 | cons y zs ih=>
  show ([_,_]++pairCells k zs).length=_
  simp [ih]
  omega
theorem cells_of_pairs {H:Type} {enc:TypeId×Value→H} {P:Program} {w:World} {base:Nat} {sp:Nat→Bool} {held:Bool} {fuel:Nat} {t e i:TypeId} {n:Nat} {k:IntKind} {f0 f1:Field} {cs:List Value} {zs:List (Int×Int)} {p:List MemPlace}
  (ht:P.underlying t=some (.array n e)) (he:P.underlying e=some (.struct #[f0,f1])) (h0:f0.offset=0) (h1:f1.offset=1) (h2:f0.type=i) (h3:f1.type=i) (hi:P.underlying i=some (.int k)) (hci:P.cellsOf i=1) (hce:P.cellsOf e=2) (hct:P.cellsOf t=n*2)
  (h:DataW.trod enc P w base sp held fuel t cs=some (pairData k zs,p)):cs=pairCells k zs:=by
 cases fuel with
 | zero=>simp [DataW.trod] at h
 | succ fuel=>
  simp only [DataW.trod,ht,hce,hct] at h
  split at h
  ·rename_i hl
   obtain ⟨xs,hm,hx⟩:=Option.map_eq_some_iff.1 h
   have hxs:xs.map (·.1)=zs.map fun z=>(DataW.agg [.lit (.int k z.1),.lit (.int k z.2)]:DataW H):=by
    have:=congrArg Prod.fst hx
    simpa [pairData] using this
   have hxl:xs.length=n:=by simpa using Lib.mapM_length hm
   have hzl:zs.length=n:=by
    have:=congrArg List.length hxs
    simp at this
    omega
   have key:∀ j z,zs[j]?=some z→cs[j*2]?=some (.int k z.1)∧cs[j*2+1]?=some (.int k z.2):=by
    intro j z hz
    have hj:j < n:=by rw [←hzl];exact (List.getElem?_eq_some_iff.1 hz).1
    obtain ⟨b,hb,hf⟩:=Lib.mapM_at hm j j (by simp [hj])
    obtain ⟨y0,y1,m,hb2,hlen,g0,g1⟩:=ChangeShapes.trod_struct2 he hf
    rw [h0,h2,hci] at g0
    rw [h1,h3,hci] at g1
    obtain ⟨z0,hc0,hy0,_⟩:=DataW.trod_int hi g0
    obtain ⟨z1,hc1,hy1,_⟩:=DataW.trod_int hi g1
    have e2:(xs.map (·.1))[j]?=some b.1:=by simp [hb]
    rw [hxs,List.getElem?_map,hz] at e2
    rw [hb2] at e2
    have e3:(DataW.agg [.lit (.int k z.1),.lit (.int k z.2)]:DataW H)=.agg [y0.1,y1.1]:=Option.some.inj e2
    rw [hy0,hy1] at e3
    have e4:z.1=z0∧z.2=z1:=by simpa using e3
    have c0:=congrArg (·[0]?) hc0
    have c1:=congrArg (·[0]?) hc1
    simp [List.getElem?_drop] at c0 c1
    exact ⟨by rw [e4.1];exact c0,by rw [e4.2];exact c1⟩
   apply List.ext_getElem?
   intro j
   by_cases hj:j < n*2
   ·obtain ⟨z,hz⟩:∃ z,zs[j / 2]?=some z:=⟨_,List.getElem?_eq_getElem (by omega)⟩
    obtain ⟨a0,a1⟩:=key _ z hz
    obtain ⟨b0,b1⟩:=pairCells_at k zs _ z hz
    rcases Nat.mod_two_eq_zero_or_one j with hm2 | hm2
    ·rw [show j / 2*2=j by omega] at a0 b0
     rw [a0,b0]
    ·rw [show j / 2*2+1=j by omega] at a1 b1
     rw [a1,b1]
   ·rw [List.getElem?_eq_none (by omega),List.getElem?_eq_none (by rw [pairCells_len];omega)]
  ·cases h
def PairIs (P:Program) (w:World) (name:String) (k:IntKind) (zs:List (Int×Int)):Prop:=w.var? P name=some (pairCells k zs).toArray
theorem pairIs_of_head {P:Program} {W:World} {name:String} {k:IntKind} {zs:List (Int×Int)} {rest:List (String×DataW Unit)} {g:Nat} {t e i:TypeId} {n:Nat} {f0 f1:Field}
  (hg:P.globalNamed name=some g) (hty:(P.globals[g]?).map (·.type)=some t) (ht:P.underlying t=some (.array n e)) (he:P.underlying e=some (.struct #[f0,f1])) (h0:f0.offset=0) (h1:f1.offset=1) (h2:f0.type=i) (h3:f1.type=i) (hi:P.underlying i=some (.int k)) (hci:P.cellsOf i=1) (hce:P.cellsOf e=2) (hct:P.cellsOf t=n*2)
  (h:laidMet P ((name,pairData k zs) :: rest) W):PairIs P W name k zs:=by
 obtain ⟨ps,⟨g',t',cs,fuel,p,q,hg',ht',hvar,hd,_,_⟩,_⟩:=h
 obtain rfl:=Option.some.inj (hg.symm.trans hg')
 obtain rfl:=Option.some.inj (hty.symm.trans ht')
 unfold PairIs
 rw [hvar,←cells_of_pairs ht he h0 h1 h2 h3 hi hci hce hct hd]
end Go.Proofs.YtciffggmobblpaaGreatDoor
namespace Go.Proofs.YtciffggmobblpaaGreatDoor
open Go.RowKit
abbrev shortsL:List (Int×Int):=[(34,34),(92,92),(110,10),(114,13),(116,9)]
abbrev shortsC:Array Value:=#[.int .i32 34,.int .i32 34,.int .i32 92,.int .i32 92,.int .i32 110,.int .i32 10,.int .i32 114,.int .i32 13,.int .i32 116,.int .i32 9]
def SH (w:World):Prop:=∃ t fr,w.heap[4]?=some (.cells shortsC t fr)
theorem SH.below {w W:World} (h:SH w) (hb:Below w.heap.size w W):SH W:=by
 obtain ⟨t,fr,h⟩:=h
 exact ⟨t,fr,(hb.block _ (lt_of_get h)).trans h⟩
def shO (x:Int):Option Int:=if x=34 then some 34 else if x=92 then some 92 else if x=110 then some 10 else if x=114 then some 13 else if x=116 then some 9 else none
set_option maxRecDepth 100000 in
theorem idx_short (k:Nat) (z:Int×Int) (h:shortsL[k]?=some z) (W:World):Sem.run Tryz.prog (Instr.index 200 (.agg shortsC) (.int .i64 (k:Int))) W=.ok (.agg #[.int .i32 z.1,.int .i32 z.2]) W:=by
 match k,h with
 | 0,h=>obtain rfl:=Option.some.inj h;rfl
 | 1,h=>obtain rfl:=Option.some.inj h;rfl
 | 2,h=>obtain rfl:=Option.some.inj h;rfl
 | 3,h=>obtain rfl:=Option.some.inj h;rfl
 | 4,h=>obtain rfl:=Option.some.inj h;rfl
 | k+5,h=>simp at h
theorem SH.cell {w:World} (h:SH w) (j:Nat):w.cell? ⟨4,j,none⟩=shortsC[j]?:=by
 obtain ⟨t,fr,h⟩:=h
 exact cell_of_row w _ j _ _ _ h
end Go.Proofs.YtciffggmobblpaaGreatDoor
namespace Go.Proofs
open Go.Shelf
def Tryz.l242_ren:Go.Shelf.Ren:=⟨fun | 242=>142 | 278=>147 | n=>n,fun | 37=>82 | 21=>21 | 51=>197 | 4=>4 | 5=>5 | 46=>179 | n=>n,fun | n=>n⟩
theorem Tryz.l242:Go.Proofs.Lays.n242 Tryz.prog Tryz.l242_ren:={
 mixed:=by kernel_rfl
 f242:=Tryz.func142.trans (congrArg some (by kernel_rfl))
 f278:=Tryz.func147.trans (congrArg some (by kernel_rfl))
 t4:=Tryz.underlying4
 a4:=Tryz.isAgg4
 z4:=Tryz.sizeOf4
 v4:=Tryz.zeroValue4
 t5:=Tryz.underlying5
 a5:=Tryz.isAgg5
 z5:=Tryz.sizeOf5
 v5:=Tryz.zeroValue5
 t21:=Tryz.underlying21
 a21:=Tryz.isAgg21
 z21:=Tryz.sizeOf21
 v21:=Tryz.zeroValue21
 t37:=Tryz.underlying82
 a37:=Tryz.isAgg82
 z37:=Tryz.sizeOf82
 v37:=Tryz.zeroValue82
 t46:=Tryz.underlying179
 a46:=Tryz.isAgg179
 z46:=Tryz.sizeOf179
 v46:=Tryz.zeroValue179
 t51:=Tryz.underlying197
 a51:=Tryz.isAgg197
 z51:=Tryz.sizeOf197
 v51:=Tryz.zeroValue197 }
end Go.Proofs
namespace Go.Proofs.YtciffggmobblpaaGreatDoor
open Go.RowKit Go.Shelf
theorem shO_some {x y:Int} (h:shO x=some y):0≤y∧y < 256:=by
 unfold shO at h
 repeat' split at h
 all_goals first
  | (injection h with h;omega)
  | cases h
theorem shO_none {x:Int} (h:shO x=none):∀ (k:Nat) (z:Int×Int),shortsL[k]?=some z→z.1≠x:=by
 intro k z hz e
 subst e
 match k,hz with
 | 0,hz=>obtain rfl:=Option.some.inj hz;exact absurd h (by decide)
 | 1,hz=>obtain rfl:=Option.some.inj hz;exact absurd h (by decide)
 | 2,hz=>obtain rfl:=Option.some.inj hz;exact absurd h (by decide)
 | 3,hz=>obtain rfl:=Option.some.inj hz;exact absurd h (by decide)
 | 4,hz=>obtain rfl:=Option.some.inj hz;exact absurd h (by decide)
 | k+5,hz=>simp at hz
theorem shO_of {k:Nat} {z:Int×Int} (hz:shortsL[k]?=some z):shO z.1=some z.2:=by
 match k,hz with
 | 0,hz=>obtain rfl:=Option.some.inj hz;rfl
 | 1,hz=>obtain rfl:=Option.some.inj hz;rfl
 | 2,hz=>obtain rfl:=Option.some.inj hz;rfl
 | 3,hz=>obtain rfl:=Option.some.inj hz;rfl
 | 4,hz=>obtain rfl:=Option.some.inj hz;rfl
 | k+5,hz=>simp at hz
def escR (w:World) (m:Nat) (b:List UInt8) (e:Ending) (w':World):Prop:=∃ v,e=.returned (.tuple #[v,.int .i64 (m:Int)])∧w'.ownsRow w.heap.size 5 1 v b.length (Lib.byteCells b)∧Below w.heap.size w w'
set_option maxRecDepth 100000 in
set_option maxHeartbeats 1000000 in
theorem esc_short (ad:Addr) (n cap:Nat) (r:Int) (w:World) (hn:2≤n) (hn2:n≤16385) (h1:w.cell? (ad.add 2)=some (.int .i32 r)) (g1:r≠120) (g2:r≠117) (hsh:SH w) :
  Calls Tryz.prog 143 #[.slice (some ad) n cap] w fun e w'=>escR w (if shO r=none then 0 else 2) ((shO r).elim [] (fun y=>[UInt8.ofNat y.toNat])) e w':=by
 have h1':w.cell? ⟨ad.block,ad.off+2,none⟩=some (.int .i32 r):=by simpa [Addr.add] using h1
 have c0:w.cell? ⟨4,0,none⟩=some (.int .i32 34):=hsh.cell 0
 have c1:w.cell? ⟨4,1,none⟩=some (.int .i32 34):=hsh.cell 1
 have c2:w.cell? ⟨4,2,none⟩=some (.int .i32 92):=hsh.cell 2
 have c3:w.cell? ⟨4,3,none⟩=some (.int .i32 92):=hsh.cell 3
 have c4:w.cell? ⟨4,4,none⟩=some (.int .i32 110):=hsh.cell 4
 have c5:w.cell? ⟨4,5,none⟩=some (.int .i32 10):=hsh.cell 5
 have c6:w.cell? ⟨4,6,none⟩=some (.int .i32 114):=hsh.cell 6
 have c7:w.cell? ⟨4,7,none⟩=some (.int .i32 13):=hsh.cell 7
 have c8:w.cell? ⟨4,8,none⟩=some (.int .i32 116):=hsh.cell 8
 have c9:w.cell? ⟨4,9,none⟩=some (.int .i32 9):=hsh.cell 9
 have hix:=fun k z h W=>idx_short k z h W
 have e1:(r==120)=false:=beq_eq_false_iff_ne.2 g1
 have e2:(r==117)=false:=beq_eq_false_iff_ne.2 g2
 have i1:(1:Int) < (n:Int):=by omega
 clear hsh
 obtain ⟨M,hM0⟩:∃ M,(if shO r=none then 0 else 2)=M:=⟨_,rfl⟩
 obtain ⟨B,hB0⟩:∃ B,((shO r).elim [] (fun y=>[UInt8.ofNat y.toNat]))=B:=⟨_,rfl⟩
 rw [hM0,hB0]
 have hM:Hid ((if shO r=none then 0 else 2)=M):=hM0
 have hBB:Hid (((shO r).elim [] (fun y=>[UInt8.ofNat y.toNat]))=B):=hB0
 clear hM0 hB0
 go_enter Tryz.func143,Tryz.ntmps143
 go_wp2_with fail
 go_loopw [17] (fun vk wr=>∃ k:Nat,vk=.int .i64 k∧k≤5∧(∀ (j:Nat) (z:Int×Int),j < k→shortsL[j]?=some z→z.1≠r)∧Below w.heap.size w wr) (fun vk _=>5 - (intOf vk).toNat)
 case atStart=>exact ⟨0,rfl,by omega,fun j z hj=>by omega,Below.refl _ _⟩
 case round=>
  clear c0 c1 c2 c3 c4 c5 c6 c7 c8 c9 h1 h1'
  obtain ⟨k,rfl,hk,hno,hB⟩:=hrel
  by_cases hk5:k < 5
  ·have hk5':(k:Int) < 5:=by omega
   obtain ⟨z,hz⟩:∃ z,shortsL[k]?=some z:=⟨_,List.getElem?_eq_getElem hk5⟩
   have hx:=fun W=>hix k z hz W
   obtain ⟨z1,z2⟩:=z
   simp only at hx
   have HN:Hid (∀ (j:Nat) (z:Int×Int),j < k→shortsL[j]?=some z→z.1≠r):=hno
   have HZ:Hid (shortsL[k]?=some (z1,z2)):=hz
   clear hix hno hz
   by_cases hzr:z1=r
   ·subst hzr
    have ho:=shO_of HZ.out
    have hq:=shO_some ho
    have hm:M=2:=by rw [←hM.out,ho];rfl
    have hb:B=[UInt8.ofNat z2.toNat]:=by rw [←hBB.out,ho];rfl
    subst hm hb
    clear hM hBB HN HZ
    have hsz:=hB.size
    go_wp2_with fail
    go_ret2
    refine ⟨_,rfl,?_,(hB.alloc hsz _).alloc (by simp;omega) _⟩
    have:=World.ownsRow_lit (base:=w.heap.size) (e:=5) (size:=1) (wr.alloc (Obj.cells #[Value.int IntKind.i32 z1,Value.int IntKind.i32 z2] 199)) #[Value.int .u8 z2] 1 (by simp;omega) (by unfold maxLen;omega) rfl
    have e:[Value.int .u8 z2]=Lib.byteCells [UInt8.ofNat z2.toNat]:=congrArg (fun x=>[x]) (hv8 _ _ (by omega) (by omega))
    rw [←e]
    simpa using this
   ·have hzr':(z1==r)=false:=beq_eq_false_iff_ne.2 hzr
    have hsz:=hB.size
    have HN2:Hid (∀ (j:Nat) (z:Int×Int),j < k+1→shortsL[j]?=some z→z.1≠r):=fun j z hj hz=>by
     by_cases h:j=k
     ·subst h
      rw [HZ.out] at hz
      rw [←Option.some.inj hz]
      exact hzr
     ·exact HN.out j z (by omega) hz
    clear HN HZ
    go_wp2_with fail
    go_roundw
    case rel=>exact ⟨k+1,by go_num,by omega,HN2.out,hB.alloc hsz _⟩
    case measure=>simp [intOf];omega
  ·have hk5':¬(k:Int) < 5:=by omega
   have ho:shO r=none:=by
    cases h:shO r with
    | none=>rfl
    | some y=>
     refine absurd h ?_
     have hn0:=hno 0 _ (by omega) rfl
     have hn1:=hno 1 _ (by omega) rfl
     have hn2:=hno 2 _ (by omega) rfl
     have hn3:=hno 3 _ (by omega) rfl
     have hn4:=hno 4 _ (by omega) rfl
     simp only at hn0 hn1 hn2 hn3 hn4
     unfold shO
     rw [if_neg (fun e=>hn0 e.symm),if_neg (fun e=>hn1 e.symm),if_neg (fun e=>hn2 e.symm),if_neg (fun e=>hn3 e.symm),if_neg (fun e=>hn4 e.symm)]
     intro h
     cases h
   have hm:M=0:=by rw [←hM.out,ho];rfl
   have hb:B=[]:=by rw [←hBB.out,ho];rfl
   subst hm hb
   clear hix hM hBB ho hno
   go_wp2_with fail
   go_ret2
   exact ⟨_,rfl,World.ownsRow_nil _ _ _ _,hB⟩
end Go.Proofs.YtciffggmobblpaaGreatDoor
namespace Go.Proofs.YtciffggmobblpaaGreatDoor
open Go.RowKit Go.Shelf
theorem hex2 (l:List UInt8) (i:Nat):(i+3 < l.length∧∃ a b,hexD (l.getD (i+2) 0)=some a∧hexD (l.getD (i+3) 0)=some b∧hexRun 2 (l.drop (i+2)) 0=(2,16*a+b))∨((hexRun 2 (l.drop (i+2)) 0).1≠2∧(i+3 < l.length→hexD (l.getD (i+2) 0)=none∨hexD (l.getD (i+3) 0)=none)):=by
 by_cases h2:i+2 < l.length
 ·rw [getD_drop h2,hexRun]
  cases h:hexD (l.getD (i+2) 0) with
  | none=>exact .inr ⟨(by decide:(0:Nat)≠2),fun _=>.inl rfl⟩
  | some a=>
   by_cases h3:i+3 < l.length
   ·rw [getD_drop h3]
    cases hb:hexD (l.getD (i+3) 0) with
    | none=>
     refine .inr ⟨?_,fun _=>.inr rfl⟩
     show (hexRun 1 (l.getD (i+3) 0 :: l.drop (i+3+1)) (16*0+a)).1+1≠2
     rw [hexRun,hb]
     exact (by decide:(0:Nat)+1≠2)
    | some b=>
     refine .inl ⟨h3,a,b,rfl,rfl,?_⟩
     show ((hexRun 1 (l.getD (i+3) 0 :: l.drop (i+3+1)) (16*0+a)).1+1,(hexRun 1 (l.getD (i+3) 0 :: l.drop (i+3+1)) (16*0+a)).2)=_
     rw [hexRun,hb]
     show ((0:Nat)+1+1,16*(16*0+a)+b)=_
     simp
   ·rw [List.drop_eq_nil_of_le (by omega)]
    refine .inr ⟨?_,fun h=>absurd h h3⟩
    show (hexRun 1 [] _).1+1≠2
    rw [hexRun]
    exact (by decide:(0:Nat)+1≠2)
 ·rw [List.drop_eq_nil_of_le (by omega),hexRun]
  exact .inr ⟨by decide,fun h=>by omega⟩
theorem hexRun_lt (f:Nat):∀ (r:List UInt8) (n:Nat),(hexRun f r n).2 < (n+1)*16 ^ f:=by
 induction f with
 | zero=>intro r n;rw [hexRun];simp
 | succ f ih=>
  intro r n
  have h0:n < (n+1)*16 ^ (f+1):=by
   have:1≤16 ^ (f+1):=Nat.pos_of_ne_zero (by simp)
   have:=Nat.mul_le_mul_left (n+1) this
   omega
  cases r with
  | nil=>rw [hexRun];exact h0
  | cons c r=>
   rw [hexRun]
   cases hc:hexD c with
   | none=>exact h0
   | some d=>
    have hd:=hexD_lt hc
    have:=ih r (16*n+d)
    show (hexRun f r (16*n+d)).2 < _
    refine Nat.lt_of_lt_of_le this ?_
    rw [Nat.pow_succ,Nat.mul_comm (16 ^ f) 16,←Nat.mul_assoc]
    exact Nat.mul_le_mul_right _ (by omega)
end Go.Proofs.YtciffggmobblpaaGreatDoor
namespace Go.Proofs.YtciffggmobblpaaGreatDoor
open Go.RowKit Go.Shelf
set_option maxRecDepth 100000 in
set_option maxHeartbeats 1000000 in
theorem esc_x (l:List UInt8) (i:Nat) (ad:Addr) (cap:Nat) (w:World) (hs:l.length≤16384) (hi:i+1 < l.length) (b0:bt l i=92) (b1:bt l (i+1)=120) (hcap0:(chars l i).length≤cap) (hC0:CH w ad (chars l i)) :
  Calls Tryz.prog 143 #[.slice (some ad) (chars l i).length cap] w fun e w'=>escR w (escS l i).1 (escS l i).2 e w':=by
 have hc0:chars l i=(92,i) :: (120,i+1) :: chars l (i+2):=by
  rw [chars_asc (by omega) (by omega),b0,chars_asc hi (by omega),b1];rfl
 have hC2:=hC0.drop 2
 have hr:=chars_range l _ (i+2) (Nat.le_refl _)
 have he:=chars_no l _ (i+2) (Nat.le_refl _)
 have h1:=(hC0 1 (120,i+1) (by rw [hc0];rfl)).1
 rw [hc0] at hC2
 simp only [List.drop_succ_cons,List.drop_zero] at hC2
 have h1':w.cell? ⟨ad.block,ad.off+2,none⟩=some (.int .i32 120):=by simpa [Addr.add] using h1
 have hlen:(chars l i).length=(chars l (i+2)).length+2:=by rw [hc0];rfl
 have hpos:0 < (chars l (i+2)).length:=by
  obtain ⟨r,hr⟩:=chars_head l (i+2)
  rw [hr];simp
 have hlm:=chars_len l _ (i+2) (Nat.le_refl _)
 have HX:=fun W=>hexAt_any (chars l (i+2)) (ad.add 4) (cap - 2) 2 W (by decide)
 have hadd:ad.add 4=⟨ad.block,ad.off+4,none⟩:=by simp [Addr.add]
 have HX2:=HX w hC2 hr he
 rw [hexC_chars,hadd] at HX2
 rw [hlen]
 rw [hlen] at hcap0
 obtain ⟨m,hm⟩:∃ m,(chars l (i+2)).length=m:=⟨_,rfl⟩
 rw [hm] at HX2 hcap0 hpos hlm ⊢
 have e0:IntKind.i64.wrap ((m:Int)+2)=(m:Int)+2:=by rw [IntKind.wrap_i64];omega
 clear HX hr he h1 hm hlen hC2 hc0 hadd
 rcases hex2 l i with ⟨h3,a,b,ha,hb,hq⟩ | ⟨hq,hno⟩
 ·rw [hq] at HX2
  have hr:Hid (escS l i=(4,[UInt8.ofNat (16*a+b)])):=by
   unfold Hid escS
   rw [if_neg (by omega),if_neg (by omega),if_neg (by omega),if_neg (by omega),if_neg (by omega),if_neg (by omega),if_pos b1,if_pos h3,ha,hb]
  have la:=hexD_lt ha
  have lb:=hexD_lt hb
  clear ha hb hq
  rw [hr.out]
  have hmod:(((16*a+b:Nat):Int)) % 256=((16*a+b:Nat):Int):=by omega
  obtain ⟨V,hV⟩:∃ V,16*a+b=V:=⟨_,rfl⟩
  rw [hV] at hmod HX2 ⊢
  have hV2:V < 256:=by omega
  clear hr la lb hV
  go_enter Tryz.func143,Tryz.ntmps143
  go_wp2_with fail
  refine HX2.mono ?_
  rintro e w2 ⟨rfl,rfl⟩
  go_wp2_with fail
  go_ret2
  refine ⟨_,rfl,?_,(Below.refl _ _).alloc (Nat.le_refl _) _⟩
  have:=World.ownsRow_lit (base:=w2.heap.size) (e:=5) (size:=1) w2 #[Value.int .u8 ((V:Nat):Int)] 1 (Nat.le_refl _) (by unfold maxLen;omega) rfl
  have e:[Value.int .u8 ((V:Nat):Int)]=Lib.byteCells [UInt8.ofNat V]:=congrArg (fun x=>[x]) (hv8 _ _ hV2 rfl)
  rw [←e]
  simpa using this
 ·have hr:Hid (escS l i=(0,[])):=by
   unfold Hid escS
   rw [if_neg (by omega),if_neg (by omega),if_neg (by omega),if_neg (by omega),if_neg (by omega),if_neg (by omega),if_pos b1]
   by_cases h3:i+3 < l.length
   ·rw [if_pos h3]
    rcases hno h3 with h | h
    ·rw [h]
    ·rw [h]
     cases hexD (l.getD (i+2) 0) <;> rfl
   ·rw [if_neg h3]
  rw [hr.out]
  obtain ⟨V,hV⟩:∃ V,hexRun 2 (l.drop (i+2)) 0=V:=⟨_,rfl⟩
  rw [hV] at hq HX2
  obtain ⟨k,v⟩:=V
  have kq:((k:Int)==2)=false:=by rw [beq_eq_false_iff_ne];simp only at hq;omega
  clear hno hq hV hr
  go_enter Tryz.func143,Tryz.ntmps143
  go_wp2_with fail
  refine HX2.mono ?_
  rintro e w2 ⟨rfl,rfl⟩
  go_wp2_with fail
  go_ret2
  exact ⟨_,rfl,World.ownsRow_nil _ _ _ _,Below.refl _ _⟩
end Go.Proofs.YtciffggmobblpaaGreatDoor
