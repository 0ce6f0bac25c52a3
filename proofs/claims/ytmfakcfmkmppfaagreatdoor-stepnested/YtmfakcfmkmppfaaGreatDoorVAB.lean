import Derived.Test.YtmfakcfmkmppfaaGreatDoorVAA
import Derived.Lib.TrimUEq
import Derived.Lib.LaidTab
import Derived.ChangeSame
import Derived.Laws.Rows
import Derived.Shelf.Utf8.AppendRunePlain
import Derived.Laws.OwnMore
import Derived.Scope
import Derived.WalkMore
namespace Go.Proofs.YtmfakcfmkmppfaaGreatDoor
open Go.RowKit
theorem zfp {l:List UInt8} {i:Nat} (h:bt l i < 128):dc l i=(bt l i,1):=by
 unfold dc Lib.decodeN;rw [if_pos h]
theorem zm1 {l:List UInt8} {i:Nat} (h:¬bt l i < 128):128<=(dc l i).1/\(dc l i).1<=1114111:=by
 unfold dc;have:=zg3 l i;have:=zg3 l (i+1);have:=zg3 l (i+2);have:=zg3 l (i+3);rcases Lib.decodeN_shape (l.length - i) (bt l i) (bt l (i+1)) (bt l (i+2)) (bt l (i+3)) with ⟨a1,e⟩ | ⟨a1,a2,a3,a4,e⟩ | ⟨a1,a2,a3,a4,a5,a6,e⟩ | ⟨a1,a2,a3,a4,a5,a6,a7,e⟩ | e
 all_goals rw [e]
 all_goals simp only
 all_goals omega
theorem zlf {l:List UInt8} {i:Nat} (h:bt l i < 128):lo1 l i=false:=by
 unfold lo1;rw [zfp h];refine decide_eq_false (fun e=>?_);injection e with e1 _;omega
def chr (l:List UInt8) (i:Nat):Int:=if i < l.length then (if lo1 l i then -1 else ((dc l i).1:Int)) else -2
theorem zbp (l:List UInt8) (i:Nat):∃ r,zak l i=(chr l i,(if i < l.length then i else l.length)) :: r:=by
 unfold chr
 by_cases h:i < l.length
 ·rw [zcq h,if_pos h,if_pos h];exact ⟨_,rfl⟩
 ·rw [zco h,if_neg h,if_neg h];exact ⟨_,rfl⟩
theorem zbv {l:List UInt8} {i:Nat} (h:i < l.length) (hb:bt l i < 128):zak l i=((bt l i:Int),i) :: zak l (i+1):=by
 rw [zcq h,zlf hb,zfp hb];rfl
theorem zbs (l:List UInt8) (i k:Nat) (hk:k < 128):chr l i=(k:Int)↔i < l.length/\bt l i=k:=by
 unfold chr
 by_cases h:i < l.length
 ·rw [if_pos h]
  by_cases hb:bt l i < 128
  ·rw [zlf hb,zfp hb]
   simp only [Bool.false_eq_true,if_false];omega
  ·have:=zm1 hb
   split <;> omega
 ·rw [if_neg h]
  omega
theorem zg2 (l:List UInt8) (i:Nat):-2<=chr l i/\chr l i<=1114111:=by
 unfold chr
 split
 ·split
  ·omega
  ·by_cases hb:bt l i < 128
   ·rw [zfp hb];simp only;omega
   ·have:=zm1 hb;omega
 ·omega
theorem zms (l:List UInt8) (i:Nat) (h:i < l.length):(zbu (l.getD i 0)=none/\¬0<=zed (chr l i))∨∃ d:Nat,zbu (l.getD i 0)=some d/\zed (chr l i)=d/\bt l i < 128:=by
 have hc:bt l i=(l.getD i 0).toNat:=rfl
 by_cases hb:bt l i < 128
 ·have he:chr l i=(bt l i:Int):=(zbs l i (bt l i) hb).2 ⟨h,rfl⟩
  rw [he];unfold zbu zed;rw [<-hc]
  by_cases a1:48<=bt l i/\bt l i<=57
  ·exact .inr ⟨bt l i - 48,by rw [if_pos a1],by rw [if_pos (by omega)];omega,hb⟩
  ·by_cases a2:97<=bt l i/\bt l i<=102
   ·exact .inr ⟨bt l i - 87,by rw [if_neg a1,if_pos a2],by rw [if_neg (by omega),if_pos (by omega)];omega,hb⟩
   ·by_cases a3:65<=bt l i/\bt l i<=70
    ·exact .inr ⟨bt l i - 55,by rw [if_neg a1,if_neg a2,if_pos a3],by rw [if_neg (by omega),if_neg (by omega),if_pos (by omega)];omega,hb⟩
    ·exact .inl ⟨by rw [if_neg a1,if_neg a2,if_neg a3],by rw [if_neg (by omega),if_neg (by omega),if_neg (by omega)];omega⟩
 ·refine .inl ⟨?_,?_⟩
  ·unfold zbu
   rw [<-hc,if_neg (by omega),if_neg (by omega),if_neg (by omega)]
  ·have hr:chr l i=-1∨128<=chr l i:=by
    unfold chr;rw [if_pos h];have:=zm1 hb
    split
    ·exact .inl rfl
    ·exact .inr (by omega)
   unfold zed
   repeat' split
   all_goals omega
theorem zex {l:List UInt8} {i:Nat} (h:i < l.length):l.drop i=l.getD i 0 :: l.drop (i+1):=by
 rw [List.drop_eq_getElem_cons h];simp [List.getD,List.getElem?_eq_getElem h]
theorem zht (f:Nat):∀ (l:List UInt8) (i n:Nat),zgt f (zak l i) n=zan f (l.drop i) n:=by
 induction f with
 | zero=>intro l i n;rfl
 | succ f ih=>
  intro l i n
  by_cases h:i < l.length
  ·rw [zex h]
   rcases zms l i h with ⟨h1,h2⟩ | ⟨d,h1,h2,h3⟩
   ·obtain ⟨r,hr⟩:=zbp l i
    rw [hr,zgt,if_neg h2,zan,h1]
   ·rw [zbv h h3,zgt]
    have he:chr l i=(bt l i:Int):=(zbs l i (bt l i) h3).2 ⟨h,rfl⟩;rw [he] at h2;simp only [h2];rw [if_pos (by omega),zan,h1,show ((d:Int)).toNat=d from Int.toNat_natCast d,ih]
  ·rw [zco h,List.drop_eq_nil_of_le (by omega),zan,zgt,if_neg (show ¬0<=zed (-2) by decide)]
theorem take_own (l:List UInt8) (i:Nat) (h:i < l.length) (hlo:lo1 l i=false):Lib.runeCells ((dc l i).1:Int)=Lib.byteCells ((l.drop i).take (dc l i).2):=by
 have hd:Lib.decodeL (l.drop i)=dc l i:=by
  have:=Lib.decodeL_drop ⟨l.toArray⟩ i;rw [<-zgy]
  simpa using this
 have hn:l.drop i≠[]:=fun e=>by
  have:=congrArg List.length e;simp at this;omega
 have hne:¬(dc l i=(65533,1)):=of_decide_eq_false hlo;have he:=Lib.encode_decode (l.drop i) hn (by rw [hd];exact fun hh=>hne (Prod.ext hh.1 hh.2));rw [hd] at he;rw [<-Lib.byteCells_encodeRune,he]
theorem hv8 (a:Int) (b:Nat) (hb:b < 256) (e:a=(b:Int)):Value.int .u8 a=Value.int .u8 ((UInt8.ofNat b).toNat:Int):=by rw [ofN b hb,e]
theorem zo8 (n:Nat) (h:n<=1114111) (hs:¬(55296<=n/\n<=57343)):Lib.runeCells (n:Int)=Lib.byteCells (utfL n):=by
 unfold utfL Lib.runeCells Lib.byteCells
 by_cases h1:n < 128
 ·rw [if_pos h1,Lib.encodeRuneZ_one (by omega) (by omega)]
  exact congrArg (fun x=>[x]) (hv8 _ _ (by omega) rfl)
 ·rw [if_neg h1]
  by_cases h2:n < 2048
  ·rw [if_pos h2,Lib.encodeRuneZ_two (by omega) (by omega)]
   simp only [List.map];rw [hv8 (192+(n:Int) / 64) (192+n / 64) (by omega) (by omega),hv8 (128+(n:Int) % 64) (128+n % 64) (by omega) (by omega)]
  ·rw [if_neg h2]
   by_cases h3:n < 65536
   ·rw [if_pos h3,Lib.encodeRuneZ_three (by omega)]
    simp only [List.map];rw [hv8 (224+(n:Int) / 4096) (224+n / 4096) (by omega) (by omega),hv8 (128+(n:Int) / 64 % 64) (128+n / 64 % 64) (by omega) (by omega),hv8 (128+(n:Int) % 64) (128+n % 64) (by omega) (by omega)]
   ·rw [if_neg h3,Lib.encodeRuneZ_four (by omega) (by omega)]
    simp only [List.map];rw [hv8 (240+(n:Int) / 262144) (240+n / 262144) (by omega) (by omega),hv8 (128+(n:Int) / 4096 % 64) (128+n / 4096 % 64) (by omega) (by omega),hv8 (128+(n:Int) / 64 % 64) (128+n / 64 % 64) (by omega) (by omega),hv8 (128+(n:Int) % 64) (128+n % 64) (by omega) (by omega)]
theorem zsa (a:Addr) (i j:Nat):(a.add i).add j=a.add (i+j):=by simp [Addr.add];split <;> split <;> simp_all <;> omega
theorem CH.drop {W:World} {ad:Addr} {C:List (Int×Nat)} (h:CH W ad C) (k:Nat):CH W (ad.add (k*2)) (C.drop k):=fun j c hc=>by
 rw [List.getElem?_drop] at hc;have:=h (k+j) c hc;rw [zsa,zsa];rw [show k*2+j*2=(k+j)*2 by omega,show k*2+(j*2+1)=(k+j)*2+1 by omega];exact this
theorem ziz (l:List UInt8):∀ (m i:Nat),l.length - i<=m->∃ (k:Nat) (c:Int×Nat),(zak l i)[k]?=some c/\¬0<=zed c.1
 | m,i,hm=>by
  by_cases h:i < l.length
  ·have hp:=zb8 l i
   match m,hm with
   | 0,hm=>omega
   | m+1,hm=>
    obtain ⟨k,c,h1,h2⟩:=ziz l m (i+(dc l i).2) (by omega);exact ⟨k+1,c,by rw [zcq h];exact h1,h2⟩
  ·exact ⟨0,(-2,l.length),by rw [zco h];rfl,(by decide:¬0<=zed (-2))⟩
theorem zel (l:List UInt8):∀ (m i:Nat),l.length - i<=m->∀ c∈zak l i,-2<=c.1/\c.1<=1114111
 | m,i,hm=>by
  intro c hc
  by_cases h:i < l.length
  ·have hp:=zb8 l i
   match m,hm with
   | 0,hm=>omega
   | m+1,hm=>
    obtain ⟨r,hr⟩:=zbp l i;have hr2:=hr;rw [zcq h] at hr2;rw [hr] at hc;rcases List.mem_cons.1 hc with e | e
    ·rw [e];exact zg2 l i
    ·have:=(List.cons.inj hr2).2
     rw [<-this] at e;exact zel l m (i+(dc l i).2) (by omega) c e
  ·rw [zco h] at hc
   rw [List.mem_singleton.1 hc];exact (by decide:(-2:Int)<=-2/\(-2:Int)<=1114111)
theorem zcn (l:List UInt8):∀ (m i:Nat),l.length - i<=m->(zak l i).length<=m+1
 | m,i,hm=>by
  by_cases h:i < l.length
  ·have hp:=zb8 l i
   match m,hm with
   | 0,hm=>omega
   | m+1,hm=>
    rw [zcq h];have:=zcn l m (i+(dc l i).2) (by omega);simp only [List.length_cons];omega
  ·rw [zco h];simp
theorem zir (f:Nat):∀ (l:List UInt8) (i n:Nat),(zak l i).drop (zan f (l.drop i) n).1=zak l (i+(zan f (l.drop i) n).1):=by
 induction f with
 | zero=>intro l i n;rfl
 | succ f ih=>
  intro l i n
  by_cases h:i < l.length
  ·rw [zex h]
   rcases zms l i h with ⟨h1,h2⟩ | ⟨d,h1,h2,h3⟩
   ·rw [zan,h1];rfl
   ·rw [zan,h1]
    show (zak l i).drop ((zan f (l.drop (i+1)) (16*n+d)).1+1)=zak l (i+((zan f (l.drop (i+1)) (16*n+d)).1+1));rw [zbv h h3,List.drop_succ_cons,ih];exact congrArg (zak l) (by rw [Nat.add_assoc,Nat.add_comm 1])
  ·have hd:l.drop i=[]:=List.drop_eq_nil_of_le (by omega)
   rw [hd,zan];rfl
theorem zq9 (f:Nat):∀ (r:List UInt8) (n:Nat),(zan f r n).1<=r.length/\(zan f r n).1<=f:=by
 induction f with
 | zero=>intro r n;exact ⟨Nat.zero_le _,Nat.le_refl _⟩
 | succ f ih=>
  intro r n;cases r with
  | nil=>exact ⟨Nat.le_refl _,Nat.zero_le _⟩
  | cons c r=>
   rw [zan];cases zbu c with
   | none=>exact ⟨Nat.zero_le _,Nat.zero_le _⟩
   | some d=>
    have:=ih r (16*n+d);show (zan f r (16*n+d)).1+1<=(c :: r).length/\(zan f r (16*n+d)).1+1<=f+1;simp only [List.length_cons];omega
def zif {H:Type} (k:IntKind) (zs:List (Int×Int)):DataW H:=.agg (zs.map fun z=>.agg [.lit (.int k z.1),.lit (.int k z.2)])
def zc4 (k:IntKind) (zs:List (Int×Int)):List Value:=zs.flatMap fun z=>[.int k z.1,.int k z.2]
theorem zjp (k:IntKind) (zs:List (Int×Int)):∀ (i:Nat) (z:Int×Int),zs[i]?=some z->(zc4 k zs)[i*2]?=some (.int k z.1)/\(zc4 k zs)[i*2+1]?=some (.int k z.2):=by
 induction zs with
 | nil=>intro i z h;simp at h
 | cons y zs ih=>
  intro i z h;cases i with
  | zero=>
   simp at h;subst h;exact ⟨rfl,rfl⟩
  | succ i=>
   have:=ih i z (by simpa using h);rw [show (i+1)*2=i*2+1+1 by omega,show i*2+1+1+1=i*2+1+1+1 by omega];exact this
theorem zig (k:IntKind) (zs:List (Int×Int)):(zc4 k zs).length=zs.length*2:=by
 induction zs with
 | nil=>rfl
 | cons y zs ih=>
  show ([_,_]++zc4 k zs).length=_;simp [ih];omega
theorem zhf {H:Type} {enc:TypeId×Value->H} {P:Program} {w:World} {base:Nat} {sp:Nat->Bool} {held:Bool} {fuel:Nat} {t e i:TypeId} {n:Nat} {k:IntKind} {f0 f1:Field} {cs:List Value} {zs:List (Int×Int)} {p:List MemPlace}
  (ht:P.underlying t=some (.array n e)) (he:P.underlying e=some (.struct #[f0,f1])) (h0:f0.offset=0) (h1:f1.offset=1) (h2:f0.type=i) (h3:f1.type=i) (hi:P.underlying i=some (.int k)) (hci:P.cellsOf i=1) (hce:P.cellsOf e=2) (hct:P.cellsOf t=n*2)
  (h:DataW.trod enc P w base sp held fuel t cs=some (zif k zs,p)):cs=zc4 k zs:=by
 cases fuel with
 | zero=>simp [DataW.trod] at h
 | succ fuel=>
  simp only [DataW.trod,ht,hce,hct] at h
  split at h
  ·rename_i hl
   obtain ⟨xs,hm,hx⟩:=Option.map_eq_some_iff.1 h;have hxs:xs.map (·.1)=zs.map fun z=>(DataW.agg [.lit (.int k z.1),.lit (.int k z.2)]:DataW H):=by
    have:=congrArg Prod.fst hx
    simpa [zif] using this
   have hxl:xs.length=n:=by simpa using Lib.mapM_length hm
   have hzl:zs.length=n:=by
    have:=congrArg List.length hxs;simp at this;omega
   have key:∀ j z,zs[j]?=some z->cs[j*2]?=some (.int k z.1)/\cs[j*2+1]?=some (.int k z.2):=by
    intro j z hz;have hj:j < n:=by rw [<-hzl];exact (List.getElem?_eq_some_iff.1 hz).1
    obtain ⟨b,hb,hf⟩:=Lib.mapM_at hm j j (by simp [hj]);obtain ⟨y0,y1,m,hb2,hlen,g0,g1⟩:=ChangeShapes.trod_struct2 he hf;rw [h0,h2,hci] at g0;rw [h1,h3,hci] at g1;obtain ⟨z0,hc0,hy0,_⟩:=DataW.trod_int hi g0;obtain ⟨z1,hc1,hy1,_⟩:=DataW.trod_int hi g1;have e2:(xs.map (·.1))[j]?=some b.1:=by simp [hb]
    rw [hxs,List.getElem?_map,hz] at e2;rw [hb2] at e2;have e3:(DataW.agg [.lit (.int k z.1),.lit (.int k z.2)]:DataW H)=.agg [y0.1,y1.1]:=Option.some.inj e2;rw [hy0,hy1] at e3;have e4:z.1=z0/\z.2=z1:=by simpa using e3
    have c0:=congrArg (·[0]?) hc0;have c1:=congrArg (·[0]?) hc1;simp [List.getElem?_drop] at c0 c1;exact ⟨by rw [e4.1];exact c0,by rw [e4.2];exact c1⟩
   apply List.ext_getElem?;intro j
   by_cases hj:j < n*2
   ·obtain ⟨z,hz⟩:∃ z,zs[j / 2]?=some z:=⟨_,List.getElem?_eq_getElem (by omega)⟩
    obtain ⟨a0,a1⟩:=key _ z hz;obtain ⟨b0,b1⟩:=zjp k zs _ z hz;rcases Nat.mod_two_eq_zero_or_one j with hm2 | hm2
    ·rw [show j / 2*2=j by omega] at a0 b0
     rw [a0,b0]
    ·rw [show j / 2*2+1=j by omega] at a1 b1
     rw [a1,b1]
   ·rw [List.getElem?_eq_none (by omega),List.getElem?_eq_none (by rw [zig];omega)]
  ·cases h
def zm9 (P:Program) (w:World) (name:String) (k:IntKind) (zs:List (Int×Int)):Prop:=w.var? P name=some (zc4 k zs).toArray
theorem zhb {P:Program} {W:World} {name:String} {k:IntKind} {zs:List (Int×Int)} {rest:List (String×DataW Unit)} {g:Nat} {t e i:TypeId} {n:Nat} {f0 f1:Field}
  (hg:P.globalNamed name=some g) (hty:(P.globals[g]?).map (·.type)=some t) (ht:P.underlying t=some (.array n e)) (he:P.underlying e=some (.struct #[f0,f1])) (h0:f0.offset=0) (h1:f1.offset=1) (h2:f0.type=i) (h3:f1.type=i) (hi:P.underlying i=some (.int k)) (hci:P.cellsOf i=1) (hce:P.cellsOf e=2) (hct:P.cellsOf t=n*2)
  (h:laidMet P ((name,zif k zs) :: rest) W):zm9 P W name k zs:=by
 obtain ⟨ps,⟨g',t',cs,fuel,p,q,hg',ht',hvar,hd,_,_⟩,_⟩:=h;obtain rfl:=Option.some.inj (hg.symm.trans hg');obtain rfl:=Option.some.inj (hty.symm.trans ht');unfold zm9;rw [hvar,<-zhf ht he h0 h1 h2 h3 hi hci hce hct hd]
abbrev zda:List (Int×Int):=[(34,34),(92,92),(110,10),(114,13),(116,9)]
abbrev zia:Array Value:=#[.int .i32 34,.int .i32 34,.int .i32 92,.int .i32 92,.int .i32 110,.int .i32 10,.int .i32 114,.int .i32 13,.int .i32 116,.int .i32 9]
def SH (w:World):Prop:=∃ t fr,w.heap[4]?=some (.cells zia t fr)
theorem SH.below {w W:World} (h:SH w) (hb:Below w.heap.size w W):SH W:=by
 obtain ⟨t,fr,h⟩:=h;exact ⟨t,fr,(hb.block _ (zay h)).trans h⟩
def shO (x:Int):Option Int:=if x=34 then some 34 else if x=92 then some 92 else if x=110 then some 10 else if x=114 then some 13 else if x=116 then some 9 else none
set_option maxRecDepth 100000 in
theorem zq6 (k:Nat) (z:Int×Int) (h:zda[k]?=some z) (W:World):Sem.run Tryz.prog (Instr.index 235 (.agg zia) (.int .i64 (k:Int))) W=.ok (.agg #[.int .i32 z.1,.int .i32 z.2]) W:=by
 match k,h with
 | 0,h=>obtain rfl:=Option.some.inj h;rfl
 | 1,h=>obtain rfl:=Option.some.inj h;rfl
 | 2,h=>obtain rfl:=Option.some.inj h;rfl
 | 3,h=>obtain rfl:=Option.some.inj h;rfl
 | 4,h=>obtain rfl:=Option.some.inj h;rfl
 | k+5,h=>simp at h
theorem SH.cell {w:World} (h:SH w) (j:Nat):w.cell? ⟨4,j,none⟩=zia[j]?:=by
 obtain ⟨t,fr,h⟩:=h;exact cell_of_row w _ j _ _ _ h
end Go.Proofs.YtmfakcfmkmppfaaGreatDoor
namespace Go.Proofs
open Go.Shelf
def Tryz.l242_ren:Go.Shelf.Ren:=⟨fun | 242=>170 | 278=>175 | n=>n,fun | 37=>145 | 21=>21 | 51=>232 | 4=>4 | 5=>5 | 46=>214 | n=>n,fun | n=>n⟩
theorem Tryz.l242:Go.Proofs.Lays.n242 Tryz.prog Tryz.l242_ren:={
 mixed:=by kernel_rfl
 f242:=Tryz.func170.trans (congrArg some (by kernel_rfl))
 f278:=Tryz.func175.trans (congrArg some (by kernel_rfl))
 t4:=Tryz.underlying4
 a4:=Tryz.isAgg4
 z4:=Tryz.sizeOf4
 v4:=Tryz.zeroValue4
 t5:=Tryz.underlying5
 a5:=Tryz.isAgg5
 z5:=Tryz.sizeOf5
 v5:=Tryz.zeroValue5
 t21:=Tryz.underlying21
 a21:=Tryz.isAgg21
 z21:=Tryz.sizeOf21
 v21:=Tryz.zeroValue21
 t37:=Tryz.underlying145
 a37:=Tryz.isAgg145
 z37:=Tryz.sizeOf145
 v37:=Tryz.zeroValue145
 t46:=Tryz.underlying214
 a46:=Tryz.isAgg214
 z46:=Tryz.sizeOf214
 v46:=Tryz.zeroValue214
 t51:=Tryz.underlying232
 a51:=Tryz.isAgg232
 z51:=Tryz.sizeOf232
 v51:=Tryz.zeroValue232 }
end Go.Proofs
namespace Go.Proofs.YtmfakcfmkmppfaaGreatDoor
open Go.RowKit Go.Shelf
theorem shO_some {x y:Int} (h:shO x=some y):0<=y/\y < 256:=by
 unfold shO at h
 repeat' split at h
 all_goals first
  | (injection h with h;omega)
  | cases h
theorem shO_none {x:Int} (h:shO x=none):∀ (k:Nat) (z:Int×Int),zda[k]?=some z->z.1≠x:=by
 intro k z hz e;subst e
 match k,hz with
 | 0,hz=>obtain rfl:=Option.some.inj hz;exact absurd h (by decide)
 | 1,hz=>obtain rfl:=Option.some.inj hz;exact absurd h (by decide)
 | 2,hz=>obtain rfl:=Option.some.inj hz;exact absurd h (by decide)
 | 3,hz=>obtain rfl:=Option.some.inj hz;exact absurd h (by decide)
 | 4,hz=>obtain rfl:=Option.some.inj hz;exact absurd h (by decide)
 | k+5,hz=>simp at hz
theorem shO_of {k:Nat} {z:Int×Int} (hz:zda[k]?=some z):shO z.1=some z.2:=by
 match k,hz with
 | 0,hz=>obtain rfl:=Option.some.inj hz;rfl
 | 1,hz=>obtain rfl:=Option.some.inj hz;rfl
 | 2,hz=>obtain rfl:=Option.some.inj hz;rfl
 | 3,hz=>obtain rfl:=Option.some.inj hz;rfl
 | 4,hz=>obtain rfl:=Option.some.inj hz;rfl
 | k+5,hz=>simp at hz
def escR (w:World) (m:Nat) (b:List UInt8) (e:Ending) (w':World):Prop:=∃ v,e=.returned (.tuple #[v,.int .i64 (m:Int)])/\w'.ownsRow w.heap.size 5 1 v b.length (Lib.byteCells b)/\Below w.heap.size w w'
set_option maxRecDepth 100000 in
set_option maxHeartbeats 1000000 in
theorem zri (ad:Addr) (n cap:Nat) (r:Int) (w:World) (hn:2<=n) (hn2:n<=16385) (h1:w.cell? (ad.add 2)=some (.int .i32 r)) (g1:r≠120) (g2:r≠117) (hsh:SH w) :
  Calls Tryz.prog 171 #[.slice (some ad) n cap] w fun e w'=>escR w (if shO r=none then 0 else 2) ((shO r).elim [] (fun y=>[UInt8.ofNat y.toNat])) e w':=by
 have h1':w.cell? ⟨ad.block,ad.off+2,none⟩=some (.int .i32 r):=by simpa [Addr.add] using h1
 have c0:w.cell? ⟨4,0,none⟩=some (.int .i32 34):=hsh.cell 0;have c1:w.cell? ⟨4,1,none⟩=some (.int .i32 34):=hsh.cell 1;have c2:w.cell? ⟨4,2,none⟩=some (.int .i32 92):=hsh.cell 2;have c3:w.cell? ⟨4,3,none⟩=some (.int .i32 92):=hsh.cell 3;have c4:w.cell? ⟨4,4,none⟩=some (.int .i32 110):=hsh.cell 4;have c5:w.cell? ⟨4,5,none⟩=some (.int .i32 10):=hsh.cell 5;have c6:w.cell? ⟨4,6,none⟩=some (.int .i32 114):=hsh.cell 6;have c7:w.cell? ⟨4,7,none⟩=some (.int .i32 13):=hsh.cell 7;have c8:w.cell? ⟨4,8,none⟩=some (.int .i32 116):=hsh.cell 8;have c9:w.cell? ⟨4,9,none⟩=some (.int .i32 9):=hsh.cell 9;have hix:=fun k z h W=>zq6 k z h W;have e1:(r==120)=false:=beq_eq_false_iff_ne.2 g1;have e2:(r==117)=false:=beq_eq_false_iff_ne.2 g2;have i1:(1:Int) < (n:Int):=by omega
 clear hsh;obtain ⟨M,hM0⟩:=ex ((if shO r=none then 0 else 2))
 obtain ⟨B,hB0⟩:=ex (((shO r).elim [] (fun y=>[UInt8.ofNat y.toNat])));rw [hM0,hB0];have hM:Hid ((if shO r=none then 0 else 2)=M):=hM0
 have hBB:Hid (((shO r).elim [] (fun y=>[UInt8.ofNat y.toNat]))=B):=hB0;clear hM0 hB0
 go_enter Tryz.func171,Tryz.ntmps171
 go_wp2_with fail
 go_loopw [17] (fun vk wr=>∃ k:Nat,vk=.int .i64 k/\k<=5/\(∀ (j:Nat) (z:Int×Int),j < k->zda[j]?=some z->z.1≠r)/\Below w.heap.size w wr) (fun vk _=>5 - (intOf vk).toNat)
 case atStart=>exact ⟨0,rfl,by omega,fun j z hj=>by omega,Below.refl _ _⟩
 case round=>
  clear c0 c1 c2 c3 c4 c5 c6 c7 c8 c9 h1 h1';obtain ⟨k,rfl,hk,hno,hB⟩:=hrel
  by_cases hk5:k < 5
  ·have hk5':(k:Int) < 5:=by omega
   obtain ⟨z,hz⟩:∃ z,zda[k]?=some z:=⟨_,List.getElem?_eq_getElem hk5⟩;have hx:=fun W=>hix k z hz W;obtain ⟨z1,z2⟩:=z;simp only at hx;have HN:Hid (∀ (j:Nat) (z:Int×Int),j < k->zda[j]?=some z->z.1≠r):=hno;have HZ:Hid (zda[k]?=some (z1,z2)):=hz;clear hix hno hz
   by_cases hzr:z1=r
   ·subst hzr
    have ho:=shO_of HZ.out;have hq:=shO_some ho;have hm:M=2:=by rw [<-hM.out,ho];rfl
    have hb:B=[UInt8.ofNat z2.toNat]:=by rw [<-hBB.out,ho];rfl
    subst hm hb;clear hM hBB HN HZ;have hsz:=hB.size
    go_wp2_with fail
    go_ret2
    refine ⟨_,rfl,?_,(hB.alloc hsz _).alloc (by simp;omega) _⟩;have:=World.ownsRow_lit (base:=w.heap.size) (e:=5) (size:=1) (wr.alloc (Obj.cells #[Value.int IntKind.i32 z1,Value.int IntKind.i32 z2] 234)) #[Value.int .u8 z2] 1 (by simp;omega) (by unfold maxLen;omega) rfl;have e:[Value.int .u8 z2]=Lib.byteCells [UInt8.ofNat z2.toNat]:=congrArg (fun x=>[x]) (hv8 _ _ (by omega) (by omega));rw [<-e]
    simpa using this
   ·have hzr':(z1==r)=false:=beq_eq_false_iff_ne.2 hzr
    have hsz:=hB.size;have HN2:Hid (∀ (j:Nat) (z:Int×Int),j < k+1->zda[j]?=some z->z.1≠r):=fun j z hj hz=>by
     by_cases h:j=k
     ·subst h
      rw [HZ.out] at hz;rw [<-Option.some.inj hz];exact hzr
     ·exact HN.out j z (by omega) hz
    clear HN HZ
    go_wp2_with fail
    go_roundw
    case rel=>exact ⟨k+1,by go_num,by omega,HN2.out,hB.alloc hsz _⟩
    case measure=>simp [intOf];omega
  ·have hk5':¬(k:Int) < 5:=by omega
   have ho:shO r=none:=by
    cases h:shO r with
    | none=>rfl
    | some y=>
     refine absurd h ?_;have hn0:=hno 0 _ (by omega) rfl;have hn1:=hno 1 _ (by omega) rfl;have hn2:=hno 2 _ (by omega) rfl;have hn3:=hno 3 _ (by omega) rfl;have hn4:=hno 4 _ (by omega) rfl;simp only at hn0 hn1 hn2 hn3 hn4;unfold shO;rw [if_neg (fun e=>hn0 e.symm),if_neg (fun e=>hn1 e.symm),if_neg (fun e=>hn2 e.symm),if_neg (fun e=>hn3 e.symm),if_neg (fun e=>hn4 e.symm)];intro h;cases h
   have hm:M=0:=by rw [<-hM.out,ho];rfl
   have hb:B=[]:=by rw [<-hBB.out,ho];rfl
   subst hm hb;clear hix hM hBB ho hno
   go_wp2_with fail
   go_ret2
   exact ⟨_,rfl,World.ownsRow_nil _ _ _ _,hB⟩
theorem hex2 (l:List UInt8) (i:Nat):(i+3 < l.length/\∃ a b,zbu (l.getD (i+2) 0)=some a/\zbu (l.getD (i+3) 0)=some b/\zan 2 (l.drop (i+2)) 0=(2,16*a+b))∨((zan 2 (l.drop (i+2)) 0).1≠2/\(i+3 < l.length->zbu (l.getD (i+2) 0)=none∨zbu (l.getD (i+3) 0)=none)):=by
 by_cases h2:i+2 < l.length
 ·rw [zex h2,zan]
  cases h:zbu (l.getD (i+2) 0) with
  | none=>exact .inr ⟨(by decide:(0:Nat)≠2),fun _=>.inl rfl⟩
  | some a=>
   by_cases h3:i+3 < l.length
   ·rw [zex h3]
    cases hb:zbu (l.getD (i+3) 0) with
    | none=>
     refine .inr ⟨?_,fun _=>.inr rfl⟩;show (zan 1 (l.getD (i+3) 0 :: l.drop (i+3+1)) (16*0+a)).1+1≠2;rw [zan,hb];exact (by decide:(0:Nat)+1≠2)
    | some b=>
     refine .inl ⟨h3,a,b,rfl,rfl,?_⟩;show ((zan 1 (l.getD (i+3) 0 :: l.drop (i+3+1)) (16*0+a)).1+1,(zan 1 (l.getD (i+3) 0 :: l.drop (i+3+1)) (16*0+a)).2)=_;rw [zan,hb];show ((0:Nat)+1+1,16*(16*0+a)+b)=_;simp
   ·rw [List.drop_eq_nil_of_le (by omega)]
    refine .inr ⟨?_,fun h=>absurd h h3⟩;show (zan 1 [] _).1+1≠2;rw [zan];exact (by decide:(0:Nat)+1≠2)
 ·rw [List.drop_eq_nil_of_le (by omega),zan]
  exact .inr ⟨by decide,fun h=>by omega⟩
theorem zq8 (f:Nat):∀ (r:List UInt8) (n:Nat),(zan f r n).2 < (n+1)*16 ^ f:=by
 induction f with
 | zero=>intro r n;rw [zan];simp
 | succ f ih=>
  intro r n;have h0:n < (n+1)*16 ^ (f+1):=by
   have:1<=16 ^ (f+1):=Nat.pos_of_ne_zero (by simp);have:=Nat.mul_le_mul_left (n+1) this;omega
  cases r with
  | nil=>rw [zan];exact h0
  | cons c r=>
   rw [zan];cases hc:zbu c with
   | none=>exact h0
   | some d=>
    have hd:=zik hc;have:=ih r (16*n+d);show (zan f r (16*n+d)).2 < _;refine Nat.lt_of_lt_of_le this ?_;rw [Nat.pow_succ,Nat.mul_comm (16 ^ f) 16,<-Nat.mul_assoc];exact Nat.mul_le_mul_right _ (by omega)
set_option maxRecDepth 100000 in
set_option maxHeartbeats 1000000 in
theorem esc_x (l:List UInt8) (i:Nat) (ad:Addr) (cap:Nat) (w:World) (hs:l.length<=16384) (hi:i+1 < l.length) (b0:bt l i=92) (b1:bt l (i+1)=120) (hcap0:(zak l i).length<=cap) (hC0:CH w ad (zak l i)) :
  Calls Tryz.prog 171 #[.slice (some ad) (zak l i).length cap] w fun e w'=>escR w (zbj l i).1 (zbj l i).2 e w':=by
 have hc0:zak l i=(92,i) :: (120,i+1) :: zak l (i+2):=by
  rw [zbv (by omega) (by omega),b0,zbv hi (by omega),b1];rfl
 have hC2:=hC0.drop 2;have hr:=zel l _ (i+2) (Nat.le_refl _);have he:=ziz l _ (i+2) (Nat.le_refl _);have h1:=(hC0 1 (120,i+1) (by rw [hc0];rfl)).1;rw [hc0] at hC2;simp only [List.drop_succ_cons,List.drop_zero] at hC2;have h1':w.cell? ⟨ad.block,ad.off+2,none⟩=some (.int .i32 120):=by simpa [Addr.add] using h1
 have hlen:(zak l i).length=(zak l (i+2)).length+2:=by rw [hc0];rfl
 have hpos:0 < (zak l (i+2)).length:=by
  obtain ⟨r,hr⟩:=zbp l (i+2);rw [hr];simp
 have hlm:=zcn l _ (i+2) (Nat.le_refl _);have HX:=fun W=>zj2 (zak l (i+2)) (ad.add 4) (cap - 2) 2 W (by decide);have hadd:ad.add 4=⟨ad.block,ad.off+4,none⟩:=by simp [Addr.add]
 have HX2:=HX w hC2 hr he;rw [zht,hadd] at HX2;rw [hlen];rw [hlen] at hcap0;obtain ⟨m,hm⟩:=ex ((zak l (i+2)).length);rw [hm] at HX2 hcap0 hpos hlm ⊢;have e0:IntKind.i64.wrap ((m:Int)+2)=(m:Int)+2:=by rw [IntKind.wrap_i64];omega
 clear HX hr he h1 hm hlen hC2 hc0 hadd;rcases hex2 l i with ⟨h3,a,b,ha,hb,hq⟩ | ⟨hq,hno⟩
 ·rw [hq] at HX2
  have hr:Hid (zbj l i=(4,[UInt8.ofNat (16*a+b)])):=by
   unfold Hid zbj;rw [if_neg (by omega),if_neg (by omega),if_neg (by omega),if_neg (by omega),if_neg (by omega),if_neg (by omega),if_pos b1,if_pos h3,ha,hb]
  have la:=zik ha;have lb:=zik hb;clear ha hb hq;rw [hr.out];have hmod:(((16*a+b:Nat):Int)) % 256=((16*a+b:Nat):Int):=by omega
  obtain ⟨V,hV⟩:=ex (16*a+b);rw [hV] at hmod HX2 ⊢;have hV2:V < 256:=by omega
  clear hr la lb hV
  go_enter Tryz.func171,Tryz.ntmps171
  go_wp2_with fail
  refine HX2.mono ?_;rintro e w2 ⟨rfl,rfl⟩
  go_wp2_with fail
  go_ret2
  refine ⟨_,rfl,?_,(Below.refl _ _).alloc (Nat.le_refl _) _⟩;have:=World.ownsRow_lit (base:=w2.heap.size) (e:=5) (size:=1) w2 #[Value.int .u8 ((V:Nat):Int)] 1 (Nat.le_refl _) (by unfold maxLen;omega) rfl;have e:[Value.int .u8 ((V:Nat):Int)]=Lib.byteCells [UInt8.ofNat V]:=congrArg (fun x=>[x]) (hv8 _ _ hV2 rfl);rw [<-e]
  simpa using this
 ·have hr:Hid (zbj l i=(0,[])):=by
   unfold Hid zbj;rw [if_neg (by omega),if_neg (by omega),if_neg (by omega),if_neg (by omega),if_neg (by omega),if_neg (by omega),if_pos b1]
   by_cases h3:i+3 < l.length
   ·rw [if_pos h3]
    rcases hno h3 with h | h
    ·rw [h]
    ·rw [h]
     cases zbu (l.getD (i+2) 0) <;> rfl
   ·rw [if_neg h3]
  rw [hr.out];obtain ⟨V,hV⟩:=ex (zan 2 (l.drop (i+2)) 0);rw [hV] at hq HX2;obtain ⟨k,v⟩:=V;have kq:((k:Int)==2)=false:=by rw [beq_eq_false_iff_ne];simp only at hq;omega
  clear hno hq hV hr
  go_enter Tryz.func171,Tryz.ntmps171
  go_wp2_with fail
  refine HX2.mono ?_;rintro e w2 ⟨rfl,rfl⟩
  go_wp2_with fail
  go_ret2
  exact ⟨_,rfl,World.ownsRow_nil _ _ _ _,Below.refl _ _⟩
theorem zgs:(Tryz.prog.info? 5).map (fun i=>(i.zero,i.size,i.bytes))=some (some (.int .u8 0),1,1):=by kernel_rfl
theorem zee (B:Nat) (v:Value) (n:Nat) (xs:List Value) (r:Int) (w:World) (hr0:-2147483648<=r) (hr1:r<=2147483647) (hown:w.ownsRow B 5 1 v n xs) (hlen:n+4<=140737488355328) (hBw:B<=w.heap.size) :
  Calls Tryz.prog 170 #[v,.int .i32 r] w fun e w'=>∃ v',e=.returned v'/\w'.ownsRow B 5 1 v' (n+(Lib.runeCells r).length) (xs++Lib.runeCells r)/\Below B w w':=by
 refine (Any.utf8_AppendRune_plain Tryz.l242 zgs B v n xs r hr0 hr1 w hown hlen hBw).mono ?_;rintro e w' ⟨v',rfl,ho,o,hg⟩;exact ⟨v',rfl,ho,((Below.refl _ _).alloc hBw _).grown hg (by simp;omega) (fun k e=>(hown.lt k e).1)⟩
theorem zh4 (r:Int) (w:World):Calls Tryz.prog 164 #[.int .i32 r] w fun e w'=>e=.returned (.bool (Lib.validRune r))/\w'=w:=Any.utf8_ValidRune Tryz.l119 r w
set_option maxRecDepth 100000 in
set_option maxHeartbeats 1000000 in
theorem esc_u (l:List UInt8) (i:Nat) (ad:Addr) (cap:Nat) (w:World) (_hs:l.length<=16384) (hi:i+1 < l.length) (b0:bt l i=92) (b1:bt l (i+1)=117) (hcap0:(zak l i).length<=cap) (hC0:CH w ad (zak l i)) :
  Calls Tryz.prog 171 #[.slice (some ad) (zak l i).length cap] w fun e w'=>escR w (zbj l i).1 (zbj l i).2 e w':=by
 have hc0:zak l i=(92,i) :: (117,i+1) :: zak l (i+2):=by
  rw [zbv (by omega) (by omega),b0,zbv hi (by omega),b1];rfl
 have hE:zbj l i=if 0 < (brS l i).1 then ((brS l i).1,utfL (brS l i).2) else (0,[]):=by
  unfold zbj;rw [if_neg (by omega),if_neg (by omega),if_neg (by omega),if_neg (by omega),if_neg (by omega),if_neg (by omega),if_neg (by omega),if_pos b1]
 have h1:=(hC0 1 (117,i+1) (by rw [hc0];rfl)).1;have h1':w.cell? ⟨ad.block,ad.off+2,none⟩=some (.int .i32 117):=by simpa [Addr.add] using h1
 obtain ⟨r2,hr2⟩:=zbp l (i+2);have h2:=(hC0 2 _ (by rw [hc0,hr2];rfl)).1;have h2':w.cell? ⟨ad.block,ad.off+4,none⟩=some (.int .i32 (chr l (i+2))):=by simpa [Addr.add] using h2
 have hlm:=zcn l _ i (Nat.le_refl _)
 by_cases g2:i+2 < l.length/\bt l (i+2)=123
 ·obtain ⟨g2a,g2b⟩:=g2
  have hc3:zak l (i+2)=(123,i+2) :: zak l (i+3):=by rw [zbv g2a (by omega),g2b];rfl
  have e2:chr l (i+2)=123:=(zbs l (i+2) 123 (by decide)).2 ⟨g2a,g2b⟩;rw [e2] at h2';have hc03:zak l i=(92,i) :: (117,i+1) :: (123,i+2) :: zak l (i+3):=by rw [hc0,hc3]
  have hC3:=hC0.drop 3;rw [hc03] at hC3;simp only [List.drop_succ_cons,List.drop_zero] at hC3;have hadd:ad.add (3*2)=⟨ad.block,ad.off+6,none⟩:=by simp [Addr.add]
  rw [hadd] at hC3;have HX:=zj2 (zak l (i+3)) ⟨ad.block,ad.off+6,none⟩ (cap - 3) 6 w (by decide) hC3 (zel l _ (i+3) (Nat.le_refl _)) (ziz l _ (i+3) (Nat.le_refl _));rw [zht] at HX;have hlen:(zak l i).length=(zak l (i+3)).length+3:=by rw [hc03];rfl
  have hbr:brS l i=if (zan 6 (l.drop (i+3)) 0).1=0∨l.length<=i+3+(zan 6 (l.drop (i+3)) 0).1∨bt l (i+3+(zan 6 (l.drop (i+3)) 0).1)≠125∨1114111 < (zan 6 (l.drop (i+3)) 0).2∨(55296<=(zan 6 (l.drop (i+3)) 0).2/\(zan 6 (l.drop (i+3)) 0).2<=57343) then (0,0) else (4+(zan 6 (l.drop (i+3)) 0).1,(zan 6 (l.drop (i+3)) 0).2):=by
   unfold brS;rw [if_neg (by omega)]
  have hdr:=zir 6 l (i+3) 0;have hk6:=(zq9 6 (l.drop (i+3)) 0).2;have hv6:=zq8 6 (l.drop (i+3)) 0;obtain ⟨k,hk⟩:=ex ((zan 6 (l.drop (i+3)) 0).1);obtain ⟨v,hv⟩:=ex ((zan 6 (l.drop (i+3)) 0).2);rw [hk,hv] at hbr HX;rw [hk] at hdr hk6;rw [hv] at hv6;clear hk hv;obtain ⟨rk,hrk⟩:=zbp l (i+3+k);have hget:(zak l i)[3+k]?=some (chr l (i+3+k),(if i+3+k < l.length then i+3+k else l.length)):=by
   have:(zak l (i+3))[k]?=some (chr l (i+3+k),(if i+3+k < l.length then i+3+k else l.length)):=by
    have h0:=congrArg (·[0]?) hdr
    simpa [hrk,List.getElem?_drop] using h0
   rw [hc03,show 3+k=k+1+1+1 by omega];exact this
  have hx:=(hC0 _ _ hget).1;have hkn:3+k < (zak l i).length:=(List.getElem?_eq_some_iff.1 hget).1;simp only at hx;have hca:=zbs l (i+3+k) 125 (by decide);rw [hlen] at hkn hcap0 hlm ⊢;obtain ⟨m,hm⟩:=ex ((zak l (i+3)).length);rw [hm] at HX hkn hcap0 hlm ⊢;have j0:(3:Int)+(k:Int) < (m:Int)+3:=by omega
  have j1:(0:Int)<=(3:Int)+(k:Int):=by omega
  clear hc0 hc3 hc03 hdr hrk hget hlen hm hC3 hC0 hr2 h1 h2 e2 hadd
  by_cases k0:k=0
  ·subst k0
   have hr:Hid (zbj l i=(0,[])):=by rw [if_pos (.inl rfl)] at hbr;rw [hbr] at hE;exact hE
   rw [hr.out];clear hbr hE hr hx hca
   go_enter Tryz.func171,Tryz.ntmps171
   go_wp2_with fail
   refine HX.mono ?_;rintro e w2 ⟨rfl,rfl⟩
   go_wp2_with fail
   go_ret2
   exact ⟨_,rfl,World.ownsRow_nil _ _ _ _,Below.refl _ _⟩
  ·have k0':(0:Int) < (k:Int):=by omega
   by_cases h125:i+3+k < l.length/\bt l (i+3+k)=125
   ·rw [hca.2 h125] at hx
    have HV:=fun W=>zh4 (v:Int) W
    by_cases hok:v<=1114111/\¬(55296<=v/\v<=57343)
    ·have hr:Hid (zbj l i=(4+k,utfL v)):=by
      rw [if_neg (by omega)] at hbr;rw [hbr] at hE;rw [if_pos (by simp only;omega)] at hE;exact hE
     rw [hr.out];have hvr:Lib.validRune (v:Int)=true:=decide_eq_true (by omega);rw [hvr] at HV;have hz:=zo8 v hok.1 hok.2;have hul:(utfL v).length=(Lib.runeCells (v:Int)).length:=by rw [hz,Lib.byteCells_length]
     have e4:IntKind.i64.wrap ((k:Int)+4)=(k:Int)+4:=by rw [IntKind.wrap_i64];omega
     have h4:(k:Int)+4=((4+k:Nat):Int):=by omega
     have HR:=fun W:World=>zee W.heap.size (.slice none 0 0) 0 [] (v:Int) W (by omega) (by omega) (World.ownsRow_nil _ _ _ _) (by omega) (Nat.le_refl _);have HH4:Hid ((k:Int)+4=((4+k:Nat):Int)):=h4;clear hbr hE hr hca hvr h4
     go_enter Tryz.func171,Tryz.ntmps171
     go_wp2_with fail
     refine HX.mono ?_;rintro e w2 ⟨rfl,rfl⟩
     go_wp2_with fail
     refine (HV _).mono ?_;rintro e w3 ⟨rfl,rfl⟩
     go_wp2_with fail
     refine (HR _).mono ?_;rintro e w4 ⟨v4,rfl,ho4,hb4⟩
     go_wp2_with fail
     go_ret2
     refine ⟨v4,by rw [<-HH4.out];rfl,?_,hb4⟩;rw [hul,<-hz]
     simpa using ho4
    ·have hr:Hid (zbj l i=(0,[])):=by
      rw [if_pos (by omega)] at hbr;rw [hbr] at hE;exact hE
     rw [hr.out];have hvr:Lib.validRune (v:Int)=false:=decide_eq_false (by omega);rw [hvr] at HV;clear hbr hE hr hca hvr
     go_enter Tryz.func171,Tryz.ntmps171
     go_wp2_with fail
     refine HX.mono ?_;rintro e w2 ⟨rfl,rfl⟩
     go_wp2_with fail
     refine (HV _).mono ?_;rintro e w3 ⟨rfl,rfl⟩
     go_wp2_with fail
     go_ret2
     exact ⟨_,rfl,World.ownsRow_nil _ _ _ _,Below.refl _ _⟩
   ·have hr:Hid (zbj l i=(0,[])):=by
     rw [if_pos (by omega)] at hbr;rw [hbr] at hE;exact hE
    rw [hr.out];have hx1:chr l (i+3+k)≠125:=fun e=>h125 (hca.1 e);obtain ⟨R,hR⟩:=ex (chr l (i+3+k));rw [hR] at hx hx1;have hx2:(R==125)=false:=beq_eq_false_iff_ne.2 hx1;clear hbr hE hr hca hR hx1
    go_enter Tryz.func171,Tryz.ntmps171
    go_wp2_with fail
    refine HX.mono ?_;rintro e w2 ⟨rfl,rfl⟩
    go_wp2_with fail
    go_ret2
    exact ⟨_,rfl,World.ownsRow_nil _ _ _ _,Below.refl _ _⟩
 ·have hr:Hid (zbj l i=(0,[])):=by
   have hbr:brS l i=(0,0):=by unfold brS;rw [if_pos (by omega)]
   rw [hbr] at hE;exact hE
  rw [hr.out];have hx1:chr l (i+2)≠123:=fun e=>g2 ((zbs l (i+2) 123 (by decide)).1 e);obtain ⟨R,hR⟩:=ex (chr l (i+2));rw [hR] at h2' hx1;have hx2:(R==123)=false:=beq_eq_false_iff_ne.2 hx1;have hx3:(R != 123)=true:=by rw [bne,hx2];rfl
  have hlen:3<=(zak l i).length:=by rw [hc0,hr2];simp
  obtain ⟨m,hm⟩:=ex ((zak l i).length);rw [hm] at hlm hlen ⊢;have j1:(1:Int) < (m:Int):=by omega
  have j2:(2:Int) < (m:Int):=by omega
  clear hE hr hR hx1 hc0 hr2 h1 h2 hC0 hm g2
  go_enter Tryz.func171,Tryz.ntmps171
  go_wp2_with fail
  go_ret2
  exact ⟨_,rfl,World.ownsRow_nil _ _ _ _,Below.refl _ _⟩
theorem escS_sh (l:List UInt8) (i:Nat) (h:i+1 < l.length->bt l (i+1)≠120/\bt l (i+1)≠117):zbj l i=(if shO (chr l (i+1))=none then 0 else 2,(shO (chr l (i+1))).elim [] (fun y=>[UInt8.ofNat y.toNat])):=by
 by_cases hi:i+1 < l.length
 ·obtain ⟨h1,h2⟩:=h hi
  have key:∀ k:Nat,k < 128->(chr l (i+1)=(k:Int)↔bt l (i+1)=k):=fun k hk=>by rw [zbs l (i+1) k hk];exact ⟨fun e=>e.2,fun e=>⟨hi,e⟩⟩
  have k1:chr l (i+1)=34↔bt l (i+1)=34:=key 34 (by decide);have k2:chr l (i+1)=92↔bt l (i+1)=92:=key 92 (by decide);have k3:chr l (i+1)=110↔bt l (i+1)=110:=key 110 (by decide);have k4:chr l (i+1)=114↔bt l (i+1)=114:=key 114 (by decide);have k5:chr l (i+1)=116↔bt l (i+1)=116:=key 116 (by decide);unfold zbj;rw [if_neg (show ¬l.length<=i+1 by omega)];unfold shO
  by_cases g1:bt l (i+1)=34
  ·rw [if_pos g1,if_pos (k1.2 g1)];rfl
  rw [if_neg g1,if_neg (fun e=>g1 (k1.1 e))]
  by_cases g2:bt l (i+1)=92
  ·rw [if_pos g2,if_pos (k2.2 g2)];rfl
  rw [if_neg g2,if_neg (fun e=>g2 (k2.1 e))]
  by_cases g3:bt l (i+1)=110
  ·rw [if_pos g3,if_pos (k3.2 g3)];rfl
  rw [if_neg g3,if_neg (fun e=>g3 (k3.1 e))]
  by_cases g4:bt l (i+1)=114
  ·rw [if_pos g4,if_pos (k4.2 g4)];rfl
  rw [if_neg g4,if_neg (fun e=>g4 (k4.1 e))]
  by_cases g5:bt l (i+1)=116
  ·rw [if_pos g5,if_pos (k5.2 g5)];rfl
  rw [if_neg g5,if_neg (fun e=>g5 (k5.1 e)),if_neg h1,if_neg h2];rfl
 ·have hc:chr l (i+1)=-2:=by unfold chr;rw [if_neg hi]
  rw [hc];unfold zbj;rw [if_pos (by omega)];rfl
theorem zkb (l:List UInt8) (i:Nat) (ad:Addr) (cap:Nat) (w:World) (hs:l.length<=16384) (hi:i < l.length) (b0:bt l i=92) (hcap:(zak l i).length<=cap) (hC:CH w ad (zak l i)) (hsh:SH w) :
  Calls Tryz.prog 171 #[.slice (some ad) (zak l i).length cap] w fun e w'=>escR w (zbj l i).1 (zbj l i).2 e w':=by
 have short:(i+1 < l.length->bt l (i+1)≠120/\bt l (i+1)≠117)->Calls Tryz.prog 171 #[.slice (some ad) (zak l i).length cap] w fun e w'=>escR w (zbj l i).1 (zbj l i).2 e w':=fun hno=>by
  have hc0:zak l i=(92,i) :: zak l (i+1):=by rw [zbv hi (by omega),b0];rfl
  obtain ⟨r,hr⟩:=zbp l (i+1);have h1:=(hC 1 _ (by rw [hc0,hr];rfl)).1;have hl:=zcn l _ i (Nat.le_refl _);rw [escS_sh l i hno];have key:∀ k:Nat,k < 128->(i+1 < l.length->bt l (i+1)≠k)->chr l (i+1)≠(k:Int):=fun k hk h e=>by
   have:=(zbs l (i+1) k hk).1 e;exact h this.1 this.2
  exact zri ad _ cap (chr l (i+1)) w (by rw [hc0,hr];simp) (by omega) h1 (key 120 (by decide) (fun h=>(hno h).1)) (key 117 (by decide) (fun h=>(hno h).2)) hsh
 by_cases h1:i+1 < l.length
 ·by_cases g1:bt l (i+1)=120
  ·exact esc_x l i ad cap w hs h1 b0 g1 hcap hC
  ·by_cases g2:bt l (i+1)=117
   ·exact esc_u l i ad cap w hs h1 b0 g2 hcap hC
   ·exact short (fun _=>⟨g1,g2⟩)
 ·exact short (fun h=>absurd h h1)
end Go.Proofs.YtmfakcfmkmppfaaGreatDoor
namespace Go.Proofs.YtmfakcfmkmppfaaGreatDoor
open Go.RowKit
def zd9 (J:Nat->Act->World->Prop) (Q:Exit->Act->World->Prop):Exit->Act->World->Prop
 | .goto l,a,w=>J l a w
 | e,a,w=>Q e a w
theorem zh2 {P:Program} {a:Act} {w:World} {Q:Exit->Act->World->Prop} {c:Code} (J:Nat->Act->World->Prop) (m:Nat->Act->World->Nat)
  (first:c.wp P (zd9 J Q) a w)
  (pass:∀ l a w,J l a w->∃ rest,findLabel c l=some rest/\rest.wp P (zd9 (fun l' a' w'=>J l' a' w'/\m l' a' w' < m l a w) Q) a w):(Code.scope c).wp P Q a w:=by
 intro b k cs;have key:∀ n l a w,m l a w=n->J l a w->∃ rest,findLabel c l=some rest/\∃ e a' w',Q e a' w'/\Arrives P (lone (b.at a (.code rest :: .inScope c :: k)) cs w) b k cs e a' w':=by
  intro n
  induction n using Nat.strongRecOn with
  | _ n ih=>
   intro l a w hn hJ;obtain ⟨rest,hf,hr⟩:=pass l a w hJ;refine ⟨rest,hf,?_⟩;obtain ⟨e,a1,w1,hq,harr⟩:=hr b (.inScope c :: k) cs;cases e with
   | normal=>exact ⟨.normal,a1,w1,hq,Steps.trans harr (.one step_inScope)⟩
   | exit id=>exact ⟨.exit id,a1,w1,hq,fun k' hk=>harr k' (by simp [exitTo,hk])⟩
   | goto l'=>
    obtain ⟨hJ',hlt⟩:=hq;obtain ⟨rest2,hf2,e2,a2,w2,hq2,harr2⟩:=ih _ (by omega) l' a1 w1 rfl hJ';have hg:gotoIn l' (.inScope c :: k)=some (.code rest2 :: .inScope c :: k):=by simp [gotoIn,hf2]
    exact ⟨e2,a2,w2,hq2,.of_steps (harr _ hg) harr2⟩
   | ret=>exact ⟨_,a1,w1,hq,harr⟩
   | panic ch=>exact ⟨_,a1,w1,hq,harr⟩
   | outgrown=>exact ⟨_,a1,w1,hq,harr⟩
 obtain ⟨e,a1,w1,hq,harr⟩:=first b (.inScope c :: k) cs
 cases e with
 | normal=>exact ⟨.normal,a1,w1,hq,.head step_scope (Steps.trans harr (.one step_inScope))⟩
 | exit id=>exact ⟨.exit id,a1,w1,hq,fun k' hk=>.head step_scope (harr k' (by simp [exitTo,hk]))⟩
 | goto l'=>
  obtain ⟨rest2,hf2,e2,a2,w2,hq2,harr2⟩:=key _ l' a1 w1 rfl hq;have hg:gotoIn l' (.inScope c :: k)=some (.code rest2 :: .inScope c :: k):=by simp [gotoIn,hf2]
  exact ⟨e2,a2,w2,hq2,.of_steps (.head step_scope (harr _ hg)) harr2⟩
 | ret=>exact ⟨_,a1,w1,hq,.of_steps (.one step_scope) harr⟩
 | panic ch=>exact ⟨_,a1,w1,hq,.of_steps (.one step_scope) harr⟩
 | outgrown=>exact ⟨_,a1,w1,hq,.of_steps (.one step_scope) harr⟩
def zbx (l:List UInt8) (j:Nat) (said:List UInt8):List UInt8×Nat×Nat:=
 if j < l.length then
  if bt l j=34 then (said,j+1,0)
  else if bt l j=92 then (if (zbj l j).1=0 then ([],j,34) else zbx l (j+(zbj l j).1) (said++(zbj l j).2))
  else if lo1 l j=true∨bt l j < 32∨bt l j=127 then ([],j,33)
  else zbx l (j+(dc l j).2) (said++(l.drop j).take (dc l j).2)
 else ([],l.length,32)
termination_by l.length - j
decreasing_by
 ·omega
 ·have:=zb8 l j
  omega
end Go.Proofs.YtmfakcfmkmppfaaGreatDoor
