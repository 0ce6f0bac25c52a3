import Derived.Test.YtbplhianpelmfaaGreatDoorXAA
import Derived.Test.YtbplhianpelmfaaGreatDoorXAB
import Derived.Test.YtbplhianpelmfaaGreatDoorXAC
import Derived.Test.YtbplhianpelmfaaGreatDoorXAD
import Derived.Test.YtbplhianpelmfaaGreatDoorXAE
import Derived.Test.YtbplhianpelmfaaGreatDoorXAF
import Derived.Test.YtbplhianpelmfaaGreatDoorXAG
import Derived.Test.YtbplhianpelmfaaGreatDoorXAH
import Derived.Test.YtbplhianpelmfaaGreatDoorXAI
import Derived.Test.YtbplhianpelmfaaGreatDoorXAJ
import Derived.Test.YtbplhianpelmfaaGreatDoorXAK
import Derived.Test.YtbplhianpelmfaaGreatDoorXAL
import Derived.Test.YtbplhianpelmfaaGreatDoorXAM
import Derived.Test.YtbplhianpelmfaaGreatDoorXAN
import Derived.Test.YtbplhianpelmfaaGreatDoorXAO
import Derived.Test.YtbplhianpelmfaaGreatDoorXAP
import Derived.Test.YtbplhianpelmfaaGreatDoorXAQ
import Derived.Test.YtbplhianpelmfaaGreatDoorXAR
import Derived.Test.YtbplhianpelmfaaGreatDoorXAS
import Derived.Test.YtbplhianpelmfaaGreatDoorXAT
import Derived.Test.YtbplhianpelmfaaGreatDoorXAU
import Derived.Test.YtbplhianpelmfaaGreatDoorXAV
import Derived.Test.YtbplhianpelmfaaGreatDoorXAW
import Derived.Test.YtbplhianpelmfaaGreatDoorXAX
import Derived.Test.YtbplhianpelmfaaGreatDoorXAY
import Derived.Test.YtbplhianpelmfaaGreatDoorXAZ
import Derived.Test.YtbplhianpelmfaaGreatDoorXBA
import Derived.Test.YtbplhianpelmfaaGreatDoorXBB
import Derived.Test.YtbplhianpelmfaaGreatDoorXBC
import Derived.Test.YtbplhianpelmfaaGreatDoorXBD
import Derived.Test.YtbplhianpelmfaaGreatDoorXBE
import Derived.Test.YtbplhianpelmfaaGreatDoorXBF
import Derived.Test.YtbplhianpelmfaaGreatDoorXBS
import Derived.Lib.IndexLaws
import Derived.Deep.DeepCutAuto
import Derived.Deep.RegionWith
import Derived.Deep.QuietTactic
import Derived.Laws.BytesArg
namespace Go.Proofs.YtbplhianpelmfaaGreatDoor
open Go.RowKit
theorem byte_get (l:List UInt8) (k:Nat) (h:k < l.length):∃ c,(∀ h',(ByteArray.mk l.toArray)[k]'h'=c)∧l[k]?=some c:=⟨l[k],fun _=>rfl,List.getElem?_eq_getElem h⟩
end Go.Proofs.YtbplhianpelmfaaGreatDoor
namespace Go.Proofs.YtbplhianpelmfaaGreatDoor.Tn
open Go.RowKit

theorem conv_any (W:World) (B:Nat) (v:Value) (t:List UInt8) (hown:W.ownsRow B 5 1 v t.length (bys t)) :
  (convert 87 9 v).run Tryz.prog W=.ok (.string ⟨t.toArray⟩) W:=by
 have h0:=hown
 obtain ⟨_,h2⟩:=hown
 rcases h2 with ⟨rfl,h2⟩ | ⟨g,cap,cur,rfl,h2⟩
 ·have hz:t=[]:=List.eq_nil_of_length_eq_zero (by simpa using h2)
  subst hz
  exact run_convert_bytes_nil W _ 5 Tryz.underlying87 Tryz.underlying5 _ _ _ Tryz.underlying9
 ·exact conv_owned W B g cap t h0

theorem bel_app {w wr w1:World} {o:Obj} {e:TypeId} {size:Nat} {v:Value} {n:Nat} {xs:List Value} (hB:Below w.heap.size w wr) (hown:wr.ownsRow w.heap.size e size v n xs) (hg:(wr.alloc o).grownBy w1 v.ownBlock):Below w.heap.size w w1:=
 (belA hB o).grown hg (belA hB o).size (fun k h=>(hown.lt k h).1)

theorem bys_snoc (t:List UInt8) (b:UInt8):bys t++[.int .u8 (b.toNat:Int)]=bys (t++[b]):=by simp [bys]

end Go.Proofs.YtbplhianpelmfaaGreatDoor.Tn
namespace Go.Proofs.YtbplhianpelmfaaGreatDoor.Tn

theorem take_zip (f:UInt8→UInt8→UInt8) (a b:List UInt8) (h:a.length=b.length) (k:Nat) (hk:k < a.length) :
  (List.zipWith f a b).take (k+1)=(List.zipWith f a b).take k++[f a[k] (b[k]'(by omega))]:=by
 have hl:k < (List.zipWith f a b).length:=by rw [zip_len f a b h];exact hk
 rw [List.take_succ_eq_append_getElem hl]
 congr 2
 rw [List.getElem_zipWith]
theorem take_all (f:UInt8→UInt8→UInt8) (a b:List UInt8) (h:a.length=b.length):(List.zipWith f a b).take a.length=List.zipWith f a b:=by
 apply List.take_of_length_le
 rw [zip_len f a b h];exact Nat.le_refl _

end Go.Proofs.YtbplhianpelmfaaGreatDoor.Tn
namespace Go.Proofs.YtbplhianpelmfaaGreatDoor.Tn
open Go.RowKit

theorem own_snoc {W:World} {B k:Nat} {v':Value} {f:UInt8→UInt8→UInt8} {a b:ByteArray} {x:UInt8} (hl:a.size=b.size) (hk:k < a.size) (hx:f a[k] (b[k]'(by omega))=x)
  (h:W.ownsRow B 5 1 v' (k+1) (bys ((List.zipWith f a.data.toList b.data.toList).take k)++[.int .u8 (x.toNat:Int)])):W.ownsRow B 5 1 v' (k+1) (bys ((List.zipWith f a.data.toList b.data.toList).take (k+1))):=by
 have la:a.data.toList.length=b.data.toList.length:=by simp;exact hl
 have lk:k < a.data.toList.length:=by simpa using hk
 rw [take_zip f _ _ la k lk,byte_at a k hk,byte_at b k (by omega),hx,←bys_snoc]
 exact h
end Go.Proofs.YtbplhianpelmfaaGreatDoor.Tn
namespace Go.Proofs.YtbplhianpelmfaaGreatDoor.Nt
open Go.RowKit Go.Shelf
def nxO (n:NN) (outs:List Int) (t:List UInt8):List (Int×List UInt8):=(outS n outs t).flatMap (nxF n)
theorem nxO_no {n:NN} {L:List Int} {k:Nat} {x:Int} {h:List UInt8} (hx:L[k]?=some x) (hl:lets (grdAt n x) h=false):nxO n (L.take (k+1)) h=nxO n (L.take k) h:=by
 unfold nxO
 rw [outS_no hx hl]
theorem nxO_yes {n:NN} {L:List Int} {k:Nat} {x:Int} {h:List UInt8} (hx:L[k]?=some x) (hl:lets (grdAt n x) h=true):nxO n (L.take (k+1)) h=(nxO n (L.take k) h++[(x,h)])++ovS n (x,h):=by
 unfold nxO
 rw [outS_yes hx hl,List.flatMap_append,List.append_assoc]
 simp [nxF]
end Go.Proofs.YtbplhianpelmfaaGreatDoor.Nt
namespace Go.Proofs.YtbplhianpelmfaaGreatDoor.Nt
open Go.RowKit Go.Shelf
set_option maxRecDepth 100000 in
set_option maxHeartbeats 16000000 in
theorem states_any (L:List (Int×List UInt8)) (p1 p2:Option Addr) (n c1 c2:Nat) (w:World) (hn:L.length=n) (h1:RowL 2 asC w p1 L) (h2:RowL 2 asC w p2 L) (hO:n≤140737488351232) :
  Calls Tryz.prog 15 #[.slice p1 n c1,.slice p2 n c2] w fun e w'=>e=.returned (.bool true)∧Below w.heap.size w w':=by
 have HN:Hid (L.length=n∧(∀ U,Below w.heap.size w U→RowL 2 asC U p1 L)∧∀ U,Below w.heap.size w U→RowL 2 asC U p2 L):=⟨hn,fun U hU=>h1.below hU,fun U hU=>h2.below hU⟩
 clear hn h1 h2
 go_enter Tryz.func15,Tryz.ntmps15
 go_wp2_with fail
 go_loopw [5] (fun vk wr=>∃ k:Nat,vk=.int .i64 (k:Int)∧k≤n∧Hid (Below w.heap.size w wr)) (fun vk _=>n - (intOf vk).toNat)
 case atStart=>exact ⟨0,rfl,Nat.zero_le _,Below.refl _ _⟩
 case round=>
  obtain ⟨k,rfl,hk,HB⟩:=hrel
  by_cases hlt:k < n
  ·obtain ⟨o,hx⟩:∃ o,L[k]?=some o:=⟨_,List.getElem?_eq_getElem (by have:=HN.out.1;omega)⟩
   obtain ⟨x,t⟩:=o
   obtain ⟨g1,o1,rfl,a9⟩:=HN.out.2.1 wr HB.out k _ hx
   obtain ⟨g2,o2,rfl,b9⟩:=HN.out.2.2 wr HB.out k _ hx
   have a0:=a9 0 _ rfl
   have a1:=a9 1 _ rfl
   have b0:=b9 0 _ rfl
   have b1:=b9 1 _ rfl
   rw [Nat.add_zero] at a0 b0
   have j0:(0:Int)≤(k:Int):=by omega
   have j1:(k:Int) < (n:Int):=by omega
   clear hx a9 b9
   go_wp2_with fail
   go_quiet (fail)
   go_wp2_with fail
   go_roundw
   case rel=>exact ⟨k+1,by go_num,by omega,bel_drewZ nq HB.out⟩
   case measure=>simp [intOf];omega
  ·obtain rfl:k=n:=by omega
   have j1:¬(k:Int) < (k:Int):=by omega
   go_wp2_with fail
   go_ret
   exact ⟨rfl,HB.out⟩
end Go.Proofs.YtbplhianpelmfaaGreatDoor.Nt
namespace Go.Proofs.YtbplhianpelmfaaGreatDoor.Tn
open Go.RowKit
set_option maxHeartbeats 4000000 in
theorem kwritten_any (a b:ByteArray) (w:World) (hl:a.size≤256) (hz0:a.size=b.size) :
  Calls Tryz.prog 14 #[.string a,.string b] w fun e w'=>e=.returned (.string ⟨(wrT a.data.toList b.data.toList).toArray⟩)∧Below w.heap.size w w':=by
 have hz:Hid (a.size=b.size):=hz0
 have LA:Hid (a.data.toList.length=a.size):=by simp [Hid]
 have LE:Hid (a.data.toList.length=b.data.toList.length):=by
  show _=_
  simpa using hz0
 clear hz0
 obtain ⟨i0,hi,hz0,hz1,hz2⟩:=info_parts info_u8
 go_enter Tryz.func14,Tryz.ntmps14
 go_wp2_with fail
 go_loopw [5,6] (fun v i wr=>∃ k:Nat,k≤a.size∧i=.int .i64 k∧wr.ownsRow w.heap.size 5 1 v k (bys ((wrT a.data.toList b.data.toList).take k))∧Below w.heap.size w wr) (fun _ i _=>a.size - (intOf i).toNat)
 case atStart=>exact ⟨0,Nat.zero_le _,rfl,World.ownsRow_nil _ _ _ _,Below.refl _ _⟩
 case round=>
  obtain ⟨k,hk,rfl,hown,hB⟩:=hrel
  by_cases hlt:k < a.size
  ·skip
   have hkb:k < b.size:=by rw [←hz.out];exact hlt
   have i0':(0:Int)≤(k:Int):=by omega
   have i1:(k:Int) < (a.size:Int):=by omega
   have i2:(k:Int) < (b.size:Int):=by omega
   obtain ⟨p2,n2⟩:∃ p,((b[k].toNat:Int)==120)=p:=⟨_,rfl⟩
   have M2:Hid ((b[k]==120)=p2):=by
    unfold Hid
    have:=byte_bne b[k] 120 (by decide)
    unfold bne at this
    rw [←n2]
    exact (Bool.not_inj this).symm
   cases p2
   ·go_wp2_with (at_builtin;refine wpList_append_own _ rfl _ _ 87 rfl w.heap.size 5 i0 (.int .u8 0) 1 1 Tryz.underlying87 hi hz0 hz1 hz2 rfl (by decide) _ _ _ rfl (hown.alloc _) ⟨wr.heap.size,0,none⟩ 1 1 [.int .u8 (b[k].toNat:Int)] rfl rfl (cell_one_new _ _ _) (by simp [Value.oneCell']) (by unfold maxLen;omega) (by omega) (by have:=hB.size;simp;omega) ?_;intro v' w1 hown' hgrow _)
    go_roundw
    case rel=>exact ⟨k+1,by omega,by go_num,own_snoc (f:=fun x y=>if y==120 then x else y) hz.out hlt (by show (if (b[k]==120)=true then a[k] else b[k])=b[k];rw [M2.out];rfl) hown',bel_app hB hown hgrow⟩
    case measure=>simp [intOf];omega
   ·go_wp2_with (at_builtin;refine wpList_append_own _ rfl _ _ 87 rfl w.heap.size 5 i0 (.int .u8 0) 1 1 Tryz.underlying87 hi hz0 hz1 hz2 rfl (by decide) _ _ _ rfl (hown.alloc _) ⟨wr.heap.size,0,none⟩ 1 1 [.int .u8 (a[k].toNat:Int)] rfl rfl (cell_one_new _ _ _) (by simp [Value.oneCell']) (by unfold maxLen;omega) (by omega) (by have:=hB.size;simp;omega) ?_;intro v' w1 hown' hgrow _)
    go_roundw
    case rel=>exact ⟨k+1,by omega,by go_num,own_snoc (f:=fun x y=>if y==120 then x else y) hz.out hlt (by show (if (b[k]==120)=true then a[k] else b[k])=a[k];rw [M2.out];rfl) hown',bel_app hB hown hgrow⟩
    case measure=>simp [intOf];omega
  ·have hkn:k=a.size:=by omega
   have hT:(wrT a.data.toList b.data.toList).take k=wrT a.data.toList b.data.toList:=by rw [hkn,←LA.out];exact take_all _ _ _ LE.out
   have hL:(wrT a.data.toList b.data.toList).length=k:=by unfold wrT;rw [zip_len _ _ _ LE.out,LA.out,hkn]
   have hcv:=conv_any wr w.heap.size _ (wrT a.data.toList b.data.toList) (by rw [hL];rw [hT] at hown;exact hown)
   clear hT hL
   go_wp2
   go_ret
   exact ⟨rfl,hB⟩
end Go.Proofs.YtbplhianpelmfaaGreatDoor.Tn
namespace Go.Proofs.YtbplhianpelmfaaGreatDoor.Nt
open Go.RowKit Go.Shelf
def tW (h c:List UInt8) (k:Nat):Bool:=match h[k]?,c[k]? with | some x,some y=>y==120 || x==y | _,_=>true
theorem tW_at {h c:List UInt8} {k:Nat} {x y:UInt8} (h1:h[k]?=some x) (h2:c[k]?=some y):tW h c k=(y==120 || x==y):=by
 unfold tW
 rw [h1,h2]
theorem has_tW {bits:Int} {h c:List UInt8} (hh:HdP bits h) (hc:CubeP bits c) (h1:1≤bits):Tn.hasB c h=Tn.allTo (tW h c) h.length:=by
 rw [←wi_has hh hc h1]
 have l1:=hh.1
 have l2:=hc.1
 have hl:h.length=c.length:=by omega
 have e1:h.isEmpty=false:=by cases h with
  | nil=>simp at l1;omega
  | cons x l=>rfl
 unfold Tn.wiB
 rw [show Tn.fitB h c=true by unfold Tn.fitB;rw [e1,hl];simp,Bool.true_and]
 rfl
theorem allTo_no {p:Nat→Bool} {k m:Nat} (h:Tn.allTo p k=false) (hk:k≤m):Tn.allTo p m=false:=by
 cases he:Tn.allTo p m with
 | false=>rfl
 | true=>
  rw [Tn.allTo_iff] at he
  have:Tn.allTo p k=true:=(Tn.allTo_iff _ _).2 (fun j hj=>he j (by omega))
  rw [this] at h
  cases h
theorem eq_nat (x y:UInt8):((x.toNat:Int)==(y.toNat:Int))=(x==y):=by
 rw [Bool.eq_iff_iff,beq_iff_eq,beq_iff_eq]
 exact ⟨fun h=>UInt8.toNat_inj.1 (by omega),fun h=>by rw [h]⟩
set_option maxRecDepth 100000 in
set_option maxHeartbeats 16000000 in
theorem khas_any (bits:Int) (L:List (List UInt8)) (p:Option Addr) (n c:Nat) (h:List UInt8) (w:World) (hn:L.length=n) (hL:LS w p L) (hc:∀ x∈L,CubeP bits x) (h1:1≤bits) (h2:bits≤256) (hh:HdP bits h) (hN:n≤140737488351232) :
  Calls Tryz.prog 13 #[.slice p n c,.string ⟨h.toArray⟩] w fun e w'=>e=.returned (.bool (hasAny L h))∧Below w.heap.size w w':=by
 have HL:Hid (L.length=n∧∀ U,Below w.heap.size w U→LS U p L):=⟨hn,fun U hU=>hL.below hU⟩
 have HH:Hid ((∀ x∈L,x.length=h.length∧Tn.hasB x h=Tn.allTo (tW h x) h.length)):=fun x hx=>⟨by have:=(hc x hx).1;have:=hh.1;omega,has_tW hh (hc x hx) h1⟩
 have hm7:h.length≤256:=by have:=hh.1;omega
 clear hn hL hc h1 h2 hh
 go_enter Tryz.func13,Tryz.ntmps13
 go_wp2_with fail
 go_loopw [5] (fun vk wr=>∃ k:Nat,vk=.int .i64 (k:Int)∧k≤n∧Hid (Below w.heap.size w wr∧∀ (i:Nat) c,i < k→L[i]?=some c→Tn.hasB c h=false)) (fun vk _=>n - (intOf vk).toNat)
 case atStart=>exact ⟨0,rfl,Nat.zero_le _,Below.refl _ _,fun i l hi=>by omega⟩
 case round=>
  obtain ⟨wo,rfl⟩:∃ wo,wo=wr:=⟨wr,rfl⟩
  obtain ⟨k,rfl,hk,HS⟩:=hrel
  by_cases hlt:k < n
  ·obtain ⟨x,hx⟩:∃ x,L[k]?=some x:=⟨_,List.getElem?_eq_getElem (by have:=HL.out.1;omega)⟩
   obtain ⟨g,o,e9,u0⟩:=HL.out.2 wo HS.out.1 k x hx
   subst e9
   have hxl:=(HH.out x (List.mem_of_getElem? hx)).1
   have HX:Hid (L[k]?=some x∧Tn.hasB x h=Tn.allTo (tW h x) h.length∧x.length=h.length):=⟨hx,(HH.out x (List.mem_of_getElem? hx)).2,hxl⟩
   have HK:Hid (∀ U,Below wo.heap.size wo U→U.cell? ⟨g,o+k,none⟩=some (.string ⟨x.toArray⟩)):=fun U hU=>keepC hU u0
   have hln:((x.length:Int)==(h.length:Int))=true:=by rw [hxl];simp
   have j0:(0:Int)≤(k:Int):=by omega
   have j1:(k:Int) < (n:Int):=by omega
   have HF1:Hid (∀ U,Below wo.heap.size wo U→Tn.hasB x h=true→hasAny L h=true∧Below w.heap.size w U):=fun U hU hb=>⟨any_hit hx hb,bel0Z HS.out.1 hU⟩
   have HS1:Hid (∀ U,Below wo.heap.size wo U→Tn.hasB x h=false→Below w.heap.size w U∧∀ (i:Nat) c,i < k+1→L[i]?=some c→Tn.hasB c h=false):=fun U hU hb=>⟨bel0Z HS.out.1 hU,fun i c hi hc=>by
     by_cases e:i=k
     ·subst e;rw [hx] at hc;obtain rfl:=Option.some.inj hc;exact hb
     ·exact HS.out.2 i c (by omega) hc⟩
   clear hx hxl
   go_wp2_with fail
   clear hln u0
   go_loopw [6,7] (fun v6 vj wr=>∃ j:Nat,v6=.bool (Tn.allTo (tW h x) j)∧vj=.int .i64 (j:Int)∧j≤h.length∧Hid (Below wo.heap.size wo wr)) (fun _ vj _=>h.length - (intOf vj).toNat)
   case atStart=>exact ⟨0,rfl,rfl,Nat.zero_le _,Below.refl _ _⟩
   case round=>
    obtain ⟨j,rfl,rfl,hj,HB⟩:=hrel
    have u0:=HK.out wr HB.out
    obtain ⟨f,hf⟩:∃ f,Tn.allTo (tW h x) j=f:=⟨_,rfl⟩
    rw [hf]
    by_cases hlt2:j < h.length
    ·have j2:(0:Int)≤(j:Int):=by omega
     have j3:(j:Int) < (h.length:Int):=by omega
     cases f with
     | false=>
      have HS9:=hideL (HS1.out wr HB.out (by rw [HX.out.2.1];exact allTo_no hf hj))
      clear hf u0
      go_wp2_with fail
      go_roundw
      case rel=>exact ⟨k+1,by go_num,by omega,HS9.out.1,HS9.out.2⟩
      case measure=>simp [intOf];omega
     | true=>
      obtain ⟨d1,hd1,hl1⟩:=byte_get h j hlt2
      obtain ⟨d2,hd2,hl2⟩:=byte_get x j (by have:=HX.out.2.2;omega)
      have hst:Tn.allTo (tW h x) (j+1)=(d2==120 || d1==d2):=by
       show (Tn.allTo (tW h x) j&&tW h x j)=_
       rw [hf,tW_at hl1 hl2,Bool.true_and]
      have j4:(j:Int) < (x.length:Int):=by have:=HX.out.2.2;omega
      obtain ⟨b1,hb1⟩:∃ b,((d2.toNat:Int)==120)=b:=⟨_,rfl⟩
      have hc1:(d2==120)=b1:=by rw [←hb1];exact (eq_nat d2 120).symm
      obtain ⟨b2,hb2⟩:∃ b,((d2.toNat:Int)==(d1.toNat:Int))=b:=⟨_,rfl⟩
      have hc2:(d1==d2)=b2:=by rw [←hb2,eq_nat d2 d1,Bool.beq_comm]
      rw [hc1,hc2] at hst
      have HST:=hideL hst
      clear hf hl1 hl2 hst hc1 hc2
      cases b1 with
      | true=>
       go_wp2_with fail
       go_quiet (fail)
       go_wp2_with fail
       go_roundw
       case rel=>exact ⟨j+1,by rw [HST.out];rfl,by go_num,by omega,bel_drewZ nq HB.out⟩
       case measure=>simp [intOf];omega
      | false=>
       cases b2 with
       | true=>
        go_wp2_with fail
        go_quiet (fail)
        go_wp2_with fail
        go_roundw
        case rel=>exact ⟨j+1,by rw [HST.out];rfl,by go_num,by omega,bel_drewZ nq HB.out⟩
        case measure=>simp [intOf];omega
       | false=>
        go_wp2_with fail
        go_quiet (fail)
        go_wp2_with fail
        go_roundw
        case rel=>exact ⟨j+1,by rw [HST.out];rfl,by go_num,by omega,bel_drewZ nq HB.out⟩
        case measure=>simp [intOf];omega
    ·obtain rfl:j=h.length:=by omega
     have j3:¬(h.length:Int) < (h.length:Int):=by omega
     cases f with
     | false=>
      have HS9:=hideL (HS1.out wr HB.out (by rw [HX.out.2.1];exact hf))
      clear hf u0
      go_wp2_with fail
      go_roundw
      case rel=>exact ⟨k+1,by go_num,by omega,HS9.out.1,HS9.out.2⟩
      case measure=>simp [intOf];omega
     | true=>
      have HFIN:=hideL (HF1.out wr HB.out (by rw [HX.out.2.1];exact hf))
      clear hf u0
      go_wp2_with fail
      go_ret
      exact ⟨by rw [HFIN.out.1];rfl,HFIN.out.2⟩
  ·obtain rfl:k=n:=by omega
   have j1:¬(k:Int) < (k:Int):=by omega
   have HFIN:Hid (hasAny L h=false∧Below w.heap.size w wo):=⟨any_no (fun i x hx=>HS.out.2 i x (by have:=(List.getElem?_eq_some_iff.1 hx).1;have:=HL.out.1;omega) hx),HS.out.1⟩
   go_wp2_with fail
   go_ret
   exact ⟨by rw [HFIN.out.1];rfl,HFIN.out.2⟩
set_option maxRecDepth 100000 in
set_option maxHeartbeats 16000000 in
theorem kin_any (L:List Int) (p:Option Addr) (n c:Nat) (q:Int) (w:World) (hn:L.length=n) (hL:LI w p L) (hN:n≤140737488351232) :
  Calls Tryz.prog 12 #[.slice p n c,.int .i64 q] w fun e w'=>e=.returned (.bool (decide (q∈L)))∧Below w.heap.size w w':=by
 have HL:Hid (L.length=n∧LI w p L):=⟨hn,hL⟩
 clear hn hL
 go_enter Tryz.func12,Tryz.ntmps12
 go_wp2_with fail
 go_loopw [5] (fun vk wr=>∃ k:Nat,vk=.int .i64 (k:Int)∧k≤n∧Hid (w=wr)∧Hid (∀ (i:Nat) x,i < k→L[i]?=some x→x≠q)) (fun vk _=>n - (intOf vk).toNat)
 case atStart=>exact ⟨0,rfl,Nat.zero_le _,by first | rfl | trivial,fun i l hi=>by omega⟩
 case round=>
  obtain ⟨k,rfl,hk,HWR,HS⟩:=hrel
  obtain rfl:wr=w:=HWR.out.symm
  by_cases hlt:k < n
  ·obtain ⟨x,hx⟩:∃ x,L[k]?=some x:=⟨_,List.getElem?_eq_getElem (by have:=HL.out.1;omega)⟩
   obtain ⟨g,o,e9,u0⟩:=HL.out.2 k x hx
   subst e9
   have HX:=hideL hx
   have j0:(0:Int)≤(k:Int):=by omega
   have j1:(k:Int) < (n:Int):=by omega
   clear hx
   by_cases hq:x=q
   ·subst hq
    have HFIN:Hid (decide (x∈L)=true):=decide_eq_true (List.mem_of_getElem? HX.out)
    go_wp2_with fail
    go_ret
    exact ⟨by rw [HFIN.out];rfl,Below.refl _ _⟩
   ·have hq9:(x==q)=false:=by simpa using hq
    have HS9:Hid (∀ (i:Nat) x,i < k+1→L[i]?=some x→x≠q):=(fun i y hi hy=>by
     by_cases e:i=k
     ·subst e;rw [HX.out] at hy;obtain rfl:=Option.some.inj hy;exact hq
     ·exact HS.out i y (by omega) hy)
    clear hq
    go_wp2_with fail
    go_roundw
    case rel=>exact ⟨k+1,by go_num,by omega,by first | rfl | trivial,HS9⟩
    case measure=>simp [intOf];omega
  ·obtain rfl:k=n:=by omega
   have j1:¬(k:Int) < (k:Int):=by omega
   have HFIN:Hid (decide (q∈L)=false):=decide_eq_false (fun hm=>by
    obtain ⟨i,hi⟩:=List.getElem?_of_mem hm
    exact HS.out i q (by have:=(List.getElem?_eq_some_iff.1 hi).1;have:=HL.out.1;omega) hi rfl)
   go_wp2_with fail
   go_ret
   exact ⟨by rw [HFIN.out];rfl,Below.refl _ _⟩
set_option maxRecDepth 100000 in
set_option maxHeartbeats 16000000 in
theorem klets_any (bits:Int) (G:List NG) (p:Option Addr) (m c:Nat) (h:List UInt8) (w:World) (hm:G.length=m) (hG:LG w p G) (hc:∀ l∈G,CubesP bits l.cubes) (h1:1≤bits) (h2:bits≤256) (hh:HdP bits h) (hM:m≤140737488351232) :
  Calls Tryz.prog 11 #[.slice p m c,.string ⟨h.toArray⟩] w fun e w'=>e=.returned (.bool (lets G h))∧Below w.heap.size w w':=by
 have HL:Hid (G.length=m∧∀ U,Below w.heap.size w U→LG U p G):=⟨hm,fun U hU=>hG.below hU⟩
 have HH:Hid (∀ l∈G,∀ (pc:Option Addr) (nc cc:Nat) (U:World),l.cubes.length=nc→LS U pc l.cubes→Calls Tryz.prog 13 #[.slice pc nc cc,.string ⟨h.toArray⟩] U fun e w'=>e=.returned (.bool (hasAny l.cubes h))∧Below U.heap.size U w'):=fun l hl pc nc cc U hn hL=>khas_any bits l.cubes pc nc cc h U hn hL (hc l hl).2 h1 h2 hh (by have:=(hc l hl).1;omega)
 obtain ⟨bz,hbz⟩:∃ bz,((m:Int)==0)=bz:=⟨_,rfl⟩
 have HBZ:Hid (G.isEmpty=bz):=by
  rw [←hbz,←hm]
  cases G with
  | nil=>rfl
  | cons x G=>
   show false=(((x :: G).length:Int)==0)
   rw [List.length_cons]
   symm
   rw [beq_eq_false_iff_ne]
   omega
 clear hm hG hc h1 h2 hh
 go_enter Tryz.func11,Tryz.ntmps11
 go_wp2_with fail
 go_loopw [5] (fun vk wr=>∃ k:Nat,vk=.int .i64 (k:Int)∧k≤m∧Hid (Below w.heap.size w wr∧∀ (i:Nat) l,i < k→G[i]?=some l→hasAny l.cubes h=false)) (fun vk _=>m - (intOf vk).toNat)
 case atStart=>exact ⟨0,rfl,Nat.zero_le _,Below.refl _ _,fun i l hi=>by omega⟩
 case round=>
  obtain ⟨k,rfl,hk,HS⟩:=hrel
  by_cases hlt:k < m
  ·obtain ⟨x,hx⟩:∃ x,G[k]?=some x:=⟨_,List.getElem?_eq_getElem (by have:=HL.out.1;omega)⟩
   obtain ⟨g,o,pc,cc,e9,u0,u1,hls,-⟩:=HL.out.2 wr HS.out.1 k x hx
   subst e9
   obtain ⟨nc,hnc⟩:∃ nc,x.cubes.length=nc:=⟨_,rfl⟩
   rw [hnc] at u1
   have HX:=hideL hx
   have HC:Hid (Calls Tryz.prog 13 #[.slice pc nc cc,.string ⟨h.toArray⟩] wr fun e w'=>e=.returned (.bool (hasAny x.cubes h))∧Below wr.heap.size wr w'):=HH.out x (List.mem_of_getElem? hx) pc nc cc wr hnc hls
   obtain ⟨b,hb⟩:∃ b,hasAny x.cubes h=b:=⟨_,rfl⟩
   rw [hb] at HC
   have HB:=hideL hb
   have HK:Hid (∀ U,Below wr.heap.size wr U→U.cell? ⟨g,o+k*2,none⟩=some (.bool x.pm)):=fun U hU=>keepC hU u0
   have j0:(0:Int)≤(k:Int):=by omega
   have j1:(k:Int) < (m:Int):=by omega
   clear hx hb hls hnc
   go_wp2_with fail
   refine (HC.out).mono ?_
   rintro e W3 ⟨rfl,b3⟩
   have c3:=bel0Z HS.out.1 b3
   clear u0 u1
   cases b with
   | true=>
    have u0:=HK.out W3 b3
    have HFIN:Hid (lets G h=x.pm∧Below w.heap.size w W3):=⟨by
     unfold lets
     rw [find_hit (f:=fun l=>hasAny l.cubes h) HX.out HS.out.2 HB.out],c3⟩
    clear b3 c3
    go_wp2_with fail
    go_ret
    exact ⟨by rw [HFIN.out.1];rfl,HFIN.out.2⟩
   | false=>
    have HS9:Hid (Below w.heap.size w W3∧∀ (i:Nat) l,i < k+1→G[i]?=some l→hasAny l.cubes h=false):=⟨c3,fun i l hi hc=>by
     by_cases e:i=k
     ·subst e;rw [HX.out] at hc;obtain rfl:=Option.some.inj hc;exact HB.out
     ·exact HS.out.2 i l (by omega) hc⟩
    clear b3 c3
    go_wp2_with fail
    go_roundw
    case rel=>exact ⟨k+1,by go_num,by omega,HS9⟩
    case measure=>simp [intOf];omega
  ·obtain rfl:k=m:=by omega
   have j1:¬(k:Int) < (k:Int):=by omega
   have HFIN:Hid (lets G h=bz∧Below w.heap.size w wr):=⟨by
    unfold lets
    rw [find_no (f:=fun l=>hasAny l.cubes h) (fun i x hx=>HS.out.2 i x (by have:=(List.getElem?_eq_some_iff.1 hx).1;have:=HL.out.1;omega) hx)]
    exact HBZ.out,HS.out.1⟩
   go_wp2_with fail
   go_ret
   exact ⟨by rw [HFIN.out.1];rfl,HFIN.out.2⟩
end Go.Proofs.YtbplhianpelmfaaGreatDoor.Nt
namespace Go.Proofs.YtbplhianpelmfaaGreatDoor.Nt
open Go.RowKit Go.Shelf
/-- what has been found,and what is wanted then -/
def fdN (st:Option (Nat×NE)):Int:=match st with | some (k,_)=>(k:Int) | none=>-1
def wnL (n:NN) (s:Int×List UInt8) (st:Option (Nat×NE)):List (Int×List UInt8):=match st with | some (_,x)=>nxO n x.outs (Tn.wtT s.2 x.wr) | none=>if (portAt n s.1).inn=true then [] else ovS n s
def stI (n:NN) (s:Int×List UInt8) (b i:Nat) (st:Option (Nat×NE)):Prop:=match st with
 | some kx=>(portAt n s.1).inn=true∧appE n s.1 s.2=some kx
 | none=>(portAt n s.1).inn=true→lets (grdAt n s.1) s.2=true→∀ (j:Nat) e,((portAt n s.1).bx < (b:Int)∨((portAt n s.1).bx=(b:Int)∧j < i))→(tabAt n (portAt n s.1).bx)[j]?=some e→fitE s.1 s.2 e=false
theorem stI_end {n:NN} {s:Int×List UInt8} {st:Option (Nat×NE)} {b:Nat} (h:stI n s b 0 st) (hb:(portAt n s.1).bx < (b:Int)):nxtM n s=(fdN st,wnL n s st):=by
 cases st with
 | some kx=>
  obtain ⟨k,x⟩:=kx
  have e8:aplM n s=((k:Int),outS n x.outs (Tn.wtT s.2 x.wr)):=by
   unfold aplM
   rw [h.2]
  rw [nx_in h.1 e8]
  rfl
 | none=>
  by_cases hi:(portAt n s.1).inn=true
  ·have e8:aplM n s=(-1,[]):=by
    unfold aplM
    have:appE n s.1 s.2=none:=by
     unfold appE
     by_cases hl:lets (grdAt n s.1) s.2=true
     ·rw [if_pos hl]
      exact ffst_none (fun j e he=>h hi hl j e (.inl hb) he)
     ·rw [if_neg hl]
    rw [this]
   rw [nx_in hi e8]
   unfold wnL
   rw [if_pos hi]
   rfl
  ·rw [nx_out (by simpa using hi)]
   unfold wnL
   rw [if_neg hi]
   rfl
theorem stI_start {n:NN} {s:Int×List UInt8} (hx:0≤(portAt n s.1).bx):stI n s 0 0 none:=fun _ _ j e hj _=>by
 rcases hj with hj | ⟨_,hj⟩
 ·exact absurd hj (by simp;omega)
 ·omega
theorem stI_skip {n:NN} {s:Int×List UInt8} {st:Option (Nat×NE)} {b i:Nat} (h:stI n s b i st) (hn:st=none→(portAt n s.1).inn=true→lets (grdAt n s.1) s.2=true→(portAt n s.1).bx=(b:Int)→∀ e,(tabAt n (portAt n s.1).bx)[i]?=some e→fitE s.1 s.2 e=false):stI n s b (i+1) st:=by
 cases st with
 | some kx=>exact h
 | none=>
  intro hi hl j e hj he
  by_cases hb:(portAt n s.1).bx=(b:Int)∧j=i
  ·rw [hb.2] at he
   exact hn rfl hi hl hb.1 e he
  ·refine h hi hl j e ?_ he
   rcases hj with hj | hj
   ·exact .inl hj
   ·exact .inr ⟨hj.1,by have:=hj.2;have h9:j≠i:=fun e9=>hb ⟨hj.1,e9⟩;omega⟩
theorem stI_hit {n:NN} {s:Int×List UInt8} {b i:Nat} {e:NE} (h:stI n s b i none) (hi:(portAt n s.1).inn=true) (hl:lets (grdAt n s.1) s.2=true) (hb:(portAt n s.1).bx=(b:Int)) (he:(tabAt n (portAt n s.1).bx)[i]?=some e) (hf:fitE s.1 s.2 e=true):stI n s b (i+1) (some (offs n b+i,e)):=by
 refine ⟨hi,?_⟩
 unfold appE
 rw [if_pos hl,hb,Int.toNat_natCast]
 rw [hb] at he
 exact ffst_hit he (fun j x hj hx=>h hi hl j x (.inr ⟨hb,hj⟩) (by rw [hb];exact hx)) hf
theorem stI_row {n:NN} {s:Int×List UInt8} {st:Option (Nat×NE)} {b i:Nat} (h:stI n s b i st) (hm:(portAt n s.1).bx=(b:Int)→(tabAt n (portAt n s.1).bx).length≤i):stI n s (b+1) 0 st:=by
 cases st with
 | some kx=>exact h
 | none=>
  intro hi hl j e hj he
  by_cases hb:(portAt n s.1).bx=(b:Int)
  ·exact h hi hl j e (.inr ⟨hb,by have:=hm hb;have:=(List.getElem?_eq_some_iff.1 he).1;omega⟩) he
  ·refine h hi hl j e (.inl ?_) he
   rcases hj with hj | hj
   ·omega
   ·have:=hj.2;omega
end Go.Proofs.YtbplhianpelmfaaGreatDoor.Nt
