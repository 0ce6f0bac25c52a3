import Derived.Test.YtmfakcfmkmppfaaGreatDoorVAR
import Derived.Laws.BytesArg
namespace Go.Proofs.YtmfakcfmkmppfaaGreatDoor.Tn
open Go.RowKit

set_option maxHeartbeats 1000000 in
theorem zo3 (n f0 f1 f2 f3 o0 o1 o2 o3 m g0 g1 g2 g3 p0 p1 p2 p3:Int) (w:World)
  (hcall0:∀ W,Calls Tryz.prog 115 #[cv n f0 f1 f2 f3 o0 o1 o2 o3,cv m g0 g1 g2 g3 p0 p1 p2 p3] W fun e w'=>e=.returned (.bool true)/\Below W.heap.size W w') :
  Calls Tryz.prog 102 #[cv n f0 f1 f2 f3 o0 o1 o2 o3,cv m g0 g1 g2 g3 p0 p1 p2 p3] w fun e w'=>e=.returned (cv n (bits .or .u64 f0 g0) (bits .or .u64 f1 g1) (bits .or .u64 f2 g2) (bits .or .u64 f3 g3) (bits .or .u64 (bits .andNot .u64 o0 g0) p0) (bits .or .u64 (bits .andNot .u64 o1 g1) p1) (bits .or .u64 (bits .andNot .u64 o2 g2) p2) (bits .or .u64 (bits .andNot .u64 o3 g3) p3))/\Below w.heap.size w w':=by
 have hcall:Hid (∀ W,Calls Tryz.prog 115 #[cv n f0 f1 f2 f3 o0 o1 o2 o3,cv m g0 g1 g2 g3 p0 p1 p2 p3] W fun e w'=>e=.returned (.bool true)/\Below W.heap.size W w'):=hcall0;clear hcall0;unfold cv
 go_enter Tryz.func102,Tryz.ntmps102
 go_wp2_with (go_at_call 115;refine (hcall.out _).mono ?_;rintro e w1 ⟨rfl,hb1⟩)
 have hA1:=(hb1.block w.heap.size (by simp;omega)).trans (zm7 _ _ _ _);have hB1:=(hb1.block (w.heap.size+1) (by simp)).trans (zm6 _ _ _ _);have hC1:=(hb1.block (w.heap.size+2) (by simp)).trans (zfk _ _ _ _);have hW1:=zeb (zeb (zeb hb1));clear hb1
 go_loopw [11] (fun i wr=>∃ k:Nat,k<=4/\i=.int .i64 k/\wr.heap[w.heap.size]?=some (.cells #[.int .i64 n,.int .u64 (mxi k 0 f0 (bits .or .u64 f0 g0)),.int .u64 (mxi k 1 f1 (bits .or .u64 f1 g1)),.int .u64 (mxi k 2 f2 (bits .or .u64 f2 g2)),.int .u64 (mxi k 3 f3 (bits .or .u64 f3 g3)),.int .u64 (mxi k 0 o0 (bits .or .u64 (bits .andNot .u64 o0 g0) p0)),.int .u64 (mxi k 1 o1 (bits .or .u64 (bits .andNot .u64 o1 g1) p1)),.int .u64 (mxi k 2 o2 (bits .or .u64 (bits .andNot .u64 o2 g2) p2)),.int .u64 (mxi k 3 o3 (bits .or .u64 (bits .andNot .u64 o3 g3) p3))] 70 (0,0))/\wr.heap[w.heap.size+1]?=some (.cells #[.int .i64 m,.int .u64 g0,.int .u64 g1,.int .u64 g2,.int .u64 g3,.int .u64 p0,.int .u64 p1,.int .u64 p2,.int .u64 p3] 70 (0,0))/\wr.heap[w.heap.size+2]?=some (.cells #[.int .i64 0,.int .u64 0,.int .u64 0,.int .u64 0,.int .u64 0,.int .u64 0,.int .u64 0,.int .u64 0,.int .u64 0] 70 (0,0))/\Below w.heap.size w wr) (fun i _=>4 - (intOf i).toNat)
 case atStart=>exact ⟨0,by omega,rfl,hA1,hB1,hC1,hW1⟩
 case round=>
  clear hA1 hB1 hC1 hW1;obtain ⟨k,hk,rfl,hA0,hB,hC,hW⟩:=hrel;obtain ⟨hcB,hfB⟩:=zar hB;rcases (show k=0∨k=1∨k=2∨k=3∨k=4 by omega) with rfl | rfl | rfl | rfl | rfl
  ·have hA:wr.heap[w.heap.size]?=some (.cells #[.int .i64 n,.int .u64 f0,.int .u64 f1,.int .u64 f2,.int .u64 f3,.int .u64 o0,.int .u64 o1,.int .u64 o2,.int .u64 o3] 70 (0,0)):=hA0
   obtain ⟨hcA,hfA⟩:=zar hA;clear hA0
   go_wp2
   go_region
   go_wp2
   go_region
   go_wp2
   go_roundw
   case rel=>exact ⟨1,by omega,rfl,set2_0 _ _ hA,zbr _ _ (by simp) (by simp) hB,zbr _ _ (by simp) (by simp) hC,((hW.setCell (Nat.le_refl _) _).setCell (Nat.le_refl _) _).drew.drew⟩
   case measure=>simp [intOf]
  ·have hA:wr.heap[w.heap.size]?=some (.cells #[.int .i64 n,.int .u64 (bits .or .u64 f0 g0),.int .u64 f1,.int .u64 f2,.int .u64 f3,.int .u64 (bits .or .u64 (bits .andNot .u64 o0 g0) p0),.int .u64 o1,.int .u64 o2,.int .u64 o3] 70 (0,0)):=hA0
   obtain ⟨hcA,hfA⟩:=zar hA;clear hA0
   go_wp2
   go_region
   go_wp2
   go_region
   go_wp2
   go_roundw
   case rel=>exact ⟨2,by omega,rfl,set2_1 _ _ hA,zbr _ _ (by simp) (by simp) hB,zbr _ _ (by simp) (by simp) hC,((hW.setCell (Nat.le_refl _) _).setCell (Nat.le_refl _) _).drew.drew⟩
   case measure=>simp [intOf]
  ·have hA:wr.heap[w.heap.size]?=some (.cells #[.int .i64 n,.int .u64 (bits .or .u64 f0 g0),.int .u64 (bits .or .u64 f1 g1),.int .u64 f2,.int .u64 f3,.int .u64 (bits .or .u64 (bits .andNot .u64 o0 g0) p0),.int .u64 (bits .or .u64 (bits .andNot .u64 o1 g1) p1),.int .u64 o2,.int .u64 o3] 70 (0,0)):=hA0
   obtain ⟨hcA,hfA⟩:=zar hA;clear hA0
   go_wp2
   go_region
   go_wp2
   go_region
   go_wp2
   go_roundw
   case rel=>exact ⟨3,by omega,rfl,set2_2 _ _ hA,zbr _ _ (by simp) (by simp) hB,zbr _ _ (by simp) (by simp) hC,((hW.setCell (Nat.le_refl _) _).setCell (Nat.le_refl _) _).drew.drew⟩
   case measure=>simp [intOf]
  ·have hA:wr.heap[w.heap.size]?=some (.cells #[.int .i64 n,.int .u64 (bits .or .u64 f0 g0),.int .u64 (bits .or .u64 f1 g1),.int .u64 (bits .or .u64 f2 g2),.int .u64 f3,.int .u64 (bits .or .u64 (bits .andNot .u64 o0 g0) p0),.int .u64 (bits .or .u64 (bits .andNot .u64 o1 g1) p1),.int .u64 (bits .or .u64 (bits .andNot .u64 o2 g2) p2),.int .u64 o3] 70 (0,0)):=hA0
   obtain ⟨hcA,hfA⟩:=zar hA;clear hA0
   go_wp2
   go_region
   go_wp2
   go_region
   go_wp2
   go_roundw
   case rel=>exact ⟨4,by omega,rfl,set2_3 _ _ hA,zbr _ _ (by simp) (by simp) hB,zbr _ _ (by simp) (by simp) hC,((hW.setCell (Nat.le_refl _) _).setCell (Nat.le_refl _) _).drew.drew⟩
   case measure=>simp [intOf]
  ·have hA:wr.heap[w.heap.size]?=some (.cells #[.int .i64 n,.int .u64 (bits .or .u64 f0 g0),.int .u64 (bits .or .u64 f1 g1),.int .u64 (bits .or .u64 f2 g2),.int .u64 (bits .or .u64 f3 g3),.int .u64 (bits .or .u64 (bits .andNot .u64 o0 g0) p0),.int .u64 (bits .or .u64 (bits .andNot .u64 o1 g1) p1),.int .u64 (bits .or .u64 (bits .andNot .u64 o2 g2) p2),.int .u64 (bits .or .u64 (bits .andNot .u64 o3 g3) p3)] 70 (0,0)):=hA0
   obtain ⟨hcA,hfA⟩:=zar hA;obtain ⟨hcC,hfC⟩:=zar hC;clear hA0
   go_wp2
   refine bodyPost_ret (v:=cv n (bits .or .u64 f0 g0) (bits .or .u64 f1 g1) (bits .or .u64 f2 g2) (bits .or .u64 f3 g3) (bits .or .u64 (bits .andNot .u64 o0 g0) p0) (bits .or .u64 (bits .andNot .u64 o1 g1) p1) (bits .or .u64 (bits .andNot .u64 o2 g2) p2) (bits .or .u64 (bits .andNot .u64 o3 g3) p3)) ?_ rfl ⟨rfl,?_⟩
   ·exact zgk _ _ (w.heap.size+2) _ _ _ _ _ _ _ _ _ Tryz.results102 rfl (zer _ _ _ _ _ _ _ _ _ hC)
   ·exact zc1 _ _ _ _ _ _ _ _ _ hW (by omega)


theorem conv_any (W:World) (B:Nat) (v:Value) (t:List UInt8) (hown:W.ownsRow B 5 1 v t.length (bys t)) :
  (convert 145 9 v).run Tryz.prog W=.ok (.string ⟨t.toArray⟩) W:=by
 have h0:=hown;obtain ⟨_,h2⟩:=hown;rcases h2 with ⟨rfl,h2⟩ | ⟨g,cap,cur,rfl,h2⟩
 ·have hz:t=[]:=List.eq_nil_of_length_eq_zero (by simpa using h2)
  subst hz;exact run_convert_bytes_nil W _ 5 Tryz.underlying145 Tryz.underlying5 _ _ _ Tryz.underlying9
 ·exact zhv W B g cap t h0

theorem zr0 {w wr w1:World} {o:Obj} {e:TypeId} {size:Nat} {v:Value} {n:Nat} {xs:List Value} (hB:Below w.heap.size w wr) (hown:wr.ownsRow w.heap.size e size v n xs) (hg:(wr.alloc o).grownBy w1 v.ownBlock):Below w.heap.size w w1:=
 (belA hB o).grown hg (belA hB o).size (fun k h=>(hown.lt k h).1)

theorem bys_snoc (t:List UInt8) (b:UInt8):bys t++[.int .u8 (b.toNat:Int)]=bys (t++[b]):=by simp [bys]

theorem undrew {B:Nat} {a w:World} (h:Below B a.drew w):Below B a w:=⟨h.os,h.tape,h.output,h.size,h.block⟩
end Go.Proofs.YtmfakcfmkmppfaaGreatDoor.Tn
namespace Go.Proofs.YtmfakcfmkmppfaaGreatDoor.Tn

theorem zhy (x y:Nat) (hy:y < 18446744073709551616) (i:Nat):(x &&& (18446744073709551615 - y)).testBit i=(x.testBit i&&(decide (i < 64)&&!y.testBit i)):=by
 have h:18446744073709551615 - y=2 ^ 64 - (y+1):=by omega
 rw [Nat.testBit_and,h,Nat.testBit_two_pow_sub_succ (by exact hy)]

def wrT (c r:List UInt8):List UInt8:=List.zipWith (fun x y=>if y==120 then x else y) c r
theorem zf9 (f:UInt8->UInt8->UInt8) (a b:List UInt8) (h:a.length=b.length):(List.zipWith f a b).length=a.length:=by simp;omega
theorem zos (f:UInt8->UInt8->UInt8) (a b:List UInt8) (h:a.length=b.length) (k:Nat) (hk:k < a.length):(List.zipWith f a b)[k]?=some (f a[k] (b[k]'(by omega))):=by
 rw [List.getElem?_zipWith,List.getElem?_eq_getElem hk,List.getElem?_eq_getElem (show k < b.length by omega)]
theorem zor (f:UInt8->UInt8->UInt8) (a b:List UInt8) (h:a.length=b.length) (k:Nat) (hk:¬k < a.length):(List.zipWith f a b)[k]?=none:=by
 rw [List.getElem?_eq_none (by rw [zf9 f a b h];omega)]

theorem fx_wr (a b:List UInt8) (h:a.length=b.length) (k:Nat):fx (wrT a b) k=(fx a k || fx b k):=by
 by_cases hk:k < a.length
 ·have hb:k < b.length:=by omega
  simp only [fx,wrT,zos _ a b h k hk,List.getElem?_eq_getElem hk,List.getElem?_eq_getElem hb];generalize a[k]=x;generalize b[k]=y
  by_cases e:y=120 <;> simp [e]
 ·simp only [fx,wrT,zor _ a b h k hk]
  rw [List.getElem?_eq_none (by omega),List.getElem?_eq_none (by omega)];rfl
theorem on_wr (a b:List UInt8) (h:a.length=b.length) (k:Nat):on (wrT a b) k=((on a k&&!fx b k) || on b k):=by
 by_cases hk:k < a.length
 ·have hb:k < b.length:=by omega
  simp only [fx,on,wrT,zos _ a b h k hk,List.getElem?_eq_getElem hk,List.getElem?_eq_getElem hb];generalize a[k]=x;generalize b[k]=y
  by_cases e:y=120
  ·subst e;simp
  ·simp [e]
 ·simp only [fx,on,wrT,zor _ a b h k hk]
  rw [List.getElem?_eq_none (by omega),List.getElem?_eq_none (by omega)];rfl
theorem FW_wr (a b:List UInt8) (h:a.length=b.length) (w:Nat):bits .or .u64 (FW a w:Int) (FW b w:Int)=(FW (wrT a b) w:Nat):=by
 rw [u64_or_nat _ _ (ze5 _ _) (ze5 _ _)]
 congr 1
 apply Nat.eq_of_testBit_eq;intro i;rw [Nat.testBit_or,zcd,zcd,zcd,fx_wr a b h]
 by_cases hi:i < 64 <;> simp [hi]
theorem OW_wr (a b:List UInt8) (h:a.length=b.length) (w:Nat):bits .or .u64 (bits .andNot .u64 (OW a w:Int) (FW b w:Int)) (OW b w:Int)=(OW (wrT a b) w:Nat):=by
 rw [u64_andNot_nat _ _ (zfv _ _) (ze5 _ _),u64_or_nat _ _ (and_lt _ (zfv _ _)) (zfv _ _)]
 congr 1
 apply Nat.eq_of_testBit_eq;intro i;rw [Nat.testBit_or,zhy _ _ (ze5 _ _),zc8,zc8,zc8,zcd,on_wr a b h]
 by_cases hi:i < 64 <;> simp [hi]
def wtT (c r:List UInt8):List UInt8:=if fitB c r=true then wrT c r else []
theorem take_zip (f:UInt8->UInt8->UInt8) (a b:List UInt8) (h:a.length=b.length) (k:Nat) (hk:k < a.length) :
  (List.zipWith f a b).take (k+1)=(List.zipWith f a b).take k++[f a[k] (b[k]'(by omega))]:=by
 have hl:k < (List.zipWith f a b).length:=by rw [zf9 f a b h];exact hk
 rw [List.take_succ_eq_append_getElem hl]
 congr 2
 rw [List.getElem_zipWith]
theorem take_all (f:UInt8->UInt8->UInt8) (a b:List UInt8) (h:a.length=b.length):(List.zipWith f a b).take a.length=List.zipWith f a b:=by
 apply List.take_of_length_le;rw [zf9 f a b h];exact Nat.le_refl _

end Go.Proofs.YtmfakcfmkmppfaaGreatDoor.Tn
namespace Go.Proofs.YtmfakcfmkmppfaaGreatDoor.Tn
open Go.RowKit
theorem wi_eq (a b:List UInt8) (ha:good a=true) (hb:good b=true):(agB a b&&(mtT a b==a))=wiB a b:=by
 unfold wiB mtT;cases hf:fitB a b
 ·have:agB a b=false:=by unfold agB;rw [hf];rfl
  rw [this];rfl
 ·have hl:=zdg hf
  rw [Bool.true_and,Bool.eq_iff_iff,allTo_iff];constructor
  ·intro h k hk
   simp only [Bool.and_eq_true] at h;rw [if_pos h.1,beq_iff_eq] at h;have hm:=zeu a b hl k hk;rw [h.2,List.getElem?_eq_getElem hk] at hm;have hc:=zr8 h.1 k;have hkb:k < b.length:=by omega
   have ta:=zde ha k hk;have tb:=zde hb k hkb;simp only [cfl,fx,on,List.getElem?_eq_getElem hk,List.getElem?_eq_getElem hkb] at hc ⊢;generalize a[k]=x at *;generalize b[k]=y at *;simp [tri] at ta tb;rcases ta with (rfl | rfl) | rfl <;> rcases tb with (rfl | rfl) | rfl <;> simp_all
  ·intro h
   have hag:agB a b=true:=by
    unfold agB;rw [hf,Bool.true_and,allTo_iff];intro k hk;have hkb:k < b.length:=by omega
    have hh:=h k hk;simp only [cfl,fx,on,List.getElem?_eq_getElem hk,List.getElem?_eq_getElem hkb] at hh ⊢;generalize a[k]=x at *;generalize b[k]=y at *;simp at hh;rcases hh with rfl | rfl <;> simp
   rw [hag,Bool.true_and,if_pos rfl,beq_iff_eq];apply List.ext_getElem?;intro k
   by_cases hk:k < a.length
   ·have hkb:k < b.length:=by omega
    have hh:=h k hk;rw [zeu a b hl k hk,List.getElem?_eq_getElem hk];simp only [List.getElem?_eq_getElem hk,List.getElem?_eq_getElem hkb] at hh;generalize a[k]=x at *;generalize b[k]=y at *;simp at hh;rcases hh with rfl | rfl <;> by_cases e:x=120 <;> simp [e]
   ·rw [List.getElem?_eq_none (by rw [zet a b hl];omega),List.getElem?_eq_none (by omega)]

theorem zom (a b:List UInt8) (w:World) (hq:agB a b=true) :
  Calls Tryz.prog 125 #[cubeV a,cubeV b] w fun e w'=>e=.returned (cubeV (mtT a b))/\Below w.heap.size w w':=by
 unfold mtT;rw [hq];have hl:=zdg (agB_fit hq);have hc:=zr8 hq;refine (zol _ _ _ _ _ _ _ _ _ _ _ _ _ _ _ _ _ _ w).mono ?_;rintro e w' ⟨rfl,hb⟩;refine ⟨?_,hb⟩;rw [zi7 a b hl,zi7 a b hl,zi7 a b hl,zi7 a b hl,zi6 a b hl hc,zi6 a b hl hc,zi6 a b hl hc,zi6 a b hl hc,if_pos rfl];unfold cubeV;rw [zet a b hl]

theorem common_D (a b M:List UInt8) (w:World) (hM:mtT a b=M) (hq:agB a b=true) :
  Calls Tryz.prog 125 #[cubeV a,cubeV b] w fun e w'=>e=.returned (cubeV M)/\Below w.heap.size w w':=by
 subst hM;exact zom a b w hq

theorem kpb {a W:World} {g:Nat} {o:Obj} (h:Below a.heap.size a W) (hg:a.heap[g]?=some o):W.heap[g]?=some o:=by
 have hlt:g < a.heap.size:=by
  rcases Nat.lt_or_ge g a.heap.size with h1 | h1
  ·exact h1
  ·rw [Array.getElem?_eq_none h1] at hg;cases hg
 rw [h.block g hlt];exact hg
theorem und {a W:World} (h:Below a.drew.heap.size a.drew W):Below a.heap.size a W:=undrew h

theorem alw_0 (w:World) (o1 o2:Obj):((w.alloc o1).alloc o2).heap[w.heap.size]?=some o1:=by
 rw [Below.heap_alloc _ _ _ (by simp)];exact zam _ _
theorem alw_1 (w:World) (o1 o2:Obj):((w.alloc o1).alloc o2).heap[w.heap.size+1]?=some o2:=by
 have:=zam (w.alloc o1) o2
 simpa using this

def dwB (a b:List UInt8) (k:Nat):Bool:=bits .andNot .u64 (FW b k:Int) (FW a k:Int) != 0
theorem wi_dw {a b:List UInt8} (h:wiB a b=true) (k:Nat):dwB a b k=false:=by
 unfold wiB at h;obtain ⟨hf,h⟩:=Bool.and_eq_true_iff.1 h;have hl:=zdg hf;rw [allTo_iff] at h;have e:FW b k &&& (18446744073709551615 - FW a k)=0:=by
  apply Nat.eq_of_testBit_eq;intro i;rw [zhy _ _ (ze5 _ _),zcd,zcd,Nat.zero_testBit]
  by_cases hi:i < 64
  ·by_cases hp:64*k+i < a.length
   ·have hb:64*k+i < b.length:=by omega
    have hh:=h _ hp;simp only [fx,List.getElem?_eq_getElem hp,List.getElem?_eq_getElem hb] at hh ⊢;generalize a[64*k+i]=x at *;generalize b[64*k+i]=y at *;simp at hh;rcases hh with rfl | rfl
    ·simp
    ·by_cases e:x=120 <;> simp [e]
   ·have hb:b.length<=64*k+i:=by omega
    simp [fx,List.getElem?_eq_none hb]
  ·simp [hi]
 unfold dwB;rw [u64_andNot_nat _ _ (ze5 _ _) (ze5 _ _),e];rfl
theorem wi_all (a b:List UInt8):((!dwB a b 0&&!dwB a b 1&&!dwB a b 2&&!dwB a b 3)&&wiB a b)=wiB a b:=by
 cases h:wiB a b
 ·simp
 ·simp [wi_dw h]

theorem zlx {P:Program} {C:Code} {Q:Exit->Act->World->Prop} {a:Act} {W:World} {n:Nat} (H:∀ W3,Below W.heap.size W W3->Code.wp P C Q a W3):Code.wp P C Q a (W.drewN n):=H _ (zai _ _ _)
set_option maxHeartbeats 2000000 in
theorem zkq (a b M:List UInt8) (q d0 d1 d2 d3:Bool) (w:World) (ha:good a=true) (hgM:good M=true) (hM0:mtT a b=M) (hq0:agB a b=q) (h0:dwB a b 0=d0) (h1:dwB a b 1=d1) (h2:dwB a b 2=d2) (h3:dwB a b 3=d3) :
  Calls Tryz.prog 114 #[cubeV a,cubeV b] w fun e w'=>e=.returned (.bool ((!d0&&!d1&&!d2&&!d3)&&(q&&(M==a))))/\Below w.heap.size w w':=by
 have hM:Hid (mtT a b=M):=hM0;have hq:Hid (agB a b=q):=hq0;clear hM0 hq0;unfold dwB at h0 h1 h2 h3;have hE:=eql_cube M a hgM ha;unfold cubeV cv;obtain ⟨W2,hW2⟩:=ex ((w.alloc (.cells #[.int .i64 (a.length:Int),.int .u64 (FW a 0:Int),.int .u64 (FW a 1:Int),.int .u64 (FW a 2:Int),.int .u64 (FW a 3:Int),.int .u64 (OW a 0:Int),.int .u64 (OW a 1:Int),.int .u64 (OW a 2:Int),.int .u64 (OW a 3:Int)] 70 (0,0))).alloc (.cells #[.int .i64 (b.length:Int),.int .u64 (FW b 0:Int),.int .u64 (FW b 1:Int),.int .u64 (FW b 2:Int),.int .u64 (FW b 3:Int),.int .u64 (OW b 0:Int),.int .u64 (OW b 1:Int),.int .u64 (OW b 2:Int),.int .u64 (OW b 3:Int)] 70 (0,0)));have hA:W2.heap[w.heap.size]?=some (.cells #[.int .i64 (a.length:Int),.int .u64 (FW a 0:Int),.int .u64 (FW a 1:Int),.int .u64 (FW a 2:Int),.int .u64 (FW a 3:Int),.int .u64 (OW a 0:Int),.int .u64 (OW a 1:Int),.int .u64 (OW a 2:Int),.int .u64 (OW a 3:Int)] 70 (0,0)):=by rw [<-hW2];exact alw_0 _ _ _
 have hB:W2.heap[w.heap.size+1]?=some (.cells #[.int .i64 (b.length:Int),.int .u64 (FW b 0:Int),.int .u64 (FW b 1:Int),.int .u64 (FW b 2:Int),.int .u64 (FW b 3:Int),.int .u64 (OW b 0:Int),.int .u64 (OW b 1:Int),.int .u64 (OW b 2:Int),.int .u64 (OW b 3:Int)] 70 (0,0)):=by rw [<-hW2];exact alw_1 _ _ _
 have hBW:Below w.heap.size w W2:=by rw [<-hW2];exact belA (belA (Below.refl _ _) _) _
 obtain ⟨hcA,hfA⟩:=zar hA;obtain ⟨hcB,hfB⟩:=zar hB;have KA:Hid (∀ W,Below W2.heap.size W2 W->(∀ j,W.cell? ⟨w.heap.size,j,none⟩=(#[.int .i64 (a.length:Int),.int .u64 (FW a 0:Int),.int .u64 (FW a 1:Int),.int .u64 (FW a 2:Int),.int .u64 (FW a 3:Int),.int .u64 (OW a 0:Int),.int .u64 (OW a 1:Int),.int .u64 (OW a 2:Int),.int .u64 (OW a 3:Int)]:Array Value)[j]?)/\(∀ j,W.cell? ⟨w.heap.size+1,j,none⟩=(#[.int .i64 (b.length:Int),.int .u64 (FW b 0:Int),.int .u64 (FW b 1:Int),.int .u64 (FW b 2:Int),.int .u64 (FW b 3:Int),.int .u64 (OW b 0:Int),.int .u64 (OW b 1:Int),.int .u64 (OW b 2:Int),.int .u64 (OW b 3:Int)]:Array Value)[j]?)):=fun W hW=>⟨(zar (kpb hW hA)).1,(zar (kpb hW hB)).1⟩;cases q
 ·go_enter Tryz.func114,Tryz.ntmps114
  go_wp2
  clear hW2 hA hB;refine wp_loop_rounds 5 ?_;rw [rounds_succ]
  go_wp2
  go_quiet (fail)
  cases d0
  rotate_left
  ·go_wp2
   go_ret
   exact ⟨rfl,by first | exact hBW | exact hBW.trans (zai _ _ _) | exact (hBW.trans (zai _ _ _)).trans (zai _ _ _)⟩
  go_wp2
  rw [rounds_succ]
  go_wp2
  go_quiet (fail)
  cases d1
  rotate_left
  ·go_wp2
   go_ret
   exact ⟨rfl,by first | exact hBW | exact hBW.trans (zai _ _ _) | exact (hBW.trans (zai _ _ _)).trans (zai _ _ _)⟩
  go_wp2
  rw [rounds_succ]
  go_wp2
  go_quiet (fail)
  cases d2
  rotate_left
  ·go_wp2
   go_ret
   exact ⟨rfl,by first | exact hBW | exact hBW.trans (zai _ _ _) | exact (hBW.trans (zai _ _ _)).trans (zai _ _ _)⟩
  go_wp2
  rw [rounds_succ]
  go_wp2
  go_quiet (fail)
  cases d3
  rotate_left
  ·go_wp2
   go_ret
   exact ⟨rfl,by first | exact hBW | exact hBW.trans (zai _ _ _) | exact (hBW.trans (zai _ _ _)).trans (zai _ _ _)⟩
  go_wp2
  rw [rounds_succ]
  go_wp2
  refine zlx (fun W3 hB3=>?_);obtain ⟨hc3A,hc3B⟩:=KA.out W3 hB3;have K3:Hid (∀ W,Below W3.heap.size W3 W->(∀ j,W.cell? ⟨w.heap.size,j,none⟩=(#[.int .i64 (a.length:Int),.int .u64 (FW a 0:Int),.int .u64 (FW a 1:Int),.int .u64 (FW a 2:Int),.int .u64 (FW a 3:Int),.int .u64 (OW a 0:Int),.int .u64 (OW a 1:Int),.int .u64 (OW a 2:Int),.int .u64 (OW a 3:Int)]:Array Value)[j]?)/\(∀ j,W.cell? ⟨w.heap.size+1,j,none⟩=(#[.int .i64 (b.length:Int),.int .u64 (FW b 0:Int),.int .u64 (FW b 1:Int),.int .u64 (FW b 2:Int),.int .u64 (FW b 3:Int),.int .u64 (OW b 0:Int),.int .u64 (OW b 1:Int),.int .u64 (OW b 2:Int),.int .u64 (OW b 3:Int)]:Array Value)[j]?)):=fun W hW=>KA.out W (zhx hB3 hW);have HB3:Hid (Below w.heap.size w W3):=zhx hBW hB3;clear hB3 hcA hcB hfA hfB KA hBW h0 h1 h2 h3
  go_region_with (go_at_call 124;refine (zm8 a b false _ ha hq.out).mono ?_;rintro e w1 ⟨rfl,hb1⟩)
  all_goals
   go_wp2
   go_ret
   exact ⟨rfl,zhx HB3.out (by first | exact und hb1 | exact hb1)⟩
 ·go_enter Tryz.func114,Tryz.ntmps114
  go_wp2
  clear hW2 hA hB;refine wp_loop_rounds 5 ?_;rw [rounds_succ]
  go_wp2
  go_quiet (fail)
  cases d0
  rotate_left
  ·go_wp2
   go_ret
   exact ⟨rfl,by first | exact hBW | exact hBW.trans (zai _ _ _) | exact (hBW.trans (zai _ _ _)).trans (zai _ _ _)⟩
  go_wp2
  rw [rounds_succ]
  go_wp2
  go_quiet (fail)
  cases d1
  rotate_left
  ·go_wp2
   go_ret
   exact ⟨rfl,by first | exact hBW | exact hBW.trans (zai _ _ _) | exact (hBW.trans (zai _ _ _)).trans (zai _ _ _)⟩
  go_wp2
  rw [rounds_succ]
  go_wp2
  go_quiet (fail)
  cases d2
  rotate_left
  ·go_wp2
   go_ret
   exact ⟨rfl,by first | exact hBW | exact hBW.trans (zai _ _ _) | exact (hBW.trans (zai _ _ _)).trans (zai _ _ _)⟩
  go_wp2
  rw [rounds_succ]
  go_wp2
  go_quiet (fail)
  cases d3
  rotate_left
  ·go_wp2
   go_ret
   exact ⟨rfl,by first | exact hBW | exact hBW.trans (zai _ _ _) | exact (hBW.trans (zai _ _ _)).trans (zai _ _ _)⟩
  go_wp2
  rw [rounds_succ]
  go_wp2
  refine zlx (fun W3 hB3=>?_);obtain ⟨hc3A,hc3B⟩:=KA.out W3 hB3;have K3:Hid (∀ W,Below W3.heap.size W3 W->(∀ j,W.cell? ⟨w.heap.size,j,none⟩=(#[.int .i64 (a.length:Int),.int .u64 (FW a 0:Int),.int .u64 (FW a 1:Int),.int .u64 (FW a 2:Int),.int .u64 (FW a 3:Int),.int .u64 (OW a 0:Int),.int .u64 (OW a 1:Int),.int .u64 (OW a 2:Int),.int .u64 (OW a 3:Int)]:Array Value)[j]?)/\(∀ j,W.cell? ⟨w.heap.size+1,j,none⟩=(#[.int .i64 (b.length:Int),.int .u64 (FW b 0:Int),.int .u64 (FW b 1:Int),.int .u64 (FW b 2:Int),.int .u64 (FW b 3:Int),.int .u64 (OW b 0:Int),.int .u64 (OW b 1:Int),.int .u64 (OW b 2:Int),.int .u64 (OW b 3:Int)]:Array Value)[j]?)):=fun W hW=>KA.out W (zhx hB3 hW);have HB3:Hid (Below w.heap.size w W3):=zhx hBW hB3;clear hB3 hcA hcB hfA hfB KA hBW h0 h1 h2 h3
  go_region_held3 (fun W=>(∀ j,W.cell? ⟨w.heap.size,j,none⟩=(#[.int .i64 (a.length:Int),.int .u64 (FW a 0:Int),.int .u64 (FW a 1:Int),.int .u64 (FW a 2:Int),.int .u64 (FW a 3:Int),.int .u64 (OW a 0:Int),.int .u64 (OW a 1:Int),.int .u64 (OW a 2:Int),.int .u64 (OW a 3:Int)]:Array Value)[j]?)/\(∀ j,W.cell? ⟨w.heap.size+1,j,none⟩=(#[.int .i64 (b.length:Int),.int .u64 (FW b 0:Int),.int .u64 (FW b 1:Int),.int .u64 (FW b 2:Int),.int .u64 (FW b 3:Int),.int .u64 (OW b 0:Int),.int .u64 (OW b 1:Int),.int .u64 (OW b 2:Int),.int .u64 (OW b 3:Int)]:Array Value)[j]?)) (first | exact ⟨hc3A,hc3B⟩ | exact K3.out _ (zhx (und hb1) hb2) | exact K3.out _ (und hb1) | exact K3.out _ hb1) (first | (go_at_call 125;refine (common_D a b M _ hM.out hq.out).mono ?_;rintro e w2 ⟨rfl,hb2⟩;unfold cubeV cv) | (go_at_call 124;refine (zm8 a b true _ ha hq.out).mono ?_;rintro e w1 ⟨rfl,hb1⟩))
  go_wp2
  go_ret
  exact ⟨rfl,zhx HB3.out (zhx (und hb1) hb2)⟩

theorem within_any (a b:List UInt8) (w:World) (ha:good a=true) (hb:good b=true) :
  Calls Tryz.prog 114 #[cubeV a,cubeV b] w fun e w'=>e=.returned (.bool (wiB a b))/\Below w.heap.size w w':=by
 refine (zkq a b _ _ _ _ _ _ w ha (good_mtT a b ha hb) rfl rfl rfl rfl rfl rfl).mono ?_;rintro e w' ⟨rfl,h⟩;exact ⟨by rw [wi_eq a b ha hb,wi_all a b],h⟩

set_option maxHeartbeats 400000 in
theorem write_no (a b:List UInt8) (w:World) (hq0:fitB a b=false) :
  Calls Tryz.prog 102 #[cubeV a,cubeV b] w fun e w'=>e=.returned (cubeV [])/\Below w.heap.size w w':=by
 have hq:Hid (fitB a b=false):=hq0;clear hq0;rw [ze1];unfold cubeV cv
 go_enter Tryz.func102,Tryz.ntmps102
 go_wp2_with (go_at_call 115;refine (zmw a b false _ hq.out).mono ?_;rintro e w1 ⟨rfl,hb1⟩;obtain ⟨hc1,hf1⟩:=bcell hb1)
 have hk:w1.heap[w.heap.size+2]?=some (.cells #[.int .i64 0,.int .u64 0,.int .u64 0,.int .u64 0,.int .u64 0,.int .u64 0,.int .u64 0,.int .u64 0,.int .u64 0] 70 (0,0)):=by
  rw [hb1.block _ (by simp)];exact zfk _ _ _ _
 refine bodyPost_ret (v:=cv 0 0 0 0 0 0 0 0 0) ?_ rfl ⟨rfl,?_⟩
 ·exact zgk _ _ (w.heap.size+2) _ _ _ _ _ _ _ _ _ Tryz.results102 rfl (zer _ _ _ _ _ _ _ _ _ hk)
 ·exact zc1 _ _ _ _ _ _ _ _ _ (zeb (zeb (zeb hb1))) (by omega)

theorem write_any (a b:List UInt8) (w:World) :
  Calls Tryz.prog 102 #[cubeV a,cubeV b] w fun e w'=>e=.returned (cubeV (wtT a b))/\Below w.heap.size w w':=by
 unfold wtT;cases hq:fitB a b
 ·exact write_no a b w hq
 ·have hl:=zdg hq
  refine (zo3 _ _ _ _ _ _ _ _ _ _ _ _ _ _ _ _ _ _ w (fun W=>zmw a b true W hq)).mono ?_;rintro e w' ⟨rfl,hb⟩;refine ⟨?_,hb⟩;rw [FW_wr a b hl,FW_wr a b hl,FW_wr a b hl,FW_wr a b hl,OW_wr a b hl,OW_wr a b hl,OW_wr a b hl,OW_wr a b hl,if_pos rfl];have e:(wrT a b).length=a.length:=zf9 _ a b hl;unfold cubeV;rw [e]

theorem zbi {W w':World} {b:Nat} {o:Obj} (hb:Below W.heap.size W w') (h:W.heap[b]?=some o):w'.heap[b]?=some o:=(hb.block b (zay h)).trans h
theorem zax {W:World} {b:Nat} {o:Obj} (h:W.heap[b]?=some o) (O:Obj):(W.alloc O).heap[b]?=some o:=(Below.heap_alloc _ _ _ (zay h)).trans h


def okH (t h:List UInt8) (k:Nat):Bool:=match t[k]?,h[k]? with | some x,some d=>(d==48 || d==49)&&(x==120 || x==d) | _,_=>true
def hasB (t h:List UInt8):Bool:=!t.isEmpty&&(t.length==h.length)&&allTo (okH t h) t.length

theorem zf8 (x:UInt8) (n:Nat) (hn:n < 256):((x.toNat:Int) != (n:Int))=!(x==UInt8.ofNat n):=by
  unfold bne
  congr 1
  rw [Bool.eq_iff_iff,beq_iff_eq,beq_iff_eq];constructor
  · intro e;have:x.toNat=n:=by omega
    rw [<-this];simp
  · intro e;subst e;simp [UInt8.toNat_ofNat',Nat.mod_eq_of_lt hn]

theorem zru (x y:UInt8):((x.toNat:Int) != (y.toNat:Int))=!(x==y):=by
  unfold bne
  congr 1
  rw [Bool.eq_iff_iff,beq_iff_eq,beq_iff_eq];constructor
  · intro e;exact UInt8.toNat_inj.1 (by omega)
  · intro e;subst e;rfl

theorem okH_eq (t:List UInt8) (s:ByteArray) (k:Nat) (hk:k < t.length) (hks:k < s.size) (p1 p2 p3 p4:Bool) (n1:((s[k].toNat:Int) != 48)=p1) (n2:((s[k].toNat:Int) != 49)=p2) (n3:((t[k].toNat:Int) != 120)=p3) (n4:((t[k].toNat:Int) != (s[k].toNat:Int))=p4) :
    okH t s.data.toList k=!((p1&&p2) || (p3&&p4)):=by
  have e1:=zf8 s[k] 48 (by decide);have e2:=zf8 s[k] 49 (by decide);have e3:=zf8 t[k] 120 (by decide);have e4:=zru t[k] s[k];have hs:s.data.toList[k]?=some s[k]:=by rw [List.getElem?_eq_getElem (by simpa using hks)];rfl
  simp only [okH,hs,List.getElem?_eq_getElem hk];subst n1 n2 n3 n4;have f1:((s[k].toNat:Int) != 48)=!(s[k]==48):=e1;have f2:((s[k].toNat:Int) != 49)=!(s[k]==49):=e2;have f3:((t[k].toNat:Int) != 120)=!(t[k]==120):=e3;rw [f1,f2,f3,e4];cases (s[k]==48) <;> cases (s[k]==49) <;> cases (t[k]==120) <;> cases (t[k]==s[k]) <;> rfl

set_option maxHeartbeats 400000 in
theorem has_off (t:List UInt8) (s:ByteArray) (w:World) (hs:s.size<=maxLen) (h:t.length=0∨s.size≠t.length) :
    Calls Tryz.prog 54 #[cubeV t,.string s] w fun e w'=>e=.returned (.bool false)/\Below w.heap.size w w':=by
  unfold maxLen at hs;unfold cubeV cv
  by_cases h0:t.length=0
  · have b0:((t.length:Int)==0)=true:=by rw [h0];rfl
    clear h h0
    go_enter Tryz.func54,Tryz.ntmps54
    go_wp2
    go_ret
    exact ⟨rfl,(Below.refl _ _).alloc (Nat.le_refl _) _⟩
  · have b0:((t.length:Int)==0)=false:=by simp;intro e;subst e;simp at h0
    have b1:((s.size:Int) != (t.length:Int))=true:=by simp;omega
    clear h h0
    go_enter Tryz.func54,Tryz.ntmps54
    go_wp2
    go_ret
    exact ⟨rfl,(Below.refl _ _).alloc (Nat.le_refl _) _⟩

theorem zql {p:Nat->Bool} {k:Nat} {q:Bool} (h:∀ j,j < k->p j=true) (hk:p k=q) (hq:q=true:=by rfl):∀ j,j < k+1->p j=true:=by
  intro j hj
  by_cases e:j=k
  · subst e;rw [hk,hq]
  · exact h j (by omega)

set_option maxHeartbeats 2000000 in
theorem has_loop (t:List UInt8) (s:ByteArray) (w:World) (hg:good t=true) (h0:1<=t.length) (hsz:s.size=t.length) :
    Calls Tryz.prog 54 #[cubeV t,.string s] w fun e w'=>e=.returned (.bool (allTo (okH t s.data.toList) t.length))/\Below w.heap.size w w':=by
  have hl:=zdf hg;have HS:Hid (s.size=t.length):=hsz;have b0:((t.length:Int)==0)=false:=by simp;intro e;subst e;simp at h0
  have b1:((s.size:Int) != (t.length:Int))=false:=by simp [hsz]
  clear hsz;unfold cubeV cv
  go_enter Tryz.func54,Tryz.ntmps54
  go_wp2
  clear b0 b1
  go_loopw [20] (fun i wr=>∃ k:Nat,k<=t.length/\i=.int .i64 k/\Hid (∀ j,j < k->okH t s.data.toList j=true)/\Below (w.heap.size+1) (w.alloc (.cells #[.int .i64 (t.length:Int),.int .u64 (FW t 0:Int),.int .u64 (FW t 1:Int),.int .u64 (FW t 2:Int),.int .u64 (FW t 3:Int),.int .u64 (OW t 0:Int),.int .u64 (OW t 1:Int),.int .u64 (OW t 2:Int),.int .u64 (OW t 3:Int)] 70)) wr) (fun i _=>t.length - (intOf i).toNat)
  case atStart=>exact ⟨0,Nat.zero_le _,rfl,fun j h=>by omega,Below.refl _ _⟩
  case round=>
    obtain ⟨k,hk,rfl,hok,hB⟩:=hrel;have hsz1:w.heap.size+1<=wr.heap.size:=by have:=hB.size;simpa using this
    by_cases hlt:k < t.length
    · have hc:∀ b o,b < w.heap.size+1->wr.cell? ⟨b,o,none⟩=(w.alloc (.cells #[.int .i64 (t.length:Int),.int .u64 (FW t 0:Int),.int .u64 (FW t 1:Int),.int .u64 (FW t 2:Int),.int .u64 (FW t 3:Int),.int .u64 (OW t 0:Int),.int .u64 (OW t 1:Int),.int .u64 (OW t 2:Int),.int .u64 (OW t 3:Int)] 70)).cell? ⟨b,o,none⟩:=fun b o h=>hB.cell (p:=⟨b,o,none⟩) h;have hks:k < s.size:=by rw [HS.out];exact hlt
      have i0:(0:Int)<=(k:Int):=by omega
      have i1:(k:Int) < (s.size:Int):=by omega
      obtain ⟨p1,n1⟩:=ex (((s[k].toNat:Int) != 48));obtain ⟨p2,n2⟩:=ex (((s[k].toNat:Int) != 49));obtain ⟨p3,n3⟩:=ex (((t[k].toNat:Int) != 120));obtain ⟨p4,n4⟩:=ex (((t[k].toNat:Int) != (s[k].toNat:Int)));have hH:Hid (okH t s.data.toList k=!((p1&&p2) || (p3&&p4))):=okH_eq t s k hlt hks p1 p2 p3 p4 n1 n2 n3 n4
      go_wp2
      have hS:∀ j,wr.cell? ⟨w.heap.size,j,none⟩=(#[.int .i64 (t.length:Int),.int .u64 (FW t 0:Int),.int .u64 (FW t 1:Int),.int .u64 (FW t 2:Int),.int .u64 (FW t 3:Int),.int .u64 (OW t 0:Int),.int .u64 (OW t 1:Int),.int .u64 (OW t 2:Int),.int .u64 (OW t 3:Int)]:Array Value)[j]?:=fun j=>by rw [hc _ _ (by omega)];simp
      go_region_held3 (fun W=>∀ j,W.cell? ⟨w.heap.size,j,none⟩=(#[.int .i64 (t.length:Int),.int .u64 (FW t 0:Int),.int .u64 (FW t 1:Int),.int .u64 (FW t 2:Int),.int .u64 (FW t 3:Int),.int .u64 (OW t 0:Int),.int .u64 (OW t 1:Int),.int .u64 (OW t 2:Int),.int .u64 (OW t 3:Int)]:Array Value)[j]?) (first | exact hS | (intro j;exact (hb2.cell (p:=⟨w.heap.size,j,none⟩) (by simp;omega)).trans (hS j))) (first | (go_at_call 81;refine (at_any t _ k _ hg rfl hlt).mono ?_;rintro e w2 ⟨rfl,hb2⟩))
      all_goals
        have hB2:=hB.trans ((undrew hb2).mono hsz1);clear hS hc hb2 hB;cases p1 <;> cases p2 <;> cases p3 <;> cases p4
        all_goals
          go_wp2
          first
            | (have hF : okH t s.data.toList k = false := hH.out
               have hF2 := zen (n := t.length) k hlt hF
               go_ret
               refine ⟨?_, ((Below.refl _ _).alloc (Nat.le_refl _) _).trans (hB2.mono (by omega))⟩;rw [hF2];rfl)
            | (have hF : okH t s.data.toList k = true := hH.out
               have hF2 := zql hok.out hF
               go_roundw
               case rel => exact ⟨k + 1, by omega, by go_num, hF2, hB2⟩
               case measure => simp [intOf]; omega)
    · have hkn:k=t.length:=by omega
      have hA:Hid (allTo (okH t s.data.toList) t.length=true):=(allTo_iff _ _).2 (fun j hj=>hok.out j (by omega));clear hok
      go_wp2
      go_ret
      exact ⟨by rw [hA.out];rfl,((Below.refl _ _).alloc (Nat.le_refl _) _).trans (hB.mono (by omega))⟩

theorem has_any (t:List UInt8) (s:ByteArray) (w:World) (hg:good t=true) (hs:s.size<=maxLen) :
    Calls Tryz.prog 54 #[cubeV t,.string s] w fun e w'=>e=.returned (.bool (hasB t s.data.toList))/\Below w.heap.size w w':=by
  have hlen:s.data.toList.length=s.size:=by simp
  unfold hasB
  by_cases h:t.length=0∨s.size≠t.length
  · have e:(!t.isEmpty&&(t.length==s.data.toList.length))=false:=by
      rw [hlen];rcases h with h | h
      · have:t=[]:=List.eq_nil_of_length_eq_zero h;subst this;rfl
      · have:(t.length==s.size)=false:=by simp;omega
        rw [this];simp
    rw [e];exact has_off t s w hs h
  · have e:(!t.isEmpty&&(t.length==s.data.toList.length))=true:=by
      rw [hlen];cases t with
      | nil=>simp at h
      | cons x l=>simp at h ⊢;omega
    rw [e,Bool.true_and];exact has_loop t s w hg (by omega) (by omega)
end Go.Proofs.YtmfakcfmkmppfaaGreatDoor.Tn
namespace Go.Proofs.YtmfakcfmkmppfaaGreatDoor.Nt
open Go.RowKit Go.Shelf
def zcp (t:List UInt8):List Value:=[.int .i64 (t.length:Int),.int .u64 (Tn.FW t 0:Int),.int .u64 (Tn.FW t 1:Int),.int .u64 (Tn.FW t 2:Int),.int .u64 (Tn.FW t 3:Int),.int .u64 (Tn.OW t 0:Int),.int .u64 (Tn.OW t 1:Int),.int .u64 (Tn.OW t 2:Int),.int .u64 (Tn.OW t 3:Int)]
theorem cubC_len (t:List UInt8):(zcp t).length=9:=rfl
theorem cubV (t:List UInt8):Tn.cubeV t=.agg (zcp t).toArray:=rfl
theorem zf5 (t:List UInt8):∀ u∈zcp t,u.oneCell'=true:=by
 intro u hu;simp only [zcp,List.mem_cons,List.not_mem_nil,or_false] at hu;rcases hu with rfl | rfl | rfl | rfl | rfl | rfl | rfl | rfl | rfl <;> rfl
def C9 (t:List UInt8) (a0 a1 a2 a3 a4 a5 a6 a7 a8:Int):Prop:=zcp t=[.int .i64 a0,.int .u64 a1,.int .u64 a2,.int .u64 a3,.int .u64 a4,.int .u64 a5,.int .u64 a6,.int .u64 a7,.int .u64 a8]
theorem zbz (t:List UInt8):∃ a0 a1 a2 a3 a4 a5 a6 a7 a8,C9 t a0 a1 a2 a3 a4 a5 a6 a7 a8:=⟨_,_,_,_,_,_,_,_,_,rfl⟩
theorem C9.agg {t:List UInt8} {a0 a1 a2 a3 a4 a5 a6 a7 a8:Int} (h:C9 t a0 a1 a2 a3 a4 a5 a6 a7 a8):Tn.cubeV t=.agg #[.int .i64 a0,.int .u64 a1,.int .u64 a2,.int .u64 a3,.int .u64 a4,.int .u64 a5,.int .u64 a6,.int .u64 a7,.int .u64 a8]:=by
 rw [cubV,show zcp t=_ from h]
def stC (s:Int×List UInt8):List Value:=.int .i64 s.1 :: zcp s.2
theorem zef (s:Int×List UInt8):(stC s).length=10:=rfl
theorem zpk (s:Int×List UInt8):∀ u∈stC s,u.oneCell'=true:=by
 intro u hu;rcases List.mem_cons.1 hu with rfl | h
 ·rfl
 ·exact zf5 s.2 u h
def asC (s:Int×List UInt8):List Value:=[.int .i64 s.1,.string ⟨s.2.toArray⟩]
theorem zr2 (s:Int×List UInt8):(asC s).length=2:=rfl
theorem asC_one (s:Int×List UInt8):∀ u∈asC s,u.oneCell'=true:=by
 intro u hu;simp only [asC,List.mem_cons,List.not_mem_nil,or_false] at hu;rcases hu with rfl | rfl <;> rfl
def zfi (b:UInt8):Bool:=b==48 || b==49
def HdP (bits:Int) (h:List UInt8):Prop:=(h.length:Int)=bits/\h.all zfi=true
theorem zci {bits:Int} {c:List UInt8} (h:za4 bits c) (h2:bits<=256):Tn.good c=true:=by
 unfold Tn.good;have h1:=h.1;simp only [Bool.and_eq_true,decide_eq_true_eq];exact ⟨by omega,h.2⟩
theorem zg0 {bits:Int} {c:List UInt8} (h:za4 bits c) (h1:1<=bits) (h2:bits<=256):Tn.cubeT c=c:=by
 have hl:=h.1;have e1:¬256 < c.length:=by omega
 have e2:¬c=[]:=by
  intro e;rw [e] at hl;simp at hl;omega
 have e3:Tn.refP c=0:=by
  unfold Tn.refP;rw [if_neg e1,if_neg e2,if_pos (show c.all Tn.tri=true from h.2)]
 unfold Tn.cubeT;rw [e3];rfl
theorem zd0 {bits:Int} {h:List UInt8} (hh:HdP bits h):za4 bits h:=by
 refine ⟨hh.1,?_⟩;rw [List.all_eq_true];intro b hb;have:=List.all_eq_true.1 hh.2 b hb;unfold zfi at this;unfold zb9;rw [this];rfl
theorem wi_has {bits:Int} {h c:List UInt8} (hh:HdP bits h) (hc:za4 bits c) (h1:1<=bits):Tn.wiB h c=Tn.hasB c h:=by
 have l1:=hh.1;have l2:=hc.1;have hl:h.length=c.length:=by omega
 unfold Tn.wiB Tn.hasB Tn.fitB;have e1:h.isEmpty=false:=by cases h with
  | nil=>simp at l1;omega
  | cons x l=>rfl
 have e2:c.isEmpty=false:=by cases c with
  | nil=>simp at l2;omega
  | cons x l=>rfl
 rw [e1,e2,hl]
 congr 1
 have hd:∀ k d,h[k]?=some d->zfi d=true:=fun k d hd=>List.all_eq_true.1 hh.2 d (List.mem_of_getElem? hd);have key:∀ n,n<=c.length->Tn.allTo (fun k=>match h[k]?,c[k]? with | some x,some y=>y==120 || x==y | _,_=>true) n=Tn.allTo (Tn.okH c h) n:=by
  intro n
  induction n with
  | zero=>intro _;rfl
  | succ n ih=>
   intro hn;unfold Tn.allTo;rw [ih (by omega)]
   congr 1
   unfold Tn.okH;obtain ⟨x,hx⟩:∃ x,h[n]?=some x:=⟨_,List.getElem?_eq_getElem (by omega)⟩;obtain ⟨y,hy⟩:∃ y,c[n]?=some y:=⟨_,List.getElem?_eq_getElem (by omega)⟩;rw [hx,hy];have h9:=hd n x hx;unfold zfi at h9;simp only [h9,Bool.true_and]
   congr 1
   exact Bool.eq_iff_iff.2 ⟨fun e=>by simpa using (by simpa using e:x=y).symm,fun e=>by simpa using (by simpa using e:y=x).symm⟩
 exact key _ (Nat.le_refl _)
theorem wr_hd {bits:Int} {h r:List UInt8} (hh:HdP bits h) (hr:za4 bits r) (h1:1<=bits):HdP bits (Tn.wtT h r):=by
 have l1:=hh.1;have l2:=hr.1;have hl:h.length=r.length:=by omega
 have e1:h.isEmpty=false:=by cases h with
  | nil=>simp at l1;omega
  | cons x l=>rfl
 have hf:Tn.fitB h r=true:=by unfold Tn.fitB;rw [e1,hl];simp
 unfold Tn.wtT;rw [if_pos hf];unfold Tn.wrT;refine ⟨?_,?_⟩
 ·rw [List.length_zipWith];omega
 ·rw [List.all_eq_true]
  intro b hb;obtain ⟨k,hk⟩:=List.getElem?_of_mem hb;rw [List.getElem?_zipWith] at hk;cases hx:h[k]? with
  | none=>rw [hx] at hk;simp at hk
  | some x=>
   cases hy:r[k]? with
   | none=>rw [hx,hy] at hk;simp at hk
   | some y=>
    rw [hx,hy] at hk;simp only [Option.some.injEq] at hk;have hd:=List.all_eq_true.1 hh.2 x (List.mem_of_getElem? hx);have ht:=List.all_eq_true.1 hr.2 y (List.mem_of_getElem? hy);subst hk
    by_cases h9:(y==120)=true
    ·rw [if_pos h9];exact hd
    ·rw [if_neg h9]
     unfold zb9 at ht;unfold zfi;simp only [Bool.or_eq_true] at ht ⊢;rcases ht with ht | ht
     ·exact ht
     ·exact absurd ht h9
def zcv (n:NN) (p:Int):List NG:=n.grds.getD p.toNat []
def ze8 (n:NN) (b:Int):List NE:=n.tabs.getD b.toNat []
def zb0 (C:List (List UInt8)) (h:List UInt8):Bool:=C.any (fun c=>Tn.hasB c h)
def zfm (g:List NG) (h:List UInt8):Bool:=match g.find? (fun l=>zb0 l.cubes h) with
 | some l=>l.pm
 | none=>g.isEmpty
def zj8 (p:Int) (h:List UInt8) (e:NE):Bool:=decide (p∈e.ins)&&zb0 e.cubes h
def zkk (f:NE->Bool):List NE->Nat->Option (Nat×NE)
 | [],_=>none
 | e :: t,k=>if f e=true then some (k,e) else zkk f t (k+1)
def zd8 (n:NN) (k:Nat):Nat:=((n.tabs.take k).map (·.length)).sum
def zfu (n:NN) (p:Int) (h:List UInt8):Option (Nat×NE):=if zfm (zcv n p) h=true then zkk (zj8 p h) (ze8 n (zal n p).bx) (zd8 n (zal n p).bx.toNat) else none
def zg7 (n:NN) (outs:List Int) (h:List UInt8):List (Int×List UInt8):=(outs.filter (fun q=>zfm (zcv n q) h)).map (fun q=>(q,h))
def ovS (n:NN) (s:Int×List UInt8):List (Int×List UInt8):=if 0<=(zal n s.1).lk then [((zal n s.1).lk,s.2)] else []
def zce (n:NN) (s:Int×List UInt8):Int×List (Int×List UInt8):=match zfu n s.1 s.2 with
 | some (k,e)=>((k:Int),zg7 n e.outs (Tn.wtT s.2 e.wr))
 | none=>(-1,[])
def zdt (n:NN) (s:Int×List UInt8):Int×List (Int×List UInt8):=if (zal n s.1).inn=true then ((zce n s).1,(zce n s).2.flatMap (fun o=>o :: ovS n o)) else (-1,ovS n s)
def StP (n:NN) (s:Int×List UInt8):Prop:=0<=s.1/\s.1 < (n.ports.length:Int)/\HdP n.bits s.2
noncomputable def zf6 (n:NN) (s:Int×List UInt8):Int:=if pb (NetP n)=true then (if pb (StP n s)=true then 0 else 100) else 90
theorem zgu {f:NE->Bool}:∀ (t:List NE) (k b:Nat),k<=t.length->(∀ (i:Nat) e,i < k->t[i]?=some e->f e=false)->zkk f t b=zkk f (t.drop k) (b+k)
 | [],k,b,hk,_=>by
  obtain rfl:k=0:=by simpa using hk
  rfl
 | e :: t,0,b,_,_=>rfl
 | e :: t,k+1,b,hk,h=>by
  have h0:=h 0 e (by omega) rfl;show (if f e=true then some (b,e) else zkk f t (b+1))=_
  rw [h0,if_neg Bool.false_ne_true,List.drop_succ_cons];rw [zgu t k (b+1) (by simpa using hk) (fun i x hi hx=>h (i+1) x (by omega) (by simpa using hx)),show b+1+k=b+(k+1) by omega]
theorem zmy {f:NE->Bool} {t:List NE} {k b:Nat} {e:NE} (hk:t[k]?=some e) (h:∀ (i:Nat) x,i < k->t[i]?=some x->f x=false) (he:f e=true):zkk f t b=some (b+k,e):=by
 have hl:=(List.getElem?_eq_some_iff.1 hk).1;rw [zgu t k b (by omega) h];obtain ⟨_,he9⟩:=List.getElem?_eq_some_iff.1 hk;rw [List.drop_eq_getElem_cons hl,he9];show (if f e=true then some (b+k,e) else zkk f (t.drop (k+1)) (b+k+1))=_
 rw [if_pos he]
theorem zj9 {f:NE->Bool} {t:List NE} {b:Nat} (h:∀ (i:Nat) x,t[i]?=some x->f x=false):zkk f t b=none:=by
 rw [zgu t t.length b (Nat.le_refl _) (fun i x _ hx=>h i x hx),List.drop_length];rfl
theorem zc7 {f:NE->Bool}:∀ {t:List NE} {b k:Nat} {e:NE},zkk f t b=some (k,e)->∃ i,k=b+i/\t[i]?=some e/\f e=true
 | [],b,k,e,h=>by cases h
 | x :: t,b,k,e,h=>by
  replace h:(if f x=true then some (b,x) else zkk f t (b+1))=some (k,e):=h
  by_cases hx:f x=true
  ·rw [if_pos hx] at h
   obtain ⟨rfl,rfl⟩:=Prod.mk.inj (Option.some.inj h);exact ⟨0,rfl,rfl,hx⟩
  ·rw [if_neg hx] at h
   obtain ⟨i,e1,e2,e3⟩:=zc7 h;exact ⟨i+1,by omega,by simpa using e2,e3⟩
theorem zmx {α:Type} {f:α->Bool} {t:List α} {k:Nat} {e:α} (hk:t[k]?=some e) (h:∀ (i:Nat) x,i < k->t[i]?=some x->f x=false) (he:f e=true):t.find? f=some e:=by
 have hl:=(List.getElem?_eq_some_iff.1 hk).1;rw [<-List.take_append_drop k t,List.find?_append];have h1:(t.take k).find? f=none:=by
  rw [List.find?_eq_none];intro x hx;obtain ⟨i,hi⟩:=List.getElem?_of_mem hx;rw [List.getElem?_take] at hi
  split at hi
  ·rename_i h2
   rw [h i x h2 hi];exact Bool.false_ne_true
  ·cases hi
 obtain ⟨_,he9⟩:=List.getElem?_eq_some_iff.1 hk;rw [h1,List.drop_eq_getElem_cons hl,he9];simp [he]
theorem zim {α:Type} {f:α->Bool} {t:List α} (h:∀ (i:Nat) x,t[i]?=some x->f x=false):t.find? f=none:=by
 rw [List.find?_eq_none];intro x hx;obtain ⟨i,hi⟩:=List.getElem?_of_mem hx;rw [h i x hi];exact Bool.false_ne_true
theorem zls {α:Type} {f:α->Bool} {t:List α} {k:Nat} {e:α} (hk:t[k]?=some e) (he:f e=true):t.any f=true:=List.any_eq_true.2 ⟨e,List.mem_of_getElem? hk,he⟩
theorem zr4 {α:Type} {f:α->Bool} {t:List α} (h:∀ (i:Nat) x,t[i]?=some x->f x=false):t.any f=false:=by
 rw [List.any_eq_false];intro x hx;obtain ⟨i,hi⟩:=List.getElem?_of_mem hx;rw [h i x hi];exact Bool.false_ne_true
theorem NetP.bits {n:NN} (h:NetP n):1<=n.bits/\n.bits<=256:=⟨h.1.1,h.1.2.1⟩
theorem NetP.port {n:NN} (h:NetP n) {p:Int} (h0:0<=p) (h1:p < (n.ports.length:Int)):n.ports[p.toNat]?=some (zal n p)/\zdi n (zal n p):=by
 obtain ⟨x,hx⟩:∃ x,n.ports[p.toNat]?=some x:=⟨_,List.getElem?_eq_getElem (by omega)⟩;have e:zal n p=x:=by unfold zal;rw [List.getD_eq_getElem?_getD,hx];rfl
 rw [e];exact ⟨hx,h.2.2.2.1.1 x (List.mem_of_getElem? hx)⟩
theorem NetP.grd {n:NN} (h:NetP n) {p:Int} (h0:0<=p) (h1:p < (n.ports.length:Int)):n.grds[p.toNat]?=some (zcv n p)/\zbk n.bits (zcv n p):=by
 have hl:=h.1.2.2.2.2;obtain ⟨x,hx⟩:∃ x,n.grds[p.toNat]?=some x:=⟨_,List.getElem?_eq_getElem (by omega)⟩;have e:zcv n p=x:=by unfold zcv;rw [List.getD_eq_getElem?_getD,hx];rfl
 rw [e];exact ⟨hx,h.2.2.2.2.1 x (List.mem_of_getElem? hx)⟩
theorem NetP.tab {n:NN} (h:NetP n) {b:Int} (h0:0<=b) (h1:b < (n.tabs.length:Int)):n.tabs[b.toNat]?=some (ze8 n b)/\zg9 n b (ze8 n b):=by
 obtain ⟨x,hx⟩:∃ x,n.tabs[b.toNat]?=some x:=⟨_,List.getElem?_eq_getElem (by omega)⟩;have e:ze8 n b=x:=by unfold ze8;rw [List.getD_eq_getElem?_getD,hx];rfl
 have h9:=h.2.2.2.2.2 b.toNat x hx;rw [Int.toNat_of_nonneg h0] at h9;rw [e];exact ⟨hx,h9⟩
end Go.Proofs.YtmfakcfmkmppfaaGreatDoor.Nt
