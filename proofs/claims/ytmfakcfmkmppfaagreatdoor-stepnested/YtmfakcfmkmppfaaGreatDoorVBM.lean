import Derived.Test.YtmfakcfmkmppfaaGreatDoorVBI
namespace Go.Proofs.YtmfakcfmkmppfaaGreatDoor.Nt
open Go.RowKit Go.Shelf
theorem dig_nat (d:UInt8):zfi d=(d.toNat==48 || d.toNat==49):=by
 unfold zfi;have e:∀ k:UInt8,(d==k)=(d.toNat==k.toNat):=fun k=>by
  rw [Bool.eq_iff_iff,beq_iff_eq,beq_iff_eq];exact ⟨fun h=>by rw [h],fun h=>UInt8.toNat_inj.1 h⟩
 rw [e,e];rfl
set_option maxRecDepth 100000 in
set_option maxHeartbeats 16000000 in
theorem zoi (n:NN) (v:NV) (p:Int) (h:List UInt8) (w:World) (hN:LN w n v) (hO:okN n) (hh:okS h) :
  Calls Tryz.prog 21 #[.agg (nnA n v),.agg (asC (p,h)).toArray] w fun e w'=>e=.returned (.int .i64 (zf6 n (p,h)))/\Below w.heap.size w w':=by
 have hva:=fun (U:World) (hU:Below w.heap.size w U)=>znb n v U (hN.below hU) hO;rw [show (asC (p,h)).toArray=#[.int .i64 p,.string ⟨h.toArray⟩] from rfl];obtain ⟨pp,cp,pt,ct,pg,cg⟩:=v;unfold nnA at hva ⊢;simp only at hva ⊢;obtain ⟨np,hnp⟩:=ex n.ports.length;obtain ⟨nt,hnt⟩:=ex n.tabs.length;obtain ⟨ng,hng⟩:=ex n.grds.length;obtain ⟨bits,hbits⟩:=ex n.bits;rw [hnp,hnt,hng,hbits] at hva ⊢;obtain ⟨vb,hvb⟩:=ex (pb (NetP n));rw [hvb] at hva;obtain ⟨R,hR⟩:=ex (zf6 n (p,h));obtain ⟨m,hm⟩:=ex h.length;rw [hR];have HR0:Hid (vb=false->R=90):=fun e=>by rw [<-hR,zf6,hvb,e,if_neg Bool.false_ne_true]
 have HR1:Hid (vb=true->¬StP n (p,h)->R=100):=fun e hs=>by rw [<-hR,zf6,hvb,e,if_pos rfl,zfd hs,if_neg Bool.false_ne_true]
 have HR2:Hid (vb=true->StP n (p,h)->R=0):=fun e hs=>by rw [<-hR,zf6,hvb,e,if_pos rfl,zck hs,if_pos rfl]
 have HST:Hid (StP n (p,h)↔(0<=p/\p < (np:Int)/\(m:Int)=bits/\h.all zfi=true)):=by
  show _↔_;unfold StP HdP;simp only [hnp,hbits,hm]
 obtain ⟨B,hB⟩:=ex w.heap.size;obtain ⟨b2,hb2⟩:=ex (w.heap.size+1);obtain ⟨W1,hW1⟩:=ex ((w.alloc (.cells #[.int .i64 bits,.slice pp np cp,.slice pt nt ct,.slice pg ng cg] 26)).alloc (.cells #[.int .i64 p,.string ⟨h.toArray⟩] 28));have hz2:(w.alloc (.cells #[.int .i64 bits,.slice pp np cp,.slice pt nt ct,.slice pg ng cg] 26)).heap.size=w.heap.size+1:=Array.size_push _;have b1:Below w.heap.size w W1:=by rw [<-hW1];exact zah (zah (Below.refl _ _) _) _
 have k1:W1.heap[B]?=some (.cells #[.int .i64 bits,.slice pp np cp,.slice pt nt ct,.slice pg ng cg] 26 (0,0)):=by rw [<-hW1,<-hB];exact zae (zah (Below.refl _ _) _) (zaa _ _)
 have k2:W1.heap[b2]?=some (.cells #[.int .i64 p,.string ⟨h.toArray⟩] 28 (0,0)):=by rw [<-hW1,<-hb2,<-hz2];exact zaa _ _
 have HC:Hid (∀ U,Below W1.heap.size W1 U->(U.cell? ⟨B,0,none⟩=some (.int .i64 bits)/\U.cell? ⟨B,1,none⟩=some (.slice pp np cp)/\U.cell? ⟨B,2,none⟩=some (.slice pt nt ct)/\U.cell? ⟨B,3,none⟩=some (.slice pg ng cg))/\(U.cell? ⟨b2,0,none⟩=some (.int .i64 p)/\U.cell? ⟨b2,1,none⟩=some (.string ⟨h.toArray⟩))):=fun U hU=>by
  have e1:=(zaf (zae hU k1)).1;have e2:=(zaf (zae hU k2)).1;exact ⟨⟨by rw [e1];rfl,by rw [e1];rfl,by rw [e1];rfl,by rw [e1];rfl⟩,⟨by rw [e2];rfl,by rw [e2];rfl⟩⟩
 have HVA:Hid (Calls Tryz.prog 51 #[.agg #[.int .i64 bits,.slice pp np cp,.slice pt nt ct,.slice pg ng cg]] W1 fun e w'=>e=.returned (.int .i64 (if vb=true then 0 else 90))/\Below W1.heap.size W1 w'):=hva W1 b1
 have HM:Hid (h.length=m):=hm;have hm7:h.length<=140737488351232:=by unfold okS at hh;omega
 have HB:=zab hB;have HB2:=zab hb2;have HW1:=zab hW1;have HBW:Hid (∀ U,Below W1.heap.size W1 U->Below w.heap.size w U):=fun U hU=>zac b1 hU;obtain ⟨⟨q0,q1,q2,q3⟩,⟨r0,r1⟩⟩:=HC.out W1 (Below.refl _ _);clear hva hN hO hh hnp hnt hng hbits hvb hR hB hb2 hW1 hz2 b1 k1 k2 hm
 go_enter Tryz.func21,Tryz.ntmps21
 go_upto_region 1 with fail
 rw [HW1.out,HB2.out,HB.out]
 go_wp2_with fail
 refine (HVA.out).mono ?_;rintro e W2 ⟨rfl,c2⟩;clear q0 q1 q2 q3 r0 r1;cases vb with
 | false=>
  obtain rfl:=HR0.out rfl;simp only [Bool.false_eq_true,if_false];have HFIN:=zab (HBW.out W2 c2);clear c2
  go_wp2_with fail
  go_ret
  exact ⟨rfl,HFIN.out⟩
 | true=>
  simp only [if_true];obtain ⟨⟨q0,q1,q2,q3⟩,⟨r0,r1⟩⟩:=HC.out W2 c2;have hm8:((⟨h.toArray⟩:ByteArray).size:Int)=(m:Int):=by
   rw [<-HM.out];show ((h.toArray.size:Nat):Int)=_;simp
  by_cases h1:p < 0
  ·obtain rfl:R=100:=HR1.out (by first | rfl | trivial) (fun hs=>by have:=(HST.out.1 hs).1;omega)
   have HFIN:=zab (HBW.out W2 c2);clear c2
   go_wp2_with fail
   go_ret
   exact ⟨rfl,HFIN.out⟩
  ·by_cases h2:p ≥ (np:Int)
   ·obtain rfl:R=100:=HR1.out (by first | rfl | trivial) (fun hs=>by have:=(HST.out.1 hs).2.1;omega)
    have HFIN:=zab (HBW.out W2 c2);clear c2
    go_wp2_with fail
    go_ret
    exact ⟨rfl,HFIN.out⟩
   ·obtain ⟨bb,hbb⟩:=ex (((h.length:Int) != bits))
    cases bb with
    | true=>
     obtain rfl:R=100:=HR1.out (by first | rfl | trivial) (fun hs=>by
      have h9:=(HST.out.1 hs).2.2.1;rw [<-HM.out] at h9;rw [h9] at hbb;simp at hbb)
     have HFIN:=zab (HBW.out W2 c2);clear c2
     go_wp2_with fail
     go_ret
     exact ⟨rfl,HFIN.out⟩
    | false=>
     have HEB:Hid ((m:Int)=bits):=by
      have h9:(h.length:Int)=bits:=by simpa using hbb
      rw [HM.out] at h9;exact h9
     have HC2:=zab c2;clear c2
     go_wp2_with fail
     clear q0 q1 q2 q3 r0 r1 hbb hm8
     go_loopw [6] (fun vk wr=>∃ k:Nat,vk=.int .i64 (k:Int)/\k<=h.length/\Hid (W2=wr)/\Hid (∀ (i:Nat) (c:UInt8),i < k->h[i]?=some c->zfi c=true)) (fun vk _=>h.length - (intOf vk).toNat)
     case atStart=>exact ⟨0,rfl,Nat.zero_le _,rfl,fun i c hi=>by omega⟩
     case round=>
      obtain ⟨k,rfl,hk,HWR,HS⟩:=hrel;obtain ⟨wo,rfl⟩:∃ wo,wo=wr:=⟨wr,rfl⟩;obtain rfl:wo=W2:=HWR.out.symm;obtain ⟨⟨q0,q1,q2,q3⟩,⟨r0,r1⟩⟩:=HC.out wo HC2.out;clear q0 q1 q2 q3 r0
      by_cases hlt:k < h.length
      ·have j0:(0:Int)<=(k:Int):=by omega
       have j1:(k:Int) < (h.length:Int):=by omega
       obtain ⟨d,hd,hld⟩:=zf7 h k hlt;have HNX:Hid (zfi d=true->∀ (i:Nat) (c:UInt8),i < k+1->h[i]?=some c->zfi c=true):=fun h9 i c hi hc=>by
        rcases Nat.lt_or_ge i k with h1 | h1
        ·exact HS.out i c h1 hc
        ·obtain rfl:i=k:=by omega
         rw [hld] at hc;rw [<-Option.some.inj hc];exact h9
       have HBJ:Hid (zfi d=false->R=100):=fun h9=>HR1.out (by first | rfl | trivial) (fun hs=>by
        have:=List.all_eq_true.1 (HST.out.1 hs).2.2.2 d (List.mem_of_getElem? hld);rw [h9] at this;cases this)
       have HIS:=zab (dig_nat d);clear hld HS;rcases (show d.toNat=48∨d.toNat=49∨(d.toNat≠48/\d.toNat≠49) by omega) with hr | hr | hr
       ·have a1:((d.toNat:Int) != 48)=false:=by rw [hr];rfl
        have HN2:=zab (HNX.out (by rw [HIS.out,hr];rfl));clear HBJ HNX HIS hr
        go_wp2_with fail
        go_roundw
        case rel=>exact ⟨k+1,by go_num,by omega,by first | rfl | trivial,HN2⟩
        case measure=>simp [intOf];omega
       ·have a1:((d.toNat:Int) != 48)=true:=by rw [bne_iff_ne];omega
        have a2:((d.toNat:Int) != 49)=false:=by rw [hr];rfl
        have HN2:=zab (HNX.out (by rw [HIS.out,hr];rfl));clear HBJ HNX HIS hr
        go_wp2_with fail
        go_roundw
        case rel=>exact ⟨k+1,by go_num,by omega,by first | rfl | trivial,HN2⟩
        case measure=>simp [intOf];omega
       ·have a1:((d.toNat:Int) != 48)=true:=by rw [bne_iff_ne];omega
        have a2:((d.toNat:Int) != 49)=true:=by rw [bne_iff_ne];omega
        obtain rfl:R=100:=HBJ.out (by rw [HIS.out];simp [hr]);have HFIN:=zab (HBW.out wo HC2.out);clear HNX HBJ HIS
        go_wp2_with fail
        go_ret
        exact ⟨rfl,HFIN.out⟩
      ·obtain rfl:k=h.length:=by omega
       have j1:¬(h.length:Int) < (h.length:Int):=by omega
       obtain rfl:R=0:=HR2.out (by first | rfl | trivial) (HST.out.2 ⟨by omega,by omega,HEB.out,List.all_eq_true.2 (fun b hb=>by
        obtain ⟨i,hi⟩:=List.getElem?_of_mem hb;exact HS.out i b (List.getElem?_eq_some_iff.1 hi).1 hi)⟩)
       have HFIN:=zab (HBW.out wo HC2.out);clear HS
       go_wp2_with fail
       go_ret
       exact ⟨rfl,HFIN.out⟩
end Go.Proofs.YtmfakcfmkmppfaaGreatDoor.Nt
