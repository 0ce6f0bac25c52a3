import Derived.Test.YtmfakcfmkmppfaaGreatDoorVBK
import Derived.Test.YtmfakcfmkmppfaaGreatDoorVBM
namespace Go.Proofs.YtmfakcfmkmppfaaGreatDoor.Nt
open Go.RowKit Go.Shelf
def DPQ (A:List WY) (w:World) (e:Ending) (w':World):Prop:=∃ (q:Option Addr) (m c:Nat) (V:List (WY×PV)),V.length=m/\V.map Prod.fst=A/\e=.returned (.slice q m c)/\RowL 3 paC w' q V/\(∀ y∈V,PL w' y)/\Below w.heap.size w w'
theorem row_nil (w:World):RowL 3 paC w none ([]:List (WY×PV)):=fun k x hx=>by simp at hx
theorem zis {w w':World} {A:List WY} (h:A=[]) (hb:Below w.heap.size w w'):DPQ A w (.returned (.slice none 0 0)) w':=⟨none,0,0,[],rfl,h.symm,rfl,row_nil _,(fun y hy=>by cases hy),hb⟩
set_option maxRecDepth 100000 in
set_option maxHeartbeats 16000000 in
theorem zoj (n:NN) (v:NV) (p:Int) (h:List UInt8) (hops:Int) (M:Nat) (w:World) (hN:LN w n v) (hO:okN n) (hh:okS h) (hM:M<=100000) :
  Calls Tryz.prog 8 #[.agg (nnA n v),.agg #[.int .i64 p,.string ⟨h.toArray⟩],.int .i64 hops,.int .i64 (M:Int)] w (DPQ ((zie n (p,h) hops).take M) w):=by
 have hck:=fun (U:World) (hU:Below w.heap.size w U)=>zoi n v p h U (hN.below hU) hO hh;have hfi:=fun (hV:NetP n) (hS:StP n (p,h)) (U:World) (hU:Below w.heap.size w U)=>zog n v p h U (hN.below hU) hS.1 hS.2.1;have hwh:=fun (hV:NetP n) (hS:StP n (p,h)) (hH:HOK hops) (U:World) (hU:Below w.heap.size w U) (pv:PV) (hL:PL U (zcx n (zd4 (p,h)),pv))=>zb6 n v hops M U (hN.below hU) hV hH.2 hM hops.toNat (zcx n (zd4 (p,h))) pv [] none 0 0 U (zc9 hV (zh1 hS hH.1)).1 (by have h1:=hH.1;rw [(zc9 hV (zh1 hS hH.1)).2.1];show hops<=((0:Nat):Int)+_;omega) hL (Below.refl _ _) rfl (World.ownsRow_nil _ _ _ _) (fun y hy=>by cases hy);rw [show (asC (p,h)).toArray=#[.int .i64 p,.string ⟨h.toArray⟩] from rfl] at hck;obtain ⟨pp,cp,pt,ct,pg,cg⟩:=v;obtain ⟨np,hnp⟩:=ex n.ports.length;obtain ⟨nt,hnt⟩:=ex n.tabs.length;obtain ⟨ng,hng⟩:=ex n.grds.length;obtain ⟨bits,hbits⟩:∃ bits,n.bits=bits:=⟨_,rfl⟩;have hE:nnA n ⟨pp,cp,pt,ct,pg,cg⟩=#[.int .i64 bits,.slice pp np cp,.slice pt nt ct,.slice pg ng cg]:=by unfold nnA;rw [hnp,hnt,hng,hbits]
 rw [hE] at hck hfi hwh ⊢;obtain ⟨A,hA⟩:=ex (zie n (p,h) hops);rw [hA];obtain ⟨Y,hY⟩:=ex (zcx n (zd4 (p,h)));have hyes:NetP n->StP n (p,h)->HOK hops->zi9 n hops hops.toNat Y=A:=fun h1 h2 h3=>by
  rw [<-hA,<-hY,wll_wlk];unfold zie;rw [if_pos ⟨zck ⟨h1,h2⟩,h3.1,h3.2⟩]
 have hno:¬((NetP n/\StP n (p,h))/\HOK hops)->A=[]:=fun h9=>by rw [<-hA];exact pth_no h9
 rw [hY] at hfi hwh;obtain ⟨R,hR⟩:=ex (zf6 n (p,h));rw [hR] at hck;have HCR:Hid (NetP n/\StP n (p,h)->R=0):=fun h9=>by rw [<-hR];exact ziy h9.1 h9.2
 have HCY:Hid (R=0->NetP n/\StP n (p,h)):=fun h0=>by
  refine Classical.byContradiction fun h2=>?_;exact zrq h2 (by rw [hR];exact h0)
 obtain ⟨B,hB⟩:=ex w.heap.size;obtain ⟨b2,hb2⟩:=ex (w.heap.size+1);obtain ⟨W1,hW1⟩:=ex ((w.alloc (.cells #[.int .i64 bits,.slice pp np cp,.slice pt nt ct,.slice pg ng cg] 26)).alloc (.cells #[.int .i64 p,.string ⟨h.toArray⟩] 28));have hz2:(w.alloc (.cells #[.int .i64 bits,.slice pp np cp,.slice pt nt ct,.slice pg ng cg] 26)).heap.size=w.heap.size+1:=Array.size_push _;have b1:Below w.heap.size w W1:=by rw [<-hW1];exact zah (zah (Below.refl _ _) _) _
 have k1:W1.heap[B]?=some (.cells #[.int .i64 bits,.slice pp np cp,.slice pt nt ct,.slice pg ng cg] 26 (0,0)):=by rw [<-hW1,<-hB];exact zae (zah (Below.refl _ _) _) (zaa _ _)
 have k2:W1.heap[b2]?=some (.cells #[.int .i64 p,.string ⟨h.toArray⟩] 28 (0,0)):=by rw [<-hW1,<-hb2,<-hz2];exact zaa _ _
 have HC:Hid (∀ U,Below W1.heap.size W1 U->(U.cell? ⟨B,0,none⟩=some (.int .i64 bits)/\U.cell? ⟨B,1,none⟩=some (.slice pp np cp)/\U.cell? ⟨B,2,none⟩=some (.slice pt nt ct)/\U.cell? ⟨B,3,none⟩=some (.slice pg ng cg))/\(U.cell? ⟨b2,0,none⟩=some (.int .i64 p)/\U.cell? ⟨b2,1,none⟩=some (.string ⟨h.toArray⟩))):=fun U hU=>by
  have e1:=(zaf (zae hU k1)).1;have e2:=(zaf (zae hU k2)).1;exact ⟨⟨by rw [e1];rfl,by rw [e1];rfl,by rw [e1];rfl,by rw [e1];rfl⟩,⟨by rw [e2];rfl,by rw [e2];rfl⟩⟩
 have HCK:=zab (hck W1 b1);have HFI:Hid (NetP n->StP n (p,h)->∀ U,Below W1.heap.size W1 U->Calls Tryz.prog 23 #[.agg #[.int .i64 bits,.slice pp np cp,.slice pt nt ct,.slice pg ng cg],.agg #[.int .i64 p,.string ⟨h.toArray⟩]] U (PAQ Y U)):=fun h1 h2 U hU=>hfi h1 h2 U (zac b1 hU);have HWH:Hid (NetP n->StP n (p,h)->HOK hops->∀ U,Below W1.heap.size W1 U->∀ pv,PL U (Y,pv)->Calls Tryz.prog 22 #[.agg #[.int .i64 bits,.slice pp np cp,.slice pt nt ct,.slice pg ng cg],.agg (paC (Y,pv)).toArray,.int .i64 hops,.int .i64 (M:Int),.slice none 0 0] U (DPQ (A.take M) U)):=fun h1 h2 h3 U hU pv hL=>by
  refine (hwh h1 h2 h3 U (zac b1 hU) pv hL).mono ?_;rintro e w' ⟨q',m',c',V',e1,e2,e3,e4,e5,e6,-,-⟩;refine ⟨q',m',c',V',e1,?_,e3,zbm zqf e4 e1,e5,e6⟩;rw [e2,List.map_nil,put_nil,hyes h1 h2 h3]
 have HNO:Hid (¬((NetP n/\StP n (p,h))/\HOK hops)->A=[]):=hno;have HF:Hid (∀ U,Below W1.heap.size W1 U->Below w.heap.size w U):=fun U hU=>zac b1 hU;have HB:=zab hB;have HB2:=zab hb2;have HW1:=zab hW1;clear hN hO hh hck hfi hwh hnp hnt hng hbits hE hA hY hyes hno hR hB hb2 hW1 hz2 b1 k1 k2;obtain ⟨⟨q0,q1,q2,q3⟩,⟨r0,r1⟩⟩:=HC.out W1 (Below.refl _ _)
 go_enter Tryz.func8,Tryz.ntmps8
 go_upto_region 1 with fail
 rw [HW1.out,HB2.out,HB.out]
 go_wp2_with fail
 refine (HCK.out).mono ?_;rintro e W2 ⟨rfl,b2⟩;have HB3:=zab b2;clear b2 q0 q1 q2 q3 r0 r1
 by_cases hR0:R=0
 ·obtain ⟨hV,hS⟩:=HCY.out hR0
  subst hR0
  by_cases hH:HOK hops
  ·have j1:¬hops < 0:=by have:=hH.1;omega
   have j2:¬hops > 64:=by have:=hH.2;omega
   by_cases hM0:M=0
   ·subst hM0
    have HFF:=zab (HF.out W2 HB3.out)
    go_wp2_with fail
    go_ret
    exact zis (List.take_zero) HFF.out
   ·have j3:¬(M:Int) < 1:=by omega
    have HFI2:=zab (HFI.out hV hS);have HWH2:=zab (HWH.out hV hS hH);clear hV hS hH hM0
    go_upto_region 4 with fail
    have hs0:=HC.out W2.drew (zac HB3.out (Below.refl _ _).drew);refine wp_region_held_drew (S:=fun U=>(U.cell? ⟨B,0,none⟩=some (.int .i64 bits)/\U.cell? ⟨B,1,none⟩=some (.slice pp np cp)/\U.cell? ⟨B,2,none⟩=some (.slice pt nt ct)/\U.cell? ⟨B,3,none⟩=some (.slice pg ng cg))/\(U.cell? ⟨b2,0,none⟩=some (.int .i64 p)/\U.cell? ⟨b2,1,none⟩=some (.string ⟨h.toArray⟩))) (by kernel_rfl) hs0 (fun _=>?_);refine tk 0 (.agg #[.int .i64 bits,.slice pp np cp,.slice pt nt ct,.slice pg ng cg]) rfl hs0 ?_ ?_
    ·rintro w ⟨⟨q0,q1,q2,q3⟩,⟨r0,r1⟩⟩;go_simp
    refine tk 1 (.agg #[.int .i64 bits,.slice pp np cp,.slice pt nt ct,.slice pg ng cg]) rfl hs0 ?_ ?_
    ·rintro w ⟨⟨q0,q1,q2,q3⟩,⟨r0,r1⟩⟩;go_simp
    refine tk 2 (.agg #[.int .i64 p,.string ⟨h.toArray⟩]) rfl hs0 ?_ ?_
    ·rintro w ⟨⟨q0,q1,q2,q3⟩,⟨r0,r1⟩⟩;go_simp
    refine tk 4 (.int .i64 hops) rfl hs0 ?_ ?_
    ·rintro w ⟨⟨q0,q1,q2,q3⟩,⟨r0,r1⟩⟩;go_simp
    refine tk 5 (.int .i64 (M:Int)) rfl hs0 ?_ ?_
    ·rintro w ⟨⟨q0,q1,q2,q3⟩,⟨r0,r1⟩⟩;go_simp
    refine rd 3 rfl fun KK hKK=>?_
    go_simp
    refine (HFI2.out _ (zac HB3.out (Below.refl _ _).drew)).mono ?_;rintro en W3 ⟨pv,rfl,hpl,b3⟩;have HB4:Hid (Below W1.heap.size W1 W3):=zac (zac HB3.out (Below.refl _ _).drew) b3;have HWC:=zab (HWH2.out W3 HB4.out pv hpl);have hs1:=HC.out W3 HB4.out;obtain ⟨YA,hYA⟩:=ex ((paC (Y,pv)).toArray);rw [hYA] at HWC ⊢;clear b3 hpl hYA
    go_simp
    refine hKK.out _ _ hs1 (fun _=>?_);clear hKK KK;clear hs0;refine rd 6 rfl fun KK hKK=>?_
    go_simp
    refine (HWC.out).mono ?_;rintro en W4 ⟨q',m',c',V',e1,e2,rfl,e4,e5,b4⟩;have HB5:Hid (Below W1.heap.size W1 W4):=zac HB4.out b4;have HFN:Hid (DPQ (A.take M) w (.returned (.slice q' m' c')) W4):=⟨q',m',c',V',e1,e2,rfl,e4,e5,HF.out _ HB5.out⟩;have hs2:=HC.out W4 HB5.out;clear e1 e2 e4 e5 b4
    go_simp
    refine hKK.out _ _ hs2 (fun _=>?_);clear hKK KK;clear hs1;refine tk 7 (.slice q' m' c') rfl hs2 ?_ ?_
    ·rintro w ⟨⟨q0,q1,q2,q3⟩,⟨r0,r1⟩⟩;go_simp
    refine wpAnyH_done (by kernel_rfl) ?_ _
    try simp only [List.getElem_toArray,List.getElem_cons_succ,List.getElem_cons_zero,Act.put,List.setIfInBounds_toArray,List.set_cons_zero,List.set_cons_succ]
    clear hs2
    go_wp2_with fail
    go_ret
    exact HFN.out
  ·have HNA:=zab (HNO.out (fun h9=>hH h9.2))
   have HFF:=zab (HF.out W2 HB3.out);clear hV hS
   by_cases h1:hops < 0
   ·clear hH
    go_wp2_with fail
    go_ret
    exact zis (by rw [HNA.out,List.take_nil]) HFF.out
   ·have h2:hops > 64:=by
     unfold HOK at hH;omega
    clear hH
    go_wp2_with fail
    go_ret
    exact zis (by rw [HNA.out,List.take_nil]) HFF.out
 ·have i0:(R != 0)=true:=by simpa using hR0
  by_cases h9:(NetP n/\StP n (p,h))/\HOK hops
  ·exact absurd (HCR.out h9.1) hR0
  ·have HNA:=zab (HNO.out h9)
   have HFF:=zab (HF.out W2 HB3.out);clear h9 hR0
   go_wp2_with fail
   go_ret
   exact zis (by rw [HNA.out,List.take_nil]) HFF.out
end Go.Proofs.YtmfakcfmkmppfaaGreatDoor.Nt
