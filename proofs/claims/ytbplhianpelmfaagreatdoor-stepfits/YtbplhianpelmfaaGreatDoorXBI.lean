import Derived.Test.YtbplhianpelmfaaGreatDoorXBH
namespace Go.Proofs.YtbplhianpelmfaaGreatDoor.Nt
open Go.RowKit Go.Shelf
noncomputable def flwM (n:NN) (s:Int×List UInt8) (Q:List Int):List UInt8×Int×Int:=if 130 < Q.length then ([],0,2) else if chkM n s=0 then folM n s Q else ([],0,chkM n s)
set_option maxRecDepth 100000 in
set_option maxHeartbeats 16000000 in
theorem sfollow_any (n:NN) (v:NV) (p:Int) (h:List UInt8) (Q:List Int) (qp:Option Addr) (m c:Nat) (w:World) (hN:LN w n v) (hO:okN n) (hT:TAB w) (hh:okS h) (hm:Q.length=m) (hQ:LI w qp Q) (hc:m≤c) (hM:m≤140737488351232) :
  Calls Tryz.prog 18 #[.agg (nnA n v),.agg (asC (p,h)).toArray,.slice qp m c] w (FLQ (flwM n (p,h) Q) w):=by
 have hck:=fun (U:World) (hU:Below w.heap.size w U)=>check_any n v p h U (hN.below hU) hO (hT.at hU) hh
 have hso:=fun (U:World)=>stateOf_any p h U hh
 have hrd:=fun (hV:NetP n) (U:World) (hU:Below w.heap.size w U)=>read_any n v n.ports.length n.tabs.length n.grds.length U (hN.below hU) hO hV rfl rfl rfl
 have hnx:=fun (hV:NetP n) (hS:StP n (p,h)) (x:NV) (U:World) (hU:Below w.heap.size w U) (hW:NW U n x)=>follow_any n x n.ports.length n.tabs.length n.grds.length p h Q qp m c U hW hV hS rfl rfl rfl hm (hQ.below hU) hc hM
 rw [show (asC (p,h)).toArray=#[.int .i64 p,.string ⟨h.toArray⟩] from rfl]
 obtain ⟨pp,cp,pt,ct,pg,cg⟩:=v
 unfold nnA at hck ⊢
 simp only at hck hrd ⊢
 obtain ⟨np,hnp⟩:∃ k,n.ports.length=k:=⟨_,rfl⟩
 obtain ⟨nt,hnt⟩:∃ k,n.tabs.length=k:=⟨_,rfl⟩
 obtain ⟨ng,hng⟩:∃ k,n.grds.length=k:=⟨_,rfl⟩
 obtain ⟨bits,hbits⟩:∃ b,n.bits=b:=⟨_,rfl⟩
 rw [hnp,hnt,hng] at hck hrd hnx ⊢
 rw [hbits] at hck hrd ⊢
 obtain ⟨R,hR⟩:∃ R,chkM n (p,h)=R:=⟨_,rfl⟩
 rw [hR] at hck
 obtain ⟨B,hB⟩:∃ B,w.heap.size=B:=⟨_,rfl⟩
 obtain ⟨b2,hb2⟩:∃ b2,w.heap.size+1=b2:=⟨_,rfl⟩
 obtain ⟨W1,hW1⟩:∃ W1,(w.alloc (.cells #[.int .i64 bits,.slice pp np cp,.slice pt nt ct,.slice pg ng cg] 26)).alloc (.cells #[.int .i64 p,.string ⟨h.toArray⟩] 28)=W1:=⟨_,rfl⟩
 have hz2:(w.alloc (.cells #[.int .i64 bits,.slice pp np cp,.slice pt nt ct,.slice pg ng cg] 26)).heap.size=w.heap.size+1:=Array.size_push _
 have b1:Below w.heap.size w W1:=by rw [←hW1];exact belAZ (belAZ (Below.refl _ _) _) _
 have k1:W1.heap[B]?=some (.cells #[.int .i64 bits,.slice pp np cp,.slice pt nt ct,.slice pg ng cg] 26 (0,0)):=by rw [←hW1,←hB];exact keepZ (belAZ (Below.refl _ _) _) (alloc_getZ _ _)
 have k2:W1.heap[b2]?=some (.cells #[.int .i64 p,.string ⟨h.toArray⟩] 28 (0,0)):=by rw [←hW1,←hb2,←hz2];exact alloc_getZ _ _
 have HC:Hid (∀ U,Below W1.heap.size W1 U→(U.cell? ⟨B,0,none⟩=some (.int .i64 bits)∧U.cell? ⟨B,1,none⟩=some (.slice pp np cp)∧U.cell? ⟨B,2,none⟩=some (.slice pt nt ct)∧U.cell? ⟨B,3,none⟩=some (.slice pg ng cg))∧(U.cell? ⟨b2,0,none⟩=some (.int .i64 p)∧U.cell? ⟨b2,1,none⟩=some (.string ⟨h.toArray⟩))):=fun U hU=>by
  have e1:=(cellsZ (keepZ hU k1)).1
  have e2:=(cellsZ (keepZ hU k2)).1
  exact ⟨⟨by rw [e1];rfl,by rw [e1];rfl,by rw [e1];rfl,by rw [e1];rfl⟩,⟨by rw [e2];rfl,by rw [e2];rfl⟩⟩
 have HCK:Hid (Calls Tryz.prog 25 #[.agg #[.int .i64 bits,.slice pp np cp,.slice pt nt ct,.slice pg ng cg],.agg #[.int .i64 p,.string ⟨h.toArray⟩]] W1 fun e w'=>e=.returned (.int .i64 R)∧Below W1.heap.size W1 w'):=hck W1 b1
 have HV:Hid (chkM n (p,h)=R∧Q.length=m):=⟨hR,hm⟩
 have HSO:Hid (∀ U:World,Calls Tryz.prog 28 #[.agg #[.int .i64 p,.string ⟨h.toArray⟩]] U fun e w'=>e=.returned (.agg (stC (p,Tn.cubeT h)).toArray)∧Below U.heap.size U w'):=hso
 have HRD:Hid (NetP n→∀ U,Below W1.heap.size W1 U→Calls Tryz.prog 26 #[.agg #[.int .i64 bits,.slice pp np cp,.slice pt nt ct,.slice pg ng cg]] U (RDQ n np nt ng U)):=fun hV U hU=>hrd hV U (bel0Z b1 hU)
 have HNX:Hid (NetP n→StP n (p,h)→∀ (x:NV) (U:World),Below W1.heap.size W1 U→NW U n x→Calls Tryz.prog 32 #[.agg #[.slice x.pp np x.cp,.slice x.pt nt x.ct,.slice x.pg ng x.cg],.agg (stC (p,h)).toArray,.slice qp m c] U (FLQ (folM n (p,h) Q) U)):=fun h1 h2 x U hU=>hnx h1 h2 x U (bel0Z b1 hU)
 have HB:=hideL hB
 have HB2:=hideL hb2
 have HW1:=hideL hW1
 have HBW:Hid (∀ U,Below W1.heap.size W1 U→Below w.heap.size w U):=fun U hU=>bel0Z b1 hU
 obtain ⟨⟨q0,q1,q2,q3⟩,⟨r0,r1⟩⟩:=HC.out W1 (Below.refl _ _)
 clear hN hO hT hh hck hso hrd hnx hnp hnt hng hbits hR hB hb2 hW1 hz2 b1 k1 k2 hm hQ hc
 go_enter Tryz.func18,Tryz.ntmps18
 go_upto_region 1 with fail
 rw [HW1.out,HB2.out,HB.out]
 by_cases hlong:130 < m
 ·have hl9:(m:Int) > 130:=by omega
  have HFIN:Hid (FLQ (flwM n (p,h) Q) w (.returned (.tuple #[.string ⟨#[]⟩,.int .i64 0,.int .i64 2])) W1):=by
   unfold flwM
   rw [if_pos (by rw [HV.out.2];exact hlong)]
   exact ⟨rfl,HBW.out W1 (Below.refl _ _)⟩
  clear hlong
  go_wp2_with fail
  refine bodyPost_ret (results_tmp3 rfl _ _ _) rfl ?_
  exact HFIN.out
 have hl9:¬(m:Int) > 130:=by omega
 have HLG:=hideL hlong
 clear hlong
 go_wp2_with fail
 refine (HCK.out).mono ?_
 rintro e W2 ⟨rfl,c2⟩
 clear q0 q1 q2 q3 r0 r1
 by_cases hP:NetP n∧StP n (p,h)
 ·have hR0:R=0:=by rw [←HV.out.1];exact chk_yes hP.1 hP.2
  subst hR0
  obtain ⟨a0,a1,a2,a3,a4,a5,a6,a7,a8,h9⟩:=c9_ex h
  have HST:Hid (∀ U:World,Calls Tryz.prog 28 #[.agg #[.int .i64 p,.string ⟨h.toArray⟩]] U fun e w'=>e=.returned (.agg #[.int .i64 p,.int .i64 a0,.int .u64 a1,.int .u64 a2,.int .u64 a3,.int .u64 a4,.int .u64 a5,.int .u64 a6,.int .u64 a7,.int .u64 a8])∧Below U.heap.size U w'):=fun U=>by
   have hh:=HSO.out U
   rw [cubeP_T (hdP_cube hP.2.2.2) hP.1.bits.1 hP.1.bits.2,stC_arr h9] at hh
   exact hh
  have HRD:=hideL (HRD.out hP.1)
  obtain ⟨rh,ri,re,hre⟩:∃ rh ri re,folM n (p,h) Q=(rh,ri,re):=⟨_,_,_,rfl⟩
  have HNX:Hid (∀ (x:NV) (U:World),Below W1.heap.size W1 U→NW U n x→Calls Tryz.prog 32 #[.agg #[.slice x.pp np x.cp,.slice x.pt nt x.ct,.slice x.pg ng x.cg],.agg #[.int .i64 p,.int .i64 a0,.int .u64 a1,.int .u64 a2,.int .u64 a3,.int .u64 a4,.int .u64 a5,.int .u64 a6,.int .u64 a7,.int .u64 a8],.slice qp m c] U fun e w'=>e=.returned (.tuple #[.string ⟨rh.toArray⟩,.int .i64 ri,.int .i64 re])∧Below U.heap.size U w'):=by
   have hh:=HNX.out hP.1 hP.2
   rw [stC_arr h9,hre] at hh
   exact hh
  have HFN:Hid (flwM n (p,h) Q=(rh,ri,re)):=by
   show _=_
   unfold flwM
   rw [if_neg (by rw [HV.out.2];exact HLG.out),if_pos HV.out.1,hre]
  have hs0:=HC.out W2.drew (bel0Z c2 (Below.refl _ _).drew)
  have HC2:=hideL (bel0Z c2 (Below.refl _ _).drew)
  clear HSO hP h9 hre c2
  go_upto_region 6 with fail
  refine wp_region_held_drew (S:=fun U=>(U.cell? ⟨B,0,none⟩=some (.int .i64 bits)∧U.cell? ⟨B,1,none⟩=some (.slice pp np cp)∧U.cell? ⟨B,2,none⟩=some (.slice pt nt ct)∧U.cell? ⟨B,3,none⟩=some (.slice pg ng cg))∧(U.cell? ⟨b2,0,none⟩=some (.int .i64 p)∧U.cell? ⟨b2,1,none⟩=some (.string ⟨h.toArray⟩))) (by kernel_rfl) hs0 (fun _=>?_)
  refine wpAnyH_take (i:=0) (v:=.agg #[.int .i64 bits,.slice pp np cp,.slice pt nt ct,.slice pg ng cg]) rfl (by kernel_rfl) (by kernel_rfl) (by kernel_rfl) (fun _ _ _ h=>h) (Or.inl ⟨by rfl,?_⟩) hs0 ?_
  ·rintro w ⟨⟨q0,q1,q2,q3⟩,⟨r0,r1⟩⟩;go_simp
  refine wpAnyH_take (i:=2) (v:=.agg #[.int .i64 p,.string ⟨h.toArray⟩]) rfl (by kernel_rfl) (by kernel_rfl) (by kernel_rfl) (fun _ _ _ h=>h) (Or.inl ⟨by rfl,?_⟩) hs0 ?_
  ·rintro w ⟨⟨q0,q1,q2,q3⟩,⟨r0,r1⟩⟩;go_simp
  refine wpAnyH_take (i:=4) (v:=.slice qp m c) rfl (by kernel_rfl) (by kernel_rfl) (by kernel_rfl) (fun _ _ _ h=>h) (Or.inl ⟨by rfl,?_⟩) hs0 ?_
  ·rintro w ⟨⟨q0,q1,q2,q3⟩,⟨r0,r1⟩⟩;go_simp
  refine wpAnyH_ready (rs:=[1]) (by kernel_rfl) (by simp) ?_
  refine AllReadyH.cons rfl (fun KK hKK=>?_) AllReadyH.nil
  go_simp
  refine (HRD.out _ HC2.out).mono ?_
  rintro en W3 ⟨p1,c1,p2,c2,p3,c3,rfl,hw3,b3⟩
  have d3:Below W1.heap.size W1 W3:=bel0Z HC2.out b3
  have hs3:=HC.out W3 d3
  go_simp
  refine hKK.out _ _ hs3 (fun _=>?_)
  clear hKK KK
  refine wpAnyH_ready (rs:=[3]) (by kernel_rfl) (by simp) ?_
  refine AllReadyH.cons rfl (fun KK hKK=>?_) AllReadyH.nil
  go_simp
  refine (HST.out _).mono ?_
  rintro en W4 ⟨rfl,b4⟩
  have hw4:=hw3.below b4
  have d4:Below W1.heap.size W1 W4:=bel0Z d3 b4
  have hs4:=HC.out W4 d4
  clear hw3 b3 b4 d3
  go_simp
  refine hKK.out _ _ hs4 (fun _=>?_)
  clear hKK KK
  refine wpAnyH_ready (rs:=[5]) (by kernel_rfl) (by simp) ?_
  refine AllReadyH.cons rfl (fun KK hKK=>?_) AllReadyH.nil
  go_simp
  refine (HNX.out _ _ d4 hw4).mono ?_
  rintro en W5 ⟨rfl,b5⟩
  have d5:Below W1.heap.size W1 W5:=bel0Z d4 b5
  have hs5:=HC.out W5 d5
  have HFIN:Hid (FLQ (flwM n (p,h) Q) w (.returned (.tuple #[.string ⟨rh.toArray⟩,.int .i64 ri,.int .i64 re])) W5):=by
   rw [HFN.out]
   exact ⟨rfl,HBW.out W5 d5⟩
  clear b5 d5
  go_simp
  refine hKK.out _ _ hs5 (fun _=>?_)
  clear hKK KK
  refine wpAnyH_take (i:=6) (v:=.string ⟨rh.toArray⟩) rfl (by kernel_rfl) (by kernel_rfl) (by kernel_rfl) (fun _ _ _ h=>h) (Or.inl ⟨by rfl,?_⟩) hs5 ?_
  ·rintro w ⟨⟨q0,q1,q2,q3⟩,⟨r0,r1⟩⟩;go_simp
  refine wpAnyH_take (i:=7) (v:=.int .i64 ri) rfl (by kernel_rfl) (by kernel_rfl) (by kernel_rfl) (fun _ _ _ h=>h) (Or.inl ⟨by rfl,?_⟩) hs5 ?_
  ·rintro w ⟨⟨q0,q1,q2,q3⟩,⟨r0,r1⟩⟩;go_simp
  refine wpAnyH_take (i:=8) (v:=.int .i64 re) rfl (by kernel_rfl) (by kernel_rfl) (by kernel_rfl) (fun _ _ _ h=>h) (Or.inl ⟨by rfl,?_⟩) hs5 ?_
  ·rintro w ⟨⟨q0,q1,q2,q3⟩,⟨r0,r1⟩⟩;go_simp
  refine wpAnyH_take (i:=9) (v:=.string ⟨rh.toArray⟩) rfl (by kernel_rfl) (by kernel_rfl) (by kernel_rfl) (fun _ _ _ h=>h) (Or.inl ⟨by rfl,?_⟩) hs5 ?_
  ·rintro w ⟨⟨q0,q1,q2,q3⟩,⟨r0,r1⟩⟩;go_simp
  refine wpAnyH_take (i:=10) (v:=.int .i64 ri) rfl (by kernel_rfl) (by kernel_rfl) (by kernel_rfl) (fun _ _ _ h=>h) (Or.inl ⟨by rfl,?_⟩) hs5 ?_
  ·rintro w ⟨⟨q0,q1,q2,q3⟩,⟨r0,r1⟩⟩;go_simp
  refine wpAnyH_take (i:=11) (v:=.int .i64 re) rfl (by kernel_rfl) (by kernel_rfl) (by kernel_rfl) (fun _ _ _ h=>h) (Or.inl ⟨by rfl,?_⟩) hs5 ?_
  ·rintro w ⟨⟨q0,q1,q2,q3⟩,⟨r0,r1⟩⟩;go_simp
  refine wpAnyH_done (by kernel_rfl) ?_ _
  try simp only [List.getElem_toArray,List.getElem_cons_succ,List.getElem_cons_zero,Act.put,List.setIfInBounds_toArray,List.set_cons_zero,List.set_cons_succ]
  go_wp2_with fail
  refine bodyPost_ret (results_tmp3 rfl _ _ _) rfl ?_
  exact HFIN.out
 ·have hR0:R≠0:=by rw [←HV.out.1];exact chk_no hP
  have HFIN:Hid (FLQ (flwM n (p,h) Q) w (.returned (.tuple #[.string ⟨#[]⟩,.int .i64 0,.int .i64 R])) W2):=by
   unfold flwM
   rw [if_neg (by rw [HV.out.2];exact HLG.out),if_neg (by rw [HV.out.1];exact hR0),HV.out.1]
   exact ⟨rfl,HBW.out W2 c2⟩
  clear hP c2
  go_wp2_with fail
  refine bodyPost_ret (results_tmp3 rfl _ _ _) rfl ?_
  exact HFIN.out
end Go.Proofs.YtbplhianpelmfaaGreatDoor.Nt
