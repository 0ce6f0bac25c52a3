import Derived.Test.YtciffggmobblpaaGreatDoorXBR
import Derived.Test.YtciffggmobblpaaGreatDoorXBV
namespace Go.Proofs.YtciffggmobblpaaGreatDoor.Nt
open Go.RowKit Go.Shelf
set_option maxRecDepth 100000 in
set_option maxHeartbeats 16000000 in
theorem states_any (L:List (Int×List UInt8)) (p1 p2:Option Addr) (n c1 c2:Nat) (w:World) (hn:L.length=n) (h1:RowL 2 asC w p1 L) (h2:RowL 2 asC w p2 L) (hO:n≤140737488351232) :
  Calls Tryz.prog 13 #[.slice p1 n c1,.slice p2 n c2] w fun e w'=>e=.returned (.bool true)∧Below w.heap.size w w':=by
 have HN:Hid (L.length=n∧(∀ U,Below w.heap.size w U→RowL 2 asC U p1 L)∧∀ U,Below w.heap.size w U→RowL 2 asC U p2 L):=⟨hn,fun U hU=>h1.below hU,fun U hU=>h2.below hU⟩
 clear hn h1 h2
 go_enter Tryz.func13,Tryz.ntmps13
 go_wp2_with fail
 go_loopw [5] (fun vk wr=>∃ k:Nat,vk=.int .i64 (k:Int)∧k≤n∧Hid (Below w.heap.size w wr)) (fun vk _=>n - (intOf vk).toNat)
 case atStart=>exact ⟨0,rfl,Nat.zero_le _,Below.refl _ _⟩
 case round=>
  obtain ⟨k,rfl,hk,HB⟩:=hrel
  by_cases hlt:k < n
  ·obtain ⟨o,hx⟩:∃ o,L[k]?=some o:=⟨_,List.getElem?_eq_getElem (by have:=HN.out.1;omega)⟩
   obtain ⟨x,t⟩:=o
   obtain ⟨g1,o1,rfl,a9⟩:=HN.out.2.1 wr HB.out k _ hx
   obtain ⟨g2,o2,rfl,b9⟩:=HN.out.2.2 wr HB.out k _ hx
   have a0:=a9 0 _ rfl
   have a1:=a9 1 _ rfl
   have b0:=b9 0 _ rfl
   have b1:=b9 1 _ rfl
   rw [Nat.add_zero] at a0 b0
   have j0:(0:Int)≤(k:Int):=by omega
   have j1:(k:Int) < (n:Int):=by omega
   clear hx a9 b9
   go_wp2_with fail
   go_quiet (fail)
   go_wp2_with fail
   go_roundw
   case rel=>exact ⟨k+1,by go_num,by omega,bel_drewZ nq HB.out⟩
   case measure=>simp [intOf];omega
  ·obtain rfl:k=n:=by omega
   have j1:¬(k:Int) < (k:Int):=by omega
   go_wp2_with fail
   go_ret
   exact ⟨rfl,HB.out⟩
set_option maxRecDepth 100000 in
set_option maxHeartbeats 24000000 in
theorem stepNexts_walk (n:NN) (v:NV) (s9:Int×List UInt8) (w:World) (hN:LN w n v) (hO:okN n) (hh:okS s9.2) (hT:TAB w) :
  Calls Tryz.prog 4 #[.agg (nnA n v),.agg #[.int .i64 s9.1,.string ⟨s9.2.toArray⟩]] w fun e w'=>e=.returned (.bool true)∧Below w.heap.size w w':=by
 obtain ⟨p,h⟩:=s9
 simp only at hh ⊢
 obtain ⟨pp,cp,pt,ct,pg,cg⟩:=v
 obtain ⟨np,hnp⟩:∃ np,n.ports.length=np:=⟨_,rfl⟩
 obtain ⟨nt,hnt⟩:∃ nt,n.tabs.length=nt:=⟨_,rfl⟩
 obtain ⟨ng,hng⟩:∃ ng,n.grds.length=ng:=⟨_,rfl⟩
 obtain ⟨bits,hbits⟩:∃ bits,n.bits=bits:=⟨_,rfl⟩
 obtain ⟨R,hR⟩:∃ R,chkM n (p,h)=R:=⟨_,rfl⟩
 obtain ⟨E,hEe⟩:∃ E,nxE n (p,h)=E:=⟨_,rfl⟩
 obtain ⟨L,hL⟩:∃ L,nxL n (p,h)=L:=⟨_,rfl⟩
 obtain ⟨m,hm⟩:∃ m,L.length=m:=⟨_,rfl⟩
 have hmo:m≤8:=by
  rw [←hm,←hL]
  unfold nxL
  split
  ·rename_i h9
   by_cases hP:NetP n∧StP n (p,h)
   ·exact (nxt_st hP.1 hP.2).1
   ·exact absurd h9 (chk_no hP)
  ·exact Nat.zero_le _
 have hE:∀ p1 c1 p2 c2 p3 c3,nnA n ⟨p1,c1,p2,c2,p3,c3⟩=#[.int .i64 bits,.slice p1 np c1,.slice p2 nt c2,.slice p3 ng c3]:=fun p1 c1 p2 c2 p3 c3=>by unfold nnA;rw [hnp,hnt,hng,hbits]
 rw [hE]
 have hA9:(asC (p,h)).toArray=#[.int .i64 p,.string ⟨h.toArray⟩]:=rfl
 have hsnq:∀ (U:World) (e:Ending) (w':World),SNQ n (p,h) U e w'→∃ q c,e=.returned (.tuple #[.int .i64 E,.slice q m c,.int .i64 R])∧RowL 2 asC w' q L∧Below U.heap.size U w':=fun U e w'=>by
  rintro ⟨q,c,he,ho,hb⟩
  rw [hEe,hL,hR,hm] at he
  rw [hL,hm] at ho
  exact ⟨q,c,he,own_rowL asC_len ho hm,hb⟩
 obtain ⟨B,hB⟩:∃ B,w.heap.size=B:=⟨_,rfl⟩
 obtain ⟨b2,hb2⟩:∃ b2,w.heap.size+1=b2:=⟨_,rfl⟩
 obtain ⟨W1,hW1⟩:∃ W1,(w.alloc (.cells #[.int .i64 bits,.slice pp np cp,.slice pt nt ct,.slice pg ng cg] 26)).alloc (.cells #[.int .i64 p,.string ⟨h.toArray⟩] 28)=W1:=⟨_,rfl⟩
 have hz2:(w.alloc (.cells #[.int .i64 bits,.slice pp np cp,.slice pt nt ct,.slice pg ng cg] 26)).heap.size=w.heap.size+1:=Array.size_push _
 have b1:Below w.heap.size w W1:=by rw [←hW1];exact belAZ (belAZ (Below.refl _ _) _) _
 have k1:W1.heap[B]?=some (.cells #[.int .i64 bits,.slice pp np cp,.slice pt nt ct,.slice pg ng cg] 26 (0,0)):=by rw [←hW1,←hB];exact keepZ (belAZ (Below.refl _ _) _) (alloc_getZ _ _)
 have k2:W1.heap[b2]?=some (.cells #[.int .i64 p,.string ⟨h.toArray⟩] 28 (0,0)):=by rw [←hW1,←hb2,←hz2];exact alloc_getZ _ _
 have HC:Hid (∀ U,Below W1.heap.size W1 U→(U.cell? ⟨B,0,none⟩=some (.int .i64 bits)∧U.cell? ⟨B,1,none⟩=some (.slice pp np cp)∧U.cell? ⟨B,2,none⟩=some (.slice pt nt ct)∧U.cell? ⟨B,3,none⟩=some (.slice pg ng cg))∧(U.cell? ⟨b2,0,none⟩=some (.int .i64 p)∧U.cell? ⟨b2,1,none⟩=some (.string ⟨h.toArray⟩))):=fun U hU=>by
  have e1:=(cellsZ (keepZ hU k1)).1
  have e2:=(cellsZ (keepZ hU k2)).1
  exact ⟨⟨by rw [e1];rfl,by rw [e1];rfl,by rw [e1];rfl,by rw [e1];rfl⟩,⟨by rw [e2];rfl,by rw [e2];rfl⟩⟩
 have HRM:Hid (∀ U,Below W1.heap.size W1 U→Calls Tryz.prog 14 #[.agg #[.int .i64 bits,.slice pp np cp,.slice pt nt ct,.slice pg ng cg]] U fun e w'=>∃ p1 c1 p2 c2 p3 c3 r1 d1 r2 d2 r3 d3,e=.returned (.tuple #[.agg #[.int .i64 bits,.slice p1 np c1,.slice p2 nt c2,.slice p3 ng c3],.agg #[.int .i64 bits,.slice r1 np d1,.slice r2 nt d2,.slice r3 ng d3]])∧(GVN w' n ⟨p1,c1,p2,c2,p3,c3⟩∧KPN w' n ⟨r1,d1,r2,d2,r3,d3⟩)∧Below U.heap.size U w'):=fun U hU=>by
  have h:=roomy_any n ⟨pp,cp,pt,ct,pg,cg⟩ U (hN.below (bel0Z b1 hU)) hO
  rw [hE] at h
  refine h.mono ?_
  rintro e w' ⟨⟨p1,c1,p2,c2,p3,c3⟩,⟨q1,d1,q2,d2,q3,d3⟩,he,hg,hk,hb⟩
  rw [hE,hE] at he
  exact ⟨p1,c1,p2,c2,p3,c3,q1,d1,q2,d2,q3,d3,he,⟨hg,hk⟩,hb⟩
 have HVG:Hid (∀ U p1 c1 p2 c2 p3 c3,Below W1.heap.size W1 U→GVN U n ⟨p1,c1,p2,c2,p3,c3⟩→Calls Tryz.prog 6 #[.agg #[.int .i64 bits,.slice p1 np c1,.slice p2 nt c2,.slice p3 ng c3],.agg #[.int .i64 p,.string ⟨h.toArray⟩]] U fun e w'=>∃ q c,e=.returned (.tuple #[.int .i64 E,.slice q m c,.int .i64 R])∧RowL 2 asC w' q L∧Below U.heap.size U w'):=fun U p1 c1 p2 c2 p3 c3 hU hg=>by
  have h9:=snext_any n ⟨p1,c1,p2,c2,p3,c3⟩ p h U hg.ln hO (hT.at (bel0Z b1 hU)) hh
  rw [hE,hA9] at h9
  exact h9.mono (hsnq U)
 have HVD:Hid (∀ U,Below W1.heap.size W1 U→Calls Tryz.prog 15 #[.agg #[.int .i64 bits,.slice pp np cp,.slice pt nt ct,.slice pg ng cg],.agg #[.int .i64 p,.string ⟨h.toArray⟩]] U fun e w'=>∃ q c,e=.returned (.tuple #[.int .i64 E,.slice q m c,.int .i64 R])∧RowL 2 asC w' q L∧Below U.heap.size U w'):=fun U hU=>by
  have h9:=dnx_any n ⟨pp,cp,pt,ct,pg,cg⟩ p h U (hN.below (bel0Z b1 hU)) hO hh
  rw [hE,hA9] at h9
  exact h9.mono (hsnq U)
 have HEQ:Hid (∀ (U:World) p q c1 c2,RowL 2 asC U p L→RowL 2 asC U q L→Calls Tryz.prog 13 #[.slice p m c1,.slice q m c2] U fun e w'=>e=.returned (.bool true)∧Below U.heap.size U w'):=fun U p q c1 c2 h1 h2=>states_any L p q m c1 c2 U hm h1 h2 (by omega)
 have HKN:Hid (∀ U,Below W1.heap.size W1 U→Calls Tryz.prog 8 #[] U fun e w'=>e=.returned (.bool true)∧Below U.heap.size U w'):=fun U hU=>known_any U (hT.at (bel0Z b1 hU))
 have HMK:Hid (∀ U p1 c1 p2 c2 p3 c3 r1 d1 r2 d2 r3 d3,Below W1.heap.size W1 U→GVN U n ⟨p1,c1,p2,c2,p3,c3⟩→KPN U n ⟨r1,d1,r2,d2,r3,d3⟩→Calls Tryz.prog 16 #[.agg #[.int .i64 bits,.slice p1 np c1,.slice p2 nt c2,.slice p3 ng c3],.agg #[.int .i64 bits,.slice r1 np d1,.slice r2 nt d2,.slice r3 ng d3],.agg #[.int .i64 bits,.slice pp np cp,.slice pt nt ct,.slice pg ng cg]] U fun e w'=>e=.returned (.bool true)∧Below U.heap.size U w'):=fun U p1 c1 p2 c2 p3 c3 q1 d1 q2 d2 q3 d3 hU hg hk=>by
  have h:=marked_any n ⟨p1,c1,p2,c2,p3,c3⟩ ⟨q1,d1,q2,d2,q3,d3⟩ ⟨pp,cp,pt,ct,pg,cg⟩ U hg hk (hN.below (bel0Z b1 hU)) hO
  rw [hE,hE,hE] at h
  exact h
 have HF:Hid (∀ U,Below W1.heap.size W1 U→Below w.heap.size w U):=fun U hU=>bel0Z b1 hU
 have HB1:=hideL hB
 have HB2:=hideL hb2
 have HW:=hideL hW1
 clear hR hEe hL hm hmo hnp hnt hng hbits hE hA9 hsnq hB hb2 hW1 hz2 b1 k1 k2 hN hO hT hh
 obtain ⟨⟨q0,q1,q2,q3⟩,⟨t0,t1⟩⟩:=HC.out W1 (Below.refl _ _)
 go_enter Tryz.func4,Tryz.ntmps4
 go_upto_region 1 with fail
 rw [HW.out,HB2.out,HB1.out]
 go_wp2_with fail
 refine (HRM.out W1 (Below.refl _ _)).mono ?_
 rintro e W4 ⟨p1,c1,p2,c2,p3,c3,r1,d1,r2,d2,r3,d3,rfl,hGK,c4⟩
 clear q0 q1 q2 q3 t0 t1
 obtain ⟨X,hX⟩:∃ X,W4.heap.size=X:=⟨_,rfl⟩
 obtain ⟨Y,hY⟩:∃ Y,W4.heap.size+1=Y:=⟨_,rfl⟩
 obtain ⟨W5,hW5⟩:∃ W,(W4.alloc (.cells #[.int .i64 bits,.slice p1 np c1,.slice p2 nt c2,.slice p3 ng c3] 26)).alloc (.cells #[.int .i64 bits,.slice r1 np d1,.slice r2 nt d2,.slice r3 ng d3] 26)=W:=⟨_,rfl⟩
 have b5:Below W4.heap.size W4 W5:=by rw [←hW5];exact belAZ (belAZ (Below.refl _ _) _) _
 have kX:W5.heap[X]?=some (.cells #[.int .i64 bits,.slice p1 np c1,.slice p2 nt c2,.slice p3 ng c3] 26 (0,0)):=by rw [←hW5,←hX];exact keepZ (belAZ (Below.refl _ _) _) (alloc_getZ _ _)
 have kY:W5.heap[Y]?=some (.cells #[.int .i64 bits,.slice r1 np d1,.slice r2 nt d2,.slice r3 ng d3] 26 (0,0)):=by
  rw [←hW5,←hY,show W4.heap.size+1=(W4.alloc (.cells #[.int .i64 bits,.slice p1 np c1,.slice p2 nt c2,.slice p3 ng c3] 26)).heap.size from (Array.size_push _).symm]
  exact alloc_getZ _ _
 have c5:=bel0Z c4 b5
 have HD:Hid (∀ U,Below W5.heap.size W5 U→((U.cell? ⟨B,0,none⟩=some (.int .i64 bits)∧U.cell? ⟨B,1,none⟩=some (.slice pp np cp)∧U.cell? ⟨B,2,none⟩=some (.slice pt nt ct)∧U.cell? ⟨B,3,none⟩=some (.slice pg ng cg))∧(U.cell? ⟨b2,0,none⟩=some (.int .i64 p)∧U.cell? ⟨b2,1,none⟩=some (.string ⟨h.toArray⟩)))∧(U.cell? ⟨X,0,none⟩=some (.int .i64 bits)∧U.cell? ⟨X,1,none⟩=some (.slice p1 np c1)∧U.cell? ⟨X,2,none⟩=some (.slice p2 nt c2)∧U.cell? ⟨X,3,none⟩=some (.slice p3 ng c3))∧(U.cell? ⟨Y,0,none⟩=some (.int .i64 bits)∧U.cell? ⟨Y,1,none⟩=some (.slice r1 np d1)∧U.cell? ⟨Y,2,none⟩=some (.slice r2 nt d2)∧U.cell? ⟨Y,3,none⟩=some (.slice r3 ng d3))∧Below W1.heap.size W1 U∧GVN U n ⟨p1,c1,p2,c2,p3,c3⟩∧KPN U n ⟨r1,d1,r2,d2,r3,d3⟩):=fun U hU=>by
  have e1:=(cellsZ (keepZ hU kX)).1
  have e2:=(cellsZ (keepZ hU kY)).1
  exact ⟨HC.out U (bel0Z c5 hU),⟨by rw [e1];rfl,by rw [e1];rfl,by rw [e1];rfl,by rw [e1];rfl⟩,⟨by rw [e2];rfl,by rw [e2];rfl,by rw [e2];rfl,by rw [e2];rfl⟩,bel0Z c5 hU,hGK.1.below (bel0Z b5 hU),hGK.2.below (bel0Z b5 hU)⟩
 have HW5:=hideL hW5
 have HX:=hideL hX
 have HY:=hideL hY
 clear hW5 hX hY b5 kX kY c5 c4 hGK
 go_upto_region 2 with fail
 rw [HW5.out,HY.out,HX.out]
 obtain ⟨⟨⟨q0,q1,q2,q3⟩,⟨t0,t1⟩⟩,⟨s0,s1,s2,s3⟩,⟨y0,y1,y2,y3⟩,e5,g5,k5⟩:=HD.out W5 (Below.refl _ _)
 go_wp2_with fail
 refine (HVD.out W5 e5).mono ?_
 rintro e W6 ⟨pl,cl,rfl,hl6,b6⟩
 clear q0 q1 q2 q3 t0 t1 s0 s1 s2 s3 y0 y1 y2 y3 e5 g5 k5
 have HL6:=hideL hl6
 obtain ⟨⟨⟨q0,q1,q2,q3⟩,⟨t0,t1⟩⟩,⟨s0,s1,s2,s3⟩,⟨y0,y1,y2,y3⟩,e5,g5,k5⟩:=HD.out W6 b6
 clear hl6
 go_wp2_with fail
 refine (HVG.out W6 _ _ _ _ _ _ e5 g5).mono ?_
 rintro e W7 ⟨pm,cm,rfl,hl7,b7⟩
 have b7':=bel0Z b6 b7
 have HL6:=hideL (HL6.out.below b7)
 have HL7:=hideL hl7
 clear q0 q1 q2 q3 t0 t1 s0 s1 s2 s3 y0 y1 y2 y3 e5 g5 k5 b6 b7 hl7
 obtain ⟨⟨⟨q0,q1,q2,q3⟩,⟨t0,t1⟩⟩,⟨s0,s1,s2,s3⟩,⟨y0,y1,y2,y3⟩,e5,g5,k5⟩:=HD.out W7 b7'
 go_wp2_with fail
 refine (num_any R W7).mono ?_
 rintro e W8 ⟨rfl,hw⟩
 obtain rfl:W7=W8:=hw.symm
 clear hw
 go_wp2_with fail
 refine (HEQ.out W7 _ _ _ _ HL7.out HL6.out).mono ?_
 rintro e W9 ⟨rfl,b9⟩
 have b9':=bel0Z b7' b9
 clear q0 q1 q2 q3 t0 t1 s0 s1 s2 s3 y0 y1 y2 y3 e5 g5 k5 b9
 obtain ⟨⟨⟨q0,q1,q2,q3⟩,⟨t0,t1⟩⟩,⟨s0,s1,s2,s3⟩,⟨y0,y1,y2,y3⟩,e5,g5,k5⟩:=HD.out W9 b9'
 go_wp2_with fail
 refine (HMK.out W9 _ _ _ _ _ _ _ _ _ _ _ _ e5 g5 k5).mono ?_
 rintro e WA ⟨rfl,bA⟩
 have eA:=bel0Z e5 bA
 clear q0 q1 q2 q3 t0 t1 s0 s1 s2 s3 y0 y1 y2 y3 e5 g5 k5 b7' b9' bA
 go_wp2_with fail
 refine (HKN.out WA eA).mono ?_
 rintro e WB ⟨rfl,bB⟩
 have HFF:=hideL (HF.out WB (bel0Z eA bB))
 clear eA bB
 go_wp2_with fail
 go_ret
 exact ⟨rfl,HFF.out⟩
end Go.Proofs.YtciffggmobblpaaGreatDoor.Nt
