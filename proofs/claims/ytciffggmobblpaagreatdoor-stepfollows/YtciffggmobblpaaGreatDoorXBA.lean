import Derived.Test.YtciffggmobblpaaGreatDoorXAZ
namespace Go.Proofs.YtciffggmobblpaaGreatDoor.Nt
open Go.RowKit Go.Shelf
set_option maxRecDepth 100000 in
set_option maxHeartbeats 16000000 in
theorem equal_any (n:NN) (v1 v2:NV) (w:World) (h1:LN w n v1) (h2:LN w n v2) (hO:okN n) :
  Calls Tryz.prog 32 #[.agg (nnA n v1),.agg (nnA n v2)] w fun e w'=>e=.returned (.bool true)∧Below w.heap.size w w':=by
 obtain ⟨pp,cp,pt,ct,pg,cg⟩:=v1
 obtain ⟨pq,cq,pu,cu,ph,ch⟩:=v2
 unfold nnA
 simp only at h1 h2 ⊢
 obtain ⟨np,hnp⟩:∃ np,n.ports.length=np:=⟨_,rfl⟩
 obtain ⟨nt,hnt⟩:∃ nt,n.tabs.length=nt:=⟨_,rfl⟩
 obtain ⟨ng,hng⟩:∃ ng,n.grds.length=ng:=⟨_,rfl⟩
 rw [hnp,hnt,hng]
 obtain ⟨B,hB⟩:∃ B,w.heap.size=B:=⟨_,rfl⟩
 obtain ⟨b2,hb2⟩:∃ b2,w.heap.size+1=b2:=⟨_,rfl⟩
 obtain ⟨W1,hW1⟩:∃ W1,(w.alloc (Obj.cells #[.int .i64 n.bits,.slice pp np cp,.slice pt nt ct,.slice pg ng cg] 26)).alloc (Obj.cells #[.int .i64 n.bits,.slice pq np cq,.slice pu nt cu,.slice ph ng ch] 26)=W1:=⟨_,rfl⟩
 have b1:Below w.heap.size w W1:=by rw [←hW1];exact belAZ (belAZ (Below.refl _ _) _) _
 have k1:W1.heap[B]?=some (.cells #[.int .i64 n.bits,.slice pp np cp,.slice pt nt ct,.slice pg ng cg] 26 (0,0)):=by rw [←hW1,←hB];exact keepZ (belAZ (Below.refl _ _) _) (alloc_getZ _ _)
 have k2:W1.heap[b2]?=some (.cells #[.int .i64 n.bits,.slice pq np cq,.slice pu nt cu,.slice ph ng ch] 26 (0,0)):=by
  rw [←hW1,←hb2,show w.heap.size+1=(w.alloc (Obj.cells #[.int .i64 n.bits,.slice pp np cp,.slice pt nt ct,.slice pg ng cg] 26)).heap.size from (Array.size_push _).symm]
  exact alloc_getZ _ _
 have HC:Hid (∀ U,Below W1.heap.size W1 U→U.cell? ⟨B,0,none⟩=some (.int .i64 n.bits)∧U.cell? ⟨B,1,none⟩=some (.slice pp np cp)∧U.cell? ⟨B,2,none⟩=some (.slice pt nt ct)∧U.cell? ⟨B,3,none⟩=some (.slice pg ng cg)∧U.cell? ⟨b2,0,none⟩=some (.int .i64 n.bits)∧U.cell? ⟨b2,1,none⟩=some (.slice pq np cq)∧U.cell? ⟨b2,2,none⟩=some (.slice pu nt cu)∧U.cell? ⟨b2,3,none⟩=some (.slice ph ng ch)):=fun U hU=>by
  have e1:=(cellsZ (keepZ hU k1)).1
  have e2:=(cellsZ (keepZ hU k2)).1
  exact ⟨by rw [e1];rfl,by rw [e1];rfl,by rw [e1];rfl,by rw [e1];rfl,by rw [e2];rfl,by rw [e2];rfl,by rw [e2];rfl,by rw [e2];rfl⟩
 have HL:Hid (∀ U,Below W1.heap.size W1 U→LN U n ⟨pp,cp,pt,ct,pg,cg⟩∧LN U n ⟨pq,cq,pu,cu,ph,ch⟩):=fun U hU=>⟨h1.below (bel0Z b1 hU),h2.below (bel0Z b1 hU)⟩
 have HF:Hid (∀ U,Below W1.heap.size W1 U→Below w.heap.size w U):=fun U hU=>bel0Z b1 hU
 have HN:Hid (n.ports.length=np∧n.tabs.length=nt∧n.grds.length=ng∧okN n):=⟨hnp,hnt,hng,hO⟩
 have y1:np≤140737488351232:=by have:=hO.1;omega
 have y2:nt≤140737488351232:=by have:=hO.2.2.1;omega
 have y3:ng≤140737488351232:=by have:=hO.2.2.2.2.1;omega
 have HB1:=hideL hB
 have HB2:=hideL hb2
 have HW:=hideL hW1
 clear hB hb2 hW1 b1 k1 k2 h1 h2 hnp hnt hng hO
 obtain ⟨q0,q1,q2,q3,z0,z1,z2,z3⟩:=HC.out W1 (Below.refl _ _)
 go_enter Tryz.func32,Tryz.ntmps32
 go_upto_region 1 with fail
 rw [HW.out,HB2.out,HB1.out]
 go_wp2_with fail
 clear q0 q1 q2 q3 z0 z1 z2 z3
 go_loopw [5] (fun vk wr=>∃ k:Nat,vk=.int .i64 (k:Int)∧k≤np∧Hid (Below W1.heap.size W1 wr)) (fun vk _=>np - (intOf vk).toNat)
 case atStart=>exact ⟨0,rfl,Nat.zero_le _,Below.refl _ _⟩
 case round=>
  obtain ⟨k,rfl,hk,HBW⟩:=hrel
  obtain ⟨q0,q1,q2,q3,z0,z1,z2,z3⟩:=HC.out wr HBW.out
  by_cases hlt:k < np
  ·obtain ⟨x,hx⟩:∃ x,n.ports[k]?=some x:=⟨_,List.getElem?_eq_getElem (by have:=HN.out.1;omega)⟩
   obtain ⟨g1,o1,e1,a0,a1,a2,a3⟩:=(HL.out wr HBW.out).1.1 k x hx
   obtain ⟨g2,o2,e2,c0,c1,c2,c3⟩:=(HL.out wr HBW.out).2.1 k x hx
   simp only at e1 e2
   subst e1 e2
   have j0:(0:Int)≤(k:Int):=by omega
   have j1:(k:Int) < (np:Int):=by omega
   clear hx
   go_wp2_with fail
   go_quiet (fail)
   go_wp2_with fail
   go_roundw
   case rel=>exact ⟨k+1,by go_num,by omega,bel_drewZ nq HBW.out⟩
   case measure=>simp [intOf];omega
  ·obtain rfl:k=np:=by omega
   have j1:¬(k:Int) < (k:Int):=by omega
   obtain ⟨w3,rfl⟩:∃ w3,w3=wr:=⟨wr,rfl⟩
   go_wp2_with fail
   clear q0 q1 q2 q3 z0 z1 z2 z3
   go_loopw [6] (fun vk wr=>∃ i:Nat,vk=.int .i64 (i:Int)∧i≤nt∧Hid (Below W1.heap.size W1 wr)) (fun vk _=>nt - (intOf vk).toNat)
   case atStart=>exact ⟨0,rfl,Nat.zero_le _,HBW⟩
   case round=>
    clear HBW
    obtain ⟨i,rfl,hi,HBW⟩:=hrel
    obtain ⟨q0,q1,q2,q3,z0,z1,z2,z3⟩:=HC.out wr HBW.out
    by_cases hlt:i < nt
    ·obtain ⟨t,ht⟩:∃ t,n.tabs[i]?=some t:=⟨_,List.getElem?_eq_getElem (by have:=HN.out.2.1;omega)⟩
     obtain ⟨m,hm⟩:∃ m,t.length=m:=⟨_,rfl⟩
     obtain ⟨g1,o1,p1,d1,e1,a0,l1,-⟩:=(HL.out wr HBW.out).1.2.2.1 i t ht
     obtain ⟨g2,o2,p2,d2,e2,c0,l2,-⟩:=(HL.out wr HBW.out).2.2.2.1 i t ht
     simp only at e1 e2
     subst e1 e2
     rw [hm] at a0 c0
     have hmo:=HN.out.2.2.2.2.2.2.1 t (List.mem_of_getElem? ht)
     have HM:Hid (t.length=m∧okTab t):=⟨hm,hmo⟩
     have hm7:m≤140737488351232:=by have:=hmo.1;omega
     have HR:Hid (∀ U,Below wr.heap.size wr U→(U.cell? ⟨B,0,none⟩=some (.int .i64 n.bits)∧U.cell? ⟨B,1,none⟩=some (.slice pp k cp)∧U.cell? ⟨B,2,none⟩=some (.slice (some ⟨g1,o1,none⟩) nt ct)∧U.cell? ⟨B,3,none⟩=some (.slice pg ng cg)∧U.cell? ⟨b2,0,none⟩=some (.int .i64 n.bits)∧U.cell? ⟨b2,1,none⟩=some (.slice pq k cq)∧U.cell? ⟨b2,2,none⟩=some (.slice (some ⟨g2,o2,none⟩) nt cu)∧U.cell? ⟨b2,3,none⟩=some (.slice ph ng ch))∧U.cell? ⟨g1,o1+i,none⟩=some (.slice p1 m d1)∧U.cell? ⟨g2,o2+i,none⟩=some (.slice p2 m d2)∧LE U p1 t∧LE U p2 t∧Below W1.heap.size W1 U):=fun U hU=>⟨HC.out U (bel0Z HBW.out hU),keepC hU a0,keepC hU c0,l1.below hU,l2.below hU,bel0Z HBW.out hU⟩
     have j0:(0:Int)≤(i:Int):=by omega
     have j2:(i:Int) < (nt:Int):=by omega
     clear ht hm hmo l1 l2
     obtain ⟨wo,rfl⟩:∃ wo,wo=wr:=⟨wr,rfl⟩
     go_wp2_with fail
     go_quiet (fail)
     go_wp2_with fail
     clear q0 q1 q2 q3 z0 z1 z2 z3 a0 c0
     go_loopw [7] (fun vj wr=>∃ j:Nat,vj=.int .i64 (j:Int)∧j≤m∧Hid (Below wo.heap.size wo wr)) (fun vj _=>m - (intOf vj).toNat)
     case atStart=>exact ⟨0,rfl,Nat.zero_le _,bel_drewZ nq (Below.refl _ _)⟩
     case round=>
      obtain ⟨j,rfl,hj,HBJ⟩:=hrel
      obtain ⟨⟨q0,q1,q2,q3,z0,z1,z2,z3⟩,a0,c0,l1,l2,hw1⟩:=HR.out wr HBJ.out
      by_cases hlt2:j < m
      ·obtain ⟨x,hx⟩:∃ x,t[j]?=some x:=⟨_,List.getElem?_eq_getElem (by have:=HM.out.1;omega)⟩
       obtain ⟨ni,hni⟩:∃ ni,x.ins.length=ni:=⟨_,rfl⟩
       obtain ⟨nc,hnc⟩:∃ nc,x.cubes.length=nc:=⟨_,rfl⟩
       obtain ⟨no,hno⟩:∃ no,x.outs.length=no:=⟨_,rfl⟩
       obtain ⟨g3,o3,pi,ci,pc,cc,po,co,e3,u0,u1,u2,u3,u4,hl3⟩:=l1 j x hx
       obtain ⟨g4,o4,qi,di,qc,dc,qo,do9,e4,v0,v1,v2,v3,v4,hl4⟩:=l2 j x hx
       subst e3 e4
       rw [hni] at u1 v1
       rw [hnc] at u2 v2
       rw [hno] at u4 v4
       have hok:=HM.out.2.2 x (List.mem_of_getElem? hx)
       obtain ⟨W4,hW4⟩:∃ W4,wr.alloc (Obj.cells #[.string ⟨x.nm.toArray⟩,.slice pi ni ci,.slice pc nc cc,.string ⟨x.wr.toArray⟩,.slice po no co] 41)=W4:=⟨_,rfl⟩
       have b4:Below wr.heap.size wr W4:=by rw [←hW4];exact belAZ (Below.refl _ _) _
       obtain ⟨W5,hW5⟩:∃ W5,W4.alloc (Obj.cells #[.string ⟨x.nm.toArray⟩,.slice qi ni di,.slice qc nc dc,.string ⟨x.wr.toArray⟩,.slice qo no do9] 41)=W5:=⟨_,rfl⟩
       have b45:Below W4.heap.size W4 W5:=by rw [←hW5];exact belAZ (Below.refl _ _) _
       have b5:Below wr.heap.size wr W5:=bel0Z b4 b45
       obtain ⟨r1,hr1⟩:∃ r1,wr.heap.size=r1:=⟨_,rfl⟩
       obtain ⟨r2,hr2⟩:∃ r2,W4.heap.size=r2:=⟨_,rfl⟩
       have s1:W5.heap[r1]?=some (.cells #[.string ⟨x.nm.toArray⟩,.slice pi ni ci,.slice pc nc cc,.string ⟨x.wr.toArray⟩,.slice po no co] 41 (0,0)):=keepZ b45 (by rw [←hW4,←hr1];exact alloc_getZ _ _)
       have s2:W5.heap[r2]?=some (.cells #[.string ⟨x.nm.toArray⟩,.slice qi ni di,.slice qc nc dc,.string ⟨x.wr.toArray⟩,.slice qo no do9] 41 (0,0)):=by rw [←hW5,←hr2];exact alloc_getZ _ _
       have HV4:Hid (W4.cell? ⟨g4,o4+j*5,none⟩=some (.string ⟨x.nm.toArray⟩)∧W4.cell? ⟨g4,o4+j*5+1,none⟩=some (.slice qi ni di)∧W4.cell? ⟨g4,o4+j*5+2,none⟩=some (.slice qc nc dc)∧W4.cell? ⟨g4,o4+j*5+3,none⟩=some (.string ⟨x.wr.toArray⟩)∧W4.cell? ⟨g4,o4+j*5+4,none⟩=some (.slice qo no do9)):=⟨keepC b4 v0,keepC b4 v1,keepC b4 v2,keepC b4 v3,keepC b4 v4⟩
       have HR4:=hideL (HR.out W4 (bel0Z HBJ.out b4))
       have HW4:=hideL hW4
       have HK:Hid (∀ U,Below W5.heap.size W5 U→(U.cell? ⟨r1,0,none⟩=some (.string ⟨x.nm.toArray⟩)∧U.cell? ⟨r1,1,none⟩=some (.slice pi ni ci)∧U.cell? ⟨r1,2,none⟩=some (.slice pc nc cc)∧U.cell? ⟨r1,3,none⟩=some (.string ⟨x.wr.toArray⟩)∧U.cell? ⟨r1,4,none⟩=some (.slice po no co))∧(U.cell? ⟨r2,0,none⟩=some (.string ⟨x.nm.toArray⟩)∧U.cell? ⟨r2,1,none⟩=some (.slice qi ni di)∧U.cell? ⟨r2,2,none⟩=some (.slice qc nc dc)∧U.cell? ⟨r2,3,none⟩=some (.string ⟨x.wr.toArray⟩)∧U.cell? ⟨r2,4,none⟩=some (.slice qo no do9))):=fun U hU=>by
        have e1:=(cellsZ (keepZ hU s1)).1
        have e2:=(cellsZ (keepZ hU s2)).1
        exact ⟨⟨by rw [e1];rfl,by rw [e1];rfl,by rw [e1];rfl,by rw [e1];rfl,by rw [e1];rfl⟩,by rw [e2];rfl,by rw [e2];rfl,by rw [e2];rfl,by rw [e2];rfl,by rw [e2];rfl⟩
       have HI1:Hid (∀ U,Below W5.heap.size W5 U→Calls Tryz.prog 54 #[.slice pi ni ci,.slice qi ni di] U fun e w'=>e=.returned (.bool true)∧Below U.heap.size U w'):=fun U hU=>sints_any x.ins pi qi ni ci di U hni (hl3.1.below (bel0Z b5 hU)) (hl4.1.below (bel0Z b5 hU)) (by have:=hok.2.1;unfold okI at this;omega)
       have HI2:Hid (∀ U,Below W5.heap.size W5 U→Calls Tryz.prog 55 #[.slice pc nc cc,.slice qc nc dc] U fun e w'=>e=.returned (.bool true)∧Below U.heap.size U w'):=fun U hU=>stexts_any x.cubes pc qc nc cc dc U hnc (hl3.2.2.1.below (bel0Z b5 hU)) (hl4.2.2.1.below (bel0Z b5 hU)) (by have:=hok.2.2.1.1;omega)
       have HI3:Hid (∀ U,Below W5.heap.size W5 U→Calls Tryz.prog 54 #[.slice po no co,.slice qo no do9] U fun e w'=>e=.returned (.bool true)∧Below U.heap.size U w'):=fun U hU=>sints_any x.outs po qo no co do9 U hno (hl3.2.2.2.2.1.below (bel0Z b5 hU)) (hl4.2.2.2.2.1.below (bel0Z b5 hU)) (by have:=hok.2.2.2.2;unfold okI at this;omega)
       have HB5:=hideL b5
       have HW5:=hideL hW5
       have HR1:=hideL hr1
       have HR2:=hideL hr2
       have j3:(0:Int)≤(j:Int):=by omega
       have j4:(j:Int) < (m:Int):=by omega
       clear hx hni hnc hno l1 l2 hl3 hl4 hok hW4 b4 b45 hW5 b5 hr1 hr2 s1 s2 hw1
       go_upto_region 17 with fail
       rw [HW4.out,HR1.out]
       clear q0 q1 q2 q3 z0 z1 z2 z3 a0 c0 u0 u1 u2 u3 u4 v0 v1 v2 v3 v4
       obtain ⟨⟨q0,q1,q2,q3,z0,z1,z2,z3⟩,a0,c0,-,-,-⟩:=HR4.out
       obtain ⟨v0,v1,v2,v3,v4⟩:=HV4.out
       go_upto_region 18 with fail
       rw [HW5.out,HR2.out]
       clear q0 q1 q2 q3 z0 z1 z2 z3 a0 c0 v0 v1 v2 v3 v4
       obtain ⟨⟨u0,u1,u2,u3,u4⟩,v0,v1,v2,v3,v4⟩:=HK.out W5 (Below.refl _ _)
       go_wp2_with fail
       refine (HI1.out W5 (Below.refl _ _)).mono ?_
       rintro e W6 ⟨rfl,b6⟩
       clear u0 u1 u2 u3 u4 v0 v1 v2 v3 v4
       obtain ⟨⟨u0,u1,u2,u3,u4⟩,v0,v1,v2,v3,v4⟩:=HK.out W6 b6
       go_wp2_with fail
       refine (HI2.out W6 b6).mono ?_
       rintro e W7 ⟨rfl,b7⟩
       have b7':=bel0Z b6 b7
       clear u0 u1 u2 u3 u4 v0 v1 v2 v3 v4 b6 b7
       obtain ⟨⟨u0,u1,u2,u3,u4⟩,v0,v1,v2,v3,v4⟩:=HK.out W7 b7'
       go_wp2_with fail
       refine (HI3.out W7 b7').mono ?_
       rintro e W8 ⟨rfl,b8⟩
       have HB8:Hid (Below wo.heap.size wo W8):=bel0Z HBJ.out (bel0Z HB5.out (bel0Z b7' b8))
       clear u0 u1 u2 u3 u4 v0 v1 v2 v3 v4 b7' b8
       go_wp2_with fail
       go_roundw
       case rel=>exact ⟨j+1,by go_num,by omega,HB8⟩
       case measure=>simp [intOf];omega
      ·obtain rfl:j=m:=by omega
       have j4:¬(j:Int) < (j:Int):=by omega
       have HW1':=hideL hw1
       clear l1 l2 hw1
       go_wp2_with fail
       go_roundw
       case rel=>exact ⟨i+1,by go_num,by omega,HW1'⟩
       case measure=>simp [intOf];omega
    ·obtain rfl:i=nt:=by omega
     have j2:¬(i:Int) < (i:Int):=by omega
     obtain ⟨w4,rfl⟩:∃ w4,w4=wr:=⟨wr,rfl⟩
     go_wp2_with fail
     clear q0 q1 q2 q3 z0 z1 z2 z3
     go_loopw [10] (fun vk wr=>∃ l:Nat,vk=.int .i64 (l:Int)∧l≤ng∧Hid (Below W1.heap.size W1 wr)) (fun vk _=>ng - (intOf vk).toNat)
     case atStart=>exact ⟨0,rfl,Nat.zero_le _,HBW⟩
     case round=>
      clear HBW
      obtain ⟨l,rfl,hl,HBW⟩:=hrel
      obtain ⟨q0,q1,q2,q3,z0,z1,z2,z3⟩:=HC.out wr HBW.out
      by_cases hlt3:l < ng
      ·obtain ⟨t,ht⟩:∃ t,n.grds[l]?=some t:=⟨_,List.getElem?_eq_getElem (by have:=HN.out.2.2.1;omega)⟩
       obtain ⟨m,hm⟩:∃ m,t.length=m:=⟨_,rfl⟩
       obtain ⟨g1,o1,p1,d1,e1,a0,l1,-⟩:=(HL.out wr HBW.out).1.2.2.2.2.1 l t ht
       obtain ⟨g2,o2,p2,d2,e2,c0,l2,-⟩:=(HL.out wr HBW.out).2.2.2.2.2.1 l t ht
       simp only at e1 e2
       subst e1 e2
       rw [hm] at a0 c0
       have hmo:=HN.out.2.2.2.2.2.2.2.2 t (List.mem_of_getElem? ht)
       have HM:Hid (t.length=m∧okGl t):=⟨hm,hmo⟩
       have hm7:m≤140737488351232:=by have:=hmo.1;omega
       have HR:Hid (∀ U,Below wr.heap.size wr U→(U.cell? ⟨B,0,none⟩=some (.int .i64 n.bits)∧U.cell? ⟨B,1,none⟩=some (.slice pp k cp)∧U.cell? ⟨B,2,none⟩=some (.slice pt i ct)∧U.cell? ⟨B,3,none⟩=some (.slice (some ⟨g1,o1,none⟩) ng cg)∧U.cell? ⟨b2,0,none⟩=some (.int .i64 n.bits)∧U.cell? ⟨b2,1,none⟩=some (.slice pq k cq)∧U.cell? ⟨b2,2,none⟩=some (.slice pu i cu)∧U.cell? ⟨b2,3,none⟩=some (.slice (some ⟨g2,o2,none⟩) ng ch))∧U.cell? ⟨g1,o1+l,none⟩=some (.slice p1 m d1)∧U.cell? ⟨g2,o2+l,none⟩=some (.slice p2 m d2)∧LG U p1 t∧LG U p2 t∧Below W1.heap.size W1 U):=fun U hU=>⟨HC.out U (bel0Z HBW.out hU),keepC hU a0,keepC hU c0,l1.below hU,l2.below hU,bel0Z HBW.out hU⟩
       have j5:(0:Int)≤(l:Int):=by omega
       have j6:(l:Int) < (ng:Int):=by omega
       clear ht hm hmo l1 l2
       obtain ⟨wo,rfl⟩:∃ wo,wo=wr:=⟨wr,rfl⟩
       go_wp2_with fail
       go_quiet (fail)
       go_wp2_with fail
       clear q0 q1 q2 q3 z0 z1 z2 z3 a0 c0
       go_loopw [11] (fun vj wr=>∃ j:Nat,vj=.int .i64 (j:Int)∧j≤m∧Hid (Below wo.heap.size wo wr)) (fun vj _=>m - (intOf vj).toNat)
       case atStart=>exact ⟨0,rfl,Nat.zero_le _,bel_drewZ nq (Below.refl _ _)⟩
       case round=>
        obtain ⟨j,rfl,hj,HBJ⟩:=hrel
        obtain ⟨⟨q0,q1,q2,q3,z0,z1,z2,z3⟩,a0,c0,l1,l2,hw1⟩:=HR.out wr HBJ.out
        by_cases hlt4:j < m
        ·obtain ⟨x,hx⟩:∃ x,t[j]?=some x:=⟨_,List.getElem?_eq_getElem (by have:=HM.out.1;omega)⟩
         obtain ⟨nc,hnc⟩:∃ nc,x.cubes.length=nc:=⟨_,rfl⟩
         obtain ⟨g3,o3,pc,cc,e3,u0,u1,hl3,-⟩:=l1 j x hx
         obtain ⟨g4,o4,qc,dc,e4,v0,v1,hl4,-⟩:=l2 j x hx
         subst e3 e4
         rw [hnc] at u1 v1
         have hok:=HM.out.2.2 x (List.mem_of_getElem? hx)
         have HX:Hid (∀ U,Below wr.heap.size wr U→U.cell? ⟨B,3,none⟩=some (.slice (some ⟨g1,o1,none⟩) ng cg)∧U.cell? ⟨b2,3,none⟩=some (.slice (some ⟨g2,o2,none⟩) ng ch)∧U.cell? ⟨g1,o1+l,none⟩=some (.slice (some ⟨g3,o3,none⟩) m d1)∧U.cell? ⟨g2,o2+l,none⟩=some (.slice (some ⟨g4,o4,none⟩) m d2)∧U.cell? ⟨g3,o3+j*2,none⟩=some (.bool x.pm)∧U.cell? ⟨g3,o3+j*2+1,none⟩=some (.slice pc nc cc)∧U.cell? ⟨g4,o4+j*2,none⟩=some (.bool x.pm)∧U.cell? ⟨g4,o4+j*2+1,none⟩=some (.slice qc nc dc)):=fun U hU=>⟨keepC hU q3,keepC hU z3,keepC hU a0,keepC hU c0,keepC hU u0,keepC hU u1,keepC hU v0,keepC hU v1⟩
         have HI2:Hid (∀ U,Below wr.heap.size wr U→Calls Tryz.prog 55 #[.slice pc nc cc,.slice qc nc dc] U fun e w'=>e=.returned (.bool true)∧Below U.heap.size U w'):=fun U hU=>stexts_any x.cubes pc qc nc cc dc U hnc (hl3.below hU) (hl4.below hU) (by have:=hok.1;omega)
         have j7:(0:Int)≤(j:Int):=by omega
         have j8:(j:Int) < (m:Int):=by omega
         clear hx hnc l1 l2 hl3 hl4 hok hw1
         go_wp2_with fail
         refine quiet_lit3 (C:=fun U=>Below wr.heap.size wr U) (by kernel_rfl) (by kernel_rfl) (show Below _ _ _ from (Below.refl _ _).drew) ?_
         go_big_quiet_want
         refine ⟨.pointer (some ⟨B,3,none⟩),fun W hW=>?_,?_⟩
         ·go_simp
         go_big_quiet_on
         simp only [Act.put,List.setIfInBounds_toArray,List.set_cons_zero,List.set_cons_succ]
         go_big_quiet_want
         refine ⟨.slice (some ⟨g1,o1,none⟩) ng cg,fun W hW=>?_,?_⟩
         ·obtain ⟨x0,x1,x2,x3,x4,x5,x6,x7⟩:=HX.out W hW
          go_simp
         go_big_quiet_on
         simp only [Act.put,List.setIfInBounds_toArray,List.set_cons_zero,List.set_cons_succ]
         go_big_quiet_want
         refine ⟨.int .i64 (l:Int),fun W hW=>?_,?_⟩
         ·go_simp
         go_big_quiet_on
         simp only [Act.put,List.setIfInBounds_toArray,List.set_cons_zero,List.set_cons_succ]
         go_big_quiet_want
         refine ⟨.pointer (some ⟨g1,o1+l,none⟩),fun W hW=>?_,?_⟩
         ·go_simp
         go_big_quiet_on
         simp only [Act.put,List.setIfInBounds_toArray,List.set_cons_zero,List.set_cons_succ]
         go_big_quiet_want
         refine ⟨.slice (some ⟨g3,o3,none⟩) m d1,fun W hW=>?_,?_⟩
         ·obtain ⟨x0,x1,x2,x3,x4,x5,x6,x7⟩:=HX.out W hW
          go_simp
         go_big_quiet_on
         simp only [Act.put,List.setIfInBounds_toArray,List.set_cons_zero,List.set_cons_succ]
         go_big_quiet_want
         refine ⟨.int .i64 (j:Int),fun W hW=>?_,?_⟩
         ·go_simp
         go_big_quiet_on
         simp only [Act.put,List.setIfInBounds_toArray,List.set_cons_zero,List.set_cons_succ]
         go_big_quiet_want
         refine ⟨.pointer (some ⟨g3,o3+j*2,none⟩),fun W hW=>?_,?_⟩
         ·go_simp
         go_big_quiet_on
         simp only [Act.put,List.setIfInBounds_toArray,List.set_cons_zero,List.set_cons_succ]
         go_big_quiet_want
         refine ⟨.pointer (some ⟨g3,o3+j*2,none⟩),fun W hW=>?_,?_⟩
         ·go_simp
         go_big_quiet_on
         simp only [Act.put,List.setIfInBounds_toArray,List.set_cons_zero,List.set_cons_succ]
         go_big_quiet_want
         refine ⟨.bool x.pm,fun W hW=>?_,?_⟩
         ·obtain ⟨x0,x1,x2,x3,x4,x5,x6,x7⟩:=HX.out W hW
          go_simp
         go_big_quiet_on
         simp only [Act.put,List.setIfInBounds_toArray,List.set_cons_zero,List.set_cons_succ]
         go_big_quiet_want
         refine ⟨.pointer (some ⟨b2,3,none⟩),fun W hW=>?_,?_⟩
         ·go_simp
         go_big_quiet_on
         simp only [Act.put,List.setIfInBounds_toArray,List.set_cons_zero,List.set_cons_succ]
         go_big_quiet_want
         refine ⟨.slice (some ⟨g2,o2,none⟩) ng ch,fun W hW=>?_,?_⟩
         ·obtain ⟨x0,x1,x2,x3,x4,x5,x6,x7⟩:=HX.out W hW
          go_simp
         go_big_quiet_on
         simp only [Act.put,List.setIfInBounds_toArray,List.set_cons_zero,List.set_cons_succ]
         go_big_quiet_want
         refine ⟨.int .i64 (l:Int),fun W hW=>?_,?_⟩
         ·go_simp
         go_big_quiet_on
         simp only [Act.put,List.setIfInBounds_toArray,List.set_cons_zero,List.set_cons_succ]
         go_big_quiet_want
         refine ⟨.pointer (some ⟨g2,o2+l,none⟩),fun W hW=>?_,?_⟩
         ·go_simp
         go_big_quiet_on
         simp only [Act.put,List.setIfInBounds_toArray,List.set_cons_zero,List.set_cons_succ]
         go_big_quiet_want
         refine ⟨.slice (some ⟨g4,o4,none⟩) m d2,fun W hW=>?_,?_⟩
         ·obtain ⟨x0,x1,x2,x3,x4,x5,x6,x7⟩:=HX.out W hW
          go_simp
         go_big_quiet_on
         simp only [Act.put,List.setIfInBounds_toArray,List.set_cons_zero,List.set_cons_succ]
         go_big_quiet_want
         refine ⟨.int .i64 (j:Int),fun W hW=>?_,?_⟩
         ·go_simp
         go_big_quiet_on
         simp only [Act.put,List.setIfInBounds_toArray,List.set_cons_zero,List.set_cons_succ]
         go_big_quiet_want
         refine ⟨.pointer (some ⟨g4,o4+j*2,none⟩),fun W hW=>?_,?_⟩
         ·go_simp
         go_big_quiet_on
         simp only [Act.put,List.setIfInBounds_toArray,List.set_cons_zero,List.set_cons_succ]
         go_big_quiet_want
         refine ⟨.pointer (some ⟨g4,o4+j*2,none⟩),fun W hW=>?_,?_⟩
         ·go_simp
         go_big_quiet_on
         simp only [Act.put,List.setIfInBounds_toArray,List.set_cons_zero,List.set_cons_succ]
         go_big_quiet_want
         refine ⟨.bool x.pm,fun W hW=>?_,?_⟩
         ·obtain ⟨x0,x1,x2,x3,x4,x5,x6,x7⟩:=HX.out W hW
          go_simp
         go_big_quiet_on
         simp only [Act.put,List.setIfInBounds_toArray,List.set_cons_zero,List.set_cons_succ]
         go_big_quiet_want
         refine ⟨.bool false,fun W hW=>?_,?_⟩
         ·go_simp
         go_big_quiet_on
         simp only [Act.put,List.setIfInBounds_toArray,List.set_cons_zero,List.set_cons_succ]
         go_big_quiet_want
         refine ⟨.bool false,fun W hW=>?_,?_⟩
         ·go_simp
         go_big_quiet_on
         simp only [Act.put,List.setIfInBounds_toArray,List.set_cons_zero,List.set_cons_succ]
         go_big_quiet_want
         refine ⟨.pointer (some ⟨B,3,none⟩),fun W hW=>?_,?_⟩
         ·go_simp
         go_big_quiet_on
         simp only [Act.put,List.setIfInBounds_toArray,List.set_cons_zero,List.set_cons_succ]
         go_big_quiet_want
         refine ⟨.slice (some ⟨g1,o1,none⟩) ng cg,fun W hW=>?_,?_⟩
         ·obtain ⟨x0,x1,x2,x3,x4,x5,x6,x7⟩:=HX.out W hW
          go_simp
         go_big_quiet_on
         simp only [Act.put,List.setIfInBounds_toArray,List.set_cons_zero,List.set_cons_succ]
         go_big_quiet_want
         refine ⟨.int .i64 (l:Int),fun W hW=>?_,?_⟩
         ·go_simp
         go_big_quiet_on
         simp only [Act.put,List.setIfInBounds_toArray,List.set_cons_zero,List.set_cons_succ]
         go_big_quiet_want
         refine ⟨.pointer (some ⟨g1,o1+l,none⟩),fun W hW=>?_,?_⟩
         ·go_simp
         go_big_quiet_on
         simp only [Act.put,List.setIfInBounds_toArray,List.set_cons_zero,List.set_cons_succ]
         go_big_quiet_want
         refine ⟨.slice (some ⟨g3,o3,none⟩) m d1,fun W hW=>?_,?_⟩
         ·obtain ⟨x0,x1,x2,x3,x4,x5,x6,x7⟩:=HX.out W hW
          go_simp
         go_big_quiet_on
         simp only [Act.put,List.setIfInBounds_toArray,List.set_cons_zero,List.set_cons_succ]
         go_big_quiet_want
         refine ⟨.int .i64 (j:Int),fun W hW=>?_,?_⟩
         ·go_simp
         go_big_quiet_on
         simp only [Act.put,List.setIfInBounds_toArray,List.set_cons_zero,List.set_cons_succ]
         go_big_quiet_want
         refine ⟨.pointer (some ⟨g3,o3+j*2,none⟩),fun W hW=>?_,?_⟩
         ·go_simp
         go_big_quiet_on
         simp only [Act.put,List.setIfInBounds_toArray,List.set_cons_zero,List.set_cons_succ]
         go_big_quiet_want
         refine ⟨.pointer (some ⟨g3,o3+j*2+1,none⟩),fun W hW=>?_,?_⟩
         ·go_simp
         go_big_quiet_on
         simp only [Act.put,List.setIfInBounds_toArray,List.set_cons_zero,List.set_cons_succ]
         go_big_quiet_want
         refine ⟨.slice pc nc cc,fun W hW=>?_,?_⟩
         ·obtain ⟨x0,x1,x2,x3,x4,x5,x6,x7⟩:=HX.out W hW
          go_simp
         go_big_quiet_on
         simp only [Act.put,List.setIfInBounds_toArray,List.set_cons_zero,List.set_cons_succ]
         go_big_quiet_want
         refine ⟨.pointer (some ⟨b2,3,none⟩),fun W hW=>?_,?_⟩
         ·go_simp
         go_big_quiet_on
         simp only [Act.put,List.setIfInBounds_toArray,List.set_cons_zero,List.set_cons_succ]
         go_big_quiet_want
         refine ⟨.slice (some ⟨g2,o2,none⟩) ng ch,fun W hW=>?_,?_⟩
         ·obtain ⟨x0,x1,x2,x3,x4,x5,x6,x7⟩:=HX.out W hW
          go_simp
         go_big_quiet_on
         simp only [Act.put,List.setIfInBounds_toArray,List.set_cons_zero,List.set_cons_succ]
         go_big_quiet_want
         refine ⟨.int .i64 (l:Int),fun W hW=>?_,?_⟩
         ·go_simp
         go_big_quiet_on
         simp only [Act.put,List.setIfInBounds_toArray,List.set_cons_zero,List.set_cons_succ]
         go_big_quiet_want
         refine ⟨.pointer (some ⟨g2,o2+l,none⟩),fun W hW=>?_,?_⟩
         ·go_simp
         go_big_quiet_on
         simp only [Act.put,List.setIfInBounds_toArray,List.set_cons_zero,List.set_cons_succ]
         go_big_quiet_want
         refine ⟨.slice (some ⟨g4,o4,none⟩) m d2,fun W hW=>?_,?_⟩
         ·obtain ⟨x0,x1,x2,x3,x4,x5,x6,x7⟩:=HX.out W hW
          go_simp
         go_big_quiet_on
         simp only [Act.put,List.setIfInBounds_toArray,List.set_cons_zero,List.set_cons_succ]
         go_big_quiet_want
         refine ⟨.int .i64 (j:Int),fun W hW=>?_,?_⟩
         ·go_simp
         go_big_quiet_on
         simp only [Act.put,List.setIfInBounds_toArray,List.set_cons_zero,List.set_cons_succ]
         go_big_quiet_want
         refine ⟨.pointer (some ⟨g4,o4+j*2,none⟩),fun W hW=>?_,?_⟩
         ·go_simp
         go_big_quiet_on
         simp only [Act.put,List.setIfInBounds_toArray,List.set_cons_zero,List.set_cons_succ]
         go_big_quiet_want
         refine ⟨.pointer (some ⟨g4,o4+j*2+1,none⟩),fun W hW=>?_,?_⟩
         ·go_simp
         go_big_quiet_on
         simp only [Act.put,List.setIfInBounds_toArray,List.set_cons_zero,List.set_cons_succ]
         go_big_quiet_want
         refine ⟨.slice qc nc dc,fun W hW=>?_,?_⟩
         ·obtain ⟨x0,x1,x2,x3,x4,x5,x6,x7⟩:=HX.out W hW
          go_simp
         go_big_quiet_on
         simp only [Act.put,List.setIfInBounds_toArray,List.set_cons_zero,List.set_cons_succ]
         go_big_quiet_want
         refine ⟨.bool true,fun W hW=>?_,?_⟩
         ·go_simp
          refine (HI2.out W hW).mono ?_
          rintro e w7 ⟨rfl,hb⟩
          exact ⟨rfl,bel0Z hW hb⟩
         go_big_quiet_on
         simp only [Act.put,List.setIfInBounds_toArray,List.set_cons_zero,List.set_cons_succ]
         go_big_quiet_want
         refine ⟨.bool false,fun W hW=>?_,?_⟩
         ·go_simp
         go_big_quiet_on
         simp only [Act.put,List.setIfInBounds_toArray,List.set_cons_zero,List.set_cons_succ]
         go_big_quiet_want
         refine ⟨.bool false,fun W hW=>?_,?_⟩
         ·go_simp
         go_big_quiet_on
         simp only [Act.put,List.setIfInBounds_toArray,List.set_cons_zero,List.set_cons_succ]
         refine wpQuiet_nil ?_
         intro W5 hW5
         have HB8:Hid (Below wo.heap.size wo W5):=bel0Z HBJ.out hW5
         clear q0 q1 q2 q3 z0 z1 z2 z3 a0 c0 u0 u1 v0 v1 hW5
         go_wp2_with fail
         go_roundw
         case rel=>exact ⟨j+1,by go_num,by omega,HB8⟩
         case measure=>simp [intOf];omega
        ·obtain rfl:j=m:=by omega
         have j8:¬(j:Int) < (j:Int):=by omega
         have HW1':=hideL hw1
         clear l1 l2 hw1
         go_wp2_with fail
         go_roundw
         case rel=>exact ⟨l+1,by go_num,by omega,HW1'⟩
         case measure=>simp [intOf];omega
      ·obtain rfl:l=ng:=by omega
       have j6:¬(l:Int) < (l:Int):=by omega
       have HFF:=hideL (HF.out wr HBW.out)
       go_wp2_with fail
       go_ret
       exact ⟨rfl,HFF.out⟩
end Go.Proofs.YtciffggmobblpaaGreatDoor.Nt
