import Derived.Test.YtciffggmobblpaaGreatDoorXBD
namespace Go.Proofs.YtciffggmobblpaaGreatDoor.Nt
open Go.RowKit Go.Shelf
set_option maxRecDepth 100000 in
set_option maxHeartbeats 24000000 in
theorem marked_any (n:NN) (v1 v2 v3:NV) (w:World) (h1:GVN w n v1) (h2:KPN w n v2) (h3:LN w n v3) (hO:okN n) :
  Calls Tryz.prog 16 #[.agg (nnA n v1),.agg (nnA n v2),.agg (nnA n v3)] w fun e w'=>e=.returned (.bool true)∧Below w.heap.size w w':=by
 obtain ⟨gP,gT,gG,rfl,hP,hT,hG⟩:=h1
 obtain ⟨pq,cq,pu,cu,ph,ch⟩:=v2
 obtain ⟨pr,cr,ps,cs,pt,ct⟩:=v3
 unfold nnA
 simp only at h2 h3 ⊢
 obtain ⟨np,hnp⟩:∃ np,n.ports.length=np:=⟨_,rfl⟩
 obtain ⟨nt,hnt⟩:∃ nt,n.tabs.length=nt:=⟨_,rfl⟩
 obtain ⟨ng,hng⟩:∃ ng,n.grds.length=ng:=⟨_,rfl⟩
 rw [hnp,hnt,hng]
 obtain ⟨mp,hmp⟩:∃ mp,np+1=mp:=⟨_,rfl⟩
 obtain ⟨mt,hmt⟩:∃ mt,nt+1=mt:=⟨_,rfl⟩
 obtain ⟨mg,hmg⟩:∃ mg,ng+1=mg:=⟨_,rfl⟩
 rw [hmp,hmt,hmg]
 have hE1:nnA n ⟨some ⟨gP,0,none⟩,mp,some ⟨gT,0,none⟩,mt,some ⟨gG,0,none⟩,mg⟩=#[.int .i64 n.bits,.slice (some ⟨gP,0,none⟩) np mp,.slice (some ⟨gT,0,none⟩) nt mt,.slice (some ⟨gG,0,none⟩) ng mg]:=by unfold nnA;rw [hnp,hnt,hng]
 have hE2:nnA n ⟨pq,cq,pu,cu,ph,ch⟩=#[.int .i64 n.bits,.slice pq np cq,.slice pu nt cu,.slice ph ng ch]:=by unfold nnA;rw [hnp,hnt,hng]
 have hE3:nnA n ⟨pr,cr,ps,cs,pt,ct⟩=#[.int .i64 n.bits,.slice pr np cr,.slice ps nt cs,.slice pt ng ct]:=by unfold nnA;rw [hnp,hnt,hng]
 have o1:=hO.1
 have o2:=hO.2.2.1
 have o3:=hO.2.2.2.2.1
 obtain ⟨B,hB⟩:∃ B,w.heap.size=B:=⟨_,rfl⟩
 obtain ⟨b2,hb2⟩:∃ b2,w.heap.size+1=b2:=⟨_,rfl⟩
 obtain ⟨b3,hb3⟩:∃ b3,w.heap.size+1+1=b3:=⟨_,rfl⟩
 obtain ⟨W1,hW1⟩:∃ W1,(((w.alloc (.cells #[.int .i64 n.bits,.slice (some ⟨gP,0,none⟩) np mp,.slice (some ⟨gT,0,none⟩) nt mt,.slice (some ⟨gG,0,none⟩) ng mg] 26)).alloc (.cells #[.int .i64 n.bits,.slice pq np cq,.slice pu nt cu,.slice ph ng ch] 26)).alloc (.cells #[.int .i64 n.bits,.slice pr np cr,.slice ps nt cs,.slice pt ng ct] 26))=W1:=⟨_,rfl⟩
 have b1:Below w.heap.size w W1:=by rw [←hW1];exact belAZ (belAZ (belAZ (Below.refl _ _) _) _) _
 have hz2:(w.alloc (.cells #[.int .i64 n.bits,.slice (some ⟨gP,0,none⟩) np mp,.slice (some ⟨gT,0,none⟩) nt mt,.slice (some ⟨gG,0,none⟩) ng mg] 26)).heap.size=w.heap.size+1:=Array.size_push _
 have hz3:((w.alloc (.cells #[.int .i64 n.bits,.slice (some ⟨gP,0,none⟩) np mp,.slice (some ⟨gT,0,none⟩) nt mt,.slice (some ⟨gG,0,none⟩) ng mg] 26)).alloc (.cells #[.int .i64 n.bits,.slice pq np cq,.slice pu nt cu,.slice ph ng ch] 26)).heap.size=w.heap.size+1+1:=by
  show ((w.heap.push _).push _).size=_
  rw [Array.size_push,Array.size_push]
 have k1:W1.heap[B]?=some (.cells #[.int .i64 n.bits,.slice (some ⟨gP,0,none⟩) np mp,.slice (some ⟨gT,0,none⟩) nt mt,.slice (some ⟨gG,0,none⟩) ng mg] 26 (0,0)):=by rw [←hW1,←hB];exact keepZ (belAZ (belAZ (Below.refl _ _) _) _) (alloc_getZ _ _)
 have k2:W1.heap[b2]?=some (.cells #[.int .i64 n.bits,.slice pq np cq,.slice pu nt cu,.slice ph ng ch] 26 (0,0)):=by rw [←hW1,←hb2,←hz2];exact keepZ (belAZ (Below.refl _ _) _) (alloc_getZ _ _)
 have k3:W1.heap[b3]?=some (.cells #[.int .i64 n.bits,.slice pr np cr,.slice ps nt cs,.slice pt ng ct] 26 (0,0)):=by rw [←hW1,←hb3,←hz3];exact alloc_getZ _ _
 have HC:Hid (∀ U,Below W1.heap.size W1 U→(U.cell? ⟨B,0,none⟩=some (.int .i64 n.bits)∧U.cell? ⟨B,1,none⟩=some (.slice (some ⟨gP,0,none⟩) np mp)∧U.cell? ⟨B,2,none⟩=some (.slice (some ⟨gT,0,none⟩) nt mt)∧U.cell? ⟨B,3,none⟩=some (.slice (some ⟨gG,0,none⟩) ng mg))∧(U.cell? ⟨b2,0,none⟩=some (.int .i64 n.bits)∧U.cell? ⟨b2,1,none⟩=some (.slice pq np cq)∧U.cell? ⟨b2,2,none⟩=some (.slice pu nt cu)∧U.cell? ⟨b2,3,none⟩=some (.slice ph ng ch))∧(U.cell? ⟨b3,0,none⟩=some (.int .i64 n.bits)∧U.cell? ⟨b3,1,none⟩=some (.slice pr np cr)∧U.cell? ⟨b3,2,none⟩=some (.slice ps nt cs)∧U.cell? ⟨b3,3,none⟩=some (.slice pt ng ct))):=fun U hU=>by
  have e1:=(cellsZ (keepZ hU k1)).1
  have e2:=(cellsZ (keepZ hU k2)).1
  have e3:=(cellsZ (keepZ hU k3)).1
  exact ⟨⟨by rw [e1];rfl,by rw [e1];rfl,by rw [e1];rfl,by rw [e1];rfl⟩,⟨by rw [e2];rfl,by rw [e2];rfl,by rw [e2];rfl,by rw [e2];rfl⟩,by rw [e3];rfl,by rw [e3];rfl,by rw [e3];rfl,by rw [e3];rfl⟩
 have HF:Hid (∀ U,Below W1.heap.size W1 U→Below w.heap.size w U∧PF U gP n.ports∧TF U gT n.tabs∧GF U gG n.grds∧KPN U n ⟨pq,cq,pu,cu,ph,ch⟩):=fun U hU=>⟨bel0Z b1 hU,hP.below (bel0Z b1 hU),hT.below (bel0Z b1 hU),hG.below (bel0Z b1 hU),h2.below (bel0Z b1 hU)⟩
 have hV1:GVN w n ⟨some ⟨gP,0,none⟩,mp,some ⟨gT,0,none⟩,mt,some ⟨gG,0,none⟩,mg⟩:=⟨gP,gT,gG,by rw [hnp,hnt,hng,hmp,hmt,hmg],hP,hT,hG⟩
 have HE1:Hid (∀ U,Below W1.heap.size W1 U→Calls Tryz.prog 32 #[.agg #[.int .i64 n.bits,.slice (some ⟨gP,0,none⟩) np mp,.slice (some ⟨gT,0,none⟩) nt mt,.slice (some ⟨gG,0,none⟩) ng mg],.agg #[.int .i64 n.bits,.slice pr np cr,.slice ps nt cs,.slice pt ng ct]] U fun e w'=>e=.returned (.bool true)∧Below U.heap.size U w'):=fun U hU=>by
  have:=equal_any n ⟨some ⟨gP,0,none⟩,mp,some ⟨gT,0,none⟩,mt,some ⟨gG,0,none⟩,mg⟩ ⟨pr,cr,ps,cs,pt,ct⟩ U (hV1.below (bel0Z b1 hU)).ln (h3.below (bel0Z b1 hU)) hO
  rw [hE1,hE3] at this
  exact this
 have HE2:Hid (∀ U,Below W1.heap.size W1 U→Calls Tryz.prog 32 #[.agg #[.int .i64 n.bits,.slice pq np cq,.slice pu nt cu,.slice ph ng ch],.agg #[.int .i64 n.bits,.slice pr np cr,.slice ps nt cs,.slice pt ng ct]] U fun e w'=>e=.returned (.bool true)∧Below U.heap.size U w'):=fun U hU=>by
  have:=equal_any n ⟨pq,cq,pu,cu,ph,ch⟩ ⟨pr,cr,ps,cs,pt,ct⟩ U (h2.below (bel0Z b1 hU)).ln (h3.below (bel0Z b1 hU)) hO
  rw [hE2,hE3] at this
  exact this
 have HE3:Hid (∀ U,Below W1.heap.size W1 U→Calls Tryz.prog 33 #[.agg #[.int .i64 n.bits,.slice (some ⟨gP,0,none⟩) np mp,.slice (some ⟨gT,0,none⟩) nt mt,.slice (some ⟨gG,0,none⟩) ng mg]] U fun e w'=>e=.returned (.bool true)∧Below U.heap.size U w'):=fun U hU=>mlists_any n.bits n.tabs n.grds np nt ng mp mt mg _ _ _ U (hT.below (bel0Z b1 hU)).tmk (hG.below (bel0Z b1 hU)).gmk hnt hng (by omega) (by omega) (fun t ht=>by have:=(hO.2.2.2.1 t ht).1;omega) (fun t ht=>by have:=(hO.2.2.2.2.2 t ht).1;omega)
 have HN:Hid (n.ports.length=np∧n.tabs.length=nt∧n.grds.length=ng∧okN n):=⟨hnp,hnt,hng,hO⟩
 have y1:np≤140737488351232:=by omega
 have y2:nt≤140737488351232:=by omega
 have y3:ng≤140737488351232:=by omega
 have x2:(np:Int)+1=(mp:Int):=by omega
 have x3:IntKind.i64.wrap (mp:Int)=(mp:Int):=by rw [IntKind.wrap_i64];omega
 have x4:(0:Int)≤(np:Int):=by omega
 have x5:(0:Int)≤(mp:Int):=by omega
 have x7:(np:Int) < (mp:Int):=by omega
 have y92:(nt:Int)+1=(mt:Int):=by omega
 have y93:IntKind.i64.wrap (mt:Int)=(mt:Int):=by rw [IntKind.wrap_i64];omega
 have y94:(0:Int)≤(nt:Int):=by omega
 have y95:(0:Int)≤(mt:Int):=by omega
 have y97:(nt:Int) < (mt:Int):=by omega
 have z2:(ng:Int)+1=(mg:Int):=by omega
 have z3:IntKind.i64.wrap (mg:Int)=(mg:Int):=by rw [IntKind.wrap_i64];omega
 have z4:(0:Int)≤(ng:Int):=by omega
 have z5:(0:Int)≤(mg:Int):=by omega
 have z7:(ng:Int) < (mg:Int):=by omega
 have HB1:=hideL hB
 have HB2:=hideL hb2
 have HB3:=hideL hb3
 have HW:=hideL hW1
 clear hB hb2 hb3 hW1 b1 hz2 hz3 k1 k2 k3 h2 h3 hnp hnt hng hO hP hT hG hV1 hE1 hE2 hE3 o1 o2 o3 hmp hmt hmg
 obtain ⟨⟨q0,q1,q2,q3⟩,⟨r0,r1,r2,r3⟩,⟨t0,t1,t2,t3⟩⟩:=HC.out W1 (Below.refl _ _)
 go_enter Tryz.func16,Tryz.ntmps16
 go_upto_region 1 with fail
 rw [HW.out,HB3.out,HB2.out,HB1.out]
 go_wp2_with fail
 refine (HE1.out W1 (Below.refl _ _)).mono ?_
 rintro e W2 ⟨rfl,c2⟩
 clear q0 q1 q2 q3 r0 r1 r2 r3 t0 t1 t2 t3
 obtain ⟨⟨q0,q1,q2,q3⟩,⟨r0,r1,r2,r3⟩,⟨t0,t1,t2,t3⟩⟩:=HC.out W2 c2
 go_wp2_with fail
 refine (HE2.out W2 c2).mono ?_
 rintro e W3 ⟨rfl,c3⟩
 have c3':=bel0Z c2 c3
 clear q0 q1 q2 q3 r0 r1 r2 r3 t0 t1 t2 t3
 clear c2 c3
 obtain ⟨⟨q0,q1,q2,q3⟩,⟨r0,r1,r2,r3⟩,⟨t0,t1,t2,t3⟩⟩:=HC.out W3 c3'
 go_wp2_with fail
 refine (HE3.out W3 c3').mono ?_
 rintro e W4 ⟨rfl,c4⟩
 have HC4:=hideL (bel0Z c3' c4)
 clear q0 q1 q2 q3 r0 r1 r2 r3 t0 t1 t2 t3
 clear c3' c4
 go_wp2_with fail
 go_loopw [7] (fun vk wr=>∃ i:Nat,vk=.int .i64 (i:Int)∧i≤nt∧Hid (Below W1.heap.size W1 wr)) (fun vk _=>nt - (intOf vk).toNat)
 case atStart=>exact ⟨0,rfl,Nat.zero_le _,HC4⟩
 case round=>
  clear HC4
  obtain ⟨i,rfl,hi,HBW⟩:=hrel
  obtain ⟨⟨q0,q1,q2,q3⟩,⟨r0,r1,r2,r3⟩,⟨t0,t1,t2,t3⟩⟩:=HC.out wr HBW.out
  by_cases hlt:i < nt
  ·obtain ⟨t,ht⟩:∃ t,n.tabs[i]?=some t:=⟨_,List.getElem?_eq_getElem (by have:=HN.out.2.1;omega)⟩
   obtain ⟨g,o,q,c,e9,a0,hme,-⟩:=(HF.out wr HBW.out).2.2.2.2.2.2.1 i t ht
   simp only at e9
   subst e9
   obtain ⟨m,hm⟩:∃ m,t.length=m:=⟨_,rfl⟩
   rw [hm] at a0
   have hmo:=HN.out.2.2.2.2.2.2.1 t (List.mem_of_getElem? ht)
   have HM:Hid (t.length=m∧okTab t):=⟨hm,hmo⟩
   have hm7:m≤140737488351232:=by have:=hmo.1;omega
   have HR:Hid (∀ U,Below wr.heap.size wr U→U.cell? ⟨g,o+i,none⟩=some (.slice q m c)∧ME U q t∧Below W1.heap.size W1 U):=fun U hU=>⟨keepC hU a0,hme.below hU,bel0Z HBW.out hU⟩
   have j0:(0:Int)≤(i:Int):=by omega
   have j2:(i:Int) < (nt:Int):=by omega
   clear ht hm hmo hme
   obtain ⟨wo,rfl⟩:∃ wo,wo=wr:=⟨wr,rfl⟩
   go_wp2_with fail
   clear q0 q1 q2 q3 r0 r1 r2 r3 t0 t1 t2 t3
   clear a0
   go_loopw [8] (fun vj wr=>∃ j:Nat,vj=.int .i64 (j:Int)∧j≤m∧Hid (Below wo.heap.size wo wr)) (fun vj _=>m - (intOf vj).toNat)
   case atStart=>exact ⟨0,rfl,Nat.zero_le _,Below.refl _ _⟩
   case round=>
    obtain ⟨j,rfl,hj,HBJ⟩:=hrel
    obtain ⟨a0,hme,hw1⟩:=HR.out wr HBJ.out
    obtain ⟨⟨q0,q1,q2,q3⟩,⟨r0,r1,r2,r3⟩,⟨t0,t1,t2,t3⟩⟩:=HC.out wr hw1
    by_cases hlt2:j < m
    ·obtain ⟨x,hx⟩:∃ x,t[j]?=some x:=⟨_,List.getElem?_eq_getElem (by have:=HM.out.1;omega)⟩
     obtain ⟨ni,hni⟩:∃ k,x.ins.length=k:=⟨_,rfl⟩
     obtain ⟨ni2,hni2⟩:∃ k,ni+2=k:=⟨_,rfl⟩
     obtain ⟨nc,hnc⟩:∃ k,x.cubes.length=k:=⟨_,rfl⟩
     obtain ⟨nc2,hnc2⟩:∃ k,nc+2=k:=⟨_,rfl⟩
     obtain ⟨no,hno⟩:∃ k,x.outs.length=k:=⟨_,rfl⟩
     obtain ⟨no2,hno2⟩:∃ k,no+2=k:=⟨_,rfl⟩
     obtain ⟨g3,o3,gi,gc,go,e3,u0,u1,u2,u3,u4,d1,d2,d3⟩:=hme j x hx
     subst e3
     rw [hni,hni2] at u1
     rw [hnc,hnc2] at u2
     rw [hno,hno2] at u4
     have hok:=HM.out.2.2 x (List.mem_of_getElem? hx)
     have i1:=vA_im d1 rfl
     have i2:=vA_sm d2 rfl
     have i3:=vA_im d3 rfl
     rw [hni] at i1
     rw [hnc] at i2
     rw [hno] at i3
     obtain ⟨W4,hW4⟩:∃ W4,wr.alloc (Obj.cells #[.string ⟨x.nm.toArray⟩,.slice (some ⟨gi,0,none⟩) ni ni2,.slice (some ⟨gc,0,none⟩) nc nc2,.string ⟨x.wr.toArray⟩,.slice (some ⟨go,0,none⟩) no no2] 41)=W4:=⟨_,rfl⟩
     have b4:Below wr.heap.size wr W4:=by rw [←hW4];exact belAZ (Below.refl _ _) _
     obtain ⟨rb,hrb⟩:∃ rb,wr.heap.size=rb:=⟨_,rfl⟩
     have s1:W4.heap[rb]?=some (.cells #[.string ⟨x.nm.toArray⟩,.slice (some ⟨gi,0,none⟩) ni ni2,.slice (some ⟨gc,0,none⟩) nc nc2,.string ⟨x.wr.toArray⟩,.slice (some ⟨go,0,none⟩) no no2] 41 (0,0)):=by rw [←hW4,←hrb];exact alloc_getZ _ _
     have HK:Hid (W4.cell? ⟨rb,0,none⟩=some (.string ⟨x.nm.toArray⟩)∧W4.cell? ⟨rb,1,none⟩=some (.slice (some ⟨gi,0,none⟩) ni ni2)∧W4.cell? ⟨rb,2,none⟩=some (.slice (some ⟨gc,0,none⟩) nc nc2)∧W4.cell? ⟨rb,3,none⟩=some (.string ⟨x.wr.toArray⟩)∧W4.cell? ⟨rb,4,none⟩=some (.slice (some ⟨go,0,none⟩) no no2)):=by
      have e1:=(cellsZ s1).1
      exact ⟨by rw [e1];rfl,by rw [e1];rfl,by rw [e1];rfl,by rw [e1];rfl,by rw [e1];rfl⟩
     have HI1:Hid (Calls Tryz.prog 34 #[.slice (some ⟨gi,0,none⟩) ni ni2] W4 fun e w'=>e=.returned (.bool true)∧w'=W4):=mints_any gi ni (ni+1) ni2 W4 hni2 rfl (keepC b4 i1.1) (keepC b4 i1.2) (by have:=hok.2.1;unfold okI at this;omega)
     have HI2:Hid (Calls Tryz.prog 34 #[.slice (some ⟨go,0,none⟩) no no2] W4 fun e w'=>e=.returned (.bool true)∧w'=W4):=mints_any go no (no+1) no2 W4 hno2 rfl (keepC b4 i3.1) (keepC b4 i3.2) (by have:=hok.2.2.2.2;unfold okI at this;omega)
     have HI3:Hid (Calls Tryz.prog 35 #[.slice (some ⟨gc,0,none⟩) nc nc2] W4 fun e w'=>e=.returned (.bool true)∧w'=W4):=mtexts_any gc nc (nc+1) nc2 W4 hnc2 rfl (keepC b4 i2.1) (keepC b4 i2.2) (by have:=hok.2.2.1.1;omega)
     have HB4:Hid (Below wo.heap.size wo W4):=bel0Z HBJ.out b4
     have HW4:=hideL hW4
     have HR1:=hideL hrb
     have j3:(0:Int)≤(j:Int):=by omega
     have j4:(j:Int) < (m:Int):=by omega
     clear hx hni hni2 hnc hnc2 hno hno2 hme d1 d2 d3 i1 i2 i3 hok hW4 b4 hrb s1 hw1
     go_upto_region 10 with fail
     rw [HW4.out,HR1.out]
     clear q0 q1 q2 q3 r0 r1 r2 r3 t0 t1 t2 t3
     clear a0 u0 u1 u2 u3 u4
     obtain ⟨u0,u1,u2,u3,u4⟩:=HK.out
     go_wp2_with fail
     refine (HI1.out).mono ?_
     rintro e W6 ⟨rfl,h6⟩
     subst h6
     go_wp2_with fail
     refine (HI2.out).mono ?_
     rintro e W6 ⟨rfl,h6⟩
     subst h6
     go_wp2_with fail
     refine (HI3.out).mono ?_
     rintro e W6 ⟨rfl,h6⟩
     subst h6
     clear u0 u1 u2 u3 u4
     go_wp2_with fail
     go_roundw
     case rel=>exact ⟨j+1,by go_num,by omega,HB4⟩
     case measure=>simp [intOf];omega
    ·obtain rfl:j=m:=by omega
     have j4:¬(j:Int) < (j:Int):=by omega
     have HW1':=hideL hw1
     clear hme hw1
     go_wp2_with fail
     go_roundw
     case rel=>exact ⟨i+1,by go_num,by omega,HW1'⟩
     case measure=>simp [intOf];omega
  ·obtain rfl:i=nt:=by omega
   have j2:¬(i:Int) < (i:Int):=by omega
   obtain ⟨w4,rfl⟩:∃ w4,w4=wr:=⟨wr,rfl⟩
   go_wp2_with fail
   clear q0 q1 q2 q3 r0 r1 r2 r3 t0 t1 t2 t3
   go_loopw [10] (fun vk wr=>∃ l:Nat,vk=.int .i64 (l:Int)∧l≤ng∧Hid (Below W1.heap.size W1 wr)) (fun vk _=>ng - (intOf vk).toNat)
   case atStart=>exact ⟨0,rfl,Nat.zero_le _,HBW⟩
   case round=>
    clear HBW
    obtain ⟨l,rfl,hl,HBW⟩:=hrel
    obtain ⟨⟨q0,q1,q2,q3⟩,⟨r0,r1,r2,r3⟩,⟨t0,t1,t2,t3⟩⟩:=HC.out wr HBW.out
    by_cases hlt3:l < ng
    ·obtain ⟨t,ht⟩:∃ t,n.grds[l]?=some t:=⟨_,List.getElem?_eq_getElem (by have:=HN.out.2.2.1;omega)⟩
     obtain ⟨g,o,q,c,e9,a0,hme,-⟩:=(HF.out wr HBW.out).2.2.2.2.2.2.2.2.1 l t ht
     simp only at e9
     subst e9
     obtain ⟨m,hm⟩:∃ m,t.length=m:=⟨_,rfl⟩
     rw [hm] at a0
     have hmo:=HN.out.2.2.2.2.2.2.2.2 t (List.mem_of_getElem? ht)
     have HM:Hid (t.length=m∧okGl t):=⟨hm,hmo⟩
     have hm7:m≤140737488351232:=by have:=hmo.1;omega
     have HR:Hid (∀ U,Below wr.heap.size wr U→U.cell? ⟨g,o+l,none⟩=some (.slice q m c)∧MG U q t∧Below W1.heap.size W1 U):=fun U hU=>⟨keepC hU a0,hme.below hU,bel0Z HBW.out hU⟩
     have j6:(0:Int)≤(l:Int):=by omega
     have j7:(l:Int) < (ng:Int):=by omega
     clear ht hm hmo hme
     obtain ⟨wo,rfl⟩:∃ wo,wo=wr:=⟨wr,rfl⟩
     go_wp2_with fail
     clear q0 q1 q2 q3 r0 r1 r2 r3 t0 t1 t2 t3
     clear a0
     go_loopw [11] (fun vj wr=>∃ j:Nat,vj=.int .i64 (j:Int)∧j≤m∧Hid (Below wo.heap.size wo wr)) (fun vj _=>m - (intOf vj).toNat)
     case atStart=>exact ⟨0,rfl,Nat.zero_le _,Below.refl _ _⟩
     case round=>
      obtain ⟨j,rfl,hj,HBJ⟩:=hrel
      obtain ⟨a0,hme,hw1⟩:=HR.out wr HBJ.out
      obtain ⟨⟨q0,q1,q2,q3⟩,⟨r0,r1,r2,r3⟩,⟨t0,t1,t2,t3⟩⟩:=HC.out wr hw1
      by_cases hlt2:j < m
      ·obtain ⟨x,hx⟩:∃ x,t[j]?=some x:=⟨_,List.getElem?_eq_getElem (by have:=HM.out.1;omega)⟩
       obtain ⟨nc,hnc⟩:∃ k,x.cubes.length=k:=⟨_,rfl⟩
       obtain ⟨nc2,hnc2⟩:∃ k,nc+2=k:=⟨_,rfl⟩
       obtain ⟨g3,o3,gc,e3,u0,u1,d2⟩:=hme j x hx
       subst e3
       rw [hnc,hnc2] at u1
       have hok:=HM.out.2.2 x (List.mem_of_getElem? hx)
       have i2:=vA_sm d2 rfl
       rw [hnc] at i2
       have HI3:Hid (Calls Tryz.prog 35 #[.slice (some ⟨gc,0,none⟩) nc nc2] wr fun e w'=>e=.returned (.bool true)∧w'=wr):=mtexts_any gc nc (nc+1) nc2 wr hnc2 rfl i2.1 i2.2 (by have:=hok.1;omega)
       have j8:(0:Int)≤(j:Int):=by omega
       have j9:(j:Int) < (m:Int):=by omega
       clear hx hnc hnc2 hme d2 i2 hok hw1
       go_wp2_with fail
       refine (HI3.out).mono ?_
       rintro e W6 ⟨rfl,h6⟩
       subst h6
       go_wp2_with fail
       go_roundw
       case rel=>exact ⟨j+1,by go_num,by omega,HBJ⟩
       case measure=>simp [intOf];omega
      ·obtain rfl:j=m:=by omega
       have j9:¬(j:Int) < (j:Int):=by omega
       have HW1':=hideL hw1
       clear hme hw1
       go_wp2_with fail
       go_roundw
       case rel=>exact ⟨l+1,by go_num,by omega,HW1'⟩
       case measure=>simp [intOf];omega
    ·obtain rfl:l=ng:=by omega
     have j7:¬(l:Int) < (l:Int):=by omega
     obtain ⟨hFF,⟨cP,p1,-,p2⟩,⟨cT,t8,-,gm,t9,t10⟩,⟨cG,g8,-,gn,gs,g9,g10,g11⟩,-⟩:=HF.out wr HBW.out
     have HFF:=hideL hFF
     rw [HN.out.1] at p2
     rw [HN.out.2.1] at t9
     rw [HN.out.2.2.1] at g9
     rw [←(cellsZ p1).1] at p2
     rw [←(cellsZ t8).1] at t9
     rw [←(cellsZ g8).1] at g9
     have m1:wr.cell? ⟨gm,0,none⟩=some (.string ⟨#[98,101,104,105,110,100,32,116,104,101,32,101,110,100]⟩):=by rw [(cellsZ t10).1];rfl
     have m2:wr.cell? ⟨gn,1,none⟩=some (.slice (some ⟨gs,0,none⟩) 1 1):=by rw [(cellsZ g10).1];rfl
     have m3:wr.cell? ⟨gs,0,none⟩=some (.string ⟨#[98,101,104,105,110,100,32,116,104,101,32,101,110,100]⟩):=by rw [(cellsZ g11).1];rfl
     clear hFF p1 t8 t10 g8 g10 g11
     go_wp2_with fail
     go_ret
     exact ⟨rfl,HFF.out⟩
end Go.Proofs.YtciffggmobblpaaGreatDoor.Nt
