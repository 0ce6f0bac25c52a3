import Derived.Test.YtbplhianpelmfaaGreatDoorYBE
namespace Go.Proofs.YtbplhianpelmfaaGreatDoor.Nt
open Go.RowKit Go.Shelf
theorem res_nw (tmps:Array Value) (W:World) (b:Nat) (p1 p2 p3:Option Addr) (n1 d1 n2 d2 n3 d3:Nat) (h:tmps[2]?.getD undef=.pointer (some ⟨b,0,none⟩)) (hb:W.heap[b]?=some (.cells #[.slice p1 n1 d1,.slice p2 n2 d2,.slice p3 n3 d3] 72 (0,0))) :
  (results Tryz.f26 tmps).run Tryz.prog W=.ok (.agg #[.slice p1 n1 d1,.slice p2 n2 d2,.slice p3 n3 d3]) W:=by
 have h1:=(cellsZ hb).1
 have c0:=h1 0
 have c1:=h1 1
 have c2:=h1 2
 simp at c0 c1 c2
 simp [results,h,c0,c1,c2,go_sem]
theorem offs_succ {n:NN} {i:Nat} {t:List NE} (h:n.tabs[i]?=some t):offs n (i+1)=offs n i+t.length:=by
 unfold offs
 rw [List.take_add_one,h]
 simp
theorem offs_le (n:NN) (i:Nat):offs n i≤totT n:=by
 unfold offs totT
 rw [←List.take_append_drop i (n.tabs.map (·.length)),List.sum_append,←List.map_take]
 omega
theorem le_sum_mem {a:Nat}:∀ {L:List Nat},a∈L→a≤L.sum
 | x :: L,h=>by
  rw [List.sum_cons]
  rcases List.mem_cons.1 h with rfl | h
  ·omega
  ·have:=le_sum_mem h
   omega
theorem pw_len:∀ (L:List Int) (a b:Int),L.Pairwise (· < ·)→(∀ x∈L,a≤x∧x < b)→a≤b→(L.length:Int)≤b - a
 | [],a,b,_,_,h=>by simp;omega
 | x :: L,a,b,hp,hm,h=>by
  obtain ⟨h1,h2⟩:=List.pairwise_cons.1 hp
  have hx:=hm x List.mem_cons_self
  have ih:=pw_len L (x+1) b h2 (fun y hy=>⟨by have:=h1 y hy;omega,(hm y (List.mem_cons_of_mem _ hy)).2⟩) (by omega)
  rw [List.length_cons]
  omega
def RDQ (n:NN) (np nt ng:Nat) (w:World) (e:Ending) (w':World):Prop:=∃ p1 c1 p2 c2 p3 c3,e=.returned (.agg #[.slice p1 np c1,.slice p2 nt c2,.slice p3 ng c3])∧NW w' n ⟨p1,c1,p2,c2,p3,c3⟩∧Below w.heap.size w w'
def RDK (n:NN) (np nt ng:Nat) (w:World) (e:Ending) (w':World):Prop:=∃ p1 c1 p2 c2 p3 c3,e=.returned (.agg #[.slice p1 np c1,.slice p2 nt c2,.slice p3 ng c3])∧NK w' n ⟨p1,c1,p2,c2,p3,c3⟩∧Below w.heap.size w w'
set_option maxRecDepth 100000 in
set_option maxHeartbeats 24000000 in
theorem read_kp (n:NN) (v:NV) (np nt ng:Nat) (w:World) (hN:LN w n v) (hO:okN n) (hV:NetP n) (hnp:n.ports.length=np) (hnt:n.tabs.length=nt) (hng:n.grds.length=ng) :
  Calls Tryz.prog 26 #[.agg #[.int .i64 n.bits,.slice v.pp np v.cp,.slice v.pt nt v.ct,.slice v.pg ng v.cg]] w (RDK n np nt ng w):=by
 obtain ⟨pp,cp,pt,ct,pg,cg⟩:=v
 simp only at hN ⊢
 obtain ⟨bits,hbits⟩:∃ bits,n.bits=bits:=⟨_,rfl⟩
 rw [hbits]
 have o1:=hV.1.2.2.1
 have o2:=hV.1.2.2.2.1
 have o3:=hV.1.2.2.2.2
 have hnp7:np≤140737488351232:=by omega
 have hnt7:nt≤140737488351232:=by omega
 have hng7:ng≤140737488351232:=by omega
 have HCT:Hid (∀ t∈n.tabs,t.length≤256∧∀ e∈t,Tn.cubeT e.wr=e.wr∧(∀ c∈e.cubes,Tn.cubeT c=c)∧e.cubes.length≤64∧e.outs.length≤4∧e.ins.length≤48):=by
  intro t ht
  obtain ⟨k,hk⟩:=List.getElem?_of_mem ht
  have hT:=hV.2.2.2.2.2 k t hk
  refine ⟨?_,fun e he=>?_⟩
  ·have h1:=hV.2.2.1
   have h2:t.length≤totT n:=by
    unfold totT
    exact le_sum_mem (List.mem_map.2 ⟨t,ht,rfl⟩)
   omega
  ·have hE:=hT.1 e he
   refine ⟨cubeP_T hE.2.2.2.1 hV.bits.1 hV.bits.2,fun c hc=>cubeP_T (hE.2.2.1.2 c hc) hV.bits.1 hV.bits.2,hE.2.2.1.1,hE.2.2.2.2.1,?_⟩
   have hp:=hE.2.1.2
   have hm:=hE.2.1.1
   have h3:=pw_len e.ins 0 (n.ports.length:Int) hp (fun y hy=>⟨(hm y hy).1,(hm y hy).2.1⟩) (by omega)
   omega
 have HCG:Hid (∀ t∈n.grds,t.length≤64∧∀ g∈t,(∀ c∈g.cubes,Tn.cubeT c=c)∧g.cubes.length≤64):=by
  intro t ht
  refine ⟨?_,fun g hg=>?_⟩
  ·have h1:=hV.2.1
   have h2:t.length≤totG n:=by
    unfold totG
    exact le_sum_mem (List.mem_map.2 ⟨t,ht,rfl⟩)
   omega
  ·have hE:=(hV.2.2.2.2.1 t ht).1 g hg
   exact ⟨fun c hc=>cubeP_T (hE.2 c hc) hV.bits.1 hV.bits.2,hE.1⟩
 have HOF:Hid (∀ i,offs n i≤256):=fun i=>Nat.le_trans (offs_le n i) hV.2.2.1
 obtain ⟨B,hB⟩:∃ B,w.heap.size=B:=⟨_,rfl⟩
 obtain ⟨b2,hb2⟩:∃ b2,w.heap.size+1=b2:=⟨_,rfl⟩
 obtain ⟨W1,hW1⟩:∃ W1,(w.alloc (.cells #[.int .i64 bits,.slice pp np cp,.slice pt nt ct,.slice pg ng cg] 26)).alloc (.cells #[.slice none 0 0,.slice none 0 0,.slice none 0 0] 72)=W1:=⟨_,rfl⟩
 have hz2:(w.alloc (.cells #[.int .i64 bits,.slice pp np cp,.slice pt nt ct,.slice pg ng cg] 26)).heap.size=w.heap.size+1:=Array.size_push _
 have b1:Below w.heap.size w W1:=by rw [←hW1];exact belAZ (belAZ (Below.refl _ _) _) _
 have k1:W1.heap[B]?=some (.cells #[.int .i64 bits,.slice pp np cp,.slice pt nt ct,.slice pg ng cg] 26 (0,0)):=by rw [←hW1,←hB];exact keepZ (belAZ (Below.refl _ _) _) (alloc_getZ _ _)
 have k2:W1.heap[b2]?=some (.cells #[.slice none 0 0,.slice none 0 0,.slice none 0 0] 72 (0,0)):=by rw [←hW1,←hb2,←hz2];exact alloc_getZ _ _
 have HC:Hid (∀ U:World,U.heap[B]?=some (.cells #[.int .i64 bits,.slice pp np cp,.slice pt nt ct,.slice pg ng cg] 26 (0,0))→U.cell? ⟨B,1,none⟩=some (.slice pp np cp)∧U.cell? ⟨B,2,none⟩=some (.slice pt nt ct)∧U.cell? ⟨B,3,none⟩=some (.slice pg ng cg)):=fun U hU=>by
  have e1:=(cellsZ hU).1
  exact ⟨by rw [e1];rfl,by rw [e1];rfl,by rw [e1];rfl⟩
 have HCP:Hid (∀ U,Below W1.heap.size W1 U→Calls Tryz.prog 40 #[.slice pp np cp] U fun e w'=>∃ q c9,e=.returned (.slice q np c9)∧w'.ownsRow U.heap.size 36 4 (.slice q np c9) np (n.ports.flatMap npC)∧Below U.heap.size U w'):=fun U hU=>clone_p n.ports pp np cp U hnp (by omega) (lp_rowL (hN.below (bel0Z b1 hU)).1)
 have HN:Hid (n.ports.length=np∧n.tabs.length=nt∧n.grds.length=ng∧okN n∧nt≤16∧ng≤48):=⟨hnp,hnt,hng,hO,by omega,by omega⟩
 have HL:Hid (∀ U,Below B w U→LN U n ⟨pp,cp,pt,ct,pg,cg⟩):=fun U hU=>hN.below (by rw [hB];exact hU)
 have HK:Hid (∀ U,Below W1.heap.size W1 U→U.heap[B]?=some (.cells #[.int .i64 bits,.slice pp np cp,.slice pt nt ct,.slice pg ng cg] 26 (0,0))∧U.heap[b2]?=some (.cells #[.slice none 0 0,.slice none 0 0,.slice none 0 0] 72 (0,0))∧Below B w U):=fun U hU=>⟨keepZ hU k1,keepZ hU k2,by rw [←hB];exact bel0Z b1 hU⟩
 have HB1:=hideL hB
 have HB2:=hideL hb2
 have HBB:Hid (B < b2):=by show B < b2;omega
 have HW1:=hideL hW1
 clear hbits o1 o2 o3 hB hb2 hz2 b1 k1 k2 hW1 hnp hnt hng hN hO hV
 obtain ⟨q1,q2,q3⟩:=HC.out W1 (HK.out W1 (Below.refl _ _)).1
 go_enter Tryz.func26,Tryz.ntmps26
 go_upto_region 1 with fail
 rw [HW1.out,HB2.out,HB1.out]
 go_wp2_with fail
 refine (HCP.out W1 (Below.refl _ _)).mono ?_
 rintro e W2 ⟨pP,cP,rfl,hP2,c2⟩
 obtain ⟨g1,g2,g3⟩:=HK.out W2 c2
 obtain ⟨b3,hb3⟩:∃ b3,W2.heap.size=b3:=⟨_,rfl⟩
 obtain ⟨B0,hB0⟩:∃ B0,b3+1=B0:=⟨_,rfl⟩
 obtain ⟨W3,hW3⟩:∃ W3,W2.alloc (.cells #[.slice pP np cP,.slice none 0 0,.slice none 0 0] 72)=W3:=⟨_,rfl⟩
 have b3':Below W2.heap.size W2 W3:=by rw [←hW3];exact belAZ (Below.refl _ _) _
 have H3:Hid (HRP w W3 B b2 b3 B0 #[.int .i64 bits,.slice pp np cp,.slice pt nt ct,.slice pg ng cg] n pP np cP 0 none 0 0 none 0):=by
  refine ⟨⟨keepZ b3' g1,keepZ b3' g2,?_⟩,own_baseZ (own_belZ hP2 b3') (Nat.zero_le _),⟨[],[],World.ownsRow_nil _ _ _ _,⟨rfl,fun i v t hv=>by simp at hv⟩,rfl,fun k t R _ hR=>by simp at hR⟩,⟨[],[],World.ownsRow_nil _ _ _ _,⟨rfl,fun i v t hv=>by simp at hv⟩,rfl,fun k t R _ hR=>by simp at hR⟩,g3.trans (b3'.mono (by have:=lt_getZ g1;omega)),?_⟩
  ·rw [←hW3,←hb3];exact alloc_getZ _ _
  ·rw [←hW3,←hB0,←hb3]
   show _≤(W2.heap.push _).size
   rw [Array.size_push]
   exact Nat.le_refl _
 have HB:Hid (B < b2∧b2 < b3∧b3 < B0):=⟨HBB.out,by rw [←hb3];exact lt_getZ g2,by omega⟩
 have HW3:=hideL hW3
 have HB3:=hideL hb3
 clear hP2 c2 g1 g2 g3 hb3 hB0 hW3 b3' q1 q2 q3
 obtain ⟨q1,q2,q3⟩:=HC.out W3 H3.out.1.1
 go_upto_region 2 with fail
 rw [HW3.out,HB3.out]
 go_wp2_with fail
 clear q1 q2 q3
 have ho0:((offs n 0:Nat):Int)=0:=by simp [offs]
 have HO0:=hideL ho0
 clear ho0
 go_loopw [4,22] (fun v4 vk wr=>∃ (i:Nat) (qx:Option Addr) (cx:Nat),v4=.int .i64 ((offs n i:Nat):Int)∧vk=.int .i64 (i:Int)∧i≤nt∧Hid (HRP w wr B b2 b3 B0 #[.int .i64 bits,.slice pp np cp,.slice pt nt ct,.slice pg ng cg] n pP np cP i qx cx 0 none 0)) (fun _ vk _=>nt - (intOf vk).toNat)
 case atStart=>exact ⟨0,none,0,by rw [HO0.out],rfl,Nat.zero_le _,H3⟩
 case round=>
  clear H3
  obtain ⟨i,q2',c2',rfl,rfl,hi,HS⟩:=hrel
  obtain ⟨q1,q2,q3⟩:=HC.out wr HS.out.1.1
  by_cases hlt:i < nt
  ·obtain ⟨t,ht⟩:∃ t,n.tabs[i]?=some t:=⟨_,List.getElem?_eq_getElem (by have:=HN.out.2.1;omega)⟩
   obtain ⟨i9,hi9⟩:∃ i9,i+1=i9:=⟨_,rfl⟩
   obtain ⟨g,o,qt,cq,e9,t0,hrow,hcq⟩:=(HL.out wr HS.out.2.2.2.2.1).2.2.1 i t ht
   simp only at e9
   subst e9
   obtain ⟨m,hm⟩:∃ m,t.length=m:=⟨_,rfl⟩
   rw [hm] at t0 hcq
   have hmt:=List.mem_of_getElem? ht
   have HM:Hid (t.length=m∧okTab t∧m≤256∧∀ e∈t,Tn.cubeT e.wr=e.wr∧(∀ c∈e.cubes,Tn.cubeT c=c)∧e.cubes.length≤64∧e.outs.length≤4∧e.ins.length≤48):=⟨hm,HN.out.2.2.2.1.2.2.2.1 t hmt,by rw [←hm];exact (HCT.out t hmt).1,(HCT.out t hmt).2⟩
   have hm47:m≤140737488351232:=by have:=HM.out.2.2.1;omega
   obtain ⟨bse,hbse⟩:∃ k,offs n i=k:=⟨_,rfl⟩
   have hbs9:offs n i9=bse+m:=by rw [←hi9,offs_succ ht,hbse,hm]
   have HBS:Hid (offs n i=bse∧offs n i9=bse+m∧bse≤256∧bse+m≤256):=⟨hbse,hbs9,by rw [←hbse];exact HOF.out i,by rw [←hbs9];exact HOF.out i9⟩
   have HA:Hid (∀ U,Below wr.heap.size wr U→U.cell? ⟨g,o+i,none⟩=some (.slice qt m cq)∧LE U qt t∧U.cell? ⟨b3,1,none⟩=some (.slice q2' i c2')):=fun U hU=>⟨keepC hU t0,hrow.below hU,keepC hU (by rw [(cellsZ HS.out.1.2.2).1];rfl)⟩
   have HI9:Hid (i+1=i9∧i9*24≤140737488355328):=⟨hi9,by have:=HN.out.2.2.2.2.1;omega⟩
   have HTT:=hideL ht
   have j0:(0:Int)≤(i:Int):=by omega
   have j1:(i:Int) < (nt:Int):=by omega
   rw [hbse]
   obtain ⟨wo,rfl⟩:∃ wo,wo=wr:=⟨wr,rfl⟩
   clear ht hi9 t0 hrow hcq hm hmt hbse hbs9
   obtain ⟨a2,-,-⟩:=HA.out wo (Below.refl _ _)
   go_wp2_with fail
   clear a2 q1 q2 q3
   go_loopw [4,7,28] (fun v4 v6 v7 wr=>∃ (j bj:Nat) (q:Option Addr) (c:Nat),v4=.int .i64 (bj:Int)∧v6=.slice q j c∧v7=.int .i64 (j:Int)∧j≤m∧Hid (bse+j=bj∧IXE wo wr wo.heap.size t (offs n i) j q c)) (fun _ _ v7 _=>m - (intOf v7).toNat)
   case atStart=>exact ⟨0,bse,none,0,rfl,rfl,rfl,Nat.zero_le _,rfl,[],rfl,World.ownsRow_nil _ _ _ _,fun _ _ _ _ hr=>by simp at hr,Below.refl _ _⟩
   case round=>
    obtain ⟨j,bj,q,c,rfl,rfl,rfl,hj,HBI⟩:=hrel
    have HBJ:Hid (bse+j=bj):=HBI.out.1
    have HI:=hideL HBI.out.2
    clear HBI
    have HIB:Hid (Below wo.heap.size wo wr):=by
     obtain ⟨_,_,_,_,hb⟩:=HI.out
     exact hb
    obtain ⟨a2,hle,d0⟩:=HA.out wr HIB.out
    obtain ⟨q1,q2,q3⟩:=HC.out wr (keepZ HIB.out HS.out.1.1)
    by_cases hlt2:j < m
    ·obtain ⟨x,hx⟩:∃ x,t[j]?=some x:=⟨_,List.getElem?_eq_getElem (by have:=HM.out.1;omega)⟩
     obtain ⟨j9,hj9⟩:∃ j9,j+1=j9:=⟨_,rfl⟩
     obtain ⟨ni,hni⟩:∃ k,x.ins.length=k:=⟨_,rfl⟩
     obtain ⟨nc,hnc⟩:∃ k,x.cubes.length=k:=⟨_,rfl⟩
     obtain ⟨no,hno⟩:∃ k,x.outs.length=k:=⟨_,rfl⟩
     obtain ⟨ge,oe,pi,ci,pc,cc,po,co,e5,u0,u1,u2,u3,u4,hl5⟩:=hle j x hx
     subst e5
     rw [hni] at u1
     rw [hnc] at u2
     rw [hno] at u4
     have hxm:=List.mem_of_getElem? hx
     have hok:=HM.out.2.1.2 x hxm
     have hcx:=HM.out.2.2.2 x hxm
     obtain ⟨W4,hW4⟩:∃ W4,wr.alloc (Obj.cells #[.string ⟨x.nm.toArray⟩,.slice pi ni ci,.slice pc nc cc,.string ⟨x.wr.toArray⟩,.slice po no co] 41)=W4:=⟨_,rfl⟩
     have b4:Below wr.heap.size wr W4:=by rw [←hW4];exact belAZ (Below.refl _ _) _
     obtain ⟨rb,hrb⟩:∃ rb,wr.heap.size=rb:=⟨_,rfl⟩
     have s4:W4.heap[rb]?=some (.cells #[.string ⟨x.nm.toArray⟩,.slice pi ni ci,.slice pc nc cc,.string ⟨x.wr.toArray⟩,.slice po no co] 41 (0,0)):=by rw [←hW4,←hrb];exact alloc_getZ _ _
     obtain ⟨a0,a1,a2',a3,a4,a5,a6,a7,a8,h9⟩:=c9_ex x.wr
     have HSX:Hid (∀ U:World,U.heap[rb]?=some (.cells #[.string ⟨x.nm.toArray⟩,.slice pi ni ci,.slice pc nc cc,.string ⟨x.wr.toArray⟩,.slice po no co] 41 (0,0))→U.cell? ⟨rb,1,none⟩=some (.slice pi ni ci)∧U.cell? ⟨rb,2,none⟩=some (.slice pc nc cc)∧U.cell? ⟨rb,3,none⟩=some (.string ⟨x.wr.toArray⟩)∧U.cell? ⟨rb,4,none⟩=some (.slice po no co)):=fun U hU=>by
      have e1:=(cellsZ hU).1
      exact ⟨by rw [e1];rfl,by rw [e1];rfl,by rw [e1];rfl,by rw [e1];rfl⟩
     have HS4:Hid (∀ U,Below W4.heap.size W4 U→U.heap[rb]?=some (.cells #[.string ⟨x.nm.toArray⟩,.slice pi ni ci,.slice pc nc cc,.string ⟨x.wr.toArray⟩,.slice po no co] 41 (0,0))):=fun U hU=>keepZ hU s4
     have HC1:Hid (∀ U,Below W4.heap.size W4 U→Calls Tryz.prog 41 #[.slice pi ni ci] U fun e w'=>∃ q c9,e=.returned (.slice q ni c9)∧w'.ownsRow U.heap.size 3 1 (.slice q ni c9) ni (inZ x.ins)∧Below U.heap.size U w'):=fun U hU=>by
      have h:=clone_i x.ins pi ni ci U hni (by have:=hcx.2.2.2.2;omega) (li_rowL (hl5.1.below (bel0Z b4 hU)))
      rw [inZ_flat] at h
      exact h
     have HC2:Hid (∀ U,Below W4.heap.size W4 U→Calls Tryz.prog 41 #[.slice po no co] U fun e w'=>∃ q c9,e=.returned (.slice q no c9)∧w'.ownsRow U.heap.size 3 1 (.slice q no c9) no (inZ x.outs)∧Below U.heap.size U w'):=fun U hU=>by
      have h:=clone_i x.outs po no co U hno (by have:=hcx.2.2.2.1;omega) (li_rowL (hl5.2.2.2.2.1.below (bel0Z b4 hU)))
      rw [inZ_flat] at h
      exact h
     have HC3:Hid (∀ U,Below W4.heap.size W4 U→Calls Tryz.prog 42 #[.slice pc nc cc] U fun e w'=>∃ q c9,e=.returned (.slice q nc c9)∧w'.ownsRow U.heap.size 79 9 (.slice q nc c9) nc (x.cubes.flatMap cubC)∧Below U.heap.size U w'):=fun U hU=>cubesOf_any x.cubes pc nc cc U hnc (hl5.2.2.1.below (bel0Z b4 hU)) hcx.2.1 (fun y hy=>hok.2.2.1.2 y hy) (by have:=hcx.2.2.1;omega)
     have HC4:Hid (∀ U,Calls Tryz.prog 43 #[.string ⟨x.wr.toArray⟩] U fun e w'=>e=.returned (.agg #[.int .i64 a0,.int .u64 a1,.int .u64 a2',.int .u64 a3,.int .u64 a4,.int .u64 a5,.int .u64 a6,.int .u64 a7,.int .u64 a8])∧Below U.heap.size U w'):=fun U=>by
      have h:=cubeOf_any x.wr U hok.2.2.2.1
      rw [hcx.1,h9.agg] at h
      exact h
     have HNM:Hid (x.ins.length=ni∧x.outs.length=no∧x.cubes.length=nc):=⟨hni,hno,hnc⟩
     have H9:Hid (C9 x.wr a0 a1 a2' a3 a4 a5 a6 a7 a8):=h9
     have HX:=hideL hx
     have HJ9:=hideL hj9
     have HB4:=hideL b4
     have HW4:=hideL hW4
     have HRB:=hideL hrb
     have j2:(0:Int)≤(j:Int):=by omega
     have j3:(j:Int) < (m:Int):=by omega
     clear hx hj9 hni hnc hno hxm hok hcx hW4 b4 hrb s4 h9 hle hl5
     go_upto_region 10 with fail
     rw [HW4.out,HRB.out]
     clear u0 u1 u2 u3 u4 a2 d0 q1 q2 q3
     have hs0:W4.drew.cell? ⟨rb,1,none⟩=some (.slice pi ni ci)∧W4.drew.cell? ⟨rb,2,none⟩=some (.slice pc nc cc)∧W4.drew.cell? ⟨rb,3,none⟩=some (.string ⟨x.wr.toArray⟩)∧W4.drew.cell? ⟨rb,4,none⟩=some (.slice po no co):=HSX.out _ (HS4.out _ (Below.refl _ _).drew)
     refine wp_region_held_drew (S:=fun U=>U.cell? ⟨rb,1,none⟩=some (.slice pi ni ci)∧U.cell? ⟨rb,2,none⟩=some (.slice pc nc cc)∧U.cell? ⟨rb,3,none⟩=some (.string ⟨x.wr.toArray⟩)∧U.cell? ⟨rb,4,none⟩=some (.slice po no co)) (by kernel_rfl) hs0 (fun _=>?_)
     refine tk 0 (.slice q j c) rfl hs0 ?_ ?_
     ·rintro w ⟨q0,q1,q2,q3⟩;go_simp
     refine tk 1 (.int .i64 (bj:Int)) rfl hs0 ?_ ?_
     ·rintro w ⟨q0,q1,q2,q3⟩;go_simp
     refine tk 2 (.pointer (some ⟨rb,1,none⟩)) rfl hs0 ?_ ?_
     ·rintro w ⟨q0,q1,q2,q3⟩;go_simp
     refine tk 3 (.slice pi ni ci) rfl hs0 ?_ ?_
     ·rintro w ⟨q0,q1,q2,q3⟩;go_simp
     refine tk 5 (.pointer (some ⟨rb,4,none⟩)) rfl hs0 ?_ ?_
     ·rintro w ⟨q0,q1,q2,q3⟩;go_simp
     refine tk 6 (.slice po no co) rfl hs0 ?_ ?_
     ·rintro w ⟨q0,q1,q2,q3⟩;go_simp
     refine tk 8 (.pointer (some ⟨rb,2,none⟩)) rfl hs0 ?_ ?_
     ·rintro w ⟨q0,q1,q2,q3⟩;go_simp
     refine tk 9 (.slice pc nc cc) rfl hs0 ?_ ?_
     ·rintro w ⟨q0,q1,q2,q3⟩;go_simp
     refine tk 11 (.pointer (some ⟨rb,3,none⟩)) rfl hs0 ?_ ?_
     ·rintro w ⟨q0,q1,q2,q3⟩;go_simp
     refine tk 12 (.string ⟨x.wr.toArray⟩) rfl hs0 ?_ ?_
     ·rintro w ⟨q0,q1,q2,q3⟩;go_simp
     refine rd 4 rfl fun KK hKK=>?_
     go_simp
     refine (HC1.out _ (Below.refl _ _).drew).mono ?_
     rintro en W5 ⟨ki,di,rfl,o5,b5⟩
     have c5:Below W4.heap.size W4 W5:=bel0Z (Below.refl _ _).drew b5
     have hs5:=HSX.out _ (HS4.out W5 c5)
     go_simp
     refine hKK.out _ _ hs5 (fun _=>?_)
     clear hKK KK
     refine rd 7 rfl fun KK hKK=>?_
     go_simp
     refine (HC2.out _ c5).mono ?_
     rintro en W6 ⟨ko,do9,rfl,o6,b6⟩
     have c6:Below W4.heap.size W4 W6:=bel0Z c5 b6
     have hs6:=HSX.out _ (HS4.out W6 c6)
     go_simp
     refine hKK.out _ _ hs6 (fun _=>?_)
     clear hKK KK
     refine rd 10 rfl fun KK hKK=>?_
     go_simp
     refine (HC3.out _ c6).mono ?_
     rintro en W7 ⟨kc,dc,rfl,o7,b7⟩
     have c7:Below W4.heap.size W4 W7:=bel0Z c6 b7
     have hs7:=HSX.out _ (HS4.out W7 c7)
     go_simp
     refine hKK.out _ _ hs7 (fun _=>?_)
     clear hKK KK
     refine rd 13 rfl fun KK hKK=>?_
     go_simp
     refine (HC4.out _).mono ?_
     rintro en W8 ⟨rfl,b8⟩
     have c8:Below W4.heap.size W4 W8:=bel0Z c7 b8
     have hs8:=HSX.out _ (HS4.out W8 c8)
     have hz5:wo.heap.size≤W4.heap.size:=Nat.le_trans HIB.out.size HB4.out.size
     have hxem:XEM W8 wo.heap.size x (offs n i+j) ⟨(bj:Int),ki,ni,di,ko,no,do9,kc,nc,dc,x.wr⟩:=by
      obtain ⟨n1,n2,n3⟩:=HNM.out
      refine ⟨by rw [HBS.out.1,HBJ.out],n1.symm,n2.symm,n3.symm,rfl,own_baseZ (own_belZ (own_belZ (own_belZ o5 b6) b7) b8) ?_,own_baseZ (own_belZ (own_belZ o6 b7) b8) ?_,own_baseZ (own_belZ o7 b8) ?_⟩
      ·exact Nat.le_trans hz5 (Nat.le_refl _)
      ·exact Nat.le_trans hz5 c5.size
      ·exact Nat.le_trans hz5 c6.size
     obtain ⟨q9,c9,W9,hr9,hI9,hkp⟩:=HI.out.step (bel0Z HB4.out c8) HIB.out.size HX.out hxem HJ9.out (by have:=HM.out.2.2.1;have:=HJ9.out;omega)
     have hxe:(xeC ⟨(bj:Int),ki,ni,di,ko,no,do9,kc,nc,dc,x.wr⟩).toArray=#[.int .i64 (bj:Int),.slice ki ni di,.slice ko no do9,.slice kc nc dc,.int .i64 a0,.int .u64 a1,.int .u64 a2',.int .u64 a3,.int .u64 a4,.int .u64 a5,.int .u64 a6,.int .u64 a7,.int .u64 a8]:=by
      unfold xeC
      rw [show cubC x.wr=_ from H9.out]
     rw [hxe] at hr9
     obtain ⟨WA,hWA⟩:∃ WA,W8.alloc (.cells #[.int .i64 (bj:Int),.slice ki ni di,.slice ko no do9,.slice kc nc dc,.int .i64 a0,.int .u64 a1,.int .u64 a2',.int .u64 a3,.int .u64 a4,.int .u64 a5,.int .u64 a6,.int .u64 a7,.int .u64 a8] 106 (0,0))=WA:=⟨_,rfl⟩
     have hsA:=HSX.out _ (HS4.out WA (bel0Z c8 (by rw [←hWA];exact belAZ (Below.refl _ _) _)))
     have hs9:=HSX.out _ (hkp _ _ _ (by decide) (HS4.out W8 c8))
     rw [hWA] at hr9
     have HI9':=hideL hI9
     have HWA:=hideL hWA
     clear o5 o6 o7 b5 b6 b7 b8 c5 c6 c7 c8 hz5 hxem hI9 hkp hxe hWA
     go_simp
     refine hKK.out _ _ hs8 (fun _=>?_)
     clear hKK KK
     refine tk 14 (.agg #[.int .i64 (bj:Int),.slice ki ni di,.slice ko no do9,.slice kc nc dc,.int .i64 a0,.int .u64 a1,.int .u64 a2',.int .u64 a3,.int .u64 a4,.int .u64 a5,.int .u64 a6,.int .u64 a7,.int .u64 a8]) rfl hs8 ?_ ?_
     ·rintro w ⟨q0,q1,q2,q3⟩;go_simp
     refine rd 15 rfl fun KK hKK=>?_
     go_simp
     rw [HWA.out]
     refine hKK.out _ _ hsA (fun _=>?_)
     clear hKK KK
     refine rd 16 rfl fun KK hKK=>?_
     refine stepN (by rfl) _ _ _ (by rfl) (by rfl) (by rfl) hr9 ?_
     refine hKK.out _ _ hs9 (fun _=>?_)
     clear hKK KK
     refine tk 17 (.slice q9 j9 c9) rfl hs9 ?_ ?_
     ·rintro w ⟨q0,q1,q2,q3⟩;go_simp
     refine wpAnyH_done (by kernel_rfl) ?_ _
     clear hs0 hs5 hs6 hs7 hs8 hsA hs9 hr9
     obtain ⟨bj9,hbj9⟩:∃ k,bj+1=k:=⟨_,rfl⟩
     have hbb:(bj:Int)+1=(bj9:Int):=by omega
     have hbw:IntKind.i64.wrap (bj9:Int)=(bj9:Int):=by rw [IntKind.wrap_i64];have:=HBS.out.2.2.1;have:=HM.out.2.2.1;have:=HBJ.out;omega
     have HBJ9:Hid (bse+j9=bj9):=by show bse+j9=bj9;have:=HBJ.out;have:=HJ9.out;omega
     clear hbj9
     go_wp2_with fail
     go_roundw
     case rel=>exact ⟨j9,bj9,q9,c9,rfl,rfl,by rw [←HJ9.out];go_num,by have:=HJ9.out;omega,HBJ9.out,HI9'⟩
     case measure=>have:=HJ9.out;simp [intOf];omega
    ·obtain rfl:j=m:=by omega
     have j3:¬(j:Int) < (j:Int):=by omega
     obtain ⟨q9,c9,W9,hr9,hS9,d9,f9⟩:=HS.out.stepT HB.out HI.out HM.out.1 HTT.out HI9.out.1 HI9.out.2
     have HS9:=hideL hS9
     clear hS9 HI HS hle
     go_wp2_with (at_builtin;refine wpList_runZ rfl _ _ _ rfl rfl rfl hr9 ?_)
     clear a2 d0 hr9 q1 q2 q3
     go_wp2_with fail
     go_roundw
     case rel=>exact ⟨i9,q9,c9,by rw [HBS.out.2.1,HBJ.out],by rw [←HI9.out.1];go_num,by have:=HI9.out.1;omega,HS9⟩
     case measure=>have:=HI9.out.1;simp [intOf];omega
  ·obtain rfl:i=nt:=by omega
   have j1:¬(i:Int) < (i:Int):=by omega
   have HQ8:Hid (HRP w wr B b2 b3 B0 #[.int .i64 bits,.slice pp np cp,.slice pt i ct,.slice pg ng cg] n pP np cP i q2' c2' 0 none 0):=HS
   clear HS
   obtain ⟨wz,rfl⟩:∃ wz,wz=wr:=⟨wr,rfl⟩
   go_wp2_with fail
   clear q1 q2 q3
   go_loopw [62] (fun vk wr=>∃ (l:Nat) (qx:Option Addr) (cx:Nat),vk=.int .i64 (l:Int)∧l≤ng∧Hid (HRP w wr B b2 b3 B0 #[.int .i64 bits,.slice pp np cp,.slice pt i ct,.slice pg ng cg] n pP np cP i q2' c2' l qx cx)) (fun vk _=>ng - (intOf vk).toNat)
   case atStart=>exact ⟨0,none,0,rfl,Nat.zero_le _,HQ8⟩
   case round=>
    clear HQ8
    obtain ⟨l,q3',c3',rfl,hl,HS⟩:=hrel
    obtain ⟨q1,q2,q3⟩:=HC.out wr HS.out.1.1
    by_cases hlt3:l < ng
    ·obtain ⟨t,ht⟩:∃ t,n.grds[l]?=some t:=⟨_,List.getElem?_eq_getElem (by have:=HN.out.2.2.1;omega)⟩
     obtain ⟨i9,hi9⟩:∃ i9,l+1=i9:=⟨_,rfl⟩
     obtain ⟨g,o,qt,cq,e9,t0,hrow,hcq⟩:=(HL.out wr HS.out.2.2.2.2.1).2.2.2.2.1 l t ht
     simp only at e9
     subst e9
     obtain ⟨m,hm⟩:∃ m,t.length=m:=⟨_,rfl⟩
     rw [hm] at t0 hcq
     have hmt:=List.mem_of_getElem? ht
     have HM:Hid (t.length=m∧okGl t∧m≤64∧∀ g∈t,(∀ c∈g.cubes,Tn.cubeT c=c)∧g.cubes.length≤64):=⟨hm,HN.out.2.2.2.1.2.2.2.2.2 t hmt,by rw [←hm];exact (HCG.out t hmt).1,(HCG.out t hmt).2⟩
     have hm47:m≤140737488351232:=by have:=HM.out.2.2.1;omega
     have HA:Hid (∀ U,Below wr.heap.size wr U→U.cell? ⟨g,o+l,none⟩=some (.slice qt m cq)∧LG U qt t∧U.cell? ⟨b3,2,none⟩=some (.slice q3' l c3')):=fun U hU=>⟨keepC hU t0,hrow.below hU,keepC hU (by rw [(cellsZ HS.out.1.2.2).1];rfl)⟩
     have HI9:Hid (l+1=i9∧i9*24≤140737488355328):=⟨hi9,by have:=HN.out.2.2.2.2.2;omega⟩
     have HTT:=hideL ht
     have j4:(0:Int)≤(l:Int):=by omega
     have j5:(l:Int) < (ng:Int):=by omega
     obtain ⟨wo,rfl⟩:∃ wo,wo=wr:=⟨wr,rfl⟩
     clear ht hi9 t0 hrow hcq hm hmt
     obtain ⟨a2,-,-⟩:=HA.out wo (Below.refl _ _)
     go_wp2_with fail
     clear a2 q1 q2 q3
     go_loopw [12,68] (fun v6 v7 wr=>∃ (j:Nat) (q:Option Addr) (c:Nat),v6=.slice q j c∧v7=.int .i64 (j:Int)∧j≤m∧Hid (IXL wo wr wo.heap.size t j q c)) (fun _ v7 _=>m - (intOf v7).toNat)
     case atStart=>exact ⟨0,none,0,rfl,rfl,Nat.zero_le _,[],rfl,World.ownsRow_nil _ _ _ _,fun _ _ _ _ hr=>by simp at hr,Below.refl _ _⟩
     case round=>
      obtain ⟨j,q,c,rfl,rfl,hj,HI⟩:=hrel
      have HIB:Hid (Below wo.heap.size wo wr):=by
       obtain ⟨_,_,_,_,hb⟩:=HI.out
       exact hb
      obtain ⟨a2,hle,d0⟩:=HA.out wr HIB.out
      obtain ⟨q1,q2,q3⟩:=HC.out wr (keepZ HIB.out HS.out.1.1)
      by_cases hlt2:j < m
      ·obtain ⟨x,hx⟩:∃ x,t[j]?=some x:=⟨_,List.getElem?_eq_getElem (by have:=HM.out.1;omega)⟩
       obtain ⟨j9,hj9⟩:∃ j9,j+1=j9:=⟨_,rfl⟩
       obtain ⟨nc,hnc⟩:∃ k,x.cubes.length=k:=⟨_,rfl⟩
       obtain ⟨ge,oe,pc,cc,e5,u0,u1,hl5,-⟩:=hle j x hx
       subst e5
       rw [hnc] at u1
       have hxm:=List.mem_of_getElem? hx
       have hok:=HM.out.2.1.2 x hxm
       have hcx:=HM.out.2.2.2 x hxm
       obtain ⟨W4,hW4⟩:∃ W4,wr.alloc (Obj.cells #[.bool x.pm,.slice pc nc cc] 86)=W4:=⟨_,rfl⟩
       have b4:Below wr.heap.size wr W4:=by rw [←hW4];exact belAZ (Below.refl _ _) _
       obtain ⟨rb,hrb⟩:∃ rb,wr.heap.size=rb:=⟨_,rfl⟩
       have s4:W4.heap[rb]?=some (.cells #[.bool x.pm,.slice pc nc cc] 86 (0,0)):=by rw [←hW4,←hrb];exact alloc_getZ _ _
       have HSX:Hid (∀ U:World,U.heap[rb]?=some (.cells #[.bool x.pm,.slice pc nc cc] 86 (0,0))→U.cell? ⟨rb,0,none⟩=some (.bool x.pm)∧U.cell? ⟨rb,1,none⟩=some (.slice pc nc cc)):=fun U hU=>by
        have e1:=(cellsZ hU).1
        exact ⟨by rw [e1];rfl,by rw [e1];rfl⟩
       have HS4:Hid (∀ U,Below W4.heap.size W4 U→U.heap[rb]?=some (.cells #[.bool x.pm,.slice pc nc cc] 86 (0,0))):=fun U hU=>keepZ hU s4
       have HC3:Hid (∀ U,Below W4.heap.size W4 U→Calls Tryz.prog 42 #[.slice pc nc cc] U fun e w'=>∃ q c9,e=.returned (.slice q nc c9)∧w'.ownsRow U.heap.size 79 9 (.slice q nc c9) nc (x.cubes.flatMap cubC)∧Below U.heap.size U w'):=fun U hU=>cubesOf_any x.cubes pc nc cc U hnc (hl5.below (bel0Z b4 hU)) hcx.1 (fun y hy=>hok.2 y hy) (by have:=hcx.2;omega)
       have HNM:Hid (x.cubes.length=nc):=hnc
       have HX:=hideL hx
       have HJ9:=hideL hj9
       have HB4:=hideL b4
       have HW4:=hideL hW4
       have HRB:=hideL hrb
       have j6:(0:Int)≤(j:Int):=by omega
       have j7:(j:Int) < (m:Int):=by omega
       clear hx hj9 hnc hxm hok hcx hW4 b4 hrb s4 hle hl5
       go_upto_region 22 with fail
       rw [HW4.out,HRB.out]
       clear u0 u1 a2 d0 q1 q2 q3
       have hs0:W4.drew.cell? ⟨rb,0,none⟩=some (.bool x.pm)∧W4.drew.cell? ⟨rb,1,none⟩=some (.slice pc nc cc):=HSX.out _ (HS4.out _ (Below.refl _ _).drew)
       refine wp_region_held_drew (S:=fun U=>U.cell? ⟨rb,0,none⟩=some (.bool x.pm)∧U.cell? ⟨rb,1,none⟩=some (.slice pc nc cc)) (by kernel_rfl) hs0 (fun _=>?_)
       refine tk 0 (.slice q j c) rfl hs0 ?_ ?_
       ·rintro w ⟨q0,q1⟩;go_simp
       refine tk 1 (.pointer (some ⟨rb,0,none⟩)) rfl hs0 ?_ ?_
       ·rintro w ⟨q0,q1⟩;go_simp
       refine tk 2 (.bool x.pm) rfl hs0 ?_ ?_
       ·rintro w ⟨q0,q1⟩;go_simp
       refine tk 3 (.pointer (some ⟨rb,1,none⟩)) rfl hs0 ?_ ?_
       ·rintro w ⟨q0,q1⟩;go_simp
       refine tk 4 (.slice pc nc cc) rfl hs0 ?_ ?_
       ·rintro w ⟨q0,q1⟩;go_simp
       refine rd 5 rfl fun KK hKK=>?_
       go_simp
       refine (HC3.out _ (Below.refl _ _).drew).mono ?_
       rintro en W8 ⟨kc,dc,rfl,o8,b8⟩
       have c8:Below W4.heap.size W4 W8:=bel0Z (Below.refl _ _).drew b8
       have hs8:=HSX.out _ (HS4.out W8 c8)
       have hz5:wo.heap.size≤W4.heap.size:=Nat.le_trans HIB.out.size HB4.out.size
       have hxlm:XLM W8 wo.heap.size x ⟨x.pm,kc,nc,dc⟩:=⟨rfl,HNM.out.symm,own_baseZ o8 (Nat.le_trans hz5 (Nat.le_refl _))⟩
       obtain ⟨q9,c9,W9,hr9,hI9,hkp⟩:=HI.out.step (bel0Z HB4.out c8) HIB.out.size HX.out hxlm HJ9.out (by have:=HM.out.2.2.1;have:=HJ9.out;omega)
       have hxe:(xlC ⟨x.pm,kc,nc,dc⟩).toArray=#[.bool x.pm,.slice kc nc dc]:=rfl
       rw [hxe] at hr9
       obtain ⟨WA,hWA⟩:∃ WA,W8.alloc (.cells #[.bool x.pm,.slice kc nc dc] 109 (0,0))=WA:=⟨_,rfl⟩
       have hsA:=HSX.out _ (HS4.out WA (bel0Z c8 (by rw [←hWA];exact belAZ (Below.refl _ _) _)))
       have hs9:=HSX.out _ (hkp _ _ _ (by decide) (HS4.out W8 c8))
       rw [hWA] at hr9
       have HI9':=hideL hI9
       have HWA:=hideL hWA
       clear o8 b8 c8 hz5 hxlm hI9 hkp hxe hWA
       go_simp
       refine hKK.out _ _ hs8 (fun _=>?_)
       clear hKK KK
       refine tk 6 (.agg #[.bool x.pm,.slice kc nc dc]) rfl hs8 ?_ ?_
       ·rintro w ⟨q0,q1⟩;go_simp
       refine rd 7 rfl fun KK hKK=>?_
       go_simp
       rw [HWA.out]
       refine hKK.out _ _ hsA (fun _=>?_)
       clear hKK KK
       refine rd 8 rfl fun KK hKK=>?_
       refine stepN (by rfl) _ _ _ (by rfl) (by rfl) (by rfl) hr9 ?_
       refine hKK.out _ _ hs9 (fun _=>?_)
       clear hKK KK
       refine tk 9 (.slice q9 j9 c9) rfl hs9 ?_ ?_
       ·rintro w ⟨q0,q1⟩;go_simp
       refine wpAnyH_done (by kernel_rfl) ?_ _
       clear hs0 hs8 hsA hs9 hr9
       go_wp2_with fail
       go_roundw
       case rel=>exact ⟨j9,q9,c9,rfl,by rw [←HJ9.out];go_num,by have:=HJ9.out;omega,HI9'⟩
       case measure=>have:=HJ9.out;simp [intOf];omega
      ·obtain rfl:j=m:=by omega
       have j7:¬(j:Int) < (j:Int):=by omega
       obtain ⟨q9,c9,W9,hr9,hS9,d9,f9⟩:=HS.out.stepG HB.out HI.out HM.out.1 HTT.out HI9.out.1 HI9.out.2
       have HS9:=hideL hS9
       clear hS9 HI HS hle
       go_wp2_with (at_builtin;refine wpList_runZ rfl _ _ _ rfl rfl rfl hr9 ?_)
       clear a2 d0 hr9 q1 q2 q3
       go_wp2_with fail
       go_roundw
       case rel=>exact ⟨i9,q9,c9,by rw [←HI9.out.1];go_num,by have:=HI9.out.1;omega,HS9⟩
       case measure=>have:=HI9.out.1;simp [intOf];omega
    ·obtain rfl:l=ng:=by omega
     have j5:¬(l:Int) < (l:Int):=by omega
     have g3:=cellsZ HS.out.1.2.2
     have g2:=cellsZ HS.out.1.2.1
     have m0:wr.cell? ⟨b3,0,none⟩=some (.slice pP np cP):=by rw [g3.1];rfl
     have m1:wr.cell? ⟨b3,1,none⟩=some (.slice q2' i c2'):=by rw [g3.1];rfl
     have m2:wr.cell? ⟨b3,2,none⟩=some (.slice q3' l c3'):=by rw [g3.1];rfl
     have n0:wr.cell? ⟨b2,0,none⟩=some (.slice none 0 0):=by rw [g2.1];rfl
     have n1:wr.cell? ⟨b2,1,none⟩=some (.slice none 0 0):=by rw [g2.1];rfl
     have n2:wr.cell? ⟨b2,2,none⟩=some (.slice none 0 0):=by rw [g2.1];rfl
     have f0:=g2.2 0
     have f1:=g2.2 1
     have f2:=g2.2 2
     obtain ⟨W9,hW9⟩:∃ W9,((wr.setCell ⟨b2,0,none⟩ (.slice pP np cP)).setCell ⟨b2,1,none⟩ (.slice q2' i c2')).setCell ⟨b2,2,none⟩ (.slice q3' l c3')=W9:=⟨_,rfl⟩
     have HFIN:Hid (NK W9 n ⟨pP,cP,q2',c2',q3',c3'⟩∧Below w.heap.size w W9):=by
      rw [←hW9,HB1.out]
      exact HS.out.fin2 HB.out HN.out.1 HN.out.2.1 HN.out.2.2.1
     have HRES:Hid (W9.heap[b2]?=some (.cells #[.slice pP np cP,.slice q2' i c2',.slice q3' l c3'] 72 (0,0))):=by
      rw [←hW9]
      exact (set_getZ _ (set_getZ _ (set_getZ _ HS.out.1.2.1))).trans (by simp)
     have HW9:=hideL hW9
     clear hW9 HS g2 g3 q1 q2 q3
     go_wp2_with fail
     rw [HW9.out]
     refine bodyPost_ret (res_nw _ _ b2 _ _ _ _ _ _ _ _ _ rfl HRES.out) rfl ?_
     exact ⟨pP,cP,q2',c2',q3',c3',rfl,HFIN.out⟩
theorem read_any (n:NN) (v:NV) (np nt ng:Nat) (w:World) (hN:LN w n v) (hO:okN n) (hV:NetP n) (hnp:n.ports.length=np) (hnt:n.tabs.length=nt) (hng:n.grds.length=ng) :
  Calls Tryz.prog 26 #[.agg #[.int .i64 n.bits,.slice v.pp np v.cp,.slice v.pt nt v.ct,.slice v.pg ng v.cg]] w (RDQ n np nt ng w):=by
 refine (read_kp n v np nt ng w hN hO hV hnp hnt hng).mono ?_
 rintro e w' ⟨p1,c1,p2,c2,p3,c3,he,h1,h2⟩
 exact ⟨p1,c1,p2,c2,p3,c3,he,h1.nw,h2⟩
end Go.Proofs.YtbplhianpelmfaaGreatDoor.Nt
