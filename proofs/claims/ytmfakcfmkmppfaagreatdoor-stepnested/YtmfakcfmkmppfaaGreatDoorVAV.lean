import Derived.Test.YtmfakcfmkmppfaaGreatDoorVAU
namespace Go.Proofs.YtmfakcfmkmppfaaGreatDoor.Nt
open Go.RowKit Go.Shelf
theorem res_nw (tmps:Array Value) (W:World) (b:Nat) (p1 p2 p3:Option Addr) (n1 d1 n2 d2 n3 d3:Nat) (h:tmps[2]?.getD undef=.pointer (some ⟨b,0,none⟩)) (hb:W.heap[b]?=some (.cells #[.slice p1 n1 d1,.slice p2 n2 d2,.slice p3 n3 d3] 64 (0,0))) :
  (results Tryz.f27 tmps).run Tryz.prog W=.ok (.agg #[.slice p1 n1 d1,.slice p2 n2 d2,.slice p3 n3 d3]) W:=by
 have h1:=(zaf hb).1;have c0:=h1 0;have c1:=h1 1;have c2:=h1 2;simp at c0 c1 c2;simp [results,h,c0,c1,c2,go_sem]
theorem zgo {n:NN} {i:Nat} {t:List NE} (h:n.tabs[i]?=some t):zd8 n (i+1)=zd8 n i+t.length:=by
 unfold zd8;rw [List.take_add_one,h];simp
theorem zlb (n:NN) (i:Nat):zd8 n i<=zhj n:=by
 unfold zd8 zhj;rw [<-List.take_append_drop i (n.tabs.map (·.length)),List.sum_append,<-List.map_take];omega
theorem zbn {a:Nat}:∀ {L:List Nat},a∈L->a<=L.sum
 | x :: L,h=>by
  rw [List.sum_cons];rcases List.mem_cons.1 h with rfl | h
  ·omega
  ·have:=zbn h
   omega
theorem zmb:∀ (L:List Int) (a b:Int),L.Pairwise (· < ·)->(∀ x∈L,a<=x/\x < b)->a<=b->(L.length:Int)<=b - a
 | [],a,b,_,_,h=>by simp;omega
 | x :: L,a,b,hp,hm,h=>by
  obtain ⟨h1,h2⟩:=List.pairwise_cons.1 hp;have hx:=hm x List.mem_cons_self;have ih:=zmb L (x+1) b h2 (fun y hy=>⟨by have:=h1 y hy;omega,(hm y (List.mem_cons_of_mem _ hy)).2⟩) (by omega);rw [List.length_cons];omega
def RDQ (n:NN) (np nt ng:Nat) (w:World) (e:Ending) (w':World):Prop:=∃ p1 c1 p2 c2 p3 c3,e=.returned (.agg #[.slice p1 np c1,.slice p2 nt c2,.slice p3 ng c3])/\NW w' n ⟨p1,c1,p2,c2,p3,c3⟩/\Below w.heap.size w w'
def RDK (n:NN) (np nt ng:Nat) (w:World) (e:Ending) (w':World):Prop:=∃ p1 c1 p2 c2 p3 c3,e=.returned (.agg #[.slice p1 np c1,.slice p2 nt c2,.slice p3 ng c3])/\NK w' n ⟨p1,c1,p2,c2,p3,c3⟩/\Below w.heap.size w w'
set_option maxRecDepth 100000 in
set_option maxHeartbeats 24000000 in
theorem zpx (n:NN) (v:NV) (np nt ng:Nat) (w:World) (hN:LN w n v) (hO:okN n) (hV:NetP n) (hnp:n.ports.length=np) (hnt:n.tabs.length=nt) (hng:n.grds.length=ng) :
  Calls Tryz.prog 27 #[.agg #[.int .i64 n.bits,.slice v.pp np v.cp,.slice v.pt nt v.ct,.slice v.pg ng v.cg]] w (RDK n np nt ng w):=by
 obtain ⟨pp,cp,pt,ct,pg,cg⟩:=v;simp only at hN ⊢;obtain ⟨bits,hbits⟩:∃ bits,n.bits=bits:=⟨_,rfl⟩;rw [hbits];have o1:=hV.1.2.2.1;have o2:=hV.1.2.2.2.1;have o3:=hV.1.2.2.2.2;have hnp7:np<=140737488351232:=by omega
 have hnt7:nt<=140737488351232:=by omega
 have hng7:ng<=140737488351232:=by omega
 have HCT:Hid (∀ t∈n.tabs,t.length<=256/\∀ e∈t,Tn.cubeT e.wr=e.wr/\(∀ c∈e.cubes,Tn.cubeT c=c)/\e.cubes.length<=64/\e.outs.length<=4/\e.ins.length<=48):=by
  intro t ht;obtain ⟨k,hk⟩:=List.getElem?_of_mem ht;have hT:=hV.2.2.2.2.2 k t hk;refine ⟨?_,fun e he=>?_⟩
  ·have h1:=hV.2.2.1
   have h2:t.length<=zhj n:=by
    unfold zhj;exact zbn (List.mem_map.2 ⟨t,ht,rfl⟩)
   omega
  ·have hE:=hT.1 e he
   refine ⟨zg0 hE.2.2.2.1 hV.bits.1 hV.bits.2,fun c hc=>zg0 (hE.2.2.1.2 c hc) hV.bits.1 hV.bits.2,hE.2.2.1.1,hE.2.2.2.2.1,?_⟩;have hp:=hE.2.1.2;have hm:=hE.2.1.1;have h3:=zmb e.ins 0 (n.ports.length:Int) hp (fun y hy=>⟨(hm y hy).1,(hm y hy).2.1⟩) (by omega);omega
 have HCG:Hid (∀ t∈n.grds,t.length<=64/\∀ g∈t,(∀ c∈g.cubes,Tn.cubeT c=c)/\g.cubes.length<=64):=by
  intro t ht;refine ⟨?_,fun g hg=>?_⟩
  ·have h1:=hV.2.1
   have h2:t.length<=zhk n:=by
    unfold zhk;exact zbn (List.mem_map.2 ⟨t,ht,rfl⟩)
   omega
  ·have hE:=(hV.2.2.2.2.1 t ht).1 g hg
   exact ⟨fun c hc=>zg0 (hE.2 c hc) hV.bits.1 hV.bits.2,hE.1⟩
 have HOF:Hid (∀ i,zd8 n i<=256):=fun i=>Nat.le_trans (zlb n i) hV.2.2.1;obtain ⟨B,hB⟩:=ex w.heap.size;obtain ⟨b2,hb2⟩:=ex (w.heap.size+1);obtain ⟨W1,hW1⟩:=ex ((w.alloc (.cells #[.int .i64 bits,.slice pp np cp,.slice pt nt ct,.slice pg ng cg] 26)).alloc (.cells #[.slice none 0 0,.slice none 0 0,.slice none 0 0] 64));have hz2:(w.alloc (.cells #[.int .i64 bits,.slice pp np cp,.slice pt nt ct,.slice pg ng cg] 26)).heap.size=w.heap.size+1:=Array.size_push _;have b1:Below w.heap.size w W1:=by rw [<-hW1];exact zah (zah (Below.refl _ _) _) _
 have k1:W1.heap[B]?=some (.cells #[.int .i64 bits,.slice pp np cp,.slice pt nt ct,.slice pg ng cg] 26 (0,0)):=by rw [<-hW1,<-hB];exact zae (zah (Below.refl _ _) _) (zaa _ _)
 have k2:W1.heap[b2]?=some (.cells #[.slice none 0 0,.slice none 0 0,.slice none 0 0] 64 (0,0)):=by rw [<-hW1,<-hb2,<-hz2];exact zaa _ _
 have HC:Hid (∀ U:World,U.heap[B]?=some (.cells #[.int .i64 bits,.slice pp np cp,.slice pt nt ct,.slice pg ng cg] 26 (0,0))->U.cell? ⟨B,1,none⟩=some (.slice pp np cp)/\U.cell? ⟨B,2,none⟩=some (.slice pt nt ct)/\U.cell? ⟨B,3,none⟩=some (.slice pg ng cg)):=fun U hU=>by
  have e1:=(zaf hU).1;exact ⟨by rw [e1];rfl,by rw [e1];rfl,by rw [e1];rfl⟩
 have HCP:Hid (∀ U,Below W1.heap.size W1 U->Calls Tryz.prog 55 #[.slice pp np cp] U fun e w'=>∃ q c9,e=.returned (.slice q np c9)/\w'.ownsRow U.heap.size 84 4 (.slice q np c9) np (n.ports.flatMap npC)/\Below U.heap.size U w'):=fun U hU=>clone_p n.ports pp np cp U hnp (by omega) (lp_rowL (hN.below (zac b1 hU)).1);have HN:Hid (n.ports.length=np/\n.tabs.length=nt/\n.grds.length=ng/\okN n/\nt<=16/\ng<=48):=⟨hnp,hnt,hng,hO,by omega,by omega⟩;have HL:Hid (∀ U,Below B w U->LN U n ⟨pp,cp,pt,ct,pg,cg⟩):=fun U hU=>hN.below (by rw [hB];exact hU);have HK:Hid (∀ U,Below W1.heap.size W1 U->U.heap[B]?=some (.cells #[.int .i64 bits,.slice pp np cp,.slice pt nt ct,.slice pg ng cg] 26 (0,0))/\U.heap[b2]?=some (.cells #[.slice none 0 0,.slice none 0 0,.slice none 0 0] 64 (0,0))/\Below B w U):=fun U hU=>⟨zae hU k1,zae hU k2,by rw [<-hB];exact zac b1 hU⟩;have HB1:=zab hB;have HB2:=zab hb2;have HBB:Hid (B < b2):=by show B < b2;omega
 have HW1:=zab hW1;clear hbits o1 o2 o3 hB hb2 hz2 b1 k1 k2 hW1 hnp hnt hng hN hO hV;obtain ⟨q1,q2,q3⟩:=HC.out W1 (HK.out W1 (Below.refl _ _)).1
 go_enter Tryz.func27,Tryz.ntmps27
 go_upto_region 1 with fail
 rw [HW1.out,HB2.out,HB1.out]
 go_wp2_with fail
 refine (HCP.out W1 (Below.refl _ _)).mono ?_;rintro e W2 ⟨pP,cP,rfl,hP2,c2⟩;obtain ⟨g1,g2,g3⟩:=HK.out W2 c2;obtain ⟨b3,hb3⟩:=ex W2.heap.size;obtain ⟨B0,hB0⟩:=ex (b3+1);obtain ⟨W3,hW3⟩:=ex (W2.alloc (.cells #[.slice pP np cP,.slice none 0 0,.slice none 0 0] 64));have b3':Below W2.heap.size W2 W3:=by rw [<-hW3];exact zah (Below.refl _ _) _
 have H3:Hid (HRP w W3 B b2 b3 B0 #[.int .i64 bits,.slice pp np cp,.slice pt nt ct,.slice pg ng cg] n pP np cP 0 none 0 0 none 0):=by
  refine ⟨⟨zae b3' g1,zae b3' g2,?_⟩,zav (zaq hP2 b3') (Nat.zero_le _),⟨[],[],World.ownsRow_nil _ _ _ _,⟨rfl,fun i v t hv=>by simp at hv⟩,rfl,fun k t R _ hR=>by simp at hR⟩,⟨[],[],World.ownsRow_nil _ _ _ _,⟨rfl,fun i v t hv=>by simp at hv⟩,rfl,fun k t R _ hR=>by simp at hR⟩,g3.trans (b3'.mono (by have:=zap g1;omega)),?_⟩
  ·rw [<-hW3,<-hb3];exact zaa _ _
  ·rw [<-hW3,<-hB0,<-hb3]
   show _<=(W2.heap.push _).size;rw [Array.size_push];exact Nat.le_refl _
 have HB:Hid (B < b2/\b2 < b3/\b3 < B0):=⟨HBB.out,by rw [<-hb3];exact zap g2,by omega⟩;have HW3:=zab hW3;have HB3:=zab hb3;clear hP2 c2 g1 g2 g3 hb3 hB0 hW3 b3' q1 q2 q3;obtain ⟨q1,q2,q3⟩:=HC.out W3 H3.out.1.1
 go_upto_region 2 with fail
 rw [HW3.out,HB3.out]
 go_wp2_with fail
 clear q1 q2 q3;have ho0:((zd8 n 0:Nat):Int)=0:=by simp [zd8]
 have HO0:=zab ho0;clear ho0
 go_loopw [4,22] (fun v4 vk wr=>∃ (i:Nat) (qx:Option Addr) (cx:Nat),v4=.int .i64 ((zd8 n i:Nat):Int)/\vk=.int .i64 (i:Int)/\i<=nt/\Hid (HRP w wr B b2 b3 B0 #[.int .i64 bits,.slice pp np cp,.slice pt nt ct,.slice pg ng cg] n pP np cP i qx cx 0 none 0)) (fun _ vk _=>nt - (intOf vk).toNat)
 case atStart=>exact ⟨0,none,0,by rw [HO0.out],rfl,Nat.zero_le _,H3⟩
 case round=>
  clear H3;obtain ⟨i,q2',c2',rfl,rfl,hi,HS⟩:=hrel;obtain ⟨q1,q2,q3⟩:=HC.out wr HS.out.1.1
  by_cases hlt:i < nt
  ·obtain ⟨t,ht⟩:∃ t,n.tabs[i]?=some t:=⟨_,List.getElem?_eq_getElem (by have:=HN.out.2.1;omega)⟩
   obtain ⟨i9,hi9⟩:=ex (i+1);obtain ⟨g,o,qt,cq,e9,t0,hrow,hcq⟩:=(HL.out wr HS.out.2.2.2.2.1).2.2.1 i t ht;simp only at e9;subst e9;obtain ⟨m,hm⟩:=ex t.length;rw [hm] at t0 hcq;have hmt:=List.mem_of_getElem? ht;have HM:Hid (t.length=m/\zla t/\m<=256/\∀ e∈t,Tn.cubeT e.wr=e.wr/\(∀ c∈e.cubes,Tn.cubeT c=c)/\e.cubes.length<=64/\e.outs.length<=4/\e.ins.length<=48):=⟨hm,HN.out.2.2.2.1.2.2.2.1 t hmt,by rw [<-hm];exact (HCT.out t hmt).1,(HCT.out t hmt).2⟩;have hm47:m<=140737488351232:=by have:=HM.out.2.2.1;omega
   obtain ⟨bse,hbse⟩:=ex (zd8 n i);have hbs9:zd8 n i9=bse+m:=by rw [<-hi9,zgo ht,hbse,hm]
   have HBS:Hid (zd8 n i=bse/\zd8 n i9=bse+m/\bse<=256/\bse+m<=256):=⟨hbse,hbs9,by rw [<-hbse];exact HOF.out i,by rw [<-hbs9];exact HOF.out i9⟩;have HA:Hid (∀ U,Below wr.heap.size wr U->U.cell? ⟨g,o+i,none⟩=some (.slice qt m cq)/\LE U qt t/\U.cell? ⟨b3,1,none⟩=some (.slice q2' i c2')):=fun U hU=>⟨zao hU t0,hrow.below hU,zao hU (by rw [(zaf HS.out.1.2.2).1];rfl)⟩;have HI9:Hid (i+1=i9/\i9*24<=140737488355328):=⟨hi9,by have:=HN.out.2.2.2.2.1;omega⟩;have HTT:=zab ht;have j0:(0:Int)<=(i:Int):=by omega
   have j1:(i:Int) < (nt:Int):=by omega
   rw [hbse];obtain ⟨wo,rfl⟩:∃ wo,wo=wr:=⟨wr,rfl⟩;clear ht hi9 t0 hrow hcq hm hmt hbse hbs9;obtain ⟨a2,-,-⟩:=HA.out wo (Below.refl _ _)
   go_wp2_with fail
   clear a2 q1 q2 q3
   go_loopw [4,7,28] (fun v4 v6 v7 wr=>∃ (j bj:Nat) (q:Option Addr) (c:Nat),v4=.int .i64 (bj:Int)/\v6=.slice q j c/\v7=.int .i64 (j:Int)/\j<=m/\Hid (bse+j=bj/\IXE wo wr wo.heap.size t (zd8 n i) j q c)) (fun _ _ v7 _=>m - (intOf v7).toNat)
   case atStart=>exact ⟨0,bse,none,0,rfl,rfl,rfl,Nat.zero_le _,rfl,[],rfl,World.ownsRow_nil _ _ _ _,fun _ _ _ _ hr=>by simp at hr,Below.refl _ _⟩
   case round=>
    obtain ⟨j,bj,q,c,rfl,rfl,rfl,hj,HBI⟩:=hrel;have HBJ:Hid (bse+j=bj):=HBI.out.1;have HI:=zab HBI.out.2;clear HBI;have HIB:Hid (Below wo.heap.size wo wr):=by
     obtain ⟨_,_,_,_,hb⟩:=HI.out;exact hb
    obtain ⟨a2,hle,d0⟩:=HA.out wr HIB.out;obtain ⟨q1,q2,q3⟩:=HC.out wr (zae HIB.out HS.out.1.1)
    by_cases hlt2:j < m
    ·obtain ⟨x,hx⟩:∃ x,t[j]?=some x:=⟨_,List.getElem?_eq_getElem (by have:=HM.out.1;omega)⟩
     obtain ⟨j9,hj9⟩:=ex (j+1);obtain ⟨ni,hni⟩:=ex x.ins.length;obtain ⟨nc,hnc⟩:=ex x.cubes.length;obtain ⟨no,hno⟩:=ex x.outs.length;obtain ⟨ge,oe,pi,ci,pc,cc,po,co,e5,u0,u1,u2,u3,u4,hl5⟩:=hle j x hx;subst e5;rw [hni] at u1;rw [hnc] at u2;rw [hno] at u4;have hxm:=List.mem_of_getElem? hx;have hok:=HM.out.2.1.2 x hxm;have hcx:=HM.out.2.2.2 x hxm;obtain ⟨W4,hW4⟩:=ex (wr.alloc (Obj.cells #[.string ⟨x.nm.toArray⟩,.slice pi ni ci,.slice pc nc cc,.string ⟨x.wr.toArray⟩,.slice po no co] 89));have b4:Below wr.heap.size wr W4:=by rw [<-hW4];exact zah (Below.refl _ _) _
     obtain ⟨rb,hrb⟩:=ex wr.heap.size;have s4:W4.heap[rb]?=some (.cells #[.string ⟨x.nm.toArray⟩,.slice pi ni ci,.slice pc nc cc,.string ⟨x.wr.toArray⟩,.slice po no co] 89 (0,0)):=by rw [<-hW4,<-hrb];exact zaa _ _
     obtain ⟨a0,a1,a2',a3,a4,a5,a6,a7,a8,h9⟩:=zbz x.wr;have HSX:Hid (∀ U:World,U.heap[rb]?=some (.cells #[.string ⟨x.nm.toArray⟩,.slice pi ni ci,.slice pc nc cc,.string ⟨x.wr.toArray⟩,.slice po no co] 89 (0,0))->U.cell? ⟨rb,1,none⟩=some (.slice pi ni ci)/\U.cell? ⟨rb,2,none⟩=some (.slice pc nc cc)/\U.cell? ⟨rb,3,none⟩=some (.string ⟨x.wr.toArray⟩)/\U.cell? ⟨rb,4,none⟩=some (.slice po no co)):=fun U hU=>by
      have e1:=(zaf hU).1;exact ⟨by rw [e1];rfl,by rw [e1];rfl,by rw [e1];rfl,by rw [e1];rfl⟩
     have HS4:Hid (∀ U,Below W4.heap.size W4 U->U.heap[rb]?=some (.cells #[.string ⟨x.nm.toArray⟩,.slice pi ni ci,.slice pc nc cc,.string ⟨x.wr.toArray⟩,.slice po no co] 89 (0,0))):=fun U hU=>zae hU s4;have HC1:Hid (∀ U,Below W4.heap.size W4 U->Calls Tryz.prog 56 #[.slice pi ni ci] U fun e w'=>∃ q c9,e=.returned (.slice q ni c9)/\w'.ownsRow U.heap.size 3 1 (.slice q ni c9) ni (inZ x.ins)/\Below U.heap.size U w'):=fun U hU=>by
      have h:=zix x.ins pi ni ci U hni (by have:=hcx.2.2.2.2;omega) (zgq (hl5.1.below (zac b4 hU)));rw [zew] at h;exact h
     have HC2:Hid (∀ U,Below W4.heap.size W4 U->Calls Tryz.prog 56 #[.slice po no co] U fun e w'=>∃ q c9,e=.returned (.slice q no c9)/\w'.ownsRow U.heap.size 3 1 (.slice q no c9) no (inZ x.outs)/\Below U.heap.size U w'):=fun U hU=>by
      have h:=zix x.outs po no co U hno (by have:=hcx.2.2.2.1;omega) (zgq (hl5.2.2.2.2.1.below (zac b4 hU)));rw [zew] at h;exact h
     have HC3:Hid (∀ U,Below W4.heap.size W4 U->Calls Tryz.prog 57 #[.slice pc nc cc] U fun e w'=>∃ q c9,e=.returned (.slice q nc c9)/\w'.ownsRow U.heap.size 70 9 (.slice q nc c9) nc (x.cubes.flatMap zcp)/\Below U.heap.size U w'):=fun U hU=>zgz x.cubes pc nc cc U hnc (hl5.2.2.1.below (zac b4 hU)) hcx.2.1 (fun y hy=>hok.2.2.1.2 y hy) (by have:=hcx.2.2.1;omega);have HC4:Hid (∀ U,Calls Tryz.prog 58 #[.string ⟨x.wr.toArray⟩] U fun e w'=>e=.returned (.agg #[.int .i64 a0,.int .u64 a1,.int .u64 a2',.int .u64 a3,.int .u64 a4,.int .u64 a5,.int .u64 a6,.int .u64 a7,.int .u64 a8])/\Below U.heap.size U w'):=fun U=>by
      have h:=zfj x.wr U hok.2.2.2.1;rw [hcx.1,h9.agg] at h;exact h
     have HNM:Hid (x.ins.length=ni/\x.outs.length=no/\x.cubes.length=nc):=⟨hni,hno,hnc⟩;have H9:Hid (C9 x.wr a0 a1 a2' a3 a4 a5 a6 a7 a8):=h9;have HX:=zab hx;have HJ9:=zab hj9;have HB4:=zab b4;have HW4:=zab hW4;have HRB:=zab hrb;have j2:(0:Int)<=(j:Int):=by omega
     have j3:(j:Int) < (m:Int):=by omega
     clear hx hj9 hni hnc hno hxm hok hcx hW4 b4 hrb s4 h9 hle hl5
     go_upto_region 10 with fail
     rw [HW4.out,HRB.out];clear u0 u1 u2 u3 u4 a2 d0 q1 q2 q3;have hs0:W4.drew.cell? ⟨rb,1,none⟩=some (.slice pi ni ci)/\W4.drew.cell? ⟨rb,2,none⟩=some (.slice pc nc cc)/\W4.drew.cell? ⟨rb,3,none⟩=some (.string ⟨x.wr.toArray⟩)/\W4.drew.cell? ⟨rb,4,none⟩=some (.slice po no co):=HSX.out _ (HS4.out _ (Below.refl _ _).drew);refine wp_region_held_drew (S:=fun U=>U.cell? ⟨rb,1,none⟩=some (.slice pi ni ci)/\U.cell? ⟨rb,2,none⟩=some (.slice pc nc cc)/\U.cell? ⟨rb,3,none⟩=some (.string ⟨x.wr.toArray⟩)/\U.cell? ⟨rb,4,none⟩=some (.slice po no co)) (by kernel_rfl) hs0 (fun _=>?_);refine tk 0 (.slice q j c) rfl hs0 ?_ ?_
     ·rintro w ⟨q0,q1,q2,q3⟩;go_simp
     refine tk 1 (.int .i64 (bj:Int)) rfl hs0 ?_ ?_
     ·rintro w ⟨q0,q1,q2,q3⟩;go_simp
     refine tk 2 (.pointer (some ⟨rb,1,none⟩)) rfl hs0 ?_ ?_
     ·rintro w ⟨q0,q1,q2,q3⟩;go_simp
     refine tk 3 (.slice pi ni ci) rfl hs0 ?_ ?_
     ·rintro w ⟨q0,q1,q2,q3⟩;go_simp
     refine tk 5 (.pointer (some ⟨rb,4,none⟩)) rfl hs0 ?_ ?_
     ·rintro w ⟨q0,q1,q2,q3⟩;go_simp
     refine tk 6 (.slice po no co) rfl hs0 ?_ ?_
     ·rintro w ⟨q0,q1,q2,q3⟩;go_simp
     refine tk 8 (.pointer (some ⟨rb,2,none⟩)) rfl hs0 ?_ ?_
     ·rintro w ⟨q0,q1,q2,q3⟩;go_simp
     refine tk 9 (.slice pc nc cc) rfl hs0 ?_ ?_
     ·rintro w ⟨q0,q1,q2,q3⟩;go_simp
     refine tk 11 (.pointer (some ⟨rb,3,none⟩)) rfl hs0 ?_ ?_
     ·rintro w ⟨q0,q1,q2,q3⟩;go_simp
     refine tk 12 (.string ⟨x.wr.toArray⟩) rfl hs0 ?_ ?_
     ·rintro w ⟨q0,q1,q2,q3⟩;go_simp
     refine rd 4 rfl fun KK hKK=>?_
     go_simp
     refine (HC1.out _ (Below.refl _ _).drew).mono ?_;rintro en W5 ⟨ki,di,rfl,o5,b5⟩;have c5:Below W4.heap.size W4 W5:=zac (Below.refl _ _).drew b5;have hs5:=HSX.out _ (HS4.out W5 c5)
     go_simp
     refine hKK.out _ _ hs5 (fun _=>?_);clear hKK KK;refine rd 7 rfl fun KK hKK=>?_
     go_simp
     refine (HC2.out _ c5).mono ?_;rintro en W6 ⟨ko,do9,rfl,o6,b6⟩;have c6:Below W4.heap.size W4 W6:=zac c5 b6;have hs6:=HSX.out _ (HS4.out W6 c6)
     go_simp
     refine hKK.out _ _ hs6 (fun _=>?_);clear hKK KK;refine rd 10 rfl fun KK hKK=>?_
     go_simp
     refine (HC3.out _ c6).mono ?_;rintro en W7 ⟨kc,dc,rfl,o7,b7⟩;have c7:Below W4.heap.size W4 W7:=zac c6 b7;have hs7:=HSX.out _ (HS4.out W7 c7)
     go_simp
     refine hKK.out _ _ hs7 (fun _=>?_);clear hKK KK;refine rd 13 rfl fun KK hKK=>?_
     go_simp
     refine (HC4.out _).mono ?_;rintro en W8 ⟨rfl,b8⟩;have c8:Below W4.heap.size W4 W8:=zac c7 b8;have hs8:=HSX.out _ (HS4.out W8 c8);have hz5:wo.heap.size<=W4.heap.size:=Nat.le_trans HIB.out.size HB4.out.size;have hxem:XEM W8 wo.heap.size x (zd8 n i+j) ⟨(bj:Int),ki,ni,di,ko,no,do9,kc,nc,dc,x.wr⟩:=by
      obtain ⟨n1,n2,n3⟩:=HNM.out;refine ⟨by rw [HBS.out.1,HBJ.out],n1.symm,n2.symm,n3.symm,rfl,zav (zaq (zaq (zaq o5 b6) b7) b8) ?_,zav (zaq (zaq o6 b7) b8) ?_,zav (zaq o7 b8) ?_⟩
      ·exact Nat.le_trans hz5 (Nat.le_refl _)
      ·exact Nat.le_trans hz5 c5.size
      ·exact Nat.le_trans hz5 c6.size
     obtain ⟨q9,c9,W9,hr9,hI9,hkp⟩:=HI.out.step (zac HB4.out c8) HIB.out.size HX.out hxem HJ9.out (by have:=HM.out.2.2.1;have:=HJ9.out;omega);have hxe:(xeC ⟨(bj:Int),ki,ni,di,ko,no,do9,kc,nc,dc,x.wr⟩).toArray=#[.int .i64 (bj:Int),.slice ki ni di,.slice ko no do9,.slice kc nc dc,.int .i64 a0,.int .u64 a1,.int .u64 a2',.int .u64 a3,.int .u64 a4,.int .u64 a5,.int .u64 a6,.int .u64 a7,.int .u64 a8]:=by
      unfold xeC;rw [show zcp x.wr=_ from H9.out]
     rw [hxe] at hr9;obtain ⟨WA,hWA⟩:=ex (W8.alloc (.cells #[.int .i64 (bj:Int),.slice ki ni di,.slice ko no do9,.slice kc nc dc,.int .i64 a0,.int .u64 a1,.int .u64 a2',.int .u64 a3,.int .u64 a4,.int .u64 a5,.int .u64 a6,.int .u64 a7,.int .u64 a8] 119 (0,0)));have hsA:=HSX.out _ (HS4.out WA (zac c8 (by rw [<-hWA];exact zah (Below.refl _ _) _)));have hs9:=HSX.out _ (hkp _ _ _ (by decide) (HS4.out W8 c8));rw [hWA] at hr9;have HI9':=zab hI9;have HWA:=zab hWA;clear o5 o6 o7 b5 b6 b7 b8 c5 c6 c7 c8 hz5 hxem hI9 hkp hxe hWA
     go_simp
     refine hKK.out _ _ hs8 (fun _=>?_);clear hKK KK;refine tk 14 (.agg #[.int .i64 (bj:Int),.slice ki ni di,.slice ko no do9,.slice kc nc dc,.int .i64 a0,.int .u64 a1,.int .u64 a2',.int .u64 a3,.int .u64 a4,.int .u64 a5,.int .u64 a6,.int .u64 a7,.int .u64 a8]) rfl hs8 ?_ ?_
     ·rintro w ⟨q0,q1,q2,q3⟩;go_simp
     refine rd 15 rfl fun KK hKK=>?_
     go_simp
     rw [HWA.out];refine hKK.out _ _ hsA (fun _=>?_);clear hKK KK;refine rd 16 rfl fun KK hKK=>?_;refine zd6 (by rfl) _ _ _ (by rfl) (by rfl) (by rfl) hr9 ?_;refine hKK.out _ _ hs9 (fun _=>?_);clear hKK KK;refine tk 17 (.slice q9 j9 c9) rfl hs9 ?_ ?_
     ·rintro w ⟨q0,q1,q2,q3⟩;go_simp
     refine wpAnyH_done (by kernel_rfl) ?_ _;clear hs0 hs5 hs6 hs7 hs8 hsA hs9 hr9;obtain ⟨bj9,hbj9⟩:=ex (bj+1);have hbb:(bj:Int)+1=(bj9:Int):=by omega
     have hbw:IntKind.i64.wrap (bj9:Int)=(bj9:Int):=by rw [IntKind.wrap_i64];have:=HBS.out.2.2.1;have:=HM.out.2.2.1;have:=HBJ.out;omega
     have HBJ9:Hid (bse+j9=bj9):=by show bse+j9=bj9;have:=HBJ.out;have:=HJ9.out;omega
     clear hbj9
     go_wp2_with fail
     go_roundw
     case rel=>exact ⟨j9,bj9,q9,c9,rfl,rfl,by rw [<-HJ9.out];go_num,by have:=HJ9.out;omega,HBJ9.out,HI9'⟩
     case measure=>have:=HJ9.out;simp [intOf];omega
    ·obtain rfl:j=m:=by omega
     have j3:¬(j:Int) < (j:Int):=by omega
     obtain ⟨q9,c9,W9,hr9,hS9,d9,f9⟩:=HS.out.stepT HB.out HI.out HM.out.1 HTT.out HI9.out.1 HI9.out.2;have HS9:=zab hS9;clear hS9 HI HS hle
     go_wp2_with (at_builtin;refine za3 rfl _ _ _ rfl rfl rfl hr9 ?_)
     clear a2 d0 hr9 q1 q2 q3
     go_wp2_with fail
     go_roundw
     case rel=>exact ⟨i9,q9,c9,by rw [HBS.out.2.1,HBJ.out],by rw [<-HI9.out.1];go_num,by have:=HI9.out.1;omega,HS9⟩
     case measure=>have:=HI9.out.1;simp [intOf];omega
  ·obtain rfl:i=nt:=by omega
   have j1:¬(i:Int) < (i:Int):=by omega
   have HQ8:Hid (HRP w wr B b2 b3 B0 #[.int .i64 bits,.slice pp np cp,.slice pt i ct,.slice pg ng cg] n pP np cP i q2' c2' 0 none 0):=HS;clear HS;obtain ⟨wz,rfl⟩:∃ wz,wz=wr:=⟨wr,rfl⟩
   go_wp2_with fail
   clear q1 q2 q3
   go_loopw [62] (fun vk wr=>∃ (l:Nat) (qx:Option Addr) (cx:Nat),vk=.int .i64 (l:Int)/\l<=ng/\Hid (HRP w wr B b2 b3 B0 #[.int .i64 bits,.slice pp np cp,.slice pt i ct,.slice pg ng cg] n pP np cP i q2' c2' l qx cx)) (fun vk _=>ng - (intOf vk).toNat)
   case atStart=>exact ⟨0,none,0,rfl,Nat.zero_le _,HQ8⟩
   case round=>
    clear HQ8;obtain ⟨l,q3',c3',rfl,hl,HS⟩:=hrel;obtain ⟨q1,q2,q3⟩:=HC.out wr HS.out.1.1
    by_cases hlt3:l < ng
    ·obtain ⟨t,ht⟩:∃ t,n.grds[l]?=some t:=⟨_,List.getElem?_eq_getElem (by have:=HN.out.2.2.1;omega)⟩
     obtain ⟨i9,hi9⟩:=ex (l+1);obtain ⟨g,o,qt,cq,e9,t0,hrow,hcq⟩:=(HL.out wr HS.out.2.2.2.2.1).2.2.2.2.1 l t ht;simp only at e9;subst e9;obtain ⟨m,hm⟩:=ex t.length;rw [hm] at t0 hcq;have hmt:=List.mem_of_getElem? ht;have HM:Hid (t.length=m/\okGl t/\m<=64/\∀ g∈t,(∀ c∈g.cubes,Tn.cubeT c=c)/\g.cubes.length<=64):=⟨hm,HN.out.2.2.2.1.2.2.2.2.2 t hmt,by rw [<-hm];exact (HCG.out t hmt).1,(HCG.out t hmt).2⟩;have hm47:m<=140737488351232:=by have:=HM.out.2.2.1;omega
     have HA:Hid (∀ U,Below wr.heap.size wr U->U.cell? ⟨g,o+l,none⟩=some (.slice qt m cq)/\LG U qt t/\U.cell? ⟨b3,2,none⟩=some (.slice q3' l c3')):=fun U hU=>⟨zao hU t0,hrow.below hU,zao hU (by rw [(zaf HS.out.1.2.2).1];rfl)⟩;have HI9:Hid (l+1=i9/\i9*24<=140737488355328):=⟨hi9,by have:=HN.out.2.2.2.2.2;omega⟩;have HTT:=zab ht;have j4:(0:Int)<=(l:Int):=by omega
     have j5:(l:Int) < (ng:Int):=by omega
     obtain ⟨wo,rfl⟩:∃ wo,wo=wr:=⟨wr,rfl⟩;clear ht hi9 t0 hrow hcq hm hmt;obtain ⟨a2,-,-⟩:=HA.out wo (Below.refl _ _)
     go_wp2_with fail
     clear a2 q1 q2 q3
     go_loopw [12,68] (fun v6 v7 wr=>∃ (j:Nat) (q:Option Addr) (c:Nat),v6=.slice q j c/\v7=.int .i64 (j:Int)/\j<=m/\Hid (IXL wo wr wo.heap.size t j q c)) (fun _ v7 _=>m - (intOf v7).toNat)
     case atStart=>exact ⟨0,none,0,rfl,rfl,Nat.zero_le _,[],rfl,World.ownsRow_nil _ _ _ _,fun _ _ _ _ hr=>by simp at hr,Below.refl _ _⟩
     case round=>
      obtain ⟨j,q,c,rfl,rfl,hj,HI⟩:=hrel;have HIB:Hid (Below wo.heap.size wo wr):=by
       obtain ⟨_,_,_,_,hb⟩:=HI.out;exact hb
      obtain ⟨a2,hle,d0⟩:=HA.out wr HIB.out;obtain ⟨q1,q2,q3⟩:=HC.out wr (zae HIB.out HS.out.1.1)
      by_cases hlt2:j < m
      ·obtain ⟨x,hx⟩:∃ x,t[j]?=some x:=⟨_,List.getElem?_eq_getElem (by have:=HM.out.1;omega)⟩
       obtain ⟨j9,hj9⟩:=ex (j+1);obtain ⟨nc,hnc⟩:=ex x.cubes.length;obtain ⟨ge,oe,pc,cc,e5,u0,u1,hl5,-⟩:=hle j x hx;subst e5;rw [hnc] at u1;have hxm:=List.mem_of_getElem? hx;have hok:=HM.out.2.1.2 x hxm;have hcx:=HM.out.2.2.2 x hxm;obtain ⟨W4,hW4⟩:=ex (wr.alloc (Obj.cells #[.bool x.pm,.slice pc nc cc] 93));have b4:Below wr.heap.size wr W4:=by rw [<-hW4];exact zah (Below.refl _ _) _
       obtain ⟨rb,hrb⟩:=ex wr.heap.size;have s4:W4.heap[rb]?=some (.cells #[.bool x.pm,.slice pc nc cc] 93 (0,0)):=by rw [<-hW4,<-hrb];exact zaa _ _
       have HSX:Hid (∀ U:World,U.heap[rb]?=some (.cells #[.bool x.pm,.slice pc nc cc] 93 (0,0))->U.cell? ⟨rb,0,none⟩=some (.bool x.pm)/\U.cell? ⟨rb,1,none⟩=some (.slice pc nc cc)):=fun U hU=>by
        have e1:=(zaf hU).1;exact ⟨by rw [e1];rfl,by rw [e1];rfl⟩
       have HS4:Hid (∀ U,Below W4.heap.size W4 U->U.heap[rb]?=some (.cells #[.bool x.pm,.slice pc nc cc] 93 (0,0))):=fun U hU=>zae hU s4;have HC3:Hid (∀ U,Below W4.heap.size W4 U->Calls Tryz.prog 57 #[.slice pc nc cc] U fun e w'=>∃ q c9,e=.returned (.slice q nc c9)/\w'.ownsRow U.heap.size 70 9 (.slice q nc c9) nc (x.cubes.flatMap zcp)/\Below U.heap.size U w'):=fun U hU=>zgz x.cubes pc nc cc U hnc (hl5.below (zac b4 hU)) hcx.1 (fun y hy=>hok.2 y hy) (by have:=hcx.2;omega);have HNM:Hid (x.cubes.length=nc):=hnc;have HX:=zab hx;have HJ9:=zab hj9;have HB4:=zab b4;have HW4:=zab hW4;have HRB:=zab hrb;have j6:(0:Int)<=(j:Int):=by omega
       have j7:(j:Int) < (m:Int):=by omega
       clear hx hj9 hnc hxm hok hcx hW4 b4 hrb s4 hle hl5
       go_upto_region 22 with fail
       rw [HW4.out,HRB.out];clear u0 u1 a2 d0 q1 q2 q3;have hs0:W4.drew.cell? ⟨rb,0,none⟩=some (.bool x.pm)/\W4.drew.cell? ⟨rb,1,none⟩=some (.slice pc nc cc):=HSX.out _ (HS4.out _ (Below.refl _ _).drew);refine wp_region_held_drew (S:=fun U=>U.cell? ⟨rb,0,none⟩=some (.bool x.pm)/\U.cell? ⟨rb,1,none⟩=some (.slice pc nc cc)) (by kernel_rfl) hs0 (fun _=>?_);refine tk 0 (.slice q j c) rfl hs0 ?_ ?_
       ·rintro w ⟨q0,q1⟩;go_simp
       refine tk 1 (.pointer (some ⟨rb,0,none⟩)) rfl hs0 ?_ ?_
       ·rintro w ⟨q0,q1⟩;go_simp
       refine tk 2 (.bool x.pm) rfl hs0 ?_ ?_
       ·rintro w ⟨q0,q1⟩;go_simp
       refine tk 3 (.pointer (some ⟨rb,1,none⟩)) rfl hs0 ?_ ?_
       ·rintro w ⟨q0,q1⟩;go_simp
       refine tk 4 (.slice pc nc cc) rfl hs0 ?_ ?_
       ·rintro w ⟨q0,q1⟩;go_simp
       refine rd 5 rfl fun KK hKK=>?_
       go_simp
       refine (HC3.out _ (Below.refl _ _).drew).mono ?_;rintro en W8 ⟨kc,dc,rfl,o8,b8⟩;have c8:Below W4.heap.size W4 W8:=zac (Below.refl _ _).drew b8;have hs8:=HSX.out _ (HS4.out W8 c8);have hz5:wo.heap.size<=W4.heap.size:=Nat.le_trans HIB.out.size HB4.out.size;have hxlm:XLM W8 wo.heap.size x ⟨x.pm,kc,nc,dc⟩:=⟨rfl,HNM.out.symm,zav o8 (Nat.le_trans hz5 (Nat.le_refl _))⟩;obtain ⟨q9,c9,W9,hr9,hI9,hkp⟩:=HI.out.step (zac HB4.out c8) HIB.out.size HX.out hxlm HJ9.out (by have:=HM.out.2.2.1;have:=HJ9.out;omega);have hxe:(xlC ⟨x.pm,kc,nc,dc⟩).toArray=#[.bool x.pm,.slice kc nc dc]:=rfl;rw [hxe] at hr9;obtain ⟨WA,hWA⟩:=ex (W8.alloc (.cells #[.bool x.pm,.slice kc nc dc] 122 (0,0)));have hsA:=HSX.out _ (HS4.out WA (zac c8 (by rw [<-hWA];exact zah (Below.refl _ _) _)));have hs9:=HSX.out _ (hkp _ _ _ (by decide) (HS4.out W8 c8));rw [hWA] at hr9;have HI9':=zab hI9;have HWA:=zab hWA;clear o8 b8 c8 hz5 hxlm hI9 hkp hxe hWA
       go_simp
       refine hKK.out _ _ hs8 (fun _=>?_);clear hKK KK;refine tk 6 (.agg #[.bool x.pm,.slice kc nc dc]) rfl hs8 ?_ ?_
       ·rintro w ⟨q0,q1⟩;go_simp
       refine rd 7 rfl fun KK hKK=>?_
       go_simp
       rw [HWA.out];refine hKK.out _ _ hsA (fun _=>?_);clear hKK KK;refine rd 8 rfl fun KK hKK=>?_;refine zd6 (by rfl) _ _ _ (by rfl) (by rfl) (by rfl) hr9 ?_;refine hKK.out _ _ hs9 (fun _=>?_);clear hKK KK;refine tk 9 (.slice q9 j9 c9) rfl hs9 ?_ ?_
       ·rintro w ⟨q0,q1⟩;go_simp
       refine wpAnyH_done (by kernel_rfl) ?_ _;clear hs0 hs8 hsA hs9 hr9
       go_wp2_with fail
       go_roundw
       case rel=>exact ⟨j9,q9,c9,rfl,by rw [<-HJ9.out];go_num,by have:=HJ9.out;omega,HI9'⟩
       case measure=>have:=HJ9.out;simp [intOf];omega
      ·obtain rfl:j=m:=by omega
       have j7:¬(j:Int) < (j:Int):=by omega
       obtain ⟨q9,c9,W9,hr9,hS9,d9,f9⟩:=HS.out.stepG HB.out HI.out HM.out.1 HTT.out HI9.out.1 HI9.out.2;have HS9:=zab hS9;clear hS9 HI HS hle
       go_wp2_with (at_builtin;refine za3 rfl _ _ _ rfl rfl rfl hr9 ?_)
       clear a2 d0 hr9 q1 q2 q3
       go_wp2_with fail
       go_roundw
       case rel=>exact ⟨i9,q9,c9,by rw [<-HI9.out.1];go_num,by have:=HI9.out.1;omega,HS9⟩
       case measure=>have:=HI9.out.1;simp [intOf];omega
    ·obtain rfl:l=ng:=by omega
     have j5:¬(l:Int) < (l:Int):=by omega
     have g3:=zaf HS.out.1.2.2;have g2:=zaf HS.out.1.2.1;have m0:wr.cell? ⟨b3,0,none⟩=some (.slice pP np cP):=by rw [g3.1];rfl
     have m1:wr.cell? ⟨b3,1,none⟩=some (.slice q2' i c2'):=by rw [g3.1];rfl
     have m2:wr.cell? ⟨b3,2,none⟩=some (.slice q3' l c3'):=by rw [g3.1];rfl
     have n0:wr.cell? ⟨b2,0,none⟩=some (.slice none 0 0):=by rw [g2.1];rfl
     have n1:wr.cell? ⟨b2,1,none⟩=some (.slice none 0 0):=by rw [g2.1];rfl
     have n2:wr.cell? ⟨b2,2,none⟩=some (.slice none 0 0):=by rw [g2.1];rfl
     have f0:=g2.2 0;have f1:=g2.2 1;have f2:=g2.2 2;obtain ⟨W9,hW9⟩:=ex (((wr.setCell ⟨b2,0,none⟩ (.slice pP np cP)).setCell ⟨b2,1,none⟩ (.slice q2' i c2')).setCell ⟨b2,2,none⟩ (.slice q3' l c3'));have HFIN:Hid (NK W9 n ⟨pP,cP,q2',c2',q3',c3'⟩/\Below w.heap.size w W9):=by
      rw [<-hW9,HB1.out];exact HS.out.fin2 HB.out HN.out.1 HN.out.2.1 HN.out.2.2.1
     have HRES:Hid (W9.heap[b2]?=some (.cells #[.slice pP np cP,.slice q2' i c2',.slice q3' l c3'] 64 (0,0))):=by
      rw [<-hW9];exact (zag _ (zag _ (zag _ HS.out.1.2.1))).trans (by simp)
     have HW9:=zab hW9;clear hW9 HS g2 g3 q1 q2 q3
     go_wp2_with fail
     rw [HW9.out];refine bodyPost_ret (res_nw _ _ b2 _ _ _ _ _ _ _ _ _ rfl HRES.out) rfl ?_;exact ⟨pP,cP,q2',c2',q3',c3',rfl,HFIN.out⟩
theorem read_any (n:NN) (v:NV) (np nt ng:Nat) (w:World) (hN:LN w n v) (hO:okN n) (hV:NetP n) (hnp:n.ports.length=np) (hnt:n.tabs.length=nt) (hng:n.grds.length=ng) :
  Calls Tryz.prog 27 #[.agg #[.int .i64 n.bits,.slice v.pp np v.cp,.slice v.pt nt v.ct,.slice v.pg ng v.cg]] w (RDQ n np nt ng w):=by
 refine (zpx n v np nt ng w hN hO hV hnp hnt hng).mono ?_;rintro e w' ⟨p1,c1,p2,c2,p3,c3,he,h1,h2⟩;exact ⟨p1,c1,p2,c2,p3,c3,he,h1.nw,h2⟩
theorem zly {bits:Int} {h c:List UInt8} (hh:HdP bits h) (hc:za4 bits c) (h1:1<=bits) (h2:bits<=256) (w:World):Calls Tryz.prog 114 #[Tn.cubeV h,Tn.cubeV c] w fun e w'=>e=.returned (.bool (Tn.hasB c h))/\Below w.heap.size w w':=by
 have h9:=Tn.within_any h c w (zci (zd0 hh) h2) (zci hc h2);rw [wi_has hh hc h1] at h9;exact h9
set_option maxRecDepth 100000 in
set_option maxHeartbeats 16000000 in
theorem zn5 (n:NN) (v:NV) (np nt ng:Nat) (p:Int) (h:List UInt8) (w:World) (hW:NW w n v) (hV:NetP n) (hp0:0<=p) (hp1:p < (n.ports.length:Int)) (hh:HdP n.bits h) (hng:n.grds.length=ng) :
  Calls Tryz.prog 100 #[.agg #[.slice v.pp np v.cp,.slice v.pt nt v.ct,.slice v.pg ng v.cg],.int .i64 p,Tn.cubeV h] w fun e w'=>e=.returned (.bool (zfm (zcv n p) h))/\Below w.heap.size w w':=by
 obtain ⟨pp,cp,pt,ct,pg,cg⟩:=v;simp only at hW ⊢;obtain ⟨a0,a1,a2,a3,a4,a5,a6,a7,a8,h9⟩:=zbz h;rw [h9.agg];obtain ⟨hg1,hg2⟩:=hV.grd hp0 hp1;obtain ⟨pk,hpk⟩:∃ pk:Nat,p=(pk:Int):=⟨p.toNat,by omega⟩;subst hpk;rw [Int.toNat_natCast] at hg1;obtain ⟨G,hG⟩:=ex (zcv n (pk:Int));rw [hG] at hg1 hg2 ⊢;obtain ⟨g,o,q,c,e9,k0,hlx⟩:=hW.2.2 pk G hg1;simp only at e9;subst e9;obtain ⟨m,hm⟩:=ex G.length;rw [hm] at k0;have hpg:pk < ng:=by rw [<-hng];exact (List.getElem?_eq_some_iff.1 hg1).1
 have hmo:m<=64:=by
  have h1:=hV.2.1;have h2:G.length<=zhk n:=zbn (List.mem_map.2 ⟨G,List.mem_of_getElem? hg1,rfl⟩);omega
 obtain ⟨B,hB⟩:=ex w.heap.size;obtain ⟨b2,hb2⟩:=ex (w.heap.size+1);obtain ⟨W1,hW1⟩:=ex ((w.alloc (.cells #[.slice pp np cp,.slice pt nt ct,.slice (some ⟨g,o,none⟩) ng cg] 64)).alloc (.cells #[.int .i64 a0,.int .u64 a1,.int .u64 a2,.int .u64 a3,.int .u64 a4,.int .u64 a5,.int .u64 a6,.int .u64 a7,.int .u64 a8] 70));have hz2:(w.alloc (.cells #[.slice pp np cp,.slice pt nt ct,.slice (some ⟨g,o,none⟩) ng cg] 64)).heap.size=w.heap.size+1:=Array.size_push _;have b1:Below w.heap.size w W1:=by rw [<-hW1];exact zah (zah (Below.refl _ _) _) _
 have k1:W1.heap[B]?=some (.cells #[.slice pp np cp,.slice pt nt ct,.slice (some ⟨g,o,none⟩) ng cg] 64 (0,0)):=by rw [<-hW1,<-hB];exact zae (zah (Below.refl _ _) _) (zaa _ _)
 have k2:W1.heap[b2]?=some (.cells #[.int .i64 a0,.int .u64 a1,.int .u64 a2,.int .u64 a3,.int .u64 a4,.int .u64 a5,.int .u64 a6,.int .u64 a7,.int .u64 a8] 70 (0,0)):=by rw [<-hW1,<-hb2,<-hz2];exact zaa _ _
 have HC:Hid (∀ U,Below W1.heap.size W1 U->(U.cell? ⟨B,0,none⟩=some (.slice pp np cp)/\U.cell? ⟨B,1,none⟩=some (.slice pt nt ct)/\U.cell? ⟨B,2,none⟩=some (.slice (some ⟨g,o,none⟩) ng cg))/\(U.cell? ⟨b2,0,none⟩=some (.int .i64 a0)/\U.cell? ⟨b2,1,none⟩=some (.int .u64 a1)/\U.cell? ⟨b2,2,none⟩=some (.int .u64 a2)/\U.cell? ⟨b2,3,none⟩=some (.int .u64 a3)/\U.cell? ⟨b2,4,none⟩=some (.int .u64 a4)/\U.cell? ⟨b2,5,none⟩=some (.int .u64 a5)/\U.cell? ⟨b2,6,none⟩=some (.int .u64 a6)/\U.cell? ⟨b2,7,none⟩=some (.int .u64 a7)/\U.cell? ⟨b2,8,none⟩=some (.int .u64 a8))/\U.cell? ⟨g,o+pk,none⟩=some (.slice q m c)):=fun U hU=>by
  have e1:=(zaf (zae hU k1)).1;have e2:=(zaf (zae hU k2)).1;exact ⟨⟨by rw [e1];rfl,by rw [e1];rfl,by rw [e1];rfl⟩,⟨by rw [e2];rfl,by rw [e2];rfl,by rw [e2];rfl,by rw [e2];rfl,by rw [e2];rfl,by rw [e2];rfl,by rw [e2];rfl,by rw [e2];rfl,by rw [e2];rfl⟩,zao (zac b1 hU) k0⟩
 have HL:Hid (∀ U,Below W1.heap.size W1 U->LXL U q G/\Below w.heap.size w U):=fun U hU=>⟨hlx.below (zac b1 hU),zac b1 hU⟩;have HN:Hid (G.length=m/\zbk n.bits G/\HdP n.bits h/\1<=n.bits/\n.bits<=256/\m<=64):=⟨hm,hg2,hh,hV.bits.1,hV.bits.2,hmo⟩;have H9:Hid (C9 h a0 a1 a2 a3 a4 a5 a6 a7 a8):=h9;have HB:=zab hB;have HB2:=zab hb2;have HW1:=zab hW1;have j0:(0:Int)<=(pk:Int):=by omega
 have j1:(pk:Int) < (ng:Int):=by omega
 have hm7:m<=140737488351232:=by omega
 obtain ⟨bz,hbz⟩:=ex (((m:Int)==0));have HBZ:Hid (G.isEmpty=bz):=by
  rw [<-hbz,<-hm];cases G with
  | nil=>rfl
  | cons x G=>
   show false=(((x :: G).length:Int)==0);rw [List.length_cons]
   symm
   rw [beq_eq_false_iff_ne];omega
 clear h9 hW hV hp0 hp1 hh hng hg1 hg2 hG hm hpg hmo hB hb2 hW1 hz2 b1 k1 k2 k0 hlx;obtain ⟨⟨q0,q1,q2⟩,⟨r0,r1,r2,r3,r4,r5,r6,r7,r8⟩,k0⟩:=HC.out W1 (Below.refl _ _)
 go_enter Tryz.func100,Tryz.ntmps100
 go_upto_region 1 with fail
 rw [HW1.out,HB2.out,HB.out];refine wp_scope_straight ?_
 go_wp2_with fail
 refine wp_label ?_
 go_wp2_with fail
 clear q0 q1 q2 k0;clear r0 r1 r2 r3 r4 r5 r6 r7 r8
 go_loopw [8,23] (fun v8 vk wr=>∃ k:Nat,v8=.bool bz/\vk=.int .i64 (k:Int)/\k<=m/\Hid (Below W1.heap.size W1 wr/\∀ (i:Nat) l,i < k->G[i]?=some l->zb0 l.cubes h=false)) (fun _ vk _=>m - (intOf vk).toNat)
 case atStart=>exact ⟨0,rfl,rfl,Nat.zero_le _,Below.refl _ _,fun i l hi=>by omega⟩
 case round=>
  obtain ⟨k,rfl,rfl,hk,HS⟩:=hrel;obtain ⟨⟨q0,q1,q2⟩,⟨r0,r1,r2,r3,r4,r5,r6,r7,r8⟩,k0⟩:=HC.out wr HS.out.1
  by_cases hlt:k < m
  ·obtain ⟨x,hx⟩:∃ x,G[k]?=some x:=⟨_,List.getElem?_eq_getElem (by have:=HN.out.1;omega)⟩
   obtain ⟨gl,ol,pc,cc,e9,u0,u1,hrow⟩:=(HL.out wr HS.out.1).1 k x hx;subst e9;obtain ⟨nc,hnc⟩:=ex x.cubes.length;rw [hnc] at u1;have hx2:=HN.out.2.1.1 x (List.mem_of_getElem? hx);obtain ⟨W4,hW4⟩:=ex (wr.alloc (Obj.cells #[.bool x.pm,.slice pc nc cc] 122));have b4:Below wr.heap.size wr W4:=by rw [<-hW4];exact zah (Below.refl _ _) _
   obtain ⟨rb,hrb⟩:=ex wr.heap.size;have s4:W4.heap[rb]?=some (.cells #[.bool x.pm,.slice pc nc cc] 122 (0,0)):=by rw [<-hW4,<-hrb];exact zaa _ _
   have HD:Hid (∀ U,Below W4.heap.size W4 U->U.cell? ⟨rb,0,none⟩=some (.bool x.pm)/\U.cell? ⟨rb,1,none⟩=some (.slice pc nc cc)/\RowL 9 zcp U pc x.cubes/\Below W1.heap.size W1 U):=fun U hU=>by
    have e1:=(zaf (zae hU s4)).1;exact ⟨by rw [e1];rfl,by rw [e1];rfl,hrow.below (zac b4 hU),zac HS.out.1 (zac b4 hU)⟩
   have HX:=zab hx;have HXC:Hid (x.cubes.length=nc/\zb1 n.bits x.cubes):=⟨hnc,hx2⟩;have hnc7:nc<=140737488351232:=by have:=hx2.1;omega
   have HW4:=zab hW4;have HRB:=zab hrb;have j2:(0:Int)<=(k:Int):=by omega
   have j3:(k:Int) < (m:Int):=by omega
   clear hx hnc hx2 hW4 b4 hrb s4 hrow
   go_upto_region 6 with fail
   rw [HW4.out,HRB.out];clear q0 q1 q2 k0 u0 u1;clear r0 r1 r2 r3 r4 r5 r6 r7 r8;obtain ⟨v0,v1,-,-⟩:=HD.out W4 (Below.refl _ _);obtain ⟨⟨q0,q1,q2⟩,⟨r0,r1,r2,r3,r4,r5,r6,r7,r8⟩,k0⟩:=HC.out W4 (HD.out W4 (Below.refl _ _)).2.2.2
   go_wp2_with fail
   clear q0 q1 q2 k0 v0 v1;clear r0 r1 r2 r3 r4 r5 r6 r7 r8
   go_loopw [8,30] (fun v8 vj wr=>∃ j:Nat,v8=.bool bz/\vj=.int .i64 (j:Int)/\j<=nc/\Hid (Below W4.heap.size W4 wr/\∀ (i:Nat) c,i < j->x.cubes[i]?=some c->Tn.hasB c h=false)) (fun _ vj _=>nc - (intOf vj).toNat)
   case atStart=>exact ⟨0,rfl,rfl,Nat.zero_le _,Below.refl _ _,fun i l hi=>by omega⟩
   case round=>
    obtain ⟨j,rfl,rfl,hj,HJ⟩:=hrel;obtain ⟨v0,v1,hrow,hb1⟩:=HD.out wr HJ.out.1;obtain ⟨⟨q0,q1,q2⟩,⟨r0,r1,r2,r3,r4,r5,r6,r7,r8⟩,k0⟩:=HC.out wr hb1
    by_cases hlt2:j < nc
    ·obtain ⟨y,hy⟩:∃ y,x.cubes[j]?=some y:=⟨_,List.getElem?_eq_getElem (by have:=HXC.out.1;omega)⟩
     obtain ⟨gy,oy,e9,hcy⟩:=hrow j y hy;subst e9;obtain ⟨d0,d1,d2,d3,d4,d5,d6,d7,d8,h8⟩:=zbz y;have hcy9:∀ (i:Nat) (v:Value),([.int .i64 d0,.int .u64 d1,.int .u64 d2,.int .u64 d3,.int .u64 d4,.int .u64 d5,.int .u64 d6,.int .u64 d7,.int .u64 d8]:List Value)[i]?=some v->wr.cell? ⟨gy,oy+j*9+i,none⟩=some v:=fun i v hv=>hcy i v (by rw [show zcp y=_ from h8];exact hv);have y0:=hcy9 0 _ rfl;have y1:=hcy9 1 _ rfl;have y2:=hcy9 2 _ rfl;have y3:=hcy9 3 _ rfl;have y4:=hcy9 4 _ rfl;have y5:=hcy9 5 _ rfl;have y6:=hcy9 6 _ rfl;have y7:=hcy9 7 _ rfl;have y8:=hcy9 8 _ rfl;rw [Nat.add_zero] at y0;obtain ⟨W5,hW5⟩:=ex (wr.alloc (Obj.cells #[.int .i64 d0,.int .u64 d1,.int .u64 d2,.int .u64 d3,.int .u64 d4,.int .u64 d5,.int .u64 d6,.int .u64 d7,.int .u64 d8] 70));have b5:Below wr.heap.size wr W5:=by rw [<-hW5];exact zah (Below.refl _ _) _
     obtain ⟨rc,hrc⟩:=ex wr.heap.size;have s5:W5.heap[rc]?=some (.cells #[.int .i64 d0,.int .u64 d1,.int .u64 d2,.int .u64 d3,.int .u64 d4,.int .u64 d5,.int .u64 d6,.int .u64 d7,.int .u64 d8] 70 (0,0)):=by rw [<-hW5,<-hrc];exact zaa _ _
     have HCC:Hid (W5.cell? ⟨rc,0,none⟩=some (.int .i64 d0)/\W5.cell? ⟨rc,1,none⟩=some (.int .u64 d1)/\W5.cell? ⟨rc,2,none⟩=some (.int .u64 d2)/\W5.cell? ⟨rc,3,none⟩=some (.int .u64 d3)/\W5.cell? ⟨rc,4,none⟩=some (.int .u64 d4)/\W5.cell? ⟨rc,5,none⟩=some (.int .u64 d5)/\W5.cell? ⟨rc,6,none⟩=some (.int .u64 d6)/\W5.cell? ⟨rc,7,none⟩=some (.int .u64 d7)/\W5.cell? ⟨rc,8,none⟩=some (.int .u64 d8)):=by
      have e1:=(zaf s5).1;exact ⟨by rw [e1];rfl,by rw [e1];rfl,by rw [e1];rfl,by rw [e1];rfl,by rw [e1];rfl,by rw [e1];rfl,by rw [e1];rfl,by rw [e1];rfl,by rw [e1];rfl⟩
     obtain ⟨bq,hbq⟩:=ex (Tn.hasB y h);have HWI:Hid (Calls Tryz.prog 114 #[.agg #[.int .i64 a0,.int .u64 a1,.int .u64 a2,.int .u64 a3,.int .u64 a4,.int .u64 a5,.int .u64 a6,.int .u64 a7,.int .u64 a8],.agg #[.int .i64 d0,.int .u64 d1,.int .u64 d2,.int .u64 d3,.int .u64 d4,.int .u64 d5,.int .u64 d6,.int .u64 d7,.int .u64 d8]] W5 fun e w'=>e=.returned (.bool bq)/\Below W5.heap.size W5 w'):=by
      have hh:=zly HN.out.2.2.1 (HXC.out.2.2 y (List.mem_of_getElem? hy)) HN.out.2.2.2.1 HN.out.2.2.2.2.1 W5;rw [H9.out.agg,h8.agg,hbq] at hh;exact hh
     have HB5:Hid (Below W4.heap.size W4 W5):=zac HJ.out.1 b5;have HY:=zab hy;have HBQ:=zab hbq;have HW5:=zab hW5;have HRC:=zab hrc;have j4:(0:Int)<=(j:Int):=by omega
     have j5:(j:Int) < (nc:Int):=by omega
     clear hy hcy hcy9 h8 hW5 b5 hrc s5 hbq hrow hb1
     go_upto_region 9 with fail
     rw [HW5.out,HRC.out];clear q0 q1 q2 k0 v0 v1;clear r0 r1 r2 r3 r4 r5 r6 r7 r8;clear y0 y1 y2 y3 y4 y5 y6 y7 y8;obtain ⟨w0,w1,-,hb5⟩:=HD.out W5 HB5.out;obtain ⟨⟨q0,q1,q2⟩,⟨r0,r1,r2,r3,r4,r5,r6,r7,r8⟩,k0⟩:=HC.out W5 hb5;obtain ⟨y0,y1,y2,y3,y4,y5,y6,y7,y8⟩:=HCC.out;clear hb5
     go_wp2_with fail
     refine (HWI.out).mono ?_;rintro e W6 ⟨rfl,b6⟩;have HB6:Hid (Below W4.heap.size W4 W6):=zac HB5.out b6;clear q0 q1 q2 k0 w0 w1 b6;clear r0 r1 r2 r3 r4 r5 r6 r7 r8;clear y0 y1 y2 y3 y4 y5 y6 y7 y8;cases bq with
     | true=>
      obtain ⟨w0,w1,-,hb6⟩:=HD.out W6 HB6.out;have HFIN:Hid (Below w.heap.size w W6/\x.pm=zfm G h):=by
       refine ⟨(HL.out W6 hb6).2,?_⟩;unfold zfm;rw [zmx (f:=fun l=>zb0 l.cubes h) HX.out (fun i l hi hl=>HS.out.2 i l hi hl) (zls HY.out HBQ.out)]
      clear hb6
      go_wp2_with fail
      simp only [Exit.noGoto]
      go_ret
      exact ⟨by rw [<-HFIN.out.2];rfl,HFIN.out.1⟩
     | false=>
      have HR:Hid (Below W4.heap.size W4 W6/\∀ (i:Nat) c,i < j+1->x.cubes[i]?=some c->Tn.hasB c h=false):=by
       refine ⟨HB6.out,fun i c hi hc=>?_⟩;rcases Nat.lt_or_ge i j with h1 | h1
       ·exact HJ.out.2 i c h1 hc
       ·obtain rfl:i=j:=by omega
        rw [HY.out] at hc;obtain rfl:=Option.some.inj hc;exact HBQ.out
      go_wp2_with fail
      go_roundw
      case rel=>exact ⟨j+1,rfl,by go_num,by omega,HR⟩
      case measure=>simp [intOf];omega
    ·obtain rfl:j=nc:=by omega
     have j5:¬(j:Int) < (j:Int):=by omega
     have HR:Hid (Below W1.heap.size W1 wr/\∀ (i:Nat) l,i < k+1->G[i]?=some l->zb0 l.cubes h=false):=by
      refine ⟨hb1,fun i l hi hl=>?_⟩;rcases Nat.lt_or_ge i k with h1 | h1
      ·exact HS.out.2 i l h1 hl
      ·obtain rfl:i=k:=by omega
       rw [HX.out] at hl;obtain rfl:=Option.some.inj hl;exact zr4 (fun i9 c hc=>HJ.out.2 i9 c (by have:=(List.getElem?_eq_some_iff.1 hc).1;have:=HXC.out.1;omega) hc)
     clear hrow hb1
     go_wp2_with fail
     go_roundw
     case rel=>exact ⟨k+1,rfl,by go_num,by omega,HR⟩
     case measure=>simp [intOf];omega
  ·obtain rfl:k=m:=by omega
   have j3:¬(k:Int) < (k:Int):=by omega
   have HFIN:Hid (Below w.heap.size w wr/\bz=zfm G h):=by
    refine ⟨(HL.out wr HS.out.1).2,?_⟩;unfold zfm;rw [zim (f:=fun l=>zb0 l.cubes h) (fun i l hl=>HS.out.2 i l (by have:=(List.getElem?_eq_some_iff.1 hl).1;have:=HN.out.1;omega) hl)];exact HBZ.out.symm
   go_wp2_with fail
   go_ret
   exact ⟨by rw [<-HFIN.out.2];rfl,HFIN.out.1⟩
end Go.Proofs.YtmfakcfmkmppfaaGreatDoor.Nt
