import Derived.Test.YtciffggmobblpaaGreatDoorXBS
namespace Go.Proofs.YtciffggmobblpaaGreatDoor.Nt
open Go.RowKit Go.Shelf
def ADQ (r:Option (Nat×NE)) (w:World) (e:Ending) (w':World):Prop:=Below w.heap.size w w'∧match r with
 | some (k,x)=>∃ pi ci pc cc po co,e=.returned (.tuple #[.int .i64 (k:Int),.agg #[.string ⟨x.nm.toArray⟩,.slice pi x.ins.length ci,.slice pc x.cubes.length cc,.string ⟨x.wr.toArray⟩,.slice po x.outs.length co]])∧LI w' po x.outs
 | none=>e=.returned (.tuple #[.int .i64 (-1),.agg #[.string ⟨#[]⟩,.slice none 0 0,.slice none 0 0,.string ⟨#[]⟩,.slice none 0 0]])
theorem res_app (tmps:Array Value) (W:World) (b:Nat) (v0 v1 v2 v3 v4:Value) (u:Value) (h5:tmps[4]?.getD undef=u) (h:tmps[5]?.getD undef=.pointer (some ⟨b,0,none⟩)) (hb:W.heap[b]?=some (.cells #[v0,v1,v2,v3,v4] 41 (0,0))) :
  (results Tryz.f51 tmps).run Tryz.prog W=.ok (.tuple #[u,.agg #[v0,v1,v2,v3,v4]]) W:=by
 have h1:=(cellsZ hb).1
 have c0:=h1 0
 have c1:=h1 1
 have c2:=h1 2
 have c3:=h1 3
 have c4:=h1 4
 simp at c0 c1 c2 c3 c4
 simp [results,h,h5,c0,c1,c2,c3,c4,go_sem]
set_option maxRecDepth 100000 in
set_option maxHeartbeats 16000000 in
theorem dapp_any (n:NN) (v:NV) (p:Int) (h:List UInt8) (w:World) (hN:LN w n v) (hV:NetP n) (hp0:0≤p) (hp1:p < (n.ports.length:Int)) (hh:okS h) :
  Calls Tryz.prog 51 #[.agg (nnA n v),.agg (asC (p,h)).toArray] w (ADQ (appE n p h) w):=by
 have hE:(asC (p,h)).toArray=#[.int .i64 p,.string ⟨h.toArray⟩]:=rfl
 rw [hE]
 clear hE
 have hlt:=fun (G:List NG) (q:Option Addr) (m c:Nat) (U:World) (hm:G.length=m) (hG:LG U q G) (hc:∀ l∈G,CubesP n.bits l.cubes) (hM:m≤140737488351232)=>dlets_any n.bits G q m c h U hm hG hc hV.bits.2 hh hM
 have hhs:=fun (L:List (List UInt8)) (q:Option Addr) (m c:Nat) (U:World) (hm:L.length=m) (hL:LS U q L) (hc:∀ x∈L,CubeP n.bits x) (hM:m≤140737488351232)=>dhas_any n.bits L q m c h U hm hL hc hV.bits.2 hh hM
 obtain ⟨pp,cp,pt,ct,pg,cg⟩:=v
 unfold nnA
 simp only
 obtain ⟨hx1,hx2⟩:=hV.port hp0 hp1
 obtain ⟨ht1,ht2⟩:=hV.tab hx2.2.1 hx2.2.2.1
 obtain ⟨hg1,hg2⟩:=hV.grd hp0 hp1
 have hb1:=hx2.2.2.1
 obtain ⟨pk,hpk⟩:∃ pk:Nat,p=(pk:Int):=⟨p.toNat,by omega⟩
 subst hpk
 obtain ⟨bk,hbk⟩:∃ bk:Nat,(portAt n (pk:Int)).bx=(bk:Int):=⟨(portAt n (pk:Int)).bx.toNat,by have:=hx2.2.1;omega⟩
 have hAE:appE n (pk:Int) h=if lets (grdAt n (pk:Int)) h=true then ffst (fitE (pk:Int) h) (tabAt n (bk:Int)) (offs n bk) else none:=by
  unfold appE
  rw [hbk,Int.toNat_natCast]
 rw [hbk] at ht1 ht2 hb1
 rw [Int.toNat_natCast] at hx1 ht1 hg1
 obtain ⟨R,hR⟩:∃ R,appE n (pk:Int) h=R:=⟨_,rfl⟩
 obtain ⟨T,hTe⟩:∃ T,tabAt n (bk:Int)=T:=⟨_,rfl⟩
 obtain ⟨G,hGe⟩:∃ G,grdAt n (pk:Int)=G:=⟨_,rfl⟩
 rw [hTe] at ht1 ht2 hAE
 rw [hGe] at hg1 hg2 hAE
 obtain ⟨gp,op,e1,-,a1',-,-⟩:=hN.1 pk _ hx1
 simp only at e1
 subst e1
 obtain ⟨gt,ot,qt,dt,e2,t0',lt0,-⟩:=hN.2.2.1 bk _ ht1
 simp only at e2
 subst e2
 obtain ⟨gg,og,qg,dg,e3,g0',lg0,-⟩:=hN.2.2.2.2.1 pk _ hg1
 simp only at e3
 subst e3
 rw [hbk] at a1'
 obtain ⟨np,hnp⟩:∃ k,n.ports.length=k:=⟨_,rfl⟩
 obtain ⟨nt,hnt⟩:∃ k,n.tabs.length=k:=⟨_,rfl⟩
 obtain ⟨ng,hng⟩:∃ k,n.grds.length=k:=⟨_,rfl⟩
 obtain ⟨bits,hbits⟩:∃ b,n.bits=b:=⟨_,rfl⟩
 obtain ⟨m,hm⟩:∃ m,T.length=m:=⟨_,rfl⟩
 obtain ⟨mg,hmg⟩:∃ mg,G.length=mg:=⟨_,rfl⟩
 rw [hm] at t0'
 rw [hmg] at g0'
 have htot:m≤256:=by
  have h1:=hV.2.2.1
  have h2:T.length≤totT n:=le_sum_mem (List.mem_map.2 ⟨T,List.mem_of_getElem? ht1,rfl⟩)
  omega
 have htog:mg≤64:=by
  have h1:=hV.2.1
  have h2:G.length≤totG n:=le_sum_mem (List.mem_map.2 ⟨G,List.mem_of_getElem? hg1,rfl⟩)
  omega
 have hpn:pk < np:=by rw [←hnp];exact (List.getElem?_eq_some_iff.1 hx1).1
 have hpg:pk < ng:=by rw [←hng];exact (List.getElem?_eq_some_iff.1 hg1).1
 have hbt:bk < nt:=by rw [←hnt];exact (List.getElem?_eq_some_iff.1 ht1).1
 have hts:∀ (i:Nat),i < bk→∃ q c k,(offs n (i+1)=offs n i+k∧k≤256)∧∀ U,Below w.heap.size w U→U.cell? ⟨gt,ot+i,none⟩=some (.slice q k c):=fun i hi=>by
  obtain ⟨t,ht⟩:∃ t,n.tabs[i]?=some t:=⟨_,List.getElem?_eq_getElem (by omega)⟩
  obtain ⟨g9,o9,q,c,e9,c9,-,-⟩:=hN.2.2.1 i t ht
  simp only [Option.some.injEq,Addr.mk.injEq] at e9
  obtain ⟨rfl,rfl,-⟩:=e9
  have h2:t.length≤totT n:=le_sum_mem (List.mem_map.2 ⟨t,List.mem_of_getElem? ht,rfl⟩)
  have h1:=hV.2.2.1
  exact ⟨q,c,t.length,⟨offs_succ ht,by omega⟩,fun U hU=>keepC hU c9⟩
 have hof:∀ i,offs n i≤256:=fun i=>Nat.le_trans (offs_le n i) hV.2.2.1
 rw [hnp,hnt,hng,hbits,hR]
 obtain ⟨B,hB⟩:∃ B,w.heap.size=B:=⟨_,rfl⟩
 obtain ⟨b2,hb2⟩:∃ b2,w.heap.size+1=b2:=⟨_,rfl⟩
 obtain ⟨b3,hb3⟩:∃ b3,w.heap.size+1+1=b3:=⟨_,rfl⟩
 obtain ⟨W1,hW1⟩:∃ W1,((w.alloc (.cells #[.int .i64 bits,.slice (some ⟨gp,op,none⟩) np cp,.slice (some ⟨gt,ot,none⟩) nt ct,.slice (some ⟨gg,og,none⟩) ng cg] 26)).alloc (.cells #[.int .i64 (pk:Int),.string ⟨h.toArray⟩] 28)).alloc (.cells #[.string ⟨#[]⟩,.slice none 0 0,.slice none 0 0,.string ⟨#[]⟩,.slice none 0 0] 41)=W1:=⟨_,rfl⟩
 have hz2:(w.alloc (.cells #[.int .i64 bits,.slice (some ⟨gp,op,none⟩) np cp,.slice (some ⟨gt,ot,none⟩) nt ct,.slice (some ⟨gg,og,none⟩) ng cg] 26)).heap.size=w.heap.size+1:=Array.size_push _
 have hz3:((w.alloc (.cells #[.int .i64 bits,.slice (some ⟨gp,op,none⟩) np cp,.slice (some ⟨gt,ot,none⟩) nt ct,.slice (some ⟨gg,og,none⟩) ng cg] 26)).alloc (.cells #[.int .i64 (pk:Int),.string ⟨h.toArray⟩] 28)).heap.size=w.heap.size+1+1:=by
  show ((w.heap.push _).push _).size=_
  rw [Array.size_push,Array.size_push]
 have b1:Below w.heap.size w W1:=by rw [←hW1];exact belAZ (belAZ (belAZ (Below.refl _ _) _) _) _
 have k1:W1.heap[B]?=some (.cells #[.int .i64 bits,.slice (some ⟨gp,op,none⟩) np cp,.slice (some ⟨gt,ot,none⟩) nt ct,.slice (some ⟨gg,og,none⟩) ng cg] 26 (0,0)):=by rw [←hW1,←hB];exact keepZ (belAZ (belAZ (Below.refl _ _) _) _) (alloc_getZ _ _)
 have k2:W1.heap[b2]?=some (.cells #[.int .i64 (pk:Int),.string ⟨h.toArray⟩] 28 (0,0)):=by rw [←hW1,←hb2,←hz2];exact keepZ (belAZ (Below.refl _ _) _) (alloc_getZ _ _)
 have k3:W1.heap[b3]?=some (.cells #[.string ⟨#[]⟩,.slice none 0 0,.slice none 0 0,.string ⟨#[]⟩,.slice none 0 0] 41 (0,0)):=by rw [←hW1,←hb3,←hz3];exact alloc_getZ _ _
 have HC:Hid (∀ U,Below W1.heap.size W1 U→(U.cell? ⟨B,0,none⟩=some (.int .i64 bits)∧U.cell? ⟨B,1,none⟩=some (.slice (some ⟨gp,op,none⟩) np cp)∧U.cell? ⟨B,2,none⟩=some (.slice (some ⟨gt,ot,none⟩) nt ct)∧U.cell? ⟨B,3,none⟩=some (.slice (some ⟨gg,og,none⟩) ng cg))∧(U.cell? ⟨b2,0,none⟩=some (.int .i64 (pk:Int))∧U.cell? ⟨b2,1,none⟩=some (.string ⟨h.toArray⟩))∧U.cell? ⟨gp,op+pk*4+1,none⟩=some (.int .i64 (bk:Int))∧U.cell? ⟨gg,og+pk,none⟩=some (.slice qg mg dg)∧U.cell? ⟨gt,ot+bk,none⟩=some (.slice qt m dt)):=fun U hU=>by
  have e1:=(cellsZ (keepZ hU k1)).1
  have e2:=(cellsZ (keepZ hU k2)).1
  exact ⟨⟨by rw [e1];rfl,by rw [e1];rfl,by rw [e1];rfl,by rw [e1];rfl⟩,⟨by rw [e2];rfl,by rw [e2];rfl⟩,keepC (bel0Z b1 hU) a1',keepC (bel0Z b1 hU) g0',keepC (bel0Z b1 hU) t0'⟩
 have HZ:Hid (∀ U,Below W1.heap.size W1 U→U.heap[b3]?=some (.cells #[.string ⟨#[]⟩,.slice none 0 0,.slice none 0 0,.string ⟨#[]⟩,.slice none 0 0] 41 (0,0))):=fun U hU=>keepZ hU k3
 have HZ2:Hid (∀ U,Below W1.heap.size W1 U→U.heap[b2]?=some (.cells #[.int .i64 (pk:Int),.string ⟨h.toArray⟩] 28 (0,0))):=fun U hU=>keepZ hU k2
 have HNE:Hid (b2≠b3):=by show _≠_;omega
 have HTS:Hid (∀ (i:Nat),i < bk→∃ q c k,(offs n (i+1)=offs n i+k∧k≤256)∧∀ U,Below W1.heap.size W1 U→U.cell? ⟨gt,ot+i,none⟩=some (.slice q k c)):=fun i hi=>by
  obtain ⟨q,c,k,h1,h2⟩:=hts i hi
  exact ⟨q,c,k,h1,fun U hU=>h2 U (bel0Z b1 hU)⟩
 have HLB:Hid (∀ U,Below W1.heap.size W1 U→Calls Tryz.prog 53 #[.slice qg mg dg,.string ⟨h.toArray⟩] U fun e w'=>e=.returned (.bool (lets G h))∧Below U.heap.size U w'):=fun U hU=>hlt G qg mg dg U hmg (lg0.below (bel0Z b1 hU)) hg2.1 (by omega)
 have HLE:Hid (LE w qt T):=lt0
 have HHS:Hid (∀ (L:List (List UInt8)) (q:Option Addr) (m c:Nat) (U:World),L.length=m→LS U q L→(∀ x∈L,CubeP n.bits x)→m≤140737488351232→Calls Tryz.prog 68 #[.slice q m c,.string ⟨h.toArray⟩] U fun e w'=>e=.returned (.bool (hasAny L h))∧Below U.heap.size U w'):=hhs
 have HV:Hid (NetP n∧TabP n (bk:Int) T∧T.length=m∧(R=if lets G h=true then ffst (fitE (pk:Int) h) T (offs n bk) else none)∧∀ i,offs n i≤256):=⟨hV,ht2,hm,by rw [←hR];exact hAE,hof⟩
 have HB:=hideL hB
 have HB2:=hideL hb2
 have HB3:=hideL hb3
 have HW1:=hideL hW1
 have HBB:Hid (w.heap.size≤b3):=by show _≤_;omega
 have HBW:Hid (∀ U,Below W1.heap.size W1 U→Below w.heap.size w U):=fun U hU=>bel0Z b1 hU
 have j0:(0:Int)≤(pk:Int):=by omega
 have j1:(pk:Int) < (np:Int):=by omega
 have j2:(pk:Int) < (ng:Int):=by omega
 have j3:(0:Int)≤(bk:Int):=by omega
 have j4:(bk:Int) < (nt:Int):=by omega
 have hm7:m≤140737488351232:=by omega
 have hbk7:bk≤140737488351232:=by have:=hV.1.2.2.1;omega
 clear hN hV hp0 hp1 hh hlt hhs hx1 hx2 ht1 ht2 hg1 hg2 hb1 hbk hAE hR hTe hGe a1' t0' lt0 g0' lg0 hnp hnt hng hbits hm hmg htot htog hpn hpg hts hof
 clear hB hb2 hb3 hW1 hz2 hz3 b1 k1 k2 k3
 obtain ⟨⟨q0,q1,q2,q3⟩,⟨r0,r1⟩,a1,g0,t0⟩:=HC.out W1 (Below.refl _ _)
 go_enter Tryz.func51,Tryz.ntmps51
 go_upto_region 1 with fail
 rw [HW1.out,HB3.out,HB2.out,HB.out]
 go_wp2_with fail
 clear q0 q1 q2 q3 r0 r1 a1 g0 t0
 go_loopw [7,8] (fun v7 v8 wr=>∃ i s:Nat,v7=.int .i64 (s:Int)∧v8=.int .i64 (i:Int)∧i≤bk∧s≤256∧Hid (s=offs n i)∧Hid (W1=wr)) (fun _ v8 _=>bk - (intOf v8).toNat)
 case atStart=>exact ⟨0,0,rfl,rfl,Nat.zero_le _,Nat.zero_le _,rfl,rfl⟩
 case round=>
  obtain ⟨i,s,rfl,rfl,hi,hs,HS,HWR⟩:=hrel
  obtain ⟨wo,rfl⟩:∃ wo,wo=wr:=⟨wr,rfl⟩
  obtain rfl:wo=W1:=HWR.out.symm
  obtain ⟨⟨q0,q1,q2,q3⟩,⟨r0,r1⟩,a1,g0,t0⟩:=HC.out wo (Below.refl _ _)
  by_cases hlt:i < bk
  ·obtain ⟨q,c,k,⟨ho,hk⟩,hcell⟩:=HTS.out i hlt
   have u0:=hcell wo (Below.refl _ _)
   have HO:=hideL ho
   have hs9:s+k≤256:=by have:=HV.out.2.2.2.2 (i+1);have:=HS.out;omega
   have j5:(0:Int)≤(i:Int):=by omega
   have j6:(i:Int) < (nt:Int):=by omega
   have j7:(i:Int) < (bk:Int):=by omega
   have hk7:k≤140737488351232:=by omega
   clear ho hcell
   go_wp2_with fail
   go_roundw
   case rel=>exact ⟨i+1,s+k,by go_num,by go_num,by omega,hs9,by have h1:=HO.out;have h2:=HS.out;show _=_;omega,by first | rfl | trivial⟩
   case measure=>simp [intOf];omega
  ·obtain rfl:i=bk:=by omega
   have j7:¬(i:Int) < (i:Int):=by omega
   have HS7:Hid (∀ U,Below wo.heap.size wo U→U.cell? ⟨B,3,none⟩=some (.slice (some ⟨gg,og,none⟩) ng cg)∧(U.cell? ⟨b2,0,none⟩=some (.int .i64 (pk:Int))∧U.cell? ⟨b2,1,none⟩=some (.string ⟨h.toArray⟩))∧U.cell? ⟨gg,og+pk,none⟩=some (.slice qg mg dg)):=fun U hU=>by
    obtain ⟨⟨q0,q1,q2,q3⟩,⟨r0,r1⟩,a1,g0,t0⟩:=HC.out U hU
    exact ⟨q3,⟨r0,r1⟩,g0⟩
   have hs0:=HS7.out wo.drew (Below.refl _ _).drew
   obtain ⟨lb,hlb⟩:∃ lb,lets G h=lb:=⟨_,rfl⟩
   have HLB1:=HLB.out wo.drew (Below.refl _ _).drew
   rw [hlb] at HLB1
   have HLB1:=hideL HLB1
   have HLV:=hideL hlb
   clear q0 q1 q2 q3 r0 r1 a1 g0 t0 hlb
   go_upto_region 7 with fail
   refine wp_region_held_drew (S:=fun U=>U.cell? ⟨B,3,none⟩=some (.slice (some ⟨gg,og,none⟩) ng cg)∧(U.cell? ⟨b2,0,none⟩=some (.int .i64 (pk:Int))∧U.cell? ⟨b2,1,none⟩=some (.string ⟨h.toArray⟩))∧U.cell? ⟨gg,og+pk,none⟩=some (.slice qg mg dg)) (by kernel_rfl) hs0 (fun _=>?_)
   refine wpAnyH_take (i:=0) (v:=.pointer (some ⟨B,3,none⟩)) rfl (by kernel_rfl) (by kernel_rfl) (by kernel_rfl) (fun _ _ _ h=>h) (Or.inl ⟨by rfl,?_⟩) hs0 ?_
   ·rintro w ⟨q3,⟨r0,r1⟩,g0⟩;go_simp
   refine wpAnyH_take (i:=1) (v:=.slice (some ⟨gg,og,none⟩) ng cg) rfl (by kernel_rfl) (by kernel_rfl) (by kernel_rfl) (fun _ _ _ h=>h) (Or.inl ⟨by rfl,?_⟩) hs0 ?_
   ·rintro w ⟨q3,⟨r0,r1⟩,g0⟩;go_simp
   refine wpAnyH_take (i:=2) (v:=.pointer (some ⟨b2,0,none⟩)) rfl (by kernel_rfl) (by kernel_rfl) (by kernel_rfl) (fun _ _ _ h=>h) (Or.inl ⟨by rfl,?_⟩) hs0 ?_
   ·rintro w ⟨q3,⟨r0,r1⟩,g0⟩;go_simp
   refine wpAnyH_take (i:=3) (v:=.int .i64 (pk:Int)) rfl (by kernel_rfl) (by kernel_rfl) (by kernel_rfl) (fun _ _ _ h=>h) (Or.inl ⟨by rfl,?_⟩) hs0 ?_
   ·rintro w ⟨q3,⟨r0,r1⟩,g0⟩;go_simp
   refine wpAnyH_take (i:=4) (v:=.pointer (some ⟨gg,og+pk,none⟩)) rfl (by kernel_rfl) (by kernel_rfl) (by kernel_rfl) (fun _ _ _ h=>h) (Or.inl ⟨by rfl,?_⟩) hs0 ?_
   ·rintro w ⟨q3,⟨r0,r1⟩,g0⟩;go_simp
   refine wpAnyH_take (i:=5) (v:=.slice qg mg dg) rfl (by kernel_rfl) (by kernel_rfl) (by kernel_rfl) (fun _ _ _ h=>h) (Or.inl ⟨by rfl,?_⟩) hs0 ?_
   ·rintro w ⟨q3,⟨r0,r1⟩,g0⟩;go_simp
   refine wpAnyH_take (i:=6) (v:=.pointer (some ⟨b2,1,none⟩)) rfl (by kernel_rfl) (by kernel_rfl) (by kernel_rfl) (fun _ _ _ h=>h) (Or.inl ⟨by rfl,?_⟩) hs0 ?_
   ·rintro w ⟨q3,⟨r0,r1⟩,g0⟩;go_simp
   refine wpAnyH_take (i:=7) (v:=.string ⟨h.toArray⟩) rfl (by kernel_rfl) (by kernel_rfl) (by kernel_rfl) (fun _ _ _ h=>h) (Or.inl ⟨by rfl,?_⟩) hs0 ?_
   ·rintro w ⟨q3,⟨r0,r1⟩,g0⟩;go_simp
   refine wpAnyH_ready (rs:=[8]) (by kernel_rfl) (by simp) ?_
   refine AllReadyH.cons rfl (fun KK hKK=>?_) AllReadyH.nil
   go_simp
   refine (HLB1.out).mono ?_
   rintro en W3 ⟨rfl,b3'⟩
   have c3:Below wo.heap.size wo W3:=bel0Z ((Below.refl _ _).drew) b3'
   have hs3:=HS7.out W3 c3
   clear b3'
   go_simp
   refine hKK.out _ _ hs3 (fun _=>?_)
   clear hKK KK
   refine wpAnyH_take (i:=9) (v:=.bool lb) rfl (by kernel_rfl) (by kernel_rfl) (by kernel_rfl) (fun _ _ _ h=>h) (Or.inl ⟨by rfl,?_⟩) hs3 ?_
   ·rintro w ⟨q3,⟨r0,r1⟩,g0⟩;go_simp
   refine wpAnyH_done (by kernel_rfl) ?_ _
   try simp only [List.getElem_toArray,List.getElem_cons_succ,List.getElem_cons_zero,Act.put,List.setIfInBounds_toArray,List.set_cons_zero,List.set_cons_succ]
   clear hs3
   clear hs0
   cases lb with
   | false=>
    have kz:=HZ.out W3 c3
    have hzz:=cellsZ kz
    have z0:W3.cell? ⟨b3,0,none⟩=some (.string ⟨#[]⟩):=by rw [hzz.1];rfl
    have f0:=hzz.2 0
    have z1:W3.cell? ⟨b3,1,none⟩=some (.slice none 0 0):=by rw [hzz.1];rfl
    have f1:=hzz.2 1
    have z2:W3.cell? ⟨b3,2,none⟩=some (.slice none 0 0):=by rw [hzz.1];rfl
    have f2:=hzz.2 2
    have z3:W3.cell? ⟨b3,3,none⟩=some (.string ⟨#[]⟩):=by rw [hzz.1];rfl
    have f3:=hzz.2 3
    have z4:W3.cell? ⟨b3,4,none⟩=some (.slice none 0 0):=by rw [hzz.1];rfl
    have f4:=hzz.2 4
    obtain ⟨W9,hW9⟩:∃ W,(((((W3.setCell ⟨b3,0,none⟩ (.string ⟨#[]⟩)).setCell ⟨b3,1,none⟩ (.slice none 0 0)).setCell ⟨b3,2,none⟩ (.slice none 0 0)).setCell ⟨b3,3,none⟩ (.string ⟨#[]⟩)).setCell ⟨b3,4,none⟩ (.slice none 0 0))=W:=⟨_,rfl⟩
    have HRES:Hid (W9.heap[b3]?=some (.cells #[.string ⟨#[]⟩,.slice none 0 0,.slice none 0 0,.string ⟨#[]⟩,.slice none 0 0] 41 (0,0))):=by
     rw [←hW9]
     exact ((set_getZ _ (set_getZ _ (set_getZ _ (set_getZ _ (set_getZ _ kz)))))).trans (by simp)
    have HFIN:Hid (ADQ R w (.returned (.tuple #[.int .i64 (-1),.agg #[.string ⟨#[]⟩,.slice none 0 0,.slice none 0 0,.string ⟨#[]⟩,.slice none 0 0]])) W9):=by
     have hbw:Below w.heap.size w W9:=by
      rw [←hW9]
      have h0:=HBW.out W3 c3
      have hle:=HBB.out
      exact (((((h0.setCell hle _).setCell hle _).setCell hle _).setCell hle _).setCell hle _)
     refine ⟨hbw,?_⟩
     rw [show R=none by rw [HV.out.2.2.2.1,HLV.out];rfl]
    have HW9:=hideL hW9
    clear hW9 kz hzz
    go_wp2_with fail
    rw [HW9.out]
    refine bodyPost_ret (res_app _ _ b3 _ _ _ _ _ _ rfl rfl HRES.out) rfl ?_
    exact HFIN.out
   | true=>
    have HR:Hid (R=ffst (fitE (pk:Int) h) T (offs n i)):=by
     show _=_
     rw [HV.out.2.2.2.1,HLV.out];rfl
    have HC3:=hideL c3
    obtain ⟨⟨q0,q1,q2,q3⟩,⟨r0,r1⟩,a1,g0,t0⟩:=HC.out W3 c3
    clear c3
    go_wp2_with fail
    clear q0 q1 q2 q3 r0 r1 a1 g0 t0
    go_loopw [11] (fun vk wx=>∃ k:Nat,vk=.int .i64 (k:Int)∧k≤m∧Hid (Below wo.heap.size wo wx∧∀ (j:Nat) e,j < k→T[j]?=some e→fitE (pk:Int) h e=false)) (fun vk _=>m - (intOf vk).toNat)
    case atStart=>exact ⟨0,rfl,Nat.zero_le _,HC3.out,fun j e hj=>by omega⟩
    case round=>
     obtain ⟨k,rfl,hk,HK⟩:=hrel
     by_cases hlt:k < m
     ·obtain ⟨x,hx⟩:∃ x,T[k]?=some x:=⟨_,List.getElem?_eq_getElem (by have:=HV.out.2.2.1;omega)⟩
      obtain ⟨gq,oq,pi,ci,pc,cc,po,co,e9,d0,d1,d2,d3,d4,hl⟩:=HLE.out k x hx
      subst e9
      obtain ⟨nm,hnm⟩:∃ nm,x.nm=nm:=⟨_,rfl⟩
      obtain ⟨wr9,hwr9⟩:∃ wr9,x.wr=wr9:=⟨_,rfl⟩
      obtain ⟨ni,hni⟩:∃ ni,x.ins.length=ni:=⟨_,rfl⟩
      obtain ⟨nc,hnc⟩:∃ nc,x.cubes.length=nc:=⟨_,rfl⟩
      obtain ⟨no,hno⟩:∃ no,x.outs.length=no:=⟨_,rfl⟩
      rw [hnm] at d0
      rw [hni] at d1
      rw [hnc] at d2
      rw [hwr9] at d3
      rw [hno] at d4
      have hEP:=HV.out.2.1.1 x (List.mem_of_getElem? hx)
      have hni7:ni≤140737488351232:=by
       have h1:=pw_len x.ins 0 (n.ports.length:Int) hEP.2.1.2 (fun y hy=>⟨(hEP.2.1.1 y hy).1,(hEP.2.1.1 y hy).2.1⟩) (by omega)
       have h2:=HV.out.1.1.2.2.2.1
       omega
      have HE5:Hid (∀ U,Below w.heap.size w U→U.cell? ⟨gq,oq+k*5,none⟩=some (.string ⟨nm.toArray⟩)∧U.cell? ⟨gq,oq+k*5+1,none⟩=some (.slice pi ni ci)∧U.cell? ⟨gq,oq+k*5+2,none⟩=some (.slice pc nc cc)∧U.cell? ⟨gq,oq+k*5+3,none⟩=some (.string ⟨wr9.toArray⟩)∧U.cell? ⟨gq,oq+k*5+4,none⟩=some (.slice po no co)):=fun U hU=>⟨keepC hU d0,keepC hU d1,keepC hU d2,keepC hU d3,keepC hU d4⟩
      have HD:Hid (∀ U,Below wr.heap.size wr U→(U.cell? ⟨b2,0,none⟩=some (.int .i64 (pk:Int))∧U.cell? ⟨b2,1,none⟩=some (.string ⟨h.toArray⟩))∧(U.cell? ⟨gq,oq+k*5,none⟩=some (.string ⟨nm.toArray⟩)∧U.cell? ⟨gq,oq+k*5+1,none⟩=some (.slice pi ni ci)∧U.cell? ⟨gq,oq+k*5+2,none⟩=some (.slice pc nc cc)∧U.cell? ⟨gq,oq+k*5+3,none⟩=some (.string ⟨wr9.toArray⟩)∧U.cell? ⟨gq,oq+k*5+4,none⟩=some (.slice po no co))∧Below wo.heap.size wo U):=fun U hU=>⟨(HC.out U (bel0Z HK.out.1 hU)).2.1,HE5.out U (HBW.out U (bel0Z HK.out.1 hU)),bel0Z HK.out.1 hU⟩
      have hww:∀ U,Below wr.heap.size wr U→Below w.heap.size w U:=fun U hU=>HBW.out U (bel0Z HK.out.1 hU)
      obtain ⟨bi,hbi⟩:∃ bi,decide ((pk:Int)∈x.ins)=bi:=⟨_,rfl⟩
      obtain ⟨bq,hbq⟩:∃ bq,hasAny x.cubes h=bq:=⟨_,rfl⟩
      have HIN:Hid (∀ U,Below wr.heap.size wr U→Calls Tryz.prog 67 #[.slice pi ni ci,.int .i64 (pk:Int)] U fun e w'=>e=.returned (.bool bi)∧Below U.heap.size U w'):=fun U hU=>by
       have h9:=din_any x.ins pi ni ci (pk:Int) U hni (hl.1.below (hww U hU)) hni7
       rw [hbi] at h9
       exact h9
      have HHA:Hid (∀ U,Below wr.heap.size wr U→Calls Tryz.prog 68 #[.slice pc nc cc,.string ⟨h.toArray⟩] U fun e w'=>e=.returned (.bool bq)∧Below U.heap.size U w'):=fun U hU=>by
       have h9:=HHS.out x.cubes pc nc cc U hnc (hl.2.2.1.below (hww U hU)) hEP.2.2.1.2 (by have:=hEP.2.2.1.1;omega)
       rw [hbq] at h9
       exact h9
      have HX:Hid (T[k]?=some x∧x.nm=nm∧x.wr=wr9∧x.ins.length=ni∧x.cubes.length=nc∧x.outs.length=no∧fitE (pk:Int) h x=(bi&&bq)):=⟨hx,hnm,hwr9,hni,hnc,hno,by unfold fitE;rw [hbi,hbq]⟩
      have HLO:Hid (∀ U,Below w.heap.size w U→LI U po x.outs):=fun U hU=>hl.2.2.2.2.1.below hU
      have HNX:Hid ((bi&&bq)=false→∀ U,Below wo.heap.size wo U→(Below wo.heap.size wo U∧∀ (j:Nat) e,j < k+1→T[j]?=some e→fitE (pk:Int) h e=false)):=fun hf U hU=>⟨hU,fun j e hj he=>by
       by_cases e9:j=k
       ·subst e9;rw [HX.out.1] at he;obtain rfl:=Option.some.inj he;rw [HX.out.2.2.2.2.2.2];exact hf
       ·exact HK.out.2 j e (by omega) he⟩
      have j8:(0:Int)≤(k:Int):=by omega
      have j9:(k:Int) < (m:Int):=by omega
      have hs0:(wr.drew.cell? ⟨b2,0,none⟩=some (.int .i64 (pk:Int))∧wr.drew.cell? ⟨b2,1,none⟩=some (.string ⟨h.toArray⟩))∧(wr.drew.cell? ⟨gq,oq+k*5,none⟩=some (.string ⟨nm.toArray⟩)∧wr.drew.cell? ⟨gq,oq+k*5+1,none⟩=some (.slice pi ni ci)∧wr.drew.cell? ⟨gq,oq+k*5+2,none⟩=some (.slice pc nc cc)∧wr.drew.cell? ⟨gq,oq+k*5+3,none⟩=some (.string ⟨wr9.toArray⟩)∧wr.drew.cell? ⟨gq,oq+k*5+4,none⟩=some (.slice po no co)):=by
       have h9:=HD.out wr.drew (Below.refl _ _).drew
       exact ⟨h9.1,h9.2.1⟩
      clear d0 d1 d2 d3 d4 hl hww hx hnm hwr9 hni hnc hno hEP hbi hbq
      go_upto_region 14 with fail
      refine wp_region_held_drew (S:=fun U=>(U.cell? ⟨b2,0,none⟩=some (.int .i64 (pk:Int))∧U.cell? ⟨b2,1,none⟩=some (.string ⟨h.toArray⟩))∧(U.cell? ⟨gq,oq+k*5,none⟩=some (.string ⟨nm.toArray⟩)∧U.cell? ⟨gq,oq+k*5+1,none⟩=some (.slice pi ni ci)∧U.cell? ⟨gq,oq+k*5+2,none⟩=some (.slice pc nc cc)∧U.cell? ⟨gq,oq+k*5+3,none⟩=some (.string ⟨wr9.toArray⟩)∧U.cell? ⟨gq,oq+k*5+4,none⟩=some (.slice po no co))) (by kernel_rfl) hs0 (fun _=>?_)
      refine wpAnyH_take (i:=0) (v:=.slice (some ⟨gq,oq,none⟩) m dt) rfl (by kernel_rfl) (by kernel_rfl) (by kernel_rfl) (fun _ _ _ h=>h) (Or.inl ⟨by rfl,?_⟩) hs0 ?_
      ·rintro w ⟨⟨r0,r1⟩,⟨d0,d1,d2,d3,d4⟩⟩;go_simp
      refine wpAnyH_take (i:=1) (v:=.int .i64 (k:Int)) rfl (by kernel_rfl) (by kernel_rfl) (by kernel_rfl) (fun _ _ _ h=>h) (Or.inl ⟨by rfl,?_⟩) hs0 ?_
      ·rintro w ⟨⟨r0,r1⟩,⟨d0,d1,d2,d3,d4⟩⟩;go_simp
      refine wpAnyH_take (i:=2) (v:=.pointer (some ⟨gq,oq+k*5,none⟩)) rfl (by kernel_rfl) (by kernel_rfl) (by kernel_rfl) (fun _ _ _ h=>h) (Or.inl ⟨by rfl,?_⟩) hs0 ?_
      ·rintro w ⟨⟨r0,r1⟩,⟨d0,d1,d2,d3,d4⟩⟩;go_simp
      refine wpAnyH_take (i:=3) (v:=.pointer (some ⟨gq,oq+k*5+1,none⟩)) rfl (by kernel_rfl) (by kernel_rfl) (by kernel_rfl) (fun _ _ _ h=>h) (Or.inl ⟨by rfl,?_⟩) hs0 ?_
      ·rintro w ⟨⟨r0,r1⟩,⟨d0,d1,d2,d3,d4⟩⟩;go_simp
      refine wpAnyH_take (i:=4) (v:=.slice pi ni ci) rfl (by kernel_rfl) (by kernel_rfl) (by kernel_rfl) (fun _ _ _ h=>h) (Or.inl ⟨by rfl,?_⟩) hs0 ?_
      ·rintro w ⟨⟨r0,r1⟩,⟨d0,d1,d2,d3,d4⟩⟩;go_simp
      refine wpAnyH_take (i:=5) (v:=.pointer (some ⟨b2,0,none⟩)) rfl (by kernel_rfl) (by kernel_rfl) (by kernel_rfl) (fun _ _ _ h=>h) (Or.inl ⟨by rfl,?_⟩) hs0 ?_
      ·rintro w ⟨⟨r0,r1⟩,⟨d0,d1,d2,d3,d4⟩⟩;go_simp
      refine wpAnyH_take (i:=6) (v:=.int .i64 (pk:Int)) rfl (by kernel_rfl) (by kernel_rfl) (by kernel_rfl) (fun _ _ _ h=>h) (Or.inl ⟨by rfl,?_⟩) hs0 ?_
      ·rintro w ⟨⟨r0,r1⟩,⟨d0,d1,d2,d3,d4⟩⟩;go_simp
      refine wpAnyH_ready (rs:=[7]) (by kernel_rfl) (by simp) ?_
      refine AllReadyH.cons rfl (fun KK hKK=>?_) AllReadyH.nil
      go_simp
      refine (HIN.out _ (Below.refl _ _).drew).mono ?_
      rintro en W4 ⟨rfl,b4⟩
      have c4:Below wr.heap.size wr W4:=bel0Z (Below.refl _ _).drew b4
      have hs4:=And.intro (HD.out W4 c4).1 (HD.out W4 c4).2.1
      clear b4
      go_simp
      refine hKK.out _ _ hs4 (fun _=>?_)
      clear hKK KK
      refine wpAnyH_take (i:=8) (v:=.bool bi) rfl (by kernel_rfl) (by kernel_rfl) (by kernel_rfl) (fun _ _ _ h=>h) (Or.inl ⟨by rfl,?_⟩) hs4 ?_
      ·rintro w ⟨⟨r0,r1⟩,⟨d0,d1,d2,d3,d4⟩⟩;go_simp
      cases bi with
      | false=>
       refine wpAnyH_take (i:=9) (v:=undef) rfl (by kernel_rfl) (by kernel_rfl) (by kernel_rfl) (fun _ _ _ h=>h) (Or.inr ⟨by kernel_rfl,rfl⟩) hs4 ?_
       refine wpAnyH_take (i:=10) (v:=undef) rfl (by kernel_rfl) (by kernel_rfl) (by kernel_rfl) (fun _ _ _ h=>h) (Or.inr ⟨by kernel_rfl,rfl⟩) hs4 ?_
       refine wpAnyH_take (i:=11) (v:=undef) rfl (by kernel_rfl) (by kernel_rfl) (by kernel_rfl) (fun _ _ _ h=>h) (Or.inr ⟨by kernel_rfl,rfl⟩) hs4 ?_
       refine wpAnyH_take (i:=12) (v:=undef) rfl (by kernel_rfl) (by kernel_rfl) (by kernel_rfl) (fun _ _ _ h=>h) (Or.inr ⟨by kernel_rfl,rfl⟩) hs4 ?_
       refine wpAnyH_take (i:=13) (v:=undef) rfl (by kernel_rfl) (by kernel_rfl) (by kernel_rfl) (fun _ _ _ h=>h) (Or.inr ⟨by kernel_rfl,rfl⟩) hs4 ?_
       refine wpAnyH_take (i:=14) (v:=undef) rfl (by kernel_rfl) (by kernel_rfl) (by kernel_rfl) (fun _ _ _ h=>h) (Or.inr ⟨by kernel_rfl,rfl⟩) hs4 ?_
       refine wpAnyH_take (i:=15) (v:=undef) rfl (by kernel_rfl) (by kernel_rfl) (by kernel_rfl) (fun _ _ _ h=>h) (Or.inr ⟨by kernel_rfl,rfl⟩) hs4 ?_
       refine wpAnyH_take (i:=16) (v:=undef) rfl (by kernel_rfl) (by kernel_rfl) (by kernel_rfl) (fun _ _ _ h=>h) (Or.inr ⟨by kernel_rfl,rfl⟩) hs4 ?_
       refine wpAnyH_take (i:=17) (v:=.bool false) rfl (by kernel_rfl) (by kernel_rfl) (by kernel_rfl) (fun _ _ _ h=>h) (Or.inl ⟨by kernel_rfl,?_⟩) hs4 ?_
       ·rintro w ⟨⟨r0,r1⟩,⟨d0,d1,d2,d3,d4⟩⟩;go_simp
       refine wpAnyH_take (i:=18) (v:=.bool false) rfl (by kernel_rfl) (by kernel_rfl) (by kernel_rfl) (fun _ _ _ h=>h) (Or.inl ⟨by kernel_rfl,?_⟩) hs4 ?_
       ·rintro w ⟨⟨r0,r1⟩,⟨d0,d1,d2,d3,d4⟩⟩;go_simp
       refine wpAnyH_done (by kernel_rfl) ?_ _
       try simp only [List.getElem_toArray,List.getElem_cons_succ,List.getElem_cons_zero,Act.put,List.setIfInBounds_toArray,List.set_cons_zero,List.set_cons_succ]
       have HK9:=hideL (HNX.out rfl W4 (HD.out W4 c4).2.2)
       clear hs0 hs4 c4
       go_wp2_with fail
       go_roundw
       case rel=>exact ⟨k+1,by go_num,by omega,HK9⟩
       case measure=>simp [intOf];omega
      | true=>
       refine wpAnyH_take (i:=9) (v:=.slice (some ⟨gq,oq,none⟩) m dt) rfl (by kernel_rfl) (by kernel_rfl) (by kernel_rfl) (fun _ _ _ h=>h) (Or.inl ⟨by kernel_rfl,?_⟩) hs4 ?_
       ·rintro w ⟨⟨r0,r1⟩,⟨d0,d1,d2,d3,d4⟩⟩;go_simp
       refine wpAnyH_take (i:=10) (v:=.int .i64 (k:Int)) rfl (by kernel_rfl) (by kernel_rfl) (by kernel_rfl) (fun _ _ _ h=>h) (Or.inl ⟨by kernel_rfl,?_⟩) hs4 ?_
       ·rintro w ⟨⟨r0,r1⟩,⟨d0,d1,d2,d3,d4⟩⟩;go_simp
       refine wpAnyH_take (i:=11) (v:=.pointer (some ⟨gq,oq+k*5,none⟩)) rfl (by kernel_rfl) (by kernel_rfl) (by kernel_rfl) (fun _ _ _ h=>h) (Or.inl ⟨by kernel_rfl,?_⟩) hs4 ?_
       ·rintro w ⟨⟨r0,r1⟩,⟨d0,d1,d2,d3,d4⟩⟩;go_simp
       refine wpAnyH_take (i:=12) (v:=.pointer (some ⟨gq,oq+k*5+2,none⟩)) rfl (by kernel_rfl) (by kernel_rfl) (by kernel_rfl) (fun _ _ _ h=>h) (Or.inl ⟨by kernel_rfl,?_⟩) hs4 ?_
       ·rintro w ⟨⟨r0,r1⟩,⟨d0,d1,d2,d3,d4⟩⟩;go_simp
       refine wpAnyH_take (i:=13) (v:=.slice pc nc cc) rfl (by kernel_rfl) (by kernel_rfl) (by kernel_rfl) (fun _ _ _ h=>h) (Or.inl ⟨by kernel_rfl,?_⟩) hs4 ?_
       ·rintro w ⟨⟨r0,r1⟩,⟨d0,d1,d2,d3,d4⟩⟩;go_simp
       refine wpAnyH_take (i:=14) (v:=.pointer (some ⟨b2,1,none⟩)) rfl (by kernel_rfl) (by kernel_rfl) (by kernel_rfl) (fun _ _ _ h=>h) (Or.inl ⟨by kernel_rfl,?_⟩) hs4 ?_
       ·rintro w ⟨⟨r0,r1⟩,⟨d0,d1,d2,d3,d4⟩⟩;go_simp
       refine wpAnyH_take (i:=15) (v:=.string ⟨h.toArray⟩) rfl (by kernel_rfl) (by kernel_rfl) (by kernel_rfl) (fun _ _ _ h=>h) (Or.inl ⟨by kernel_rfl,?_⟩) hs4 ?_
       ·rintro w ⟨⟨r0,r1⟩,⟨d0,d1,d2,d3,d4⟩⟩;go_simp
       refine wpAnyH_ready (rs:=[16]) (by kernel_rfl) (by simp) ?_
       refine AllReadyH.cons rfl (fun KK hKK=>?_) AllReadyH.nil
       go_simp
       refine (HHA.out _ c4).mono ?_
       rintro en W5 ⟨rfl,b5⟩
       have c5:Below wr.heap.size wr W5:=bel0Z c4 b5
       have hs5:=And.intro (HD.out W5 c5).1 (HD.out W5 c5).2.1
       clear b5
       go_simp
       refine hKK.out _ _ hs5 (fun _=>?_)
       clear hKK KK
       refine wpAnyH_take (i:=17) (v:=.bool bq) rfl (by kernel_rfl) (by kernel_rfl) (by kernel_rfl) (fun _ _ _ h=>h) (Or.inl ⟨by kernel_rfl,?_⟩) hs5 ?_
       ·rintro w ⟨⟨r0,r1⟩,⟨d0,d1,d2,d3,d4⟩⟩;go_simp
       refine wpAnyH_take (i:=18) (v:=.bool bq) rfl (by kernel_rfl) (by kernel_rfl) (by kernel_rfl) (fun _ _ _ h=>h) (Or.inl ⟨by kernel_rfl,?_⟩) hs5 ?_
       ·rintro w ⟨⟨r0,r1⟩,⟨d0,d1,d2,d3,d4⟩⟩;go_simp
       refine wpAnyH_done (by kernel_rfl) ?_ _
       try simp only [List.getElem_toArray,List.getElem_cons_succ,List.getElem_cons_zero,Act.put,List.setIfInBounds_toArray,List.set_cons_zero,List.set_cons_succ]
       cases bq with
       | false=>
        have HK9:=hideL (HNX.out rfl W5 (HD.out W5 c5).2.2)
        clear hs0 hs4 hs5 c4 c5
        go_wp2_with fail
        go_roundw
        case rel=>exact ⟨k+1,by go_num,by omega,HK9⟩
        case measure=>simp [intOf];omega
       | true=>
        have kz:=HZ.out W5 (HD.out W5 c5).2.2
        have hzz:=cellsZ kz
        have z0:W5.cell? ⟨b3,0,none⟩=some (.string ⟨#[]⟩):=by rw [hzz.1];rfl
        have f0:=hzz.2 0
        have z1:W5.cell? ⟨b3,1,none⟩=some (.slice none 0 0):=by rw [hzz.1];rfl
        have f1:=hzz.2 1
        have z2:W5.cell? ⟨b3,2,none⟩=some (.slice none 0 0):=by rw [hzz.1];rfl
        have f2:=hzz.2 2
        have z3:W5.cell? ⟨b3,3,none⟩=some (.string ⟨#[]⟩):=by rw [hzz.1];rfl
        have f3:=hzz.2 3
        have z4:W5.cell? ⟨b3,4,none⟩=some (.slice none 0 0):=by rw [hzz.1];rfl
        have f4:=hzz.2 4
        obtain ⟨W9,hW9⟩:∃ W,((((((W5.setCell ⟨b3,0,none⟩ (.string ⟨nm.toArray⟩)).setCell ⟨b3,1,none⟩ (.slice pi ni ci)).setCell ⟨b3,2,none⟩ (.slice pc nc cc)).setCell ⟨b3,3,none⟩ (.string ⟨wr9.toArray⟩)).setCell ⟨b3,4,none⟩ (.slice po no co))).drew=W:=⟨_,rfl⟩
        have HRES:Hid (W9.heap[b3]?=some (.cells #[.string ⟨nm.toArray⟩,.slice pi ni ci,.slice pc nc cc,.string ⟨wr9.toArray⟩,.slice po no co] 41 (0,0))):=by
         rw [←hW9]
         exact ((set_getZ _ (set_getZ _ (set_getZ _ (set_getZ _ (set_getZ _ kz)))))).trans (by simp)
        have hbw:Below w.heap.size w W9:=by
         rw [←hW9]
         have h0:=HBW.out W5 (HD.out W5 c5).2.2
         have hle:=HBB.out
         exact Below.drew (((((h0.setCell hle _).setCell hle _).setCell hle _).setCell hle _).setCell hle _)
        have c6:Below wr.heap.size wr W5.drew:=bel0Z c5 (Below.refl _ _).drew
        have hs6:=And.intro (HD.out W5.drew c6).1 (HD.out W5.drew c6).2.1
        have hs9:(W9.cell? ⟨b2,0,none⟩=some (.int .i64 (pk:Int))∧W9.cell? ⟨b2,1,none⟩=some (.string ⟨h.toArray⟩))∧(W9.cell? ⟨gq,oq+k*5,none⟩=some (.string ⟨nm.toArray⟩)∧W9.cell? ⟨gq,oq+k*5+1,none⟩=some (.slice pi ni ci)∧W9.cell? ⟨gq,oq+k*5+2,none⟩=some (.slice pc nc cc)∧W9.cell? ⟨gq,oq+k*5+3,none⟩=some (.string ⟨wr9.toArray⟩)∧W9.cell? ⟨gq,oq+k*5+4,none⟩=some (.slice po no co)):=by
         have h2:=HZ2.out W5 (HD.out W5 c5).2.2
         have h9:W9.heap[b2]?=some (.cells #[.int .i64 (pk:Int),.string ⟨h.toArray⟩] 28 (0,0)):=by
          rw [←hW9]
          show ((((((W5.setCell ⟨b3,0,none⟩ (.string ⟨nm.toArray⟩)).setCell ⟨b3,1,none⟩ (.slice pi ni ci)).setCell ⟨b3,2,none⟩ (.slice pc nc cc)).setCell ⟨b3,3,none⟩ (.string ⟨wr9.toArray⟩)).setCell ⟨b3,4,none⟩ (.slice po no co))).heap[b2]?=_
          have hne:=HNE.out
          rw [far1 _ _ _ _ _ hne,far1 _ _ _ _ _ hne,far1 _ _ _ _ _ hne,far1 _ _ _ _ _ hne,far1 _ _ _ _ _ hne]
          exact h2
         have e2:=(cellsZ h9).1
         exact ⟨⟨by rw [e2];rfl,by rw [e2];rfl⟩,HE5.out W9 hbw⟩
        have HFIN:Hid (ADQ R w (.returned (.tuple #[.int .i64 ((s:Int)+(k:Int)),.agg #[.string ⟨nm.toArray⟩,.slice pi ni ci,.slice pc nc cc,.string ⟨wr9.toArray⟩,.slice po no co]])) W9):=by
         refine ⟨hbw,?_⟩
         have hhit:R=some (offs n i+k,x):=by
          rw [HR.out]
          exact ffst_hit HX.out.1 HK.out.2 HX.out.2.2.2.2.2.2
         rw [hhit]
         obtain ⟨-,n1,n2,n3,n4,n5,-⟩:=HX.out
         refine ⟨pi,ci,pc,cc,po,co,?_,?_⟩
         ·rw [n1,n2,n3,n4,n5,←HS.out,Int.natCast_add]
         ·exact HLO.out W9 hbw
        have HW9:=hideL hW9
        have hwrp:IntKind.i64.wrap ((s:Int)+(k:Int))=(s:Int)+(k:Int):=by rw [IntKind.wrap_i64];omega
        clear hW9 kz hzz hbw c6 c4 c5 hs0 hs4 hs5
        go_upto_region 16 with fail
        refine wp_region_held_drew (S:=fun U=>(U.cell? ⟨b2,0,none⟩=some (.int .i64 (pk:Int))∧U.cell? ⟨b2,1,none⟩=some (.string ⟨h.toArray⟩))∧(U.cell? ⟨gq,oq+k*5,none⟩=some (.string ⟨nm.toArray⟩)∧U.cell? ⟨gq,oq+k*5+1,none⟩=some (.slice pi ni ci)∧U.cell? ⟨gq,oq+k*5+2,none⟩=some (.slice pc nc cc)∧U.cell? ⟨gq,oq+k*5+3,none⟩=some (.string ⟨wr9.toArray⟩)∧U.cell? ⟨gq,oq+k*5+4,none⟩=some (.slice po no co))) (by kernel_rfl) hs6 (fun _=>?_)
        refine wpAnyH_take (i:=0) (v:=.int .i64 (s:Int)) rfl (by kernel_rfl) (by kernel_rfl) (by kernel_rfl) (fun _ _ _ h=>h) (Or.inl ⟨by rfl,?_⟩) hs6 ?_
        ·rintro w ⟨⟨r0,r1⟩,⟨d0,d1,d2,d3,d4⟩⟩;go_simp
        refine wpAnyH_take (i:=1) (v:=.int .i64 (k:Int)) rfl (by kernel_rfl) (by kernel_rfl) (by kernel_rfl) (fun _ _ _ h=>h) (Or.inl ⟨by rfl,?_⟩) hs6 ?_
        ·rintro w ⟨⟨r0,r1⟩,⟨d0,d1,d2,d3,d4⟩⟩;go_simp
        refine wpAnyH_take (i:=2) (v:=.int .i64 ((s:Int)+(k:Int))) rfl (by kernel_rfl) (by kernel_rfl) (by kernel_rfl) (fun _ _ _ h=>h) (Or.inl ⟨by rfl,?_⟩) hs6 ?_
        ·rintro w ⟨⟨r0,r1⟩,⟨d0,d1,d2,d3,d4⟩⟩;go_simp
        refine wpAnyH_take (i:=3) (v:=.slice (some ⟨gq,oq,none⟩) m dt) rfl (by kernel_rfl) (by kernel_rfl) (by kernel_rfl) (fun _ _ _ h=>h) (Or.inl ⟨by rfl,?_⟩) hs6 ?_
        ·rintro w ⟨⟨r0,r1⟩,⟨d0,d1,d2,d3,d4⟩⟩;go_simp
        refine wpAnyH_take (i:=4) (v:=.int .i64 (k:Int)) rfl (by kernel_rfl) (by kernel_rfl) (by kernel_rfl) (fun _ _ _ h=>h) (Or.inl ⟨by rfl,?_⟩) hs6 ?_
        ·rintro w ⟨⟨r0,r1⟩,⟨d0,d1,d2,d3,d4⟩⟩;go_simp
        refine wpAnyH_take (i:=5) (v:=.pointer (some ⟨gq,oq+k*5,none⟩)) rfl (by kernel_rfl) (by kernel_rfl) (by kernel_rfl) (fun _ _ _ h=>h) (Or.inl ⟨by rfl,?_⟩) hs6 ?_
        ·rintro w ⟨⟨r0,r1⟩,⟨d0,d1,d2,d3,d4⟩⟩;go_simp
        refine wpAnyH_take (i:=6) (v:=.agg #[.string ⟨nm.toArray⟩,.slice pi ni ci,.slice pc nc cc,.string ⟨wr9.toArray⟩,.slice po no co]) rfl (by kernel_rfl) (by kernel_rfl) (by kernel_rfl) (fun _ _ _ h=>h) (Or.inl ⟨by rfl,?_⟩) hs6 ?_
        ·rintro w ⟨⟨r0,r1⟩,⟨d0,d1,d2,d3,d4⟩⟩;go_simp
        refine wpAnyH_take (i:=7) (v:=.int .i64 ((s:Int)+(k:Int))) rfl (by kernel_rfl) (by kernel_rfl) (by kernel_rfl) (fun _ _ _ h=>h) (Or.inl ⟨by rfl,?_⟩) hs6 ?_
        ·rintro w ⟨⟨r0,r1⟩,⟨d0,d1,d2,d3,d4⟩⟩;go_simp
        refine wpAnyH_ready (rs:=[8]) (by kernel_rfl) (by simp) ?_
        refine AllReadyH.cons rfl (fun KK hKK=>?_) AllReadyH.nil
        go_simp
        rw [HW9.out]
        refine hKK.out _ _ hs9 (fun _=>?_)
        clear hKK KK
        refine wpAnyH_done (by kernel_rfl) ?_ _
        try simp only [List.getElem_toArray,List.getElem_cons_succ,List.getElem_cons_zero,Act.put,List.setIfInBounds_toArray,List.set_cons_zero,List.set_cons_succ]
        clear hs6 hs9
        go_wp2_with fail
        refine bodyPost_ret (res_app _ _ b3 _ _ _ _ _ _ rfl rfl HRES.out) rfl ?_
        exact HFIN.out
     ·obtain rfl:k=m:=by omega
      have j9:¬(k:Int) < (k:Int):=by omega
      have kz:=HZ.out wr HK.out.1
      have hzz:=cellsZ kz
      have z0:wr.cell? ⟨b3,0,none⟩=some (.string ⟨#[]⟩):=by rw [hzz.1];rfl
      have f0:=hzz.2 0
      have z1:wr.cell? ⟨b3,1,none⟩=some (.slice none 0 0):=by rw [hzz.1];rfl
      have f1:=hzz.2 1
      have z2:wr.cell? ⟨b3,2,none⟩=some (.slice none 0 0):=by rw [hzz.1];rfl
      have f2:=hzz.2 2
      have z3:wr.cell? ⟨b3,3,none⟩=some (.string ⟨#[]⟩):=by rw [hzz.1];rfl
      have f3:=hzz.2 3
      have z4:wr.cell? ⟨b3,4,none⟩=some (.slice none 0 0):=by rw [hzz.1];rfl
      have f4:=hzz.2 4
      obtain ⟨W9,hW9⟩:∃ W,(((((wr.setCell ⟨b3,0,none⟩ (.string ⟨#[]⟩)).setCell ⟨b3,1,none⟩ (.slice none 0 0)).setCell ⟨b3,2,none⟩ (.slice none 0 0)).setCell ⟨b3,3,none⟩ (.string ⟨#[]⟩)).setCell ⟨b3,4,none⟩ (.slice none 0 0))=W:=⟨_,rfl⟩
      have HRES:Hid (W9.heap[b3]?=some (.cells #[.string ⟨#[]⟩,.slice none 0 0,.slice none 0 0,.string ⟨#[]⟩,.slice none 0 0] 41 (0,0))):=by
       rw [←hW9]
       exact ((set_getZ _ (set_getZ _ (set_getZ _ (set_getZ _ (set_getZ _ kz)))))).trans (by simp)
      have HFIN:Hid (ADQ R w (.returned (.tuple #[.int .i64 (-1),.agg #[.string ⟨#[]⟩,.slice none 0 0,.slice none 0 0,.string ⟨#[]⟩,.slice none 0 0]])) W9):=by
       have hbw:Below w.heap.size w W9:=by
        rw [←hW9]
        have h0:=HBW.out wr HK.out.1
        have hle:=HBB.out
        exact (((((h0.setCell hle _).setCell hle _).setCell hle _).setCell hle _).setCell hle _)
       refine ⟨hbw,?_⟩
       rw [show R=none by rw [HR.out];exact ffst_none (fun j e he=>HK.out.2 j e (by have:=(List.getElem?_eq_some_iff.1 he).1;have:=HV.out.2.2.1;omega) he)]
      have HW9:=hideL hW9
      clear hW9 kz hzz
      go_wp2_with fail
      rw [HW9.out]
      refine bodyPost_ret (res_app _ _ b3 _ _ _ _ _ _ rfl rfl HRES.out) rfl ?_
      exact HFIN.out
end Go.Proofs.YtciffggmobblpaaGreatDoor.Nt
