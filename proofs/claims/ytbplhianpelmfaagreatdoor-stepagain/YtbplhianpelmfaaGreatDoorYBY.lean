import Derived.Test.YtbplhianpelmfaaGreatDoorYBX
namespace Go.Proofs.YtbplhianpelmfaaGreatDoor.Nt
open Go.RowKit Go.Shelf
theorem wiM_60 (k:Int):0≤wiM k 60∧wiM k 60≤60∧(wiM k 60=0→¬k > 0):=by
 unfold wiM
 split
 ·omega
 ·split <;> omega
set_option maxRecDepth 100000 in
set_option maxHeartbeats 16000000 in
theorem stepAgain_walk (n:NN) (v:NV) (s9:Int×List UInt8) (hops k:Int) (w:World) (hN:LN w n v) (hO:okN n) (hh:okS s9.2) (hT:TAB w) :
  Calls Tryz.prog 7 #[.agg (nnA n v),.agg #[.int .i64 s9.1,.string ⟨s9.2.toArray⟩],.int .i64 hops,.int .i64 k] w fun e w'=>e=.returned (.bool true)∧Below w.heap.size w w':=by
 have hsm:=fun (U:World) (hU:Below w.heap.size w U)=>some_any n v s9 hops (wiM k 60) U (hN.below hU) hO (hT.at hU) hh (by have:=(wiM_60 k).2.1;omega)
 have hlo:=fun (U:World) (hU:Below w.heap.size w U)=>loop_any n v s9 hops U (hN.below hU) hO (hT.at hU) hh
 have hcm:=fun (Q:List Int) (qp:Option Addr) (m c:Nat) (x:Int) (U:World) (hU:Below w.heap.size w U) (hm:Q.length=m) (hl:LI U qp Q) (hr:∀ y∈Q,0≤y∧y < (n.ports.length:Int)) (hM:m≤1000)=>comes_any n v Q qp none m c 0 0 [] x U (hN.below hU).1 hm hl hr hM
 have hfo:=fun (Q:List Int) (qp:Option Addr) (m c:Nat) (U:World) (hU:Below w.heap.size w U) (hm:Q.length=m) (hQ:LI U qp Q) (hc:m≤c) (hM:m≤140737488351232)=>sfollow_any n v s9.1 s9.2 Q qp m c U (hN.below hU) hO (hT.at hU) hh hm hQ hc hM
 have hkn:=fun (U:World) (hU:Below w.heap.size w U)=>known_any U (hT.at hU)
 have hlp:=fun (U:World) (hU:Below w.heap.size w U)=>(hN.below hU).1
 obtain ⟨p,h⟩:=s9
 simp only at hfo hh ⊢
 rw [show (asC (p,h)).toArray=#[.int .i64 p,.string ⟨h.toArray⟩] from rfl] at hfo
 obtain ⟨pp,cp,pt,ct,pg,cg⟩:=v
 simp only at hlp
 obtain ⟨np,hnp⟩:∃ np,n.ports.length=np:=⟨_,rfl⟩
 obtain ⟨nt,hnt⟩:∃ nt,n.tabs.length=nt:=⟨_,rfl⟩
 obtain ⟨ng,hng⟩:∃ ng,n.grds.length=ng:=⟨_,rfl⟩
 obtain ⟨bits,hbits⟩:∃ bits,n.bits=bits:=⟨_,rfl⟩
 have hE:nnA n ⟨pp,cp,pt,ct,pg,cg⟩=#[.int .i64 bits,.slice pp np cp,.slice pt nt ct,.slice pg ng cg]:=by unfold nnA;rw [hnp,hnt,hng,hbits]
 rw [hE] at hsm hfo hlo hcm ⊢
 obtain ⟨B,hB⟩:∃ B,w.heap.size=B:=⟨_,rfl⟩
 obtain ⟨b2,hb2⟩:∃ b2,w.heap.size+1=b2:=⟨_,rfl⟩
 obtain ⟨W1,hW1⟩:∃ W1,(w.alloc (.cells #[.int .i64 bits,.slice pp np cp,.slice pt nt ct,.slice pg ng cg] 26)).alloc (.cells #[.int .i64 p,.string ⟨h.toArray⟩] 28)=W1:=⟨_,rfl⟩
 have hz2:(w.alloc (.cells #[.int .i64 bits,.slice pp np cp,.slice pt nt ct,.slice pg ng cg] 26)).heap.size=w.heap.size+1:=Array.size_push _
 have b1:Below w.heap.size w W1:=by rw [←hW1];exact belAZ (belAZ (Below.refl _ _) _) _
 have k1:W1.heap[B]?=some (.cells #[.int .i64 bits,.slice pp np cp,.slice pt nt ct,.slice pg ng cg] 26 (0,0)):=by rw [←hW1,←hB];exact keepZ (belAZ (Below.refl _ _) _) (alloc_getZ _ _)
 have k2:W1.heap[b2]?=some (.cells #[.int .i64 p,.string ⟨h.toArray⟩] 28 (0,0)):=by rw [←hW1,←hb2,←hz2];exact alloc_getZ _ _
 have HC:Hid (∀ U,Below W1.heap.size W1 U→(U.cell? ⟨B,0,none⟩=some (.int .i64 bits)∧U.cell? ⟨B,1,none⟩=some (.slice pp np cp)∧U.cell? ⟨B,2,none⟩=some (.slice pt nt ct)∧U.cell? ⟨B,3,none⟩=some (.slice pg ng cg))∧(U.cell? ⟨b2,0,none⟩=some (.int .i64 p)∧U.cell? ⟨b2,1,none⟩=some (.string ⟨h.toArray⟩))):=fun U hU=>by
  have e1:=(cellsZ (keepZ hU k1)).1
  have e2:=(cellsZ (keepZ hU k2)).1
  exact ⟨⟨by rw [e1];rfl,by rw [e1];rfl,by rw [e1];rfl,by rw [e1];rfl⟩,⟨by rw [e2];rfl,by rw [e2];rfl⟩⟩
 obtain ⟨A,hA⟩:∃ A,pthM n (p,h) hops=A:=⟨_,rfl⟩
 obtain ⟨K,hK⟩:∃ K,wiM k 60=K:=⟨_,rfl⟩
 have HSM:Hid (∀ U,Below W1.heap.size W1 U→Calls Tryz.prog 16 #[.agg #[.int .i64 bits,.slice pp np cp,.slice pt nt ct,.slice pg ng cg],.agg #[.int .i64 p,.string ⟨h.toArray⟩],.int .i64 hops,.int .i64 K] U fun e w'=>∃ (q:Option Addr) (c:Nat) (V:List (WY×PV)),V.map Prod.fst=A.take K.toNat∧e=.returned (.slice q V.length c)∧RowL 3 paC w' q V∧(∀ x∈V,PL w' x)∧Below U.heap.size U w'):=fun U hU=>by
  have h9:=hsm U (bel0Z b1 hU)
  rw [hK] at h9
  unfold SMQ at h9
  rw [hA] at h9
  exact h9
 have HWI:Hid (∀ U,Calls Tryz.prog 17 #[.int .i64 k,.int .i64 60] U fun e w'=>e=.returned (.int .i64 K)∧w'=U):=fun U=>by
  have h9:=within_any k 60 U
  rw [hK] at h9
  exact h9
 have HKK:Hid (0≤K∧K≤60∧(K=0→¬k > 0)):=by rw [←hK];exact wiM_60 k
 have HAA:Hid (pthM n (p,h) hops=A∧n.ports.length=np∧n.bits=bits):=⟨hA,hnp,hbits⟩
 have HFO:Hid (∀ (Q:List Int) (qp:Option Addr) (m c:Nat) (U:World),Below W1.heap.size W1 U→Q.length=m→LI U qp Q→m≤c→m≤140737488351232→Calls Tryz.prog 18 #[.agg #[.int .i64 bits,.slice pp np cp,.slice pt nt ct,.slice pg ng cg],.agg #[.int .i64 p,.string ⟨h.toArray⟩],.slice qp m c] U (FLQ (flwM n (p,h) Q) U)):=fun Q qp m c U hU h1 h2 h3 h4=>hfo Q qp m c U (bel0Z b1 hU) h1 h2 h3 h4
 have HLO:Hid (∀ U,Below W1.heap.size W1 U→Calls Tryz.prog 23 #[.agg #[.int .i64 bits,.slice pp np cp,.slice pt nt ct,.slice pg ng cg],.agg #[.int .i64 p,.string ⟨h.toArray⟩],.int .i64 hops] U fun e w'=>∃ (x:WY) (u1:Option Addr) (z1:Nat) (u2:Option Addr) (z2 xn xm:Nat) (xh:List UInt8) (fo:Bool) (k9:Int),LPR n (p,h) hops x fo k9∧x.ps.length=xn∧x.es.length=xm∧x.hd=xh∧e=.returned (.tuple #[.agg #[.slice u1 xn z1,.slice u2 xm z2,.string ⟨xh.toArray⟩],.bool fo,.int .i64 k9])∧PL w' (x,⟨u1,z1,u2,z2⟩)∧Below U.heap.size U w'):=fun U hU=>by
  refine (hlo U (bel0Z b1 hU)).mono ?_
  rintro e w' ⟨x,⟨u1,z1,u2,z2⟩,fo,k9,hr,he,hp,hbb⟩
  exact ⟨x,u1,z1,u2,z2,_,_,_,fo,k9,hr,rfl,rfl,rfl,he,hp,hbb⟩
 have HCM:Hid (∀ (Q:List Int) (qp:Option Addr) (m c:Nat) (x:Int) (U:World),Below W1.heap.size W1 U→Q.length=m→LI U qp Q→(∀ y∈Q,0≤y∧y < (n.ports.length:Int))→m≤1000→Calls Tryz.prog 21 #[.agg #[.int .i64 bits,.slice pp np cp,.slice pt nt ct,.slice pg ng cg],.agg #[.slice qp m c,.slice none 0 0,.string ⟨#[]⟩],.int .i64 x] U fun e w'=>∃ (a:Int) (k:Nat),COM n Q x a k∧e=.returned (.tuple #[.int .i64 a,.int .i64 (k:Int)])∧Below U.heap.size U w'):=fun Q qp m c x U hU h1 h2 h3 h4=>hcm Q qp m c x U (bel0Z b1 hU) h1 h2 h3 h4
 have HKN:Hid (∀ U,Below W1.heap.size W1 U→Calls Tryz.prog 10 #[] U fun e w'=>e=.returned (.bool true)∧Below U.heap.size U w'):=fun U hU=>hkn U (bel0Z b1 hU)
 have HLP:Hid (∀ U,Below W1.heap.size W1 U→LP U pp n.ports):=fun U hU=>hlp U (bel0Z b1 hU)
 have HF:Hid (∀ U,Below W1.heap.size W1 U→Below w.heap.size w U):=fun U hU=>bel0Z b1 hU
 have HB:=hideL hB
 have HB2:=hideL hb2
 have HW1:=hideL hW1
 clear hN hO hT hh hsm hfo hlo hcm hkn hlp hE hnp hnt hng hbits hB hb2 hz2 b1 k1 k2 hW1 hA hK
 obtain ⟨⟨q0,q1,q2,q3⟩,⟨r0,r1⟩⟩:=HC.out W1 (Below.refl _ _)
 go_enter Tryz.func7,Tryz.ntmps7
 go_upto_region 1 with fail
 rw [HW1.out,HB2.out,HB.out]
 go_wp2_with fail
 refine (HLO.out W1 (Below.refl _ _)).mono ?_
 rintro e W2 ⟨x,u1,z1,u2,z2,xn,xm,xh,fo,k9,hr,hxn,hxm,hxh,rfl,hpl,b2'⟩
 clear q0 q1 q2 q3 r0 r1
 have HB2':Hid (Below W1.heap.size W1 W2):=b2'
 have HPL:Hid (∀ U,Below W2.heap.size W2 U→PL U (x,⟨u1,z1,u2,z2⟩)):=fun U hU=>hpl.below hU
 have HLR:Hid (LPR n (p,h) hops x fo k9∧x.ps.length=xn∧x.es.length=xm∧x.hd=xh):=⟨hr,hxn,hxm,hxh⟩
 clear hr hxn hxm hxh hpl b2'
 obtain ⟨b9,hb9⟩:∃ b,W2.heap.size=b:=⟨_,rfl⟩
 obtain ⟨W3,hW3⟩:∃ W3,W2.alloc (.cells #[.slice u1 xn z1,.slice u2 xm z2,.string ⟨xh.toArray⟩] 52)=W3:=⟨_,rfl⟩
 have k3:W3.heap[b9]?=some (.cells #[.slice u1 xn z1,.slice u2 xm z2,.string ⟨xh.toArray⟩] 52 (0,0)):=by rw [←hW3,←hb9];exact alloc_getZ _ _
 have b3:Below W2.heap.size W2 W3:=by rw [←hW3];exact belAZ (Below.refl _ _) _
 have HD:Hid (∀ U,Below W3.heap.size W3 U→((U.cell? ⟨b9,0,none⟩=some (.slice u1 xn z1)∧U.cell? ⟨b9,1,none⟩=some (.slice u2 xm z2)∧U.cell? ⟨b9,2,none⟩=some (.string ⟨xh.toArray⟩))∧((U.cell? ⟨B,0,none⟩=some (.int .i64 bits)∧U.cell? ⟨B,1,none⟩=some (.slice pp np cp)∧U.cell? ⟨B,2,none⟩=some (.slice pt nt ct)∧U.cell? ⟨B,3,none⟩=some (.slice pg ng cg))∧(U.cell? ⟨b2,0,none⟩=some (.int .i64 p)∧U.cell? ⟨b2,1,none⟩=some (.string ⟨h.toArray⟩))))∧PL U (x,⟨u1,z1,u2,z2⟩)∧Below W1.heap.size W1 U):=fun U hU=>by
  have ex:=(cellsZ (keepZ hU k3)).1
  have hbU:=bel0Z HB2'.out (bel0Z b3 hU)
  exact ⟨⟨⟨by rw [ex];rfl,by rw [ex];rfl,by rw [ex];rfl⟩,HC.out U hbU⟩,HPL.out U (bel0Z b3 hU),hbU⟩
 have HB9:=hideL hb9
 have HW3:=hideL hW3
 clear hb9 hW3 k3 b3
 go_upto_region 2 with fail
 simp only [HB9.out,HW3.out]
 go_wp2_with fail
 refine (num_any k9 W3).mono ?_
 rintro e W4 ⟨rfl,hw⟩
 obtain rfl:W3=W4:=hw.symm
 clear hw
 obtain ⟨⟨⟨x0,x1,x2⟩,⟨⟨q0,q1,q2,q3⟩,⟨r0,r1⟩⟩⟩,-,hB3⟩:=HD.out W3 (Below.refl _ _)
 have HKA:=hideL (HKN.out W3 hB3)
 have HB3:=hideL hB3
 clear hB3
 by_cases hk9:k9=0
 ·subst hk9
  clear x0 x1 x2 q0 q1 q2 q3 r0 r1
  go_upto_region 4 with fail
  have hs0:=HC.out W3.drew (bel0Z HB3.out (Below.refl _ _).drew)
  refine wp_region_held_drew (S:=fun U=>(U.cell? ⟨B,0,none⟩=some (.int .i64 bits)∧U.cell? ⟨B,1,none⟩=some (.slice pp np cp)∧U.cell? ⟨B,2,none⟩=some (.slice pt nt ct)∧U.cell? ⟨B,3,none⟩=some (.slice pg ng cg))∧(U.cell? ⟨b2,0,none⟩=some (.int .i64 p)∧U.cell? ⟨b2,1,none⟩=some (.string ⟨h.toArray⟩))) (by kernel_rfl) hs0 (fun _=>?_)
  refine tk 0 (.agg #[.int .i64 bits,.slice pp np cp,.slice pt nt ct,.slice pg ng cg]) rfl hs0 ?_ ?_
  ·rintro w ⟨⟨q0,q1,q2,q3⟩,⟨r0,r1⟩⟩;go_simp
  refine tk 1 (.agg #[.int .i64 p,.string ⟨h.toArray⟩]) rfl hs0 ?_ ?_
  ·rintro w ⟨⟨q0,q1,q2,q3⟩,⟨r0,r1⟩⟩;go_simp
  refine tk 2 (.int .i64 hops) rfl hs0 ?_ ?_
  ·rintro w ⟨⟨q0,q1,q2,q3⟩,⟨r0,r1⟩⟩;go_simp
  refine tk 3 (.int .i64 k) rfl hs0 ?_ ?_
  ·rintro w ⟨⟨q0,q1,q2,q3⟩,⟨r0,r1⟩⟩;go_simp
  refine rd 4 rfl fun KK hKK=>?_
  go_simp
  refine (HWI.out _).mono ?_
  rintro en D2 ⟨rfl,hw⟩
  obtain rfl:=hw
  go_simp
  refine hKK.out _ _ hs0 (fun _=>?_)
  clear hKK KK
  refine rd 5 rfl fun KK hKK=>?_
  go_simp
  refine (HSM.out _ (bel0Z HB3.out (Below.refl _ _).drew)).mono ?_
  rintro en W5 ⟨ql,cl,V,hVm,rfl,hrow,hplV,c5⟩
  replace c5:Below W3.heap.size W3 W5:=bel0Z (Below.refl _ _).drew c5
  have hs1:=HC.out W5 (bel0Z HB3.out c5)
  go_simp
  refine hKK.out _ _ hs1 (fun _=>?_)
  clear hKK KK hs0
  obtain ⟨N,hN9⟩:∃ N,V.length=N:=⟨_,rfl⟩
  refine tk 6 (.slice ql V.length cl) rfl hs1 ?_ ?_
  ·rintro w ⟨⟨q0,q1,q2,q3⟩,⟨r0,r1⟩⟩;go_simp
  refine wpAnyH_done (by kernel_rfl) ?_ _
  try simp only [List.getElem_toArray,List.getElem_cons_succ,List.getElem_cons_zero,Act.put,List.setIfInBounds_toArray,List.set_cons_zero,List.set_cons_succ]
  clear hs1
  have HROW:Hid (V.map Prod.fst=A.take K.toNat∧V.length=N∧(∀ U,Below W5.heap.size W5 U→RowL 3 paC U ql V∧(∀ x∈V,PL U x)∧Below W3.heap.size W3 U)):=⟨hVm,hN9,fun U hU=>⟨hrow.below hU,fun x hx=>(hplV x hx).below hU,bel0Z c5 hU⟩⟩
  have hN60:N≤60:=by
   have h8:=congrArg List.length hVm
   rw [List.length_map,List.length_take,hN9] at h8
   have h9:=HKK.out.2.1
   omega
  rw [hN9]
  clear hVm hN9 hrow hplV c5
  go_wp2_with fail
  have HRND:Hid (∀ (y:WY) (t:Int),y∈A→TWI y.ps t→(fo=false→t=-1)∧(fo=true→∀ i:Nat,t=(i:Int)→xm≤cntI n (y.ps.take i))):=by
   intro y t hy ht
   rw [←HAA.out.1] at hy
   rcases HLR.out.1 with ⟨⟨⟨hV,hS⟩,hH⟩,h1⟩ | ⟨-,-,-,h2⟩
   ·rcases h1 with ⟨e1,rfl,-⟩ | ⟨G,e1,-,rfl,-⟩ | ⟨-,-,-,h2⟩
    ·refine ⟨fun e=>(by cases e),fun _ i e=>?_⟩
     obtain ⟨-,-,-,-,h5⟩:=ln_hit hV hS hH.1 e1
     rw [←HLR.out.2.2.1]
     rcases ht with ⟨rfl,-⟩ | ⟨j,rfl,-,hz,-⟩
     ·omega
     ·obtain rfl:j=i:=by omega
      exact h5 y hy j hz
    ·refine ⟨fun _=>?_,fun e=>(by cases e)⟩
     rcases ht with ⟨rfl,-⟩ | ⟨j,rfl,-,⟨z,hz,hzt⟩,-⟩
     ·rfl
     ·exact absurd (nd_twi (ln_none e1 hy) hz hzt) id
    ·omega
   ·exact absurd rfl h2
  have HXM:Hid (xm≤64):=by
   show xm≤64
   rw [←HLR.out.2.2.1]
   rcases HLR.out.1 with ⟨⟨⟨hV,hS⟩,hH⟩,h1⟩ | ⟨-,-,-,h2⟩
   ·rcases h1 with ⟨e1,-,-⟩ | ⟨G,-,e2,-,-⟩ | ⟨-,-,-,h2⟩
    ·obtain ⟨h5,-⟩:=ln_hit hV hS hH.1 e1
     have h6:=h5.2.2.2.1
     have h7:=hH.2
     omega
    ·rw [e2];simp [nilW]
    ·omega
   ·exact absurd rfl h2
  have HW5:Hid (Below W5.heap.size W5 W5):=Below.refl _ _
  go_loopw [13,14] (fun v13 v14 wr=>∃ (i:Nat) (bv:Int),v14=.int .i64 (i:Int)∧v13=.int .i64 bv∧i≤N∧Hid ((fo=false→bv=1048576)∧(fo=true→(xm:Int)≤bv)∧Below W5.heap.size W5 wr)) (fun _ v14 _=>N - (intOf v14).toNat)
  case atStart=>exact ⟨0,1048576,rfl,rfl,Nat.zero_le _,fun _=>rfl,fun _=>by have:=HXM.out;omega,HW5.out⟩
  case round=>
   obtain ⟨i,bv,rfl,rfl,hi,HBR⟩:=hrel
   by_cases hlt:i < N
   ·obtain ⟨⟨y,⟨v1,e1,v2,e2⟩⟩,hy⟩:∃ y,V[i]?=some y:=⟨_,List.getElem?_eq_getElem (by have:=HROW.out.2.1;omega)⟩
    have hyA:y∈A:=by
     have h8:(V.map Prod.fst)[i]?=some y:=by rw [List.getElem?_map,hy];rfl
     rw [HROW.out.1,List.getElem?_take] at h8
     split at h8
     ·exact List.mem_of_getElem? h8
     ·cases h8
    have hym:y∈pthM n (p,h) hops:=by rw [HAA.out.1];exact hyA
    obtain ⟨hrow,hplV,hb1⟩:=HROW.out.2.2 wr HBR.out.2.2
    have hply:=hplV _ (List.mem_of_getElem? hy)
    obtain ⟨n1,hn1⟩:∃ n1,y.ps.length=n1:=⟨_,rfl⟩
    obtain ⟨y1,y2,-⟩:=pth_len hym
    rw [hn1] at y1 y2
    obtain ⟨gl,ol,e9,hcx⟩:=hrow i _ hy
    subst e9
    have w0:wr.cell? ⟨gl,ol+i*3,none⟩=some (.slice v1 n1 e1):=by
     have:=hcx 0 (.slice v1 n1 e1) (by rw [←hn1];rfl)
     rwa [Nat.add_zero] at this
    have hcap:n1≤e1:=by have:=hply.2.2.1;rw [hn1] at this;exact this
    have HTW:=hideL (twice_any y.ps v1 n1 e1 wr hn1 hply.1.2.1 hcap (by omega))
    have g0:(0:Int)≤(i:Int):=by omega
    have g1:(i:Int) < (N:Int):=by omega
    have HY:Hid (y∈A∧y.ps.length=n1∧y∈pthM n (p,h) hops∧(y,(⟨v1,e1,v2,e2⟩:PV))∈V):=⟨hyA,hn1,hym,List.mem_of_getElem? hy⟩
    clear hy hyA hym hrow hplV hb1 hply hcx hn1
    go_wp2_with fail
    refine (HTW.out).mono ?_
    rintro e W6 ⟨t,htw,rfl,b6⟩
    have HB6:=hideL (bel0Z HBR.out.2.2 b6)
    have HRN:=hideL (HRND.out y t HY.out.1 htw)
    by_cases ht:t < 0
    ·clear HTW htw b6 w0
     go_wp2_with fail
     go_roundw
     case rel=>exact ⟨i+1,bv,by go_num,rfl,by omega,HBR.out.1,HBR.out.2.1,HB6.out⟩
     case measure=>simp [intOf];omega
    ·obtain ⟨tt,rfl⟩:∃ tt:Nat,t=(tt:Int):=⟨t.toNat,by omega⟩
     have htl:tt < n1:=by
      rcases htw with ⟨h1,-⟩ | ⟨j,h1,h2,-⟩
      ·omega
      ·have:=HY.out.2.1;omega
     have hfo:fo=true:=by
      cases fo
      ·have:=HRN.out.1 rfl;omega
      ·rfl
     have hxc:=HRN.out.2 hfo tt rfl
     have HFT:Hid (fo=true):=hfo
     have HS9:Hid (∀ U,Below W6.heap.size W6 U→((U.cell? ⟨B,0,none⟩=some (.int .i64 bits)∧U.cell? ⟨B,1,none⟩=some (.slice pp np cp)∧U.cell? ⟨B,2,none⟩=some (.slice pt nt ct)∧U.cell? ⟨B,3,none⟩=some (.slice pg ng cg))∧U.cell? ⟨gl,ol+i*3,none⟩=some (.slice v1 n1 e1))∧Below W5.heap.size W5 U):=fun U hU=>⟨⟨(HC.out U (HD.out U (HROW.out.2.2 U (bel0Z HB6.out hU)).2.2).2.2).1,keepC (bel0Z b6 hU) w0⟩,bel0Z HB6.out hU⟩
     have HCX:Hid (∀ U,Below W6.heap.size W6 U→Calls Tryz.prog 21 #[.agg #[.int .i64 bits,.slice pp np cp,.slice pt nt ct,.slice pg ng cg],.agg #[.slice v1 (tt+1) e1,.slice none 0 0,.string ⟨#[]⟩],.int .i64 (-1)] U fun e w'=>∃ c:Nat,xm≤c∧e=.returned (.tuple #[.int .i64 (-1),.int .i64 (c:Int)])∧Below U.heap.size U w'):=fun U hU=>by
      have hU5:=bel0Z HB6.out hU
      obtain ⟨-,hplU,hb3U⟩:=HROW.out.2.2 U hU5
      have hb1U:=(HD.out U hb3U).2.2
      have hps:=(pth_mem HY.out.2.2.1).2.2.2.2.1.2.1
      have hVi:(y,(⟨v1,e1,v2,e2⟩:PV))∈V:=HY.out.2.2.2
      have hli:=(hplU _ hVi).1.2.1
      refine (HCM.out (y.ps.take (tt+1)) v1 (tt+1) e1 (-1) U hb1U (by rw [List.length_take,HY.out.2.1];omega) (hli.take _) (fun z hz=>hps z (List.mem_of_mem_take hz)) (by omega)).mono ?_
      rintro e w' ⟨a,k,hcom,he,hbb⟩
      have ht9:tt < y.ps.length:=by rw [HY.out.2.1];exact htl
      have h9:a=-1∧k=cntI n (y.ps.take tt):=by
       rcases hcom with ⟨h1,-,h2⟩ | ⟨j,-,h2,-⟩
       ·exact ⟨h1,by rw [h2,take_dl ht9]⟩
       ·have:=hps _ (List.mem_of_mem_take (List.mem_of_getElem? h2));omega
      obtain ⟨rfl,rfl⟩:=h9
      exact ⟨_,hxc,he,hbb⟩
     have g2:(0:Int)≤(tt:Int):=by omega
     have g3:(tt:Int)+1≤(e1:Int):=by omega
     have g4:¬((tt:Int)+1 < 0):=by omega
     clear HTW htw b6 w0 ht hfo hxc
     go_upto_region 11 with fail
     have hs0:=(HS9.out W6.drew (Below.refl _ _).drew).1
     refine wp_region_held_drew (S:=fun U=>(U.cell? ⟨B,0,none⟩=some (.int .i64 bits)∧U.cell? ⟨B,1,none⟩=some (.slice pp np cp)∧U.cell? ⟨B,2,none⟩=some (.slice pt nt ct)∧U.cell? ⟨B,3,none⟩=some (.slice pg ng cg))∧U.cell? ⟨gl,ol+i*3,none⟩=some (.slice v1 n1 e1)) (by kernel_rfl) hs0 (fun _=>?_)
     refine tk 0 (.agg #[.int .i64 bits,.slice pp np cp,.slice pt nt ct,.slice pg ng cg]) rfl hs0 ?_ ?_
     ·rintro w ⟨⟨q0,q1,q2,q3⟩,w0⟩;go_simp
     refine tk 1 (.slice (some ⟨gl,ol,none⟩) N cl) rfl hs0 ?_ ?_
     ·rintro w ⟨⟨q0,q1,q2,q3⟩,w0⟩;go_simp
     refine tk 2 (.int .i64 (i:Int)) rfl hs0 ?_ ?_
     ·rintro w ⟨⟨q0,q1,q2,q3⟩,w0⟩;go_simp
     refine tk 3 (.pointer (some ⟨gl,ol+i*3,none⟩)) rfl hs0 ?_ ?_
     ·rintro w ⟨⟨q0,q1,q2,q3⟩,w0⟩;go_simp
     refine tk 4 (.pointer (some ⟨gl,ol+i*3,none⟩)) rfl hs0 ?_ ?_
     ·rintro w ⟨⟨q0,q1,q2,q3⟩,w0⟩;go_simp
     refine tk 5 (.slice v1 n1 e1) rfl hs0 ?_ ?_
     ·rintro w ⟨⟨q0,q1,q2,q3⟩,w0⟩;go_simp
     refine tk 6 (.int .i64 (tt:Int)) rfl hs0 ?_ ?_
     ·rintro w ⟨⟨q0,q1,q2,q3⟩,w0⟩;go_simp
     refine tk 7 (.int .i64 ((tt:Int)+1)) rfl hs0 ?_ ?_
     ·rintro w ⟨⟨q0,q1,q2,q3⟩,w0⟩;go_simp;try (rw [IntKind.wrap_i64];omega)
     refine tk 8 (.slice v1 (tt+1) e1) rfl hs0 ?_ ?_
     ·rintro w ⟨⟨q0,q1,q2,q3⟩,w0⟩;go_simp;try (rw [IntKind.wrap_i64];omega)
     refine tk 9 (.agg #[.slice v1 (tt+1) e1,.slice none 0 0,.string ⟨#[]⟩]) rfl hs0 ?_ ?_
     ·rintro w ⟨⟨q0,q1,q2,q3⟩,w0⟩;go_simp
     refine rd 10 rfl fun KK hKK=>?_
     go_simp
     refine (HCX.out _ (Below.refl _ _).drew).mono ?_
     rintro en W7 ⟨c,hxc,rfl,b7⟩
     have c7:Below W6.heap.size W6 W7:=bel0Z (Below.refl _ _).drew b7
     have hs1:=(HS9.out W7 c7).1
     have HB7:=hideL (HS9.out W7 c7).2
     clear b7 c7
     go_simp
     refine hKK.out _ _ hs1 (fun _=>?_)
     clear hKK KK hs0
     refine tk 11 (.tuple #[.int .i64 (-1),.int .i64 (c:Int)]) rfl hs1 ?_ ?_
     ·rintro w ⟨⟨q0,q1,q2,q3⟩,w0⟩;go_simp
     refine tk 12 (.int .i64 (-1)) rfl hs1 ?_ ?_
     ·rintro w ⟨⟨q0,q1,q2,q3⟩,w0⟩;go_simp
     refine tk 13 (.int .i64 (c:Int)) rfl hs1 ?_ ?_
     ·rintro w ⟨⟨q0,q1,q2,q3⟩,w0⟩;go_simp
     refine tk 14 (.int .i64 (-1)) rfl hs1 ?_ ?_
     ·rintro w ⟨⟨q0,q1,q2,q3⟩,w0⟩;go_simp
     refine tk 15 (.int .i64 (c:Int)) rfl hs1 ?_ ?_
     ·rintro w ⟨⟨q0,q1,q2,q3⟩,w0⟩;go_simp
     refine wpAnyH_done (by kernel_rfl) ?_ _
     try simp only [List.getElem_toArray,List.getElem_cons_succ,List.getElem_cons_zero,Act.put,List.setIfInBounds_toArray,List.set_cons_zero,List.set_cons_succ]
     clear hs1
     have HXC:Hid ((xm:Int)≤(c:Int)):=by show (xm:Int)≤(c:Int);omega
     clear hxc
     by_cases hcb:(c:Int) < bv
     ·go_wp2_with fail
      go_roundw
      case rel=>exact ⟨i+1,(c:Int),by go_num,rfl,by omega,fun h=>(by rw [HFT.out] at h;cases h),fun _=>HXC.out,HB7.out⟩
      case measure=>simp [intOf];omega
     ·go_wp2_with fail
      go_roundw
      case rel=>exact ⟨i+1,bv,by go_num,rfl,by omega,HBR.out.1,HBR.out.2.1,HB7.out⟩
      case measure=>simp [intOf];omega
   ·obtain rfl:i=N:=by omega
    have hB3:Below W3.heap.size W3 wr:=(HROW.out.2.2 wr HBR.out.2.2).2.2
    obtain ⟨⟨⟨x0,x1,x2⟩,⟨⟨q0,q1,q2,q3⟩,⟨r0,r1⟩⟩⟩,hpl,hB1⟩:=HD.out wr hB3
    have j3:¬(i:Int) < (i:Int):=by omega
    cases fo
    ·have hz:xn=0:=by
      rcases HLR.out.1 with ⟨-,h1⟩ | ⟨-,-,-,h2⟩
      ·rcases h1 with ⟨-,h2,-⟩ | ⟨G,-,e2,-,-⟩ | ⟨-,-,-,h2⟩
       ·cases h2
       ·rw [←HLR.out.2.1,e2];rfl
       ·omega
      ·exact absurd rfl h2
     subst hz
     obtain rfl:=HBR.out.1 rfl
     have HKA9:=hideL (HKN.out wr hB1)
     have HB1:=hideL hB1
     clear hpl hB1 hB3
     go_wp2_with fail
     refine (HKA9.out).mono ?_
     rintro e W9 ⟨rfl,bA⟩
     have HFF:=hideL (HF.out W9 (bel0Z HB1.out bA))
     clear bA
     go_wp2_with fail
     go_ret
     exact ⟨rfl,HFF.out⟩
    ·have hh9:flwM n (p,h) x.ps=(xh,(xm:Int),0)∧(xm:Int)≤hops∧(∃ m1:Nat,xn=m1+1∧1≤m1∧∀ t,TWI x.ps t→t=(m1:Int))∧xn≤130:=by
      rcases HLR.out.1 with ⟨⟨⟨hV,hS⟩,hH⟩,h1⟩ | ⟨-,-,-,h2⟩
      ·rcases h1 with ⟨e1,-,-⟩ | ⟨G,-,-,h2,-⟩ | ⟨-,-,h2,-⟩
       ·obtain ⟨h5,h6,h7,h8,-⟩:=ln_hit hV hS hH.1 e1
        have h9:=h5.2.2.2.1
        have h10:=h5.2.2.2.2.1
        have h11:=hH.2
        obtain ⟨-,e2,e3,e4⟩:=HLR.out
        have h12:x.ps.length≤130:=by omega
        refine ⟨?_,by rw [←e3];exact h9,?_,by rw [←e2];exact h12⟩
        ·unfold flwM
         rw [if_neg (by omega),if_pos (chk_yes hV hS)]
         unfold FLD at h6
         rw [h6,e4,e3]
        ·have h13:x.ps.getLastD 0∈x.ps.dropLast:=by
          unfold cls at h7
          exact of_decide_eq_true h7
         have h14:1≤x.ps.dropLast.length:=List.length_pos_iff.2 (List.ne_nil_of_mem h13)
         rw [List.length_dropLast] at h14
         refine ⟨xn - 1,by omega,by omega,fun t ht=>?_⟩
         obtain ⟨h15,-⟩:=twi_dl h13 h8 ht
         omega
       ·cases h2
       ·cases h2
      ·exact absurd rfl h2
     obtain ⟨hfl,hle,⟨m1,hm1,hm2,htw⟩,hx130⟩:=hh9
     have hcap:xn≤z1:=by have:=hpl.2.2.1;rw [HLR.out.2.1] at this;exact this
     have HFO9:Hid (Calls Tryz.prog 18 #[.agg #[.int .i64 bits,.slice pp np cp,.slice pt nt ct,.slice pg ng cg],.agg #[.int .i64 p,.string ⟨h.toArray⟩],.slice u1 xn z1] wr fun e w'=>e=.returned (.tuple #[.string ⟨xh.toArray⟩,.int .i64 (xm:Int),.int .i64 0])∧Below wr.heap.size wr w'):=by
      have h9:=HFO.out x.ps u1 xn z1 wr hB1 HLR.out.2.1 hpl.1.2.1 hcap (by omega)
      rw [hfl] at h9
      exact h9
     have HB3W:=hideL hB3
     have HTL:Hid (∀ U,Below wr.heap.size wr U→Calls Tryz.prog 24 #[.slice u1 xn z1] U fun e w'=>e=.returned (.int .i64 (m1:Int))∧Below U.heap.size U w'):=fun U hU=>by
      have hpU:=(HD.out U (bel0Z HB3W.out hU)).2.1.1.2.1
      refine (twice_any x.ps u1 xn z1 U HLR.out.2.1 hpU hcap (by omega)).mono ?_
      rintro e w' ⟨t,ht,he,hb⟩
      rw [htw t ht] at he
      exact ⟨he,hb⟩
     have HLE:=hideL hle
     have HBV:Hid ((xm:Int)≤bv):=HBR.out.2.1 rfl
     have HM1:=hideL hm1
     have HM2:=hideL hm2
     have HX1:=hideL hx130
     clear hfl hle hm1 hm2 htw hx130 hcap hpl hB1 hB3
     go_wp2_with fail
     refine (HFO9.out).mono ?_
     rintro e W7 ⟨rfl,b7⟩
     have HB7:=hideL b7
     clear b7 x0 x1 x2 q0 q1 q2 q3 r0 r1
     go_upto_region 17 with fail
     have hs0:=(HD.out W7.drew (bel0Z HB3W.out (bel0Z HB7.out (Below.refl _ _).drew))).1.1
     refine wp_region_held_drew (S:=fun U=>U.cell? ⟨b9,0,none⟩=some (.slice u1 xn z1)∧U.cell? ⟨b9,1,none⟩=some (.slice u2 xm z2)∧U.cell? ⟨b9,2,none⟩=some (.string ⟨xh.toArray⟩)) (by kernel_rfl) hs0 (fun _=>?_)
     refine tk 0 (.int .i64 0) rfl hs0 ?_ ?_
     ·rintro w ⟨x0,x1,x2⟩;go_simp
     refine rd 1 rfl fun KK hKK=>?_
     go_simp
     refine (num_any 0 _).mono ?_
     rintro en D2 ⟨rfl,hw⟩
     obtain rfl:=hw
     go_simp
     refine hKK.out _ _ hs0 (fun _=>?_)
     clear hKK KK
     refine tk 2 (.bool true) rfl hs0 ?_ ?_
     ·rintro w ⟨x0,x1,x2⟩;go_simp
     refine tk 3 (.bool true) rfl hs0 ?_ ?_
     ·rintro w ⟨x0,x1,x2⟩;go_simp
     refine tk 4 (.string ⟨xh.toArray⟩) rfl hs0 ?_ ?_
     ·rintro w ⟨x0,x1,x2⟩;go_simp
     refine tk 5 (.pointer (some ⟨b9,2,none⟩)) rfl hs0 ?_ ?_
     ·rintro w ⟨x0,x1,x2⟩;go_simp
     refine tk 6 (.string ⟨xh.toArray⟩) rfl hs0 ?_ ?_
     ·rintro w ⟨x0,x1,x2⟩;go_simp
     refine tk 7 (.bool true) rfl hs0 ?_ ?_
     ·rintro w ⟨x0,x1,x2⟩;go_simp
     refine tk 8 (.bool true) rfl hs0 ?_ ?_
     ·rintro w ⟨x0,x1,x2⟩;go_simp
     refine tk 9 (.bool true) rfl hs0 ?_ ?_
     ·rintro w ⟨x0,x1,x2⟩;go_simp
     refine tk 10 (.int .i64 (xm:Int)) rfl hs0 ?_ ?_
     ·rintro w ⟨x0,x1,x2⟩;go_simp
     refine tk 11 (.pointer (some ⟨b9,1,none⟩)) rfl hs0 ?_ ?_
     ·rintro w ⟨x0,x1,x2⟩;go_simp
     refine tk 12 (.slice u2 xm z2) rfl hs0 ?_ ?_
     ·rintro w ⟨x0,x1,x2⟩;go_simp
     refine tk 13 (.int .i64 (xm:Int)) rfl hs0 ?_ ?_
     ·rintro w ⟨x0,x1,x2⟩;go_simp
     refine tk 14 (.bool true) rfl hs0 ?_ ?_
     ·rintro w ⟨x0,x1,x2⟩;go_simp
     refine tk 15 (.bool true) rfl hs0 ?_ ?_
     ·rintro w ⟨x0,x1,x2⟩;go_simp
     refine tk 16 (.bool true) rfl hs0 ?_ ?_
     ·rintro w ⟨x0,x1,x2⟩;go_simp
     refine tk 17 (.int .i64 (xm:Int)) rfl hs0 ?_ ?_
     ·rintro w ⟨x0,x1,x2⟩;go_simp
     refine tk 18 (.int .i64 hops) rfl hs0 ?_ ?_
     ·rintro w ⟨x0,x1,x2⟩;go_simp
     refine tk 19 (.bool true) rfl hs0 ?_ ?_
     ·rintro w ⟨x0,x1,x2⟩;go_simp;try exact HLE.out
     refine tk 20 (.bool true) rfl hs0 ?_ ?_
     ·rintro w ⟨x0,x1,x2⟩;go_simp
     refine tk 21 (.bool true) rfl hs0 ?_ ?_
     ·rintro w ⟨x0,x1,x2⟩;go_simp
     refine tk 22 (.int .i64 (xm:Int)) rfl hs0 ?_ ?_
     ·rintro w ⟨x0,x1,x2⟩;go_simp
     refine tk 23 (.int .i64 bv) rfl hs0 ?_ ?_
     ·rintro w ⟨x0,x1,x2⟩;go_simp
     refine tk 24 (.bool true) rfl hs0 ?_ ?_
     ·rintro w ⟨x0,x1,x2⟩;go_simp;try exact HBV.out
     refine tk 25 (.bool true) rfl hs0 ?_ ?_
     ·rintro w ⟨x0,x1,x2⟩;go_simp
     refine tk 26 (.bool true) rfl hs0 ?_ ?_
     ·rintro w ⟨x0,x1,x2⟩;go_simp
     refine tk 27 (.pointer (some ⟨b9,0,none⟩)) rfl hs0 ?_ ?_
     ·rintro w ⟨x0,x1,x2⟩;go_simp
     refine tk 28 (.slice u1 xn z1) rfl hs0 ?_ ?_
     ·rintro w ⟨x0,x1,x2⟩;go_simp
     refine tk 30 (.pointer (some ⟨b9,0,none⟩)) rfl hs0 ?_ ?_
     ·rintro w ⟨x0,x1,x2⟩;go_simp
     refine tk 31 (.slice u1 xn z1) rfl hs0 ?_ ?_
     ·rintro w ⟨x0,x1,x2⟩;go_simp
     refine tk 32 (.int .i64 (xn:Int)) rfl hs0 ?_ ?_
     ·rintro w ⟨x0,x1,x2⟩;go_simp
     refine tk 33 (.int .i64 (m1:Int)) rfl hs0 ?_ ?_
     ·rintro w ⟨x0,x1,x2⟩;go_simp;have hm9:=HM1.out;have hx9:=HX1.out;rw [IntKind.wrap_i64];omega
     refine rd 29 rfl fun KK hKK=>?_
     go_simp
     refine (HTL.out _ (bel0Z HB7.out (Below.refl _ _).drew)).mono ?_
     rintro en W8 ⟨rfl,b8⟩
     have HB8:Hid (Below wr.heap.size wr W8):=bel0Z (bel0Z HB7.out (Below.refl _ _).drew) b8
     have hs1:=(HD.out W8 (bel0Z HB3W.out HB8.out)).1.1
     clear b8
     go_simp
     refine hKK.out _ _ hs1 (fun _=>?_)
     clear hKK KK hs0
     refine tk 34 (.bool true) rfl hs1 ?_ ?_
     ·rintro w ⟨x0,x1,x2⟩;go_simp
     refine tk 35 (.bool true) rfl hs1 ?_ ?_
     ·rintro w ⟨x0,x1,x2⟩;go_simp
     refine tk 36 (.bool true) rfl hs1 ?_ ?_
     ·rintro w ⟨x0,x1,x2⟩;go_simp
     refine tk 37 (.pointer (some ⟨b9,0,none⟩)) rfl hs1 ?_ ?_
     ·rintro w ⟨x0,x1,x2⟩;go_simp
     refine tk 38 (.slice u1 xn z1) rfl hs1 ?_ ?_
     ·rintro w ⟨x0,x1,x2⟩;go_simp
     refine tk 39 (.int .i64 (xn:Int)) rfl hs1 ?_ ?_
     ·rintro w ⟨x0,x1,x2⟩;go_simp
     refine tk 40 (.bool true) rfl hs1 ?_ ?_
     ·rintro w ⟨x0,x1,x2⟩;go_simp;try (have:=HM1.out;have:=HM2.out;omega)
     refine tk 41 (.bool true) rfl hs1 ?_ ?_
     ·rintro w ⟨x0,x1,x2⟩;go_simp
     refine tk 42 (.bool true) rfl hs1 ?_ ?_
     ·rintro w ⟨x0,x1,x2⟩;go_simp
     refine rd 43 rfl fun KK hKK=>?_
     go_simp
     refine (HKN.out W8 (HD.out W8 (bel0Z HB3W.out HB8.out)).2.2).mono ?_
     rintro en W9 ⟨rfl,b9'⟩
     have HB9':Hid (Below wr.heap.size wr W9):=bel0Z HB8.out b9'
     have hs2:=(HD.out W9 (bel0Z HB3W.out HB9'.out)).1.1
     clear b9'
     go_simp
     refine hKK.out _ _ hs2 (fun _=>?_)
     clear hKK KK hs1
     refine tk 44 (.bool true) rfl hs2 ?_ ?_
     ·rintro w ⟨x0,x1,x2⟩;go_simp
     refine tk 45 (.bool true) rfl hs2 ?_ ?_
     ·rintro w ⟨x0,x1,x2⟩;go_simp
     refine wpAnyH_done (by kernel_rfl) ?_ _
     try simp only [List.getElem_toArray,List.getElem_cons_succ,List.getElem_cons_zero,Act.put,List.setIfInBounds_toArray,List.set_cons_zero,List.set_cons_succ]
     clear hs2
     go_wp2_with fail
     go_ret
     exact ⟨rfl,HF.out _ (HD.out W9 (bel0Z HB3W.out HB9'.out)).2.2⟩
 ·have i0:(k9 != 0)=true:=by simpa using hk9
  have hz:fo=false∧xn=0:=by
   rcases HLR.out.1 with ⟨-,h1⟩ | ⟨-,rfl,h2,-⟩
   ·rcases h1 with ⟨-,-,h2⟩ | ⟨G,-,-,-,h2⟩ | ⟨-,rfl,h2,-⟩
    ·exact absurd h2 hk9
    ·exact absurd h2 hk9
    ·exact ⟨h2,HLR.out.2.1.symm⟩
   ·exact ⟨h2,HLR.out.2.1.symm⟩
  obtain ⟨rfl,rfl⟩:=hz
  clear hk9
  go_wp2_with fail
  refine (HKA.out).mono ?_
  rintro e W9 ⟨rfl,bA⟩
  have HFF:=hideL (HF.out W9 (bel0Z HB3.out bA))
  clear bA
  go_wp2_with fail
  go_ret
  exact ⟨rfl,HFF.out⟩
end Go.Proofs.YtbplhianpelmfaaGreatDoor.Nt
