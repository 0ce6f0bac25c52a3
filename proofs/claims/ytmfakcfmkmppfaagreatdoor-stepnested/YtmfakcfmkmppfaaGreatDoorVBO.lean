import Derived.Test.YtmfakcfmkmppfaaGreatDoorVBL
import Derived.Test.YtmfakcfmkmppfaaGreatDoorVBN
namespace Go.Proofs.YtmfakcfmkmppfaaGreatDoor.Nt
open Go.RowKit Go.Shelf
theorem wiM_8 (k:Int):0<=wiM k 8/\wiM k 8<=8:=by
 unfold wiM
 split
 ·omega
 ·split <;> omega
theorem st_fn (P:Program) (w:World) (a:Addr) (m:Mode) (fn:Fn) (x y:Array Value):(store a (.func fn x y) m).run P w=stored P w a (.func fn x y) m:=run_store P w a _ m rfl
attribute [local go_sem] Oper.semAt_some st_fn
set_option maxRecDepth 100000 in
set_option maxHeartbeats 16000000 in
theorem stepNested_walk (n:NN) (v:NV) (s9:Int×List UInt8) (hops k m:Int) (w:World) (hN:LN w n v) (hO:okN n) (hh:okS s9.2) (hT:TAB w) :
  Calls Tryz.prog 3 #[.agg (nnA n v),.agg #[.int .i64 s9.1,.string ⟨s9.2.toArray⟩],.int .i64 hops,.int .i64 k,.int .i64 m] w fun e w'=>e=.returned (.bool true)/\Below w.heap.size w w':=by
 obtain ⟨p,h⟩:=s9;simp only at hh ⊢;obtain ⟨pp,cp,pt,ct,pg,cg⟩:=v;obtain ⟨np,hnp⟩:=ex n.ports.length;obtain ⟨nt,hnt⟩:=ex n.tabs.length;obtain ⟨ng,hng⟩:=ex n.grds.length;obtain ⟨bits,hbits⟩:∃ bits,n.bits=bits:=⟨_,rfl⟩;obtain ⟨A,hA⟩:=ex (zie n (p,h) hops);obtain ⟨K,hK⟩:∃ K:Nat,wiM k 8+1=(K:Int):=⟨(wiM k 8+1).toNat,by have:=(wiM_8 k).1;omega⟩;obtain ⟨M,hM⟩:∃ M:Nat,wiM m 8+1=(M:Int):=⟨(wiM m 8+1).toNat,by have:=(wiM_8 m).1;omega⟩;have HKM:Hid (K<=9/\M<=9/\0 < K/\0 < M):=by have:=wiM_8 k;have:=wiM_8 m;exact ⟨by omega,by omega,by omega,by omega⟩
 have HA:=zab hA;have hE:nnA n ⟨pp,cp,pt,ct,pg,cg⟩=#[.int .i64 bits,.slice pp np cp,.slice pt nt ct,.slice pg ng cg]:=by unfold nnA;rw [hnp,hnt,hng,hbits]
 rw [hE];have HDP:Hid (∀ (J:Nat) U,J<=9->Below w.heap.size w U->Calls Tryz.prog 8 #[.agg #[.int .i64 bits,.slice pp np cp,.slice pt nt ct,.slice pg ng cg],.agg #[.int .i64 p,.string ⟨h.toArray⟩],.int .i64 hops,.int .i64 (J:Int)] U fun e w'=>∃ (q:Option Addr) (mo c:Nat),e=.returned (.slice q mo c)/\PEQ A J q c mo w'/\Below U.heap.size U w'):=fun J U hJ hU=>by
  have h9:=zoj n ⟨pp,cp,pt,ct,pg,cg⟩ p h hops J U (hN.below hU) hO hh (by omega);rw [hE,hA] at h9;refine h9.mono ?_;rintro e w' ⟨q,mo,c,V,h0,h1,h2,h3,h4,h5⟩;exact ⟨q,mo,c,h2,peq_of h0 h1 h3 h4,h5⟩
 have HSP:Hid (∀ U,Below w.heap.size w U->Calls Tryz.prog 9 #[.agg #[.int .i64 bits,.slice pp np cp,.slice pt nt ct,.slice pg ng cg],.agg #[.int .i64 p,.string ⟨h.toArray⟩],.int .i64 hops] U fun e w'=>∃ gf lb,e=.returned (.func (.func gf) #[] lb)/\SQV A w' gf lb/\Below U.heap.size U w'):=fun U hU=>by
  have h9:=zqa n ⟨pp,cp,pt,ct,pg,cg⟩ (p,h) hops U (hN.below hU) hO (hT.at hU) hh;rw [hE] at h9;refine h9.mono ?_;intro e w' h8;have h7:=ptq_sqv h8 rfl rfl rfl;rw [hA] at h7;exact h7
 have HWI:Hid ((∀ U,Calls Tryz.prog 7 #[.int .i64 k,.int .i64 8] U fun e w'=>e=.returned (.int .i64 (wiM k 8))/\w'=U)/\∀ U,Calls Tryz.prog 7 #[.int .i64 m,.int .i64 8] U fun e w'=>e=.returned (.int .i64 (wiM m 8))/\w'=U):=⟨within_any k 8,within_any m 8⟩;have HKN:Hid (∀ U,Below w.heap.size w U->Calls Tryz.prog 11 #[] U fun e w'=>e=.returned (.bool true)/\Below U.heap.size U w'):=fun U hU=>zqw U (hT.at hU);clear hE hA hN hO hh hT hnp hnt hng hbits;obtain ⟨S,hS⟩:=ex w.heap.size;obtain ⟨w0,hw0⟩:=ex (((((w.alloc (.cells #[.int .i64 bits,.slice pp np cp,.slice pt nt ct,.slice pg ng cg] 26)).alloc (.cells #[.int .i64 p,.string ⟨h.toArray⟩] 28)).alloc (.cells #[.int .i64 k] 3)).alloc (.cells #[.int .i64 m] 3)).alloc (.cells #[.bool false] 4));have HW0:Hid (w0.heap[S]?=some (.cells #[.int .i64 bits,.slice pp np cp,.slice pt nt ct,.slice pg ng cg] 26 (0,0))/\w0.heap[S+1]?=some (.cells #[.int .i64 p,.string ⟨h.toArray⟩] 28 (0,0))/\w0.heap[S+1+1]?=some (.cells #[.int .i64 k] 3 (0,0))/\w0.heap[S+1+1+1]?=some (.cells #[.int .i64 m] 3 (0,0))/\w0.heap[S+1+1+1+1]?=some (.cells #[.bool false] 4 (0,0))/\Below w.heap.size w w0):=by
  have k0:=zaa w (.cells #[.int .i64 bits,.slice pp np cp,.slice pt nt ct,.slice pg ng cg] 26);have k1:=zaa (w.alloc (.cells #[.int .i64 bits,.slice pp np cp,.slice pt nt ct,.slice pg ng cg] 26)) (.cells #[.int .i64 p,.string ⟨h.toArray⟩] 28);have k2:=zaa ((w.alloc (.cells #[.int .i64 bits,.slice pp np cp,.slice pt nt ct,.slice pg ng cg] 26)).alloc (.cells #[.int .i64 p,.string ⟨h.toArray⟩] 28)) (.cells #[.int .i64 k] 3);have k3:=zaa (((w.alloc (.cells #[.int .i64 bits,.slice pp np cp,.slice pt nt ct,.slice pg ng cg] 26)).alloc (.cells #[.int .i64 p,.string ⟨h.toArray⟩] 28)).alloc (.cells #[.int .i64 k] 3)) (.cells #[.int .i64 m] 3);have k4:=zaa ((((w.alloc (.cells #[.int .i64 bits,.slice pp np cp,.slice pt nt ct,.slice pg ng cg] 26)).alloc (.cells #[.int .i64 p,.string ⟨h.toArray⟩] 28)).alloc (.cells #[.int .i64 k] 3)).alloc (.cells #[.int .i64 m] 3)) (.cells #[.bool false] 4);simp only [World.size_alloc,hS] at k0 k1 k2 k3 k4;have b:=fun (U:World) o=>zah (Below.refl U.heap.size U) o;rw [<-hw0];exact ⟨zae (b _ _) (zae (b _ _) (zae (b _ _) (zae (b _ _) k0))),zae (b _ _) (zae (b _ _) (zae (b _ _) k1)),zae (b _ _) (zae (b _ _) k2),zae (b _ _) k3,k4,zah (zah (zah (zah (zah (Below.refl _ _) _) _) _) _) _⟩
 refine (callsIn_wide (n:=8)).1 ?_;refine callsIn_of_wp_marks Tryz.func3 rfl trivial ?_ rfl;simp only [Tryz.ntmps3,List.size_toArray,List.length_cons,List.length_nil,Nat.reduceAdd,Nat.reduceSub,Array.replicate_succ,Array.replicate_zero,List.push_toArray,List.append_toArray,List.nil_append,List.cons_append];obtain ⟨c2,f2⟩:=zaf HW0.out.2.2.1
 gi_wp2_with fail
 refine ⟨trivial,(callsIn_wide.2 (HWI.out.1 w0)).mono ?_⟩;rintro e w1 ⟨rfl,hw⟩;obtain rfl:w0=w1:=hw.symm;clear hw;have i1:IntKind.i64.wrap (K:Int)=(K:Int):=by rw [IntKind.wrap_i64];have:=HKM.out;omega
 have i2:IntKind.i64.wrap (M:Int)=(M:Int):=by rw [IntKind.wrap_i64];have:=HKM.out;omega
 obtain ⟨w1,hw1⟩:=ex (w0.setCell ⟨S+1+1,0,none⟩ (.int .i64 (K:Int)));have HW1:Hid (w1.heap[S]?=some (.cells #[.int .i64 bits,.slice pp np cp,.slice pt nt ct,.slice pg ng cg] 26 (0,0))/\w1.heap[S+1]?=some (.cells #[.int .i64 p,.string ⟨h.toArray⟩] 28 (0,0))/\w1.heap[S+1+1]?=some (.cells #[.int .i64 (K:Int)] 3 (0,0))/\w1.heap[S+1+1+1]?=some (.cells #[.int .i64 m] 3 (0,0))/\w1.heap[S+1+1+1+1]?=some (.cells #[.bool false] 4 (0,0))/\Below w.heap.size w w1):=by
  obtain ⟨k0,k1,k2,k3,k4,b⟩:=HW0.out;rw [<-hw1];exact ⟨(zby _ _ _ _ _ (by omega)).trans k0,(zby _ _ _ _ _ (by omega)).trans k1,by rw [zag _ k2];rfl,(zby _ _ _ _ _ (by omega)).trans k3,(zby _ _ _ _ _ (by omega)).trans k4,b.setCell (p:=⟨S+1+1,0,none⟩) (by show w.heap.size<=S+1+1;omega) _⟩
 obtain ⟨c3,f3⟩:=zaf HW1.out.2.2.2.1
 gi_wp2_with fail
 refine ⟨trivial,(callsIn_wide.2 (HWI.out.2 w1)).mono ?_⟩;rintro e w2 ⟨rfl,hw⟩;obtain rfl:w1=w2:=hw.symm;clear hw;obtain ⟨w2,hw2⟩:=ex (w1.setCell ⟨S+1+1+1,0,none⟩ (.int .i64 (M:Int)));have HW2:Hid (w2.heap[S]?=some (.cells #[.int .i64 bits,.slice pp np cp,.slice pt nt ct,.slice pg ng cg] 26 (0,0))/\w2.heap[S+1]?=some (.cells #[.int .i64 p,.string ⟨h.toArray⟩] 28 (0,0))/\w2.heap[S+1+1]?=some (.cells #[.int .i64 (K:Int)] 3 (0,0))/\w2.heap[S+1+1+1]?=some (.cells #[.int .i64 (M:Int)] 3 (0,0))/\w2.heap[S+1+1+1+1]?=some (.cells #[.bool false] 4 (0,0))/\Below w.heap.size w w2):=by
  obtain ⟨k0,k1,k2,k3,k4,b⟩:=HW1.out;rw [<-hw2];exact ⟨(zby _ _ _ _ _ (by omega)).trans k0,(zby _ _ _ _ _ (by omega)).trans k1,(zby _ _ _ _ _ (by omega)).trans k2,by rw [zag _ k3];rfl,(zby _ _ _ _ _ (by omega)).trans k4,b.setCell (p:=⟨S+1+1+1,0,none⟩) (by show w.heap.size<=S+1+1+1;omega) _⟩
 have HCE:Hid (∀ U,Below w2.heap.size w2 U->((∀ j,U.cell? ⟨S,j,none⟩=(#[.int .i64 bits,.slice pp np cp,.slice pt nt ct,.slice pg ng cg]:Array Value)[j]?)/\(∀ j,U.cell? ⟨S+1,j,none⟩=(#[.int .i64 p,.string ⟨h.toArray⟩]:Array Value)[j]?))/\U.cell? ⟨S+1+1,0,none⟩=some (.int .i64 (K:Int))/\U.cell? ⟨S+1+1+1,0,none⟩=some (.int .i64 (M:Int))/\Below w.heap.size w U):=fun U hU=>by
  obtain ⟨k0,k1,k2,k3,k4,b⟩:=HW2.out;exact ⟨⟨(zaf (zae hU k0)).1,(zaf (zae hU k1)).1⟩,(zaf (zae hU k2)).1 0,(zaf (zae hU k3)).1 0,zac b hU⟩
 have HP3:=zab (HDP.out K w2 HKM.out.1 HW2.out.2.2.2.2.2);obtain ⟨⟨q0,q1⟩,q2,q3,-⟩:=HCE.out w2 (Below.refl _ _)
 gi_wp2_with fail
 refine ⟨trivial,(callsIn_wide.2 HP3.out).mono ?_⟩;clear hw0 hw1 c2 f2 c3 f3 HW0 HW1;rintro e w3 ⟨qo,mo,co,rfl,hpo,b3⟩;clear q0 q1 q2 q3 hw2;obtain ⟨bo,hbo⟩:=ex w3.heap.size;obtain ⟨x3,hx3⟩:=ex (w3.alloc (.cells #[.slice qo mo co] 30 (0,0)));have d3:Below w3.heap.size w3 x3:=by rw [<-hx3];exact zah (Below.refl _ _) _
 have k3:x3.heap[bo]?=some (.cells #[.slice qo mo co] 30 (0,0)):=by rw [<-hx3,<-hbo];exact zaa _ _
 have HX3:Hid (PEQ A K qo co mo x3/\Below w2.heap.size w2 x3/\x3.heap[bo]?=some (.cells #[.slice qo mo co] 30 (0,0))):=⟨hpo.below d3,zac b3 d3,k3⟩;clear hpo b3 d3 k3 HP3;obtain ⟨⟨q0,q1⟩,q2,q3,hb3⟩:=HCE.out x3 HX3.out.2.1;have HP4:=zab (HDP.out M x3 HKM.out.2.1 hb3);clear hb3
 gi_wp2_with fail
 refine ⟨trivial,(callsIn_wide.2 HP4.out).mono ?_⟩;rintro e w4 ⟨qi,mi,ci,rfl,hpi,b4⟩;clear q0 q1 q2 q3 hx3 hbo;obtain ⟨bi,hbi⟩:=ex w4.heap.size;obtain ⟨x4,hx4⟩:=ex (w4.alloc (.cells #[.slice qi mi ci] 30 (0,0)));have d4:Below w4.heap.size w4 x4:=by rw [<-hx4];exact zah (Below.refl _ _) _
 have k4:x4.heap[bi]?=some (.cells #[.slice qi mi ci] 30 (0,0)):=by rw [<-hx4,<-hbi];exact zaa _ _
 have HX4:Hid (PEQ A K qo co mo x4/\PEQ A M qi ci mi x4/\Below w2.heap.size w2 x4/\x4.heap[bo]?=some (.cells #[.slice qo mo co] 30 (0,0))/\x4.heap[bi]?=some (.cells #[.slice qi mi ci] 30 (0,0))):=⟨HX3.out.1.below (zac b4 d4),hpi.below d4,zac HX3.out.2.1 (zac b4 d4),zae (zac b4 d4) HX3.out.2.2,k4⟩;clear hpi b4 d4 k4 HP4 HX3;obtain ⟨⟨q0,q1⟩,q2,q3,hb4⟩:=HCE.out x4 HX4.out.2.2.1;have HP5:=zab (HSP.out x4 hb4);clear hb4
 gi_wp2_with fail
 refine ⟨trivial,(callsIn_wide.2 HP5.out).mono ?_⟩;rintro e w5 ⟨gf,lb,rfl,hsq,b5⟩;clear q0 q1 q2 q3 hx4 hbi;obtain ⟨bF,hbF⟩:=ex w5.heap.size;obtain ⟨wc,hwc⟩:=ex (w5.alloc (.cells #[.func (.func gf) #[] lb] 33 (0,0)));have d5:Below w5.heap.size w5 wc:=by rw [<-hwc];exact zah (Below.refl _ _) _
 have k5:wc.heap[bF]?=some (.cells #[.func (.func gf) #[] lb] 33 (0,0)):=by rw [<-hwc,<-hbF];exact zaa _ _
 have b9:=zac b5 d5;have b2:=zac HX4.out.2.2.1 b9;have HPO:=zab (HX4.out.1.below b9);have HPI:=zab (HX4.out.2.1.below b9);have HSQ:=zab (hsq.below d5);have HNI:Hid (NI K M mo mi qo qi co ci gf lb (S+1+1) (S+1+1+1) (S+1+1+1+1) bo bi bF wc):=⟨zae b2 HW2.out.2.2.1,zae b2 HW2.out.2.2.2.1,zae b2 HW2.out.2.2.2.2.1,zae b9 HX4.out.2.2.2.1,zae b9 HX4.out.2.2.2.2,k5⟩;have HWC:Hid (Below w.heap.size w wc):=zac HW2.out.2.2.2.2.2 b2;have HBE:Hid (∀ W,Below wc.heap.size wc W->NI K M mo mi qo qi co ci gf lb (S+1+1) (S+1+1+1) (S+1+1+1+1) bo bi bF W):=fun W h=>HNI.out.below h;have HMO:Hid (mo=min K A.length):=by have:=HPO.out.sz;rw [List.length_take] at this;exact this
 have HMOI:Hid (mi=min M A.length):=by have:=HPI.out.sz;rw [List.length_take] at this;exact this
 have HSB:Hid (S+1+1+1+1 < wc.heap.size/\bo < wc.heap.size/\bi < wc.heap.size/\bF < wc.heap.size/\S+1+1 < wc.heap.size/\S+1+1+1 < wc.heap.size):=⟨zap HNI.out.r,zap HNI.out.o,zap HNI.out.i,zap HNI.out.f,zap HNI.out.k,zap HNI.out.m⟩;have hsn:=hsq.nil;have hcf:=(zaf HNI.out.f).1 0;have hcf2:=(zaf (zae (zah (Below.refl _ _) (.cells #[.int .i64 0] 3 (0,0))) HNI.out.f)).1 0;clear hsq b5 d5 k5 b9 b2 HX4 HW2 HCE HP5 HDP HSP HWI hK hM i1 i2
 gi_wp2_with fail
 clear hcf hcf2 hsn hwc hbF;obtain ⟨bk,hbk⟩:=ex wc.heap.size;refine zjn (id:=0) rfl (by omega) (gf:=gf) (lb:=lb) rfl trivial HSQ.out.en (fun _ _ h=>wpIn_exit h) ?_;intro fn hfn;simp only [World.size_alloc,hbk];generalize hR1:zb7 fn _ _ _ _ _=R;have rs1:R.state=.ready:=by rw [<-hR1];rfl
 have rp1:R.pending=none:=by rw [<-hR1];rfl
 have rf1:R.fn=fn:=by rw [<-hR1];rfl
 have rq1:R.params=#[42]:=by rw [<-hR1];rfl
 obtain ⟨X,hX⟩:=ex (((wc.alloc (.cells #[.int .i64 0] 3 (0,0))).alloc (.deferred (some []))).alloc (.loop R));have q0:NS wc bk (bk+1+1) (bk+1) (bk+1) R 0 X:=by
  have k0:=zaa wc (.cells #[.int .i64 0] 3 (0,0));have k1:=zaa (wc.alloc (.cells #[.int .i64 0] 3 (0,0))) (.deferred (some []));have k2:=zaa ((wc.alloc (.cells #[.int .i64 0] 3 (0,0))).alloc (.deferred (some []))) (.loop R);simp only [World.size_alloc,hbk] at k0 k1 k2;rw [<-hX];exact ⟨zae (zah (zah (Below.refl _ _) _) _) k0,k2,zae (zah (Below.refl _ _) _) k1,zae (zah (Below.refl _ _) _) k1,zah (zah (zah (Below.refl _ _) _) _) _⟩
 rw [hX];clear hX;have HY:YLW (fun b=>b=bk) A (fun o W=>NS wc bk (bk+1+1) (bk+1) (bk+1) R o.length W/\o.length < K) (NJ wc bk (bk+1+1) (bk+1) (bk+1) 0 mo) (bk+1+1) 6:=by
  intro o W x v hj hx hpa;obtain ⟨hj,hlt⟩:=hj;obtain ⟨hkm,g,ofs,p1,c1,f1,d1,rfl,hrow⟩:=HPO.out.at' o x hpa hlt;have hpl:=zk2 hpa;have hxs:=zk1 (show x∈zie n (p,h) hops by rw [HA.out];obtain ⟨tt,rfl⟩:=hpa;simp);obtain ⟨kk,hkk⟩:=ex o.length;have hlen:(o++[x]).length=kk+1:=by rw [List.length_append,hkk,List.length_singleton]
  rw [hkk] at hj hlt hkm hrow hpl;obtain ⟨n1,hn1⟩:=ex x.ps.length;obtain ⟨n2,hn2⟩:=ex x.es.length;obtain ⟨t,ht⟩:=ex x.hd;rw [hn1,hn2,ht] at hrow;obtain ⟨u1,e1,u2,e2⟩:=v;have e9:(paC (x,(⟨u1,e1,u2,e2⟩:PV))).toArray=#[.slice u1 n1 e1,.slice u2 n2 e2,.string ⟨t.toArray⟩]:=by
   show #[Value.slice u1 x.ps.length e1,.slice u2 x.es.length e2,.string ⟨x.hd.toArray⟩]=_;rw [hn1,hn2,ht]
  rw [e9];obtain ⟨W1,hW1⟩:=ex (W.alloc (.cells #[.slice u1 n1 e1,.slice u2 n2 e2,.string ⟨t.toArray⟩] 37 (0,0)));have hB1:Below W.heap.size W W1:=by rw [<-hW1];exact zah (Below.refl _ _) _
  have hg1:W1.heap[W.heap.size]?=some (.cells #[.slice u1 n1 e1,.slice u2 n2 e2,.string ⟨t.toArray⟩] 37 (0,0)):=by rw [<-hW1];exact zaa _ _
  have hj1:=hj.below hB1;have hbx:=hj.bx;have hlp:=hj.lp;have hlp1:=hj1.lp;have HJ0:Hid (NS wc bk (bk+1+1) (bk+1) (bk+1) R kk W1/\PL W (x,⟨u1,e1,u2,e2⟩)/\Below W.heap.size W W1/\W1.heap[W.heap.size]?=some (.cells #[.slice u1 n1 e1,.slice u2 n2 e2,.string ⟨t.toArray⟩] 37 (0,0))/\x.ps.length=n1/\x.es.length=n2/\x.hd=t/\n1<=1000/\n2<=1000/\kk < K/\kk+1<=A.length/\kk < mo/\(bk+1+1) < W.heap.size/\bk < W.heap.size/\bk≠(bk+1+1)):=⟨hj1,hx,hB1,hg1,hn1,hn2,ht,by omega,by omega,hlt,hpl,hkm,zap hlp,zap hbx,fun e=>by rw [e,hlp] at hbx;cases hbx⟩;have HEQ:Hid (∀ W',EX bk (bk+1+1) W W'->KQX (fun b=>b=bk) KTY W W'/\W.heap.size<=W'.heap.size):=fun W' h=>h.kqx hlp hbx;have HROW:=zab hrow;have HLEN:=zab hlen;clear hj hx hpa hj1 hB1 hg1 hn1 hn2 ht e9 hlt hpl hkm hbx hrow hxs hlen hkk q0;refine (zgi (F:=Fence.wide) (m:=6) (In:=fun W'=>EX bk (bk+1+1) W W'/\NS wc bk (bk+1+1) (bk+1) (bk+1) R (kk+1) W'/\kk+1 < K) (Out:=fun _ W'=>EX bk (bk+1+1) W W'/\NJ wc bk (bk+1+1) (bk+1) (bk+1) 0 mo W') (by rw [rf1];exact hfn) hlp rs1 rp1 (by rw [rq1];rfl) ?aHY1 W1 hlp1 ?hasHY1 ?hbHY1).mono ?_
  case hasHY1=>
   intro K hK;rw [congrArg Loop.assign hR1.symm,rq1,congrArg Loop.tmps hR1.symm];simp only [zb7,List.zip_toArray,List.zip_cons_cons,List.zip_nil_right,List.foldl_toArray',List.foldl_cons,List.foldl_nil,List.setIfInBounds_toArray,List.size_toArray,List.length_cons,List.length_nil,List.set_cons_zero,List.set_cons_succ]
   gi_wp2
   exact hK
  case hbHY1=>
   obtain ⟨hj1,hx,hB1,hg1,hn1,hn2,ht,i1,i2,i3,i4,i5,i6,i7,i8⟩:=HJ0.out;have qb:=hj1.loop { R with state:=.busy } (by omega);have hgb:(W1.putObj (bk+1+1) (.loop { R with state:=.busy })).heap[W.heap.size]?=some (.cells #[.slice u1 n1 e1,.slice u2 n2 e2,.string ⟨t.toArray⟩] 37 (0,0)):=zbc hg1 (by omega);have hex:EX bk (bk+1+1) W (W1.putObj (bk+1+1) (.loop { R with state:=.busy })):=(EX.below _ _ hB1).trans (EX.put _ _ _ _);obtain ⟨V,hV⟩:∃ V,W1.putObj (bk+1+1) (.loop { R with state:=.busy })=V:=⟨_,rfl⟩;rw [hV] at qb hgb hex ⊢;rw [congrArg Loop.body hR1.symm];simp only [zb7];obtain ⟨rb,hrb⟩:=ex W.heap.size;rw [hrb] at hgb;have hxV:PL V (x,⟨u1,e1,u2,e2⟩):=hx.kp (zqv ((KQ.below hB1).trans (by rw [<-hV];exact zli hlp1 _)));have HV:Hid (NS wc bk (bk+1+1) (bk+1) (bk+1) { R with state:=.busy } kk V/\EX bk (bk+1+1) W V):=⟨qb,hex⟩;have HK:Hid (∀ U,Below V.heap.size V U->U.cell? ⟨bk,0,none⟩=some (.int .i64 (kk:Int))/\U.cell? ⟨bo,0,none⟩=some (.slice (some ⟨g,ofs,none⟩) mo co)/\(∀ j,U.cell? ⟨rb,j,none⟩=(#[.slice u1 n1 e1,.slice u2 n2 e2,.string ⟨t.toArray⟩]:Array Value)[j]?)/\U.cell? ⟨g,ofs+kk*3,none⟩=some (.slice p1 n1 c1)/\U.cell? ⟨g,ofs+kk*3+1,none⟩=some (.slice f1 n2 d1)/\U.cell? ⟨g,ofs+kk*3+2,none⟩=some (.string ⟨t.toArray⟩)):=fun U hU=>by
    have hw:Below wc.heap.size wc U:=zac qb.be hU;obtain ⟨⟨y1,y2,y3⟩,-,-⟩:=HROW.out U hw;exact ⟨(zaf (zae hU qb.bx)).1 0,(zaf (HBE.out U hw).o).1 0,(zaf (zae hU hgb)).1,y1,y2,y3⟩
   have HPA:Hid (∀ U,Below V.heap.size V U->Calls Tryz.prog 10 #[.agg #[.slice u1 n1 e1,.slice u2 n2 e2,.string ⟨t.toArray⟩],.agg #[.slice p1 n1 c1,.slice f1 n2 d1,.string ⟨t.toArray⟩]] U fun e w'=>e=.returned (.bool true)/\Below U.heap.size U w'):=fun U hU=>by
    have hw:Below wc.heap.size wc U:=zac qb.be hU;obtain ⟨-,l1,l2⟩:=HROW.out U hw;exact zgr x.ps x.es t u1 p1 u2 f1 n1 n2 e1 c1 e2 d1 U hn1 hn2 (hxV.1.2.1.below hU) l1 (hxV.2.1.2.1.below hU) l2 ⟨by omega,by omega⟩
   have HN:Hid (kk < K/\kk+1<=A.length/\kk < mo/\(bk+1+1) < W.heap.size/\bk < W.heap.size/\bk≠(bk+1+1)):=⟨i3,i4,i5,i6,i7,i8⟩;have j0:(0:Int)<=(kk:Int):=by omega
   have j1:(kk:Int) < (mo:Int):=by omega
   have j3:kk < mo:=i5;have j2:¬(kk:Int) ≥ (mo:Int):=by omega
   clear hx hj1 hB1 hg1 hn1 hn2 ht i1 i2 i3 i4 i5 i6 i7 i8 hV hW1 qb hgb hex hxV hlp hlp1;rw [hrb]
   gi_wp2_with fail
   refine zgl (C:=fun U=>Below V.heap.size V U) (by kernel_rfl) (by kernel_rfl) (by kernel_rfl) (show Below _ _ _ from (Below.refl _ _).drew) ?_
   go_big_quiet_want
   refine ⟨.int .i64 (kk:Int),fun W hW=>?_,?_⟩
   ·obtain ⟨s1,s2,s3,s4,s5,s6⟩:=HK.out W hW
    go_simp
   go_big_quiet_on
   simp only [Act.put,List.setIfInBounds_toArray,List.set_cons_zero,List.set_cons_succ]
   go_big_quiet_want
   refine ⟨.slice (some ⟨g,ofs,none⟩) mo co,fun W hW=>?_,?_⟩
   ·obtain ⟨s1,s2,s3,s4,s5,s6⟩:=HK.out W hW
    go_simp
   go_big_quiet_on
   simp only [Act.put,List.setIfInBounds_toArray,List.set_cons_zero,List.set_cons_succ]
   go_big_quiet_want
   refine ⟨.int .i64 (mo:Int),fun W hW=>?_,?_⟩
   ·go_simp
   go_big_quiet_on
   simp only [Act.put,List.setIfInBounds_toArray,List.set_cons_zero,List.set_cons_succ]
   go_big_quiet_want
   refine ⟨.bool false,fun W hW=>?_,?_⟩
   ·go_simp
   go_big_quiet_on
   simp only [Act.put,List.setIfInBounds_toArray,List.set_cons_zero,List.set_cons_succ]
   go_big_quiet_want
   go_big_quiet_op
   go_big_quiet_on
   go_big_quiet_want
   refine ⟨.agg #[.slice u1 n1 e1,.slice u2 n2 e2,.string ⟨t.toArray⟩],fun W hW=>?_,?_⟩
   ·obtain ⟨s1,s2,s3,s4,s5,s6⟩:=HK.out W hW
    go_simp
   go_big_quiet_on
   simp only [Act.put,List.setIfInBounds_toArray,List.set_cons_zero,List.set_cons_succ]
   go_big_quiet_want
   refine ⟨.slice (some ⟨g,ofs,none⟩) mo co,fun W hW=>?_,?_⟩
   ·obtain ⟨s1,s2,s3,s4,s5,s6⟩:=HK.out W hW
    go_simp
   go_big_quiet_on
   simp only [Act.put,List.setIfInBounds_toArray,List.set_cons_zero,List.set_cons_succ]
   go_big_quiet_want
   refine ⟨.int .i64 (kk:Int),fun W hW=>?_,?_⟩
   ·obtain ⟨s1,s2,s3,s4,s5,s6⟩:=HK.out W hW
    go_simp
   go_big_quiet_on
   simp only [Act.put,List.setIfInBounds_toArray,List.set_cons_zero,List.set_cons_succ]
   go_big_quiet_want
   refine ⟨.pointer (some ⟨g,ofs+kk*3,none⟩),fun W hW=>?_,?_⟩
   ·go_simp
   go_big_quiet_on
   simp only [Act.put,List.setIfInBounds_toArray,List.set_cons_zero,List.set_cons_succ]
   go_big_quiet_want
   refine ⟨.agg #[.slice p1 n1 c1,.slice f1 n2 d1,.string ⟨t.toArray⟩],fun W hW=>?_,?_⟩
   ·obtain ⟨s1,s2,s3,s4,s5,s6⟩:=HK.out W hW
    go_simp
   go_big_quiet_on
   simp only [Act.put,List.setIfInBounds_toArray,List.set_cons_zero,List.set_cons_succ]
   go_big_quiet_want
   refine ⟨.bool true,fun W hW=>?_,?_⟩
   ·go_simp
    refine (HPA.out W hW).mono ?_;rintro e w7 ⟨rfl,hb⟩;exact ⟨rfl,zac hW hb⟩
   go_big_quiet_on
   simp only [Act.put,List.setIfInBounds_toArray,List.set_cons_zero,List.set_cons_succ]
   go_big_quiet_want
   refine ⟨.bool false,fun W hW=>?_,?_⟩
   ·go_simp
   go_big_quiet_on
   simp only [Act.put,List.setIfInBounds_toArray,List.set_cons_zero,List.set_cons_succ]
   go_big_quiet_want
   refine ⟨.bool false,fun W hW=>?_,?_⟩
   ·go_simp
   go_big_quiet_on
   simp only [Act.put,List.setIfInBounds_toArray,List.set_cons_zero,List.set_cons_succ];refine wpQuiet_nil ?_;intro Y5 hY5;have HY5:Hid (NS wc bk (bk+1+1) (bk+1) (bk+1) { R with state:=.busy } kk Y5/\EX bk (bk+1+1) W Y5):=⟨HV.out.1.below hY5,HV.out.2.trans (EX.below _ _ hY5)⟩;clear hY5 HK HV HPA j2 HJ0;obtain ⟨bj,hbj⟩:=ex Y5.heap.size;have hlj:bk+1+1 < bj:=by rw [<-hbj];exact zap HY5.out.1.lp
   have hcf3:=(zaf (zae (zah (Below.refl _ _) (.cells #[.int .i64 0] 3 (0,0))) (HBE.out Y5 HY5.out.1.be).f)).1 0
   gi_wp2_with fail
   clear hcf3;refine zpy (F:=Fence.wide.inRound (bk+1+1)) (n:=6) (id:=2) (l0:=bk+1+1) rfl (zae (zah (Below.refl _ _) _) HY5.out.1.lp) (by omega) (gf:=gf) (lb:=lb) rfl trivial HSQ.out.en (fun _ _ h=>wpIn_exit h) ?_;intro fn2 hfn2;simp only [World.size_alloc,hbj];generalize hR2:zb7 fn2 _ _ _ _ _=R2;have rs2:R2.state=.ready:=by rw [<-hR2];rfl
   have rp2:R2.pending=none:=by rw [<-hR2];rfl
   have rf2:R2.fn=fn2:=by rw [<-hR2];rfl
   have rq2:R2.params=#[57]:=by rw [<-hR2];rfl
   obtain ⟨X2,hX2⟩:=ex ((Y5.alloc (.cells #[.int .i64 0] 3 (0,0))).alloc (.loop R2));have p0:NS Y5 bj (bj+1) (bk+1) (bk+1) R2 0 X2:=by
    have k0:=zaa Y5 (.cells #[.int .i64 0] 3 (0,0));have k1:=zaa (Y5.alloc (.cells #[.int .i64 0] 3 (0,0))) (.loop R2);simp only [World.size_alloc,hbj] at k0 k1;have b:=zah (zah (Below.refl Y5.heap.size Y5) (.cells #[.int .i64 0] 3 (0,0))) (.loop R2);rw [<-hX2];exact ⟨zae (zah (Below.refl _ _) _) k0,k1,zae b HY5.out.1.df,zae b HY5.out.1.df,b⟩
   rw [hX2];clear hX2;have HY2:YLW (fun b=>b=bj) A (fun o W=>NS Y5 bj (bj+1) (bk+1) (bk+1) R2 o.length W/\o.length < M) (NJ Y5 bj (bj+1) (bk+1) (bk+1) 2 mi) (bj+1) 4:=by
    intro o W x v hj hx hpa;obtain ⟨hj,hlt⟩:=hj;obtain ⟨hkm,g,ofs,p1,c1,f1,d1,rfl,hrow⟩:=HPI.out.at' o x hpa hlt;have hpl:=zk2 hpa;have hxs:=zk1 (show x∈zie n (p,h) hops by rw [HA.out];obtain ⟨tt,rfl⟩:=hpa;simp);obtain ⟨kk,hkk⟩:=ex o.length;have hlen:(o++[x]).length=kk+1:=by rw [List.length_append,hkk,List.length_singleton]
    rw [hkk] at hj hlt hkm hrow hpl;obtain ⟨n1,hn1⟩:=ex x.ps.length;obtain ⟨n2,hn2⟩:=ex x.es.length;obtain ⟨t,ht⟩:=ex x.hd;rw [hn1,hn2,ht] at hrow;obtain ⟨u1,e1,u2,e2⟩:=v;have e9:(paC (x,(⟨u1,e1,u2,e2⟩:PV))).toArray=#[.slice u1 n1 e1,.slice u2 n2 e2,.string ⟨t.toArray⟩]:=by
     show #[Value.slice u1 x.ps.length e1,.slice u2 x.es.length e2,.string ⟨x.hd.toArray⟩]=_;rw [hn1,hn2,ht]
    rw [e9];obtain ⟨W1,hW1⟩:=ex (W.alloc (.cells #[.slice u1 n1 e1,.slice u2 n2 e2,.string ⟨t.toArray⟩] 37 (0,0)));have hB1:Below W.heap.size W W1:=by rw [<-hW1];exact zah (Below.refl _ _) _
    have hg1:W1.heap[W.heap.size]?=some (.cells #[.slice u1 n1 e1,.slice u2 n2 e2,.string ⟨t.toArray⟩] 37 (0,0)):=by rw [<-hW1];exact zaa _ _
    have hj1:=hj.below hB1;have hbx:=hj.bx;have hlp:=hj.lp;have hlp1:=hj1.lp;have HJ0:Hid (NS Y5 bj (bj+1) (bk+1) (bk+1) R2 kk W1/\PL W (x,⟨u1,e1,u2,e2⟩)/\Below W.heap.size W W1/\W1.heap[W.heap.size]?=some (.cells #[.slice u1 n1 e1,.slice u2 n2 e2,.string ⟨t.toArray⟩] 37 (0,0))/\x.ps.length=n1/\x.es.length=n2/\x.hd=t/\n1<=1000/\n2<=1000/\kk < M/\kk+1<=A.length/\kk < mi/\(bj+1) < W.heap.size/\bj < W.heap.size/\bj≠(bj+1)):=⟨hj1,hx,hB1,hg1,hn1,hn2,ht,by omega,by omega,hlt,hpl,hkm,zap hlp,zap hbx,fun e=>by rw [e,hlp] at hbx;cases hbx⟩;have HEQ:Hid (∀ W',EX bj (bj+1) W W'->KQX (fun b=>b=bj) KTY W W'/\W.heap.size<=W'.heap.size):=fun W' h=>h.kqx hlp hbx;have HROW:=zab hrow;have HLEN:=zab hlen;clear hj hx hpa hj1 hB1 hg1 hn1 hn2 ht e9 hlt hpl hkm hbx hrow hxs hlen hkk p0;refine (zgi (F:=Fence.wide) (m:=4) (In:=fun W'=>EX bj (bj+1) W W'/\NS Y5 bj (bj+1) (bk+1) (bk+1) R2 (kk+1) W'/\kk+1 < M) (Out:=fun _ W'=>EX bj (bj+1) W W'/\NJ Y5 bj (bj+1) (bk+1) (bk+1) 2 mi W') (by rw [rf2];exact hfn2) hlp rs2 rp2 (by rw [rq2];rfl) ?aHY2 W1 hlp1 ?hasHY2 ?hbHY2).mono ?_
    case hasHY2=>
     intro K hK;rw [congrArg Loop.assign hR2.symm,rq2,congrArg Loop.tmps hR2.symm];simp only [zb7,List.zip_toArray,List.zip_cons_cons,List.zip_nil_right,List.foldl_toArray',List.foldl_cons,List.foldl_nil,List.setIfInBounds_toArray,List.size_toArray,List.length_cons,List.length_nil,List.set_cons_zero,List.set_cons_succ]
     gi_wp2
     exact hK
    case hbHY2=>
     obtain ⟨hj1,hx,hB1,hg1,hn1,hn2,ht,i1,i2,i3,i4,i5,i6,i7,i8⟩:=HJ0.out;have qb:=hj1.loop { R2 with state:=.busy } (by omega);have hgb:(W1.putObj (bj+1) (.loop { R2 with state:=.busy })).heap[W.heap.size]?=some (.cells #[.slice u1 n1 e1,.slice u2 n2 e2,.string ⟨t.toArray⟩] 37 (0,0)):=zbc hg1 (by omega);have hex:EX bj (bj+1) W (W1.putObj (bj+1) (.loop { R2 with state:=.busy })):=(EX.below _ _ hB1).trans (EX.put _ _ _ _);obtain ⟨V,hV⟩:∃ V,W1.putObj (bj+1) (.loop { R2 with state:=.busy })=V:=⟨_,rfl⟩;rw [hV] at qb hgb hex ⊢;rw [congrArg Loop.body hR2.symm];simp only [zb7];obtain ⟨rb,hrb⟩:=ex W.heap.size;rw [hrb] at hgb;have hxV:PL V (x,⟨u1,e1,u2,e2⟩):=hx.kp (zqv ((KQ.below hB1).trans (by rw [<-hV];exact zli hlp1 _)));have HV:Hid (NS Y5 bj (bj+1) (bk+1) (bk+1) { R2 with state:=.busy } kk V/\EX bj (bj+1) W V):=⟨qb,hex⟩;have HK:Hid (∀ U,Below V.heap.size V U->U.cell? ⟨bj,0,none⟩=some (.int .i64 (kk:Int))/\U.cell? ⟨bi,0,none⟩=some (.slice (some ⟨g,ofs,none⟩) mi ci)/\(∀ j,U.cell? ⟨rb,j,none⟩=(#[.slice u1 n1 e1,.slice u2 n2 e2,.string ⟨t.toArray⟩]:Array Value)[j]?)/\U.cell? ⟨g,ofs+kk*3,none⟩=some (.slice p1 n1 c1)/\U.cell? ⟨g,ofs+kk*3+1,none⟩=some (.slice f1 n2 d1)/\U.cell? ⟨g,ofs+kk*3+2,none⟩=some (.string ⟨t.toArray⟩)):=fun U hU=>by
      have hw:Below wc.heap.size wc U:=zac HY5.out.1.be (zac qb.be hU);obtain ⟨⟨y1,y2,y3⟩,-,-⟩:=HROW.out U hw;exact ⟨(zaf (zae hU qb.bx)).1 0,(zaf (HBE.out U hw).i).1 0,(zaf (zae hU hgb)).1,y1,y2,y3⟩
     have HPA:Hid (∀ U,Below V.heap.size V U->Calls Tryz.prog 10 #[.agg #[.slice u1 n1 e1,.slice u2 n2 e2,.string ⟨t.toArray⟩],.agg #[.slice p1 n1 c1,.slice f1 n2 d1,.string ⟨t.toArray⟩]] U fun e w'=>e=.returned (.bool true)/\Below U.heap.size U w'):=fun U hU=>by
      have hw:Below wc.heap.size wc U:=zac HY5.out.1.be (zac qb.be hU);obtain ⟨-,l1,l2⟩:=HROW.out U hw;exact zgr x.ps x.es t u1 p1 u2 f1 n1 n2 e1 c1 e2 d1 U hn1 hn2 (hxV.1.2.1.below hU) l1 (hxV.2.1.2.1.below hU) l2 ⟨by omega,by omega⟩
     have HN:Hid (kk < M/\kk+1<=A.length/\kk < mi/\(bj+1) < W.heap.size/\bj < W.heap.size/\bj≠(bj+1)):=⟨i3,i4,i5,i6,i7,i8⟩;have j0:(0:Int)<=(kk:Int):=by omega
     have j1:(kk:Int) < (mi:Int):=by omega
     have j3:kk < mi:=i5;have j2:¬(kk:Int) ≥ (mi:Int):=by omega
     clear hx hj1 hB1 hg1 hn1 hn2 ht i1 i2 i3 i4 i5 i6 i7 i8 hV hW1 qb hgb hex hxV hlp hlp1;rw [hrb]
     gi_wp2_with fail
     refine zgl (C:=fun U=>Below V.heap.size V U) (by kernel_rfl) (by kernel_rfl) (by kernel_rfl) (show Below _ _ _ from (Below.refl _ _).drew) ?_
     go_big_quiet_want
     refine ⟨.int .i64 (kk:Int),fun W hW=>?_,?_⟩
     ·obtain ⟨s1,s2,s3,s4,s5,s6⟩:=HK.out W hW
      go_simp
     go_big_quiet_on
     simp only [Act.put,List.setIfInBounds_toArray,List.set_cons_zero,List.set_cons_succ]
     go_big_quiet_want
     refine ⟨.slice (some ⟨g,ofs,none⟩) mi ci,fun W hW=>?_,?_⟩
     ·obtain ⟨s1,s2,s3,s4,s5,s6⟩:=HK.out W hW
      go_simp
     go_big_quiet_on
     simp only [Act.put,List.setIfInBounds_toArray,List.set_cons_zero,List.set_cons_succ]
     go_big_quiet_want
     refine ⟨.int .i64 (mi:Int),fun W hW=>?_,?_⟩
     ·go_simp
     go_big_quiet_on
     simp only [Act.put,List.setIfInBounds_toArray,List.set_cons_zero,List.set_cons_succ]
     go_big_quiet_want
     refine ⟨.bool false,fun W hW=>?_,?_⟩
     ·go_simp
     go_big_quiet_on
     simp only [Act.put,List.setIfInBounds_toArray,List.set_cons_zero,List.set_cons_succ]
     go_big_quiet_want
     go_big_quiet_op
     go_big_quiet_on
     go_big_quiet_want
     refine ⟨.agg #[.slice u1 n1 e1,.slice u2 n2 e2,.string ⟨t.toArray⟩],fun W hW=>?_,?_⟩
     ·obtain ⟨s1,s2,s3,s4,s5,s6⟩:=HK.out W hW
      go_simp
     go_big_quiet_on
     simp only [Act.put,List.setIfInBounds_toArray,List.set_cons_zero,List.set_cons_succ]
     go_big_quiet_want
     refine ⟨.slice (some ⟨g,ofs,none⟩) mi ci,fun W hW=>?_,?_⟩
     ·obtain ⟨s1,s2,s3,s4,s5,s6⟩:=HK.out W hW
      go_simp
     go_big_quiet_on
     simp only [Act.put,List.setIfInBounds_toArray,List.set_cons_zero,List.set_cons_succ]
     go_big_quiet_want
     refine ⟨.int .i64 (kk:Int),fun W hW=>?_,?_⟩
     ·obtain ⟨s1,s2,s3,s4,s5,s6⟩:=HK.out W hW
      go_simp
     go_big_quiet_on
     simp only [Act.put,List.setIfInBounds_toArray,List.set_cons_zero,List.set_cons_succ]
     go_big_quiet_want
     refine ⟨.pointer (some ⟨g,ofs+kk*3,none⟩),fun W hW=>?_,?_⟩
     ·go_simp
     go_big_quiet_on
     simp only [Act.put,List.setIfInBounds_toArray,List.set_cons_zero,List.set_cons_succ]
     go_big_quiet_want
     refine ⟨.agg #[.slice p1 n1 c1,.slice f1 n2 d1,.string ⟨t.toArray⟩],fun W hW=>?_,?_⟩
     ·obtain ⟨s1,s2,s3,s4,s5,s6⟩:=HK.out W hW
      go_simp
     go_big_quiet_on
     simp only [Act.put,List.setIfInBounds_toArray,List.set_cons_zero,List.set_cons_succ]
     go_big_quiet_want
     refine ⟨.bool true,fun W hW=>?_,?_⟩
     ·go_simp
      refine (HPA.out W hW).mono ?_;rintro e w7 ⟨rfl,hb⟩;exact ⟨rfl,zac hW hb⟩
     go_big_quiet_on
     simp only [Act.put,List.setIfInBounds_toArray,List.set_cons_zero,List.set_cons_succ]
     go_big_quiet_want
     refine ⟨.bool false,fun W hW=>?_,?_⟩
     ·go_simp
     go_big_quiet_on
     simp only [Act.put,List.setIfInBounds_toArray,List.set_cons_zero,List.set_cons_succ]
     go_big_quiet_want
     refine ⟨.bool false,fun W hW=>?_,?_⟩
     ·go_simp
     go_big_quiet_on
     simp only [Act.put,List.setIfInBounds_toArray,List.set_cons_zero,List.set_cons_succ];refine wpQuiet_nil ?_;intro W5 hW5;have HM5:Hid (NS Y5 bj (bj+1) (bk+1) (bk+1) { R2 with state:=.busy } kk W5/\EX bj (bj+1) W W5):=⟨HV.out.1.below hW5,HV.out.2.trans (EX.below _ _ hW5)⟩;clear hW5 HK HV HPA j2 HJ0;obtain ⟨k1,hk1⟩:∃ k1:Nat,kk+1=k1:=⟨_,rfl⟩;have HK1:=zab hk1;have i3:(kk:Int)+1=(k1:Int):=by omega
     have i4:IntKind.i64.wrap (k1:Int)=(k1:Int):=by rw [IntKind.wrap_i64];have:=HN.out.1;have:=HKM.out;omega
     clear hk1;obtain ⟨c7,f7⟩:=zaf HM5.out.1.bx;obtain ⟨W8,hW8⟩:=ex (W5.setCell ⟨bj,0,none⟩ (.int .i64 (k1:Int)));have HM8:Hid (NS Y5 bj (bj+1) (bk+1) (bk+1) { R2 with state:=.busy } k1 W8/\EX bj (bj+1) W W8):=by
      rw [<-hW8];exact ⟨HM5.out.1.set (by omega) k1,HM5.out.2.trans (EX.set _ _ _ _)⟩
     have c8:=(zaf HM8.out.1.bx).1 0;have c9:=(zaf (HBE.out _ (zac HY5.out.1.be HM8.out.1.be)).m).1 0;obtain ⟨tb,h9⟩:=ex (((k1:Int)==(M:Int)));have H9:Hid ((tb=true->(k1:Int)=(M:Int))/\(tb=false->¬(k1:Int)=(M:Int))):=⟨fun h=>by rw [h] at h9;simpa using h9,fun h=>by rw [h] at h9;simpa using h9⟩;cases tb
     ·gi_wp2_with fail
      refine ⟨HM8.out.1.lp,HM8.out.2.trans (EX.put _ _ _ _),?_⟩;rw [HK1.out];exact ⟨HM8.out.1.loop R2 (by omega),by have:=HN.out.1;have:=HK1.out;have:=H9.out.2 (by simp);omega⟩
     ·gi_wp2_with fail
      have hmo:k1=mi:=by have:=HMOI.out;have:=HN.out;have:=HK1.out;have:=H9.out.1 (by simp);omega
      have h9:∀ r:Loop,NS Y5 bj (bj+1) (bk+1) (bk+1) r mi (W8.putObj (bj+1) (.loop r)):=fun r=>by
       rw [<-hmo];exact HM8.out.1.loop r (by omega)
      exact ⟨HM8.out.1.lp,HM8.out.2.trans (EX.put _ _ _ _),_,rfl,rfl,h9 _⟩
    rintro e W' (⟨he,h1,h2,h3⟩ | ⟨he,c,h1,h2⟩)
    ·exact ⟨HEQ.out W' h1,.inl ⟨he,by rw [HLEN.out];exact h2,by rw [HLEN.out];exact h3⟩⟩
    ·exact ⟨HEQ.out W' h1,.inr ⟨he,h2⟩⟩
   have hgo:=HSQ.out.go (fun b=>b=bj) (fun o W=>NS Y5 bj (bj+1) (bk+1) (bk+1) R2 o.length W/\o.length < M) (NJ Y5 bj (bj+1) (bk+1) (bk+1) 2 mi) (bj+1) 4 5 X2 (zac HY5.out.1.be p0.be) (fun b hz=>by have:=HY5.out.1.be.size;omega) (fun b hb hz=>by have:=zap p0.bx;omega) ⟨fun o W W' h hb=>⟨h.1.below hb,h.2⟩,fun W W' h hb=>by
     obtain ⟨r,h1,h2,h3⟩:=h;exact ⟨r,h1,h2,h3.below hb⟩⟩ HY2 ⟨p0,HKM.out.2.2.2⟩
   refine (CallsIn.inRound _ hgo).mono ?_;rintro e Wi ⟨hv,hq⟩;refine ⟨hv,?_⟩;have COM:∃ r:Loop,r.state≠.busy/\(r.pending=none∨r.pending=some (.exit 2))/\NS Y5 bj (bj+1) (bk+1) (bk+1) r mi Wi:=by
    rcases hq with ⟨hq,hlt⟩ | ⟨r,h1,h2,h3⟩
    ·exact ⟨R2,(fun e=>by rw [rs2] at e;cases e),.inl rp2,by rw [show mi=A.length by have:=HMOI.out;omega];exact hq⟩
    ·exact ⟨r,(fun e=>by rw [h1] at e;cases e),.inr h2,h3⟩
   obtain ⟨r2,hr2,hr3,HC⟩:=COM;refine ⟨r2,HC.lp,hr2,hr3,?_⟩;have vm:=HC.loop { r2 with state:=.exhausted } (by omega);obtain ⟨Vi,hVi⟩:∃ Vi,Wi.putObj (bj+1) (.loop { r2 with state:=.exhausted })=Vi:=⟨_,rfl⟩;rw [hVi] at vm ⊢;have HVI:Hid (NS wc bk (bk+1+1) (bk+1) (bk+1) { R with state:=.busy } kk Vi/\EX bk (bk+1+1) W Vi):=⟨HY5.out.1.below vm.be,HY5.out.2.trans (EX.below _ _ vm.be)⟩;have HBJ:Hid (Vi.heap[bj]?=some (.cells #[.int .i64 (mi:Int)] 3 (0,0))):=vm.bx;clear hVi vm hr2 hr3 HC HY2 p0 hq hgo hR2 rs2 rp2 rf2 rq2 hv;obtain ⟨k1,hk1⟩:∃ k1:Nat,kk+1=k1:=⟨_,rfl⟩;have HK1:=zab hk1;have i3:(kk:Int)+1=(k1:Int):=by omega
   have i4:IntKind.i64.wrap (k1:Int)=(k1:Int):=by rw [IntKind.wrap_i64];have:=HN.out.1;have:=HKM.out;omega
   clear hk1;obtain ⟨c7,f7⟩:=zaf HVI.out.1.bx;obtain ⟨W8,hW8⟩:=ex (Vi.setCell ⟨bk,0,none⟩ (.int .i64 (k1:Int)));have HM8:Hid (NS wc bk (bk+1+1) (bk+1) (bk+1) { R with state:=.busy } k1 W8/\EX bk (bk+1+1) W W8):=by
    rw [<-hW8];exact ⟨HVI.out.1.set (by omega) k1,HVI.out.2.trans (EX.set _ _ _ _)⟩
   have c8:=(zaf HM8.out.1.bx).1 0;have k9:W8.heap[bj]?=some (.cells #[.int .i64 (mi:Int)] 3 (0,0)):=by
    rw [<-hW8];exact (zby _ _ _ _ _ (by omega)).trans HBJ.out
   have c9:=(zaf k9).1 0;have c10:=(zaf (HBE.out W8 HM8.out.1.be).i).1 0;have c11:=(zaf (HBE.out W8 HM8.out.1.be).k).1 0;have e78:((mi:Int) != (mi:Int))=false:=by simp
   clear k9;obtain ⟨tb,h9⟩:=ex (((k1:Int)==(K:Int)));have H9:Hid ((tb=true->(k1:Int)=(K:Int))/\(tb=false->¬(k1:Int)=(K:Int))):=⟨fun h=>by rw [h] at h9;simpa using h9,fun h=>by rw [h] at h9;simpa using h9⟩;cases tb
   ·gi_wp2_with fail
    refine ⟨HM8.out.1.lp,HM8.out.2.trans (EX.put _ _ _ _),?_⟩;rw [HK1.out];exact ⟨HM8.out.1.loop R (by omega),by have:=HN.out.1;have:=HK1.out;have:=H9.out.2 (by simp);omega⟩
   ·gi_wp2_with fail
    have hmo:k1=mo:=by have:=HMO.out;have:=HN.out;have:=HK1.out;have:=H9.out.1 (by simp);omega
    have h9:∀ r:Loop,NS wc bk (bk+1+1) (bk+1) (bk+1) r mo (W8.putObj (bk+1+1) (.loop r)):=fun r=>by
     rw [<-hmo];exact HM8.out.1.loop r (by omega)
    exact ⟨HM8.out.1.lp,HM8.out.2.trans (EX.put _ _ _ _),_,rfl,rfl,h9 _⟩
  rintro e W' (⟨he,h1,h2,h3⟩ | ⟨he,c,h1,h2⟩)
  ·exact ⟨HEQ.out W' h1,.inl ⟨he,by rw [HLEN.out];exact h2,by rw [HLEN.out];exact h3⟩⟩
  ·exact ⟨HEQ.out W' h1,.inr ⟨he,h2⟩⟩
 have hgo:=HSQ.out.go (fun b=>b=bk) (fun o W=>NS wc bk (bk+1+1) (bk+1) (bk+1) R o.length W/\o.length < K) (NJ wc bk (bk+1+1) (bk+1) (bk+1) 0 mo) (bk+1+1) 6 7 X q0.be (fun b hz=>by omega) (fun b hb hz=>by have:=zap q0.bx;omega) ⟨fun o W W' h hb=>⟨h.1.below hb,h.2⟩,fun W W' h hb=>by
   obtain ⟨r,h1,h2,h3⟩:=h;exact ⟨r,h1,h2,h3.below hb⟩⟩ HY ⟨q0,HKM.out.2.2.1⟩
 refine hgo.mono ?_;rintro e Wi ⟨hv,hq⟩;refine ⟨hv,?_⟩;have COM:∃ r:Loop,r.state≠.busy/\(r.pending=none∨r.pending=some (.exit 0))/\NS wc bk (bk+1+1) (bk+1) (bk+1) r mo Wi:=by
  rcases hq with ⟨hq,hlt⟩ | ⟨r,h1,h2,h3⟩
  ·exact ⟨R,(fun e=>by rw [rs1] at e;cases e),.inl rp1,by rw [show mo=A.length by have:=HMO.out;omega];exact hq⟩
  ·exact ⟨r,(fun e=>by rw [h1] at e;cases e),.inr h2,h3⟩
 obtain ⟨r2,hr2,hr3,HC⟩:=COM;refine ⟨r2,HC.lp,hr2,hr3,?_⟩;have vm:=HC.loop { r2 with state:=.exhausted } (by omega);obtain ⟨Va,hVa⟩:∃ Vi,Wi.putObj (bk+1+1) (.loop { r2 with state:=.exhausted })=Vi:=⟨_,rfl⟩;rw [hVa] at vm ⊢;obtain ⟨Vb,hVb⟩:=ex (Va.setCell ⟨bk,0,none⟩ (.int .i64 0));have HVB:Hid (Vb.heap[bk]?=some (.cells #[.int .i64 ((0:Nat):Int)] 3 (0,0))/\Vb.heap[bk+1]?=some (.deferred (some []))/\Below wc.heap.size wc Vb):=by
  have h9:=vm.set (by omega) 0;rw [show Va.setCell ⟨bk,0,none⟩ (.int .i64 ((0:Nat):Int))=Vb from hVb] at h9;exact ⟨h9.bx,h9.df,h9.be⟩
 obtain ⟨c4,f4⟩:=zaf vm.bx;have c5:=(zaf (HBE.out Va vm.be).o).1 0;have cqb:=(zaf (HBE.out Vb HVB.out.2.2).f).1 0;have e24:((mo:Int) != (mo:Int))=false:=by simp
 clear hVa vm hr2 hr3 HC HY q0 hq hgo hR1 rs1 rp1 rf1 rq1 hv
 gi_wp2_with fail
 clear cqb c4 f4 c5 e24 hVb;obtain ⟨z,hz⟩:=ex Vb.heap.size;have hzb:bk+1 < z:=by rw [<-hz];exact zap HVB.out.2.1
 refine zjn (id:=4) rfl (by omega) (gf:=gf) (lb:=lb) rfl trivial HSQ.out.en (fun _ _ h=>wpIn_exit h) ?_;intro fn3 hfn3;simp only [hz];generalize hR3:zb7 fn3 _ _ _ _ _=R3;have rs3:R3.state=.ready:=by rw [<-hR3];rfl
 have rp3:R3.pending=none:=by rw [<-hR3];rfl
 have rf3:R3.fn=fn3:=by rw [<-hR3];rfl
 have rq3:R3.params=#[90]:=by rw [<-hR3];rfl
 obtain ⟨X3,hX3⟩:=ex ((Vb.alloc (.deferred (some []))).alloc (.loop R3));have q3:NS wc bk (z+1) (bk+1) z R3 0 X3:=by
  have k0:=zaa Vb (.deferred (some []));have k1:=zaa (Vb.alloc (.deferred (some []))) (.loop R3);simp only [World.size_alloc,hz] at k0 k1;have b:=zah (zah (Below.refl Vb.heap.size Vb) (.deferred (some []))) (.loop R3);rw [<-hX3];exact ⟨zae b HVB.out.1,k1,zae b HVB.out.2.1,zae (zah (Below.refl _ _) _) k0,zac HVB.out.2.2 b⟩
 rw [hX3];clear hX3 HVB;have HY3:YLW (fun b=>b=bk) A (fun o W=>NS wc bk (z+1) (bk+1) z R3 o.length W/\o.length < K) (NJ wc bk (z+1) (bk+1) z 4 mo) (z+1) 6:=by
  intro o W x v hj hx hpa;obtain ⟨hj,hlt⟩:=hj;obtain ⟨hkm,g,ofs,p1,c1,f1,d1,rfl,hrow⟩:=HPO.out.at' o x hpa hlt;have hpl:=zk2 hpa;have hxs:=zk1 (show x∈zie n (p,h) hops by rw [HA.out];obtain ⟨tt,rfl⟩:=hpa;simp);obtain ⟨kk,hkk⟩:=ex o.length;have hlen:(o++[x]).length=kk+1:=by rw [List.length_append,hkk,List.length_singleton]
  rw [hkk] at hj hlt hkm hrow hpl;obtain ⟨n1,hn1⟩:=ex x.ps.length;obtain ⟨n2,hn2⟩:=ex x.es.length;obtain ⟨t,ht⟩:=ex x.hd;rw [hn1,hn2,ht] at hrow;obtain ⟨u1,e1,u2,e2⟩:=v;have e9:(paC (x,(⟨u1,e1,u2,e2⟩:PV))).toArray=#[.slice u1 n1 e1,.slice u2 n2 e2,.string ⟨t.toArray⟩]:=by
   show #[Value.slice u1 x.ps.length e1,.slice u2 x.es.length e2,.string ⟨x.hd.toArray⟩]=_;rw [hn1,hn2,ht]
  rw [e9];obtain ⟨W1,hW1⟩:=ex (W.alloc (.cells #[.slice u1 n1 e1,.slice u2 n2 e2,.string ⟨t.toArray⟩] 37 (0,0)));have hB1:Below W.heap.size W W1:=by rw [<-hW1];exact zah (Below.refl _ _) _
  have hg1:W1.heap[W.heap.size]?=some (.cells #[.slice u1 n1 e1,.slice u2 n2 e2,.string ⟨t.toArray⟩] 37 (0,0)):=by rw [<-hW1];exact zaa _ _
  have hj1:=hj.below hB1;have hbx:=hj.bx;have hlp:=hj.lp;have hlp1:=hj1.lp;have HJ0:Hid (NS wc bk (z+1) (bk+1) z R3 kk W1/\PL W (x,⟨u1,e1,u2,e2⟩)/\Below W.heap.size W W1/\W1.heap[W.heap.size]?=some (.cells #[.slice u1 n1 e1,.slice u2 n2 e2,.string ⟨t.toArray⟩] 37 (0,0))/\x.ps.length=n1/\x.es.length=n2/\x.hd=t/\n1<=1000/\n2<=1000/\kk < K/\kk+1<=A.length/\kk < mo/\(z+1) < W.heap.size/\bk < W.heap.size/\bk≠(z+1)):=⟨hj1,hx,hB1,hg1,hn1,hn2,ht,by omega,by omega,hlt,hpl,hkm,zap hlp,zap hbx,fun e=>by rw [e,hlp] at hbx;cases hbx⟩;have HEQ:Hid (∀ W',EX bk (z+1) W W'->KQX (fun b=>b=bk) KTY W W'/\W.heap.size<=W'.heap.size):=fun W' h=>h.kqx hlp hbx;have HROW:=zab hrow;have HLEN:=zab hlen;clear hj hx hpa hj1 hB1 hg1 hn1 hn2 ht e9 hlt hpl hkm hbx hrow hxs hlen hkk q3;refine (zgi (F:=Fence.wide) (m:=6) (In:=fun W'=>EX bk (z+1) W W'/\NS wc bk (z+1) (bk+1) z R3 (kk+1) W'/\kk+1 < K) (Out:=fun _ W'=>EX bk (z+1) W W'/\NJ wc bk (z+1) (bk+1) z 4 mo W') (by rw [rf3];exact hfn3) hlp rs3 rp3 (by rw [rq3];rfl) ?aHY3 W1 hlp1 ?hasHY3 ?hbHY3).mono ?_
  case hasHY3=>
   intro K hK;rw [congrArg Loop.assign hR3.symm,rq3,congrArg Loop.tmps hR3.symm];simp only [zb7,List.zip_toArray,List.zip_cons_cons,List.zip_nil_right,List.foldl_toArray',List.foldl_cons,List.foldl_nil,List.setIfInBounds_toArray,List.size_toArray,List.length_cons,List.length_nil,List.set_cons_zero,List.set_cons_succ]
   gi_wp2
   exact hK
  case hbHY3=>
   obtain ⟨hj1,hx,hB1,hg1,hn1,hn2,ht,i1,i2,i3,i4,i5,i6,i7,i8⟩:=HJ0.out;have qb:=hj1.loop { R3 with state:=.busy } (by omega);have hgb:(W1.putObj (z+1) (.loop { R3 with state:=.busy })).heap[W.heap.size]?=some (.cells #[.slice u1 n1 e1,.slice u2 n2 e2,.string ⟨t.toArray⟩] 37 (0,0)):=zbc hg1 (by omega);have hex:EX bk (z+1) W (W1.putObj (z+1) (.loop { R3 with state:=.busy })):=(EX.below _ _ hB1).trans (EX.put _ _ _ _);obtain ⟨V,hV⟩:∃ V,W1.putObj (z+1) (.loop { R3 with state:=.busy })=V:=⟨_,rfl⟩;rw [hV] at qb hgb hex ⊢;rw [congrArg Loop.body hR3.symm];simp only [zb7];obtain ⟨rb,hrb⟩:=ex W.heap.size;rw [hrb] at hgb;have hxV:PL V (x,⟨u1,e1,u2,e2⟩):=hx.kp (zqv ((KQ.below hB1).trans (by rw [<-hV];exact zli hlp1 _)));have HV:Hid (NS wc bk (z+1) (bk+1) z { R3 with state:=.busy } kk V/\EX bk (z+1) W V):=⟨qb,hex⟩;have HK:Hid (∀ U,Below V.heap.size V U->U.cell? ⟨bk,0,none⟩=some (.int .i64 (kk:Int))/\U.cell? ⟨bo,0,none⟩=some (.slice (some ⟨g,ofs,none⟩) mo co)/\(∀ j,U.cell? ⟨rb,j,none⟩=(#[.slice u1 n1 e1,.slice u2 n2 e2,.string ⟨t.toArray⟩]:Array Value)[j]?)/\U.cell? ⟨g,ofs+kk*3,none⟩=some (.slice p1 n1 c1)/\U.cell? ⟨g,ofs+kk*3+1,none⟩=some (.slice f1 n2 d1)/\U.cell? ⟨g,ofs+kk*3+2,none⟩=some (.string ⟨t.toArray⟩)):=fun U hU=>by
    have hw:Below wc.heap.size wc U:=zac qb.be hU;obtain ⟨⟨y1,y2,y3⟩,-,-⟩:=HROW.out U hw;exact ⟨(zaf (zae hU qb.bx)).1 0,(zaf (HBE.out U hw).o).1 0,(zaf (zae hU hgb)).1,y1,y2,y3⟩
   have HPA:Hid (∀ U,Below V.heap.size V U->Calls Tryz.prog 10 #[.agg #[.slice u1 n1 e1,.slice u2 n2 e2,.string ⟨t.toArray⟩],.agg #[.slice p1 n1 c1,.slice f1 n2 d1,.string ⟨t.toArray⟩]] U fun e w'=>e=.returned (.bool true)/\Below U.heap.size U w'):=fun U hU=>by
    have hw:Below wc.heap.size wc U:=zac qb.be hU;obtain ⟨-,l1,l2⟩:=HROW.out U hw;exact zgr x.ps x.es t u1 p1 u2 f1 n1 n2 e1 c1 e2 d1 U hn1 hn2 (hxV.1.2.1.below hU) l1 (hxV.2.1.2.1.below hU) l2 ⟨by omega,by omega⟩
   have HN:Hid (kk < K/\kk+1<=A.length/\kk < mo/\(z+1) < W.heap.size/\bk < W.heap.size/\bk≠(z+1)):=⟨i3,i4,i5,i6,i7,i8⟩;have j0:(0:Int)<=(kk:Int):=by omega
   have j1:(kk:Int) < (mo:Int):=by omega
   have j3:kk < mo:=i5;have j2:¬(kk:Int) ≥ (mo:Int):=by omega
   clear hx hj1 hB1 hg1 hn1 hn2 ht i1 i2 i3 i4 i5 i6 i7 i8 hV hW1 qb hgb hex hxV hlp hlp1;rw [hrb]
   gi_wp2_with fail
   refine zgl (C:=fun U=>Below V.heap.size V U) (by kernel_rfl) (by kernel_rfl) (by kernel_rfl) (show Below _ _ _ from (Below.refl _ _).drew) ?_
   go_big_quiet_want
   refine ⟨.int .i64 (kk:Int),fun W hW=>?_,?_⟩
   ·obtain ⟨s1,s2,s3,s4,s5,s6⟩:=HK.out W hW
    go_simp
   go_big_quiet_on
   simp only [Act.put,List.setIfInBounds_toArray,List.set_cons_zero,List.set_cons_succ]
   go_big_quiet_want
   refine ⟨.slice (some ⟨g,ofs,none⟩) mo co,fun W hW=>?_,?_⟩
   ·obtain ⟨s1,s2,s3,s4,s5,s6⟩:=HK.out W hW
    go_simp
   go_big_quiet_on
   simp only [Act.put,List.setIfInBounds_toArray,List.set_cons_zero,List.set_cons_succ]
   go_big_quiet_want
   refine ⟨.int .i64 (mo:Int),fun W hW=>?_,?_⟩
   ·go_simp
   go_big_quiet_on
   simp only [Act.put,List.setIfInBounds_toArray,List.set_cons_zero,List.set_cons_succ]
   go_big_quiet_want
   refine ⟨.bool false,fun W hW=>?_,?_⟩
   ·go_simp
   go_big_quiet_on
   simp only [Act.put,List.setIfInBounds_toArray,List.set_cons_zero,List.set_cons_succ]
   go_big_quiet_want
   go_big_quiet_op
   go_big_quiet_on
   go_big_quiet_want
   refine ⟨.agg #[.slice u1 n1 e1,.slice u2 n2 e2,.string ⟨t.toArray⟩],fun W hW=>?_,?_⟩
   ·obtain ⟨s1,s2,s3,s4,s5,s6⟩:=HK.out W hW
    go_simp
   go_big_quiet_on
   simp only [Act.put,List.setIfInBounds_toArray,List.set_cons_zero,List.set_cons_succ]
   go_big_quiet_want
   refine ⟨.slice (some ⟨g,ofs,none⟩) mo co,fun W hW=>?_,?_⟩
   ·obtain ⟨s1,s2,s3,s4,s5,s6⟩:=HK.out W hW
    go_simp
   go_big_quiet_on
   simp only [Act.put,List.setIfInBounds_toArray,List.set_cons_zero,List.set_cons_succ]
   go_big_quiet_want
   refine ⟨.int .i64 (kk:Int),fun W hW=>?_,?_⟩
   ·obtain ⟨s1,s2,s3,s4,s5,s6⟩:=HK.out W hW
    go_simp
   go_big_quiet_on
   simp only [Act.put,List.setIfInBounds_toArray,List.set_cons_zero,List.set_cons_succ]
   go_big_quiet_want
   refine ⟨.pointer (some ⟨g,ofs+kk*3,none⟩),fun W hW=>?_,?_⟩
   ·go_simp
   go_big_quiet_on
   simp only [Act.put,List.setIfInBounds_toArray,List.set_cons_zero,List.set_cons_succ]
   go_big_quiet_want
   refine ⟨.agg #[.slice p1 n1 c1,.slice f1 n2 d1,.string ⟨t.toArray⟩],fun W hW=>?_,?_⟩
   ·obtain ⟨s1,s2,s3,s4,s5,s6⟩:=HK.out W hW
    go_simp
   go_big_quiet_on
   simp only [Act.put,List.setIfInBounds_toArray,List.set_cons_zero,List.set_cons_succ]
   go_big_quiet_want
   refine ⟨.bool true,fun W hW=>?_,?_⟩
   ·go_simp
    refine (HPA.out W hW).mono ?_;rintro e w7 ⟨rfl,hb⟩;exact ⟨rfl,zac hW hb⟩
   go_big_quiet_on
   simp only [Act.put,List.setIfInBounds_toArray,List.set_cons_zero,List.set_cons_succ]
   go_big_quiet_want
   refine ⟨.bool false,fun W hW=>?_,?_⟩
   ·go_simp
   go_big_quiet_on
   simp only [Act.put,List.setIfInBounds_toArray,List.set_cons_zero,List.set_cons_succ]
   go_big_quiet_want
   refine ⟨.bool false,fun W hW=>?_,?_⟩
   ·go_simp
   go_big_quiet_on
   simp only [Act.put,List.setIfInBounds_toArray,List.set_cons_zero,List.set_cons_succ];refine wpQuiet_nil ?_;intro W5 hW5;have HM5:Hid (NS wc bk (z+1) (bk+1) z { R3 with state:=.busy } kk W5/\EX bk (z+1) W W5):=⟨HV.out.1.below hW5,HV.out.2.trans (EX.below _ _ hW5)⟩;clear hW5 HK HV HPA j2 HJ0;obtain ⟨k1,hk1⟩:∃ k1:Nat,kk+1=k1:=⟨_,rfl⟩;have HK1:=zab hk1;have i3:(kk:Int)+1=(k1:Int):=by omega
   have i4:IntKind.i64.wrap (k1:Int)=(k1:Int):=by rw [IntKind.wrap_i64];have:=HN.out.1;have:=HKM.out;omega
   clear hk1;obtain ⟨c7,f7⟩:=zaf HM5.out.1.bx;obtain ⟨W8,hW8⟩:=ex (W5.setCell ⟨bk,0,none⟩ (.int .i64 (k1:Int)));have HM8:Hid (NS wc bk (z+1) (bk+1) z { R3 with state:=.busy } k1 W8/\EX bk (z+1) W W8):=by
    rw [<-hW8];exact ⟨HM5.out.1.set (by omega) k1,HM5.out.2.trans (EX.set _ _ _ _)⟩
   have c8:=(zaf HM8.out.1.bx).1 0;have c11:=(zaf (HBE.out W8 HM8.out.1.be).k).1 0;obtain ⟨tb,h9⟩:=ex (((k1:Int)==(K:Int)));have H9:Hid ((tb=true->(k1:Int)=(K:Int))/\(tb=false->¬(k1:Int)=(K:Int))):=⟨fun h=>by rw [h] at h9;simpa using h9,fun h=>by rw [h] at h9;simpa using h9⟩;cases tb
   ·gi_wp2_with fail
    refine ⟨HM8.out.1.lp,HM8.out.2.trans (EX.put _ _ _ _),?_⟩;rw [HK1.out];exact ⟨HM8.out.1.loop R3 (by omega),by have:=HN.out.1;have:=HK1.out;have:=H9.out.2 (by simp);omega⟩
   ·gi_wp2_with fail
    have hmo:k1=mo:=by have:=HMO.out;have:=HN.out;have:=HK1.out;have:=H9.out.1 (by simp);omega
    have h9:∀ r:Loop,NS wc bk (z+1) (bk+1) z r mo (W8.putObj (z+1) (.loop r)):=fun r=>by
     rw [<-hmo];exact HM8.out.1.loop r (by omega)
    exact ⟨HM8.out.1.lp,HM8.out.2.trans (EX.put _ _ _ _),_,rfl,rfl,h9 _⟩
  rintro e W' (⟨he,h1,h2,h3⟩ | ⟨he,c,h1,h2⟩)
  ·exact ⟨HEQ.out W' h1,.inl ⟨he,by rw [HLEN.out];exact h2,by rw [HLEN.out];exact h3⟩⟩
  ·exact ⟨HEQ.out W' h1,.inr ⟨he,h2⟩⟩
 have hgo:=HSQ.out.go (fun b=>b=bk) (fun o W=>NS wc bk (z+1) (bk+1) z R3 o.length W/\o.length < K) (NJ wc bk (z+1) (bk+1) z 4 mo) (z+1) 6 7 X3 q3.be (fun b hz=>by omega) (fun b hb hz=>by have:=zap q3.bx;omega) ⟨fun o W W' h hb=>⟨h.1.below hb,h.2⟩,fun W W' h hb=>by
   obtain ⟨r,h1,h2,h3⟩:=h;exact ⟨r,h1,h2,h3.below hb⟩⟩ HY3 ⟨q3,HKM.out.2.2.1⟩
 refine hgo.mono ?_;rintro e Wi ⟨hv,hq⟩;refine ⟨hv,?_⟩;have COM:∃ r:Loop,r.state≠.busy/\(r.pending=none∨r.pending=some (.exit 4))/\NS wc bk (z+1) (bk+1) z r mo Wi:=by
  rcases hq with ⟨hq,hlt⟩ | ⟨r,h1,h2,h3⟩
  ·exact ⟨R3,(fun e=>by rw [rs3] at e;cases e),.inl rp3,by rw [show mo=A.length by have:=HMO.out;omega];exact hq⟩
  ·exact ⟨r,(fun e=>by rw [h1] at e;cases e),.inr h2,h3⟩
 obtain ⟨r2,hr2,hr3,HC⟩:=COM;refine ⟨r2,HC.lp,hr2,hr3,?_⟩;have vm:=HC.loop { r2 with state:=.exhausted } (by omega);obtain ⟨Vc,hVc⟩:∃ Vi,Wi.putObj (z+1) (.loop { r2 with state:=.exhausted })=Vi:=⟨_,rfl⟩;rw [hVc] at vm ⊢;have HVC:=zab vm;have c4:=(zaf vm.bx).1 0;have c5:=(zaf (HBE.out Vc vm.be).o).1 0;have enn:((mo:Int)==(mo:Int))=true:=by simp
 have HK9:=zab (HKN.out Vc (zac HWC.out vm.be));clear hVc vm hr2 hr3 HC HY3 q3 hq hgo hR3 rs3 rp3 rf3 rq3 hv
 gi_wp2_with fail
 refine ⟨trivial,(callsIn_wide.2 HK9.out).mono ?_⟩;rintro e Wd ⟨rfl,bd⟩;have HVD:=zab (HVC.out.below bd);clear bd HK9 c4 c5 enn HVC;obtain ⟨d6,d7⟩:=zaf (HBE.out Wd HVD.out.be).r
 gi_wp2_with fail
 obtain ⟨s1,-⟩:=HSB.out;have kR:=(HBE.out Wd HVD.out.be).r;have kD2:(Wd.setCell ⟨S+1+1+1+1,0,none⟩ (.bool true)).heap[z]?=some (.deferred (some [])):=(Below.heap_setCell _ _ _ _ (by show z≠S+1+1+1+1;omega)).trans HVD.out.d1;have kD1:((Wd.setCell ⟨S+1+1+1+1,0,none⟩ (.bool true)).putObj z (.deferred none)).heap[bk+1]?=some (.deferred (some [])):=zbc ((Below.heap_setCell _ _ _ _ (by show bk+1≠S+1+1+1+1;omega)).trans HVD.out.df) (by omega);have kR':(((Wd.setCell ⟨S+1+1+1+1,0,none⟩ (.bool true)).putObj z (.deferred none)).putObj (bk+1) (.deferred none)).heap[S+1+1+1+1]?=some (.cells #[.bool true] 4 (0,0)):=zbc (zbc (by rw [zag _ kR];rfl) (by omega)) (by omega);refine ⟨by simp,.inl ⟨_,_,rfl,run_takeDeferred kD2,?_⟩⟩;refine ⟨by simp,.inl ⟨_,_,rfl,run_takeDeferred kD1,?_⟩⟩;refine ⟨_,zpu _ _ (S+1+1+1+1) true rfl rfl kR',rfl,?_⟩;have b0:Below w.heap.size w Wd:=zac HWC.out HVD.out.be;have b1:=b0.setCell (p:=⟨S+1+1+1+1,0,none⟩) (by show w.heap.size<=S+1+1+1+1;omega) (.bool true);have b2:=b1.grown (grownBy_putObj' _ z (.deferred none)) b1.size (fun x e=>by cases e;omega);exact b2.grown (grownBy_putObj' _ (bk+1) (.deferred none)) b2.size (fun x e=>by cases e;omega)
end Go.Proofs.YtmfakcfmkmppfaaGreatDoor.Nt
