import Derived.Test.YtmfakcfmkmppfaaGreatDoorVBC
namespace Go.Proofs.YtmfakcfmkmppfaaGreatDoor.Nt
open Go.RowKit Go.Shelf
set_option maxRecDepth 100000 in
set_option maxHeartbeats 16000000 in
theorem zje {Z:Nat->Prop} {A:List WY} {J:List WY->World->Prop} {Jx:World->Prop} {l m:Nat} (hJ:JW J Jx) (hY:YLW Z A J Jx l m) (n:NN) (v:NV) (np nt ng:Nat) (hops:Int) (sub:WY->List WY) (y:WY×WV) (o:List WY) (w:World) (hV:NetP n) (hh:hops<=64) (hnp:n.ports.length=np) (hnt:n.tabs.length=nt) (hng:n.grds.length=ng)
  (hsub:∀ (x:WY×WV) (o9:List WY) (U:World),x.1∈zes n hops (zcx n y.1)->J o9 U->NKX Z U n v->WL U x->AWY Z x.2->w.heap.size<=U.heap.size->(o9++sub x.1) <+: A->Calls Tryz.prog 31 #[.agg #[.slice v.pp np v.cp,.slice v.pt nt v.ct,.slice v.pg ng v.cg],.agg (wyC x).toArray,.int .i64 hops,.func (.yield l) #[] #[]] U (WKQ Z J Jx o9 (sub x.1) U))
  (hj:J o w) (hW:NKX Z w n v) (hWY:WYP n hops 0 y.1) (hL:WL w y) (hLa:AWY Z y.2) (hZ:∀ b,w.heap.size<=b->¬Z b) (hA:(o++(if (zes n hops (zcx n y.1)).length=0 then [zcx n y.1] else (zes n hops (zcx n y.1)).flatMap sub)) <+: A) :
  Calls Tryz.prog 31 #[.agg #[.slice v.pp np v.cp,.slice v.pt nt v.ct,.slice v.pg ng v.cg],.agg (wyC y).toArray,.int .i64 hops,.func (.yield l) #[] #[]] w (WKQ Z J Jx o (if (zes n hops (zcx n y.1)).length=0 then [zcx n y.1] else (zes n hops (zcx n y.1)).flatMap sub) w):=by
 obtain ⟨E,hE⟩:=ex (zcx n y.1);obtain ⟨X,hX⟩:=ex (zes n hops (zcx n y.1));obtain ⟨N,hN⟩:=ex X.length;obtain ⟨hE1,-,hEh⟩:=zc9 hV hWY;rw [hX] at hsub hA ⊢;rw [hE] at hA hE1 ⊢;rw [hN] at hA ⊢;have hXE:zes n hops E=X:=by rw [<-hE];exact hX
 obtain ⟨Rz,hRz⟩:=ex ((if N=0 then [E] else X.flatMap sub))
 rw [hRz] at hA ⊢;have hNB:N<=100000:=by
  have hS:=hE1.st;have h4:=(zg5 hV hS.1 hS.2.1 hS.2.2).1;rw [<-hN,<-hXE];unfold zes
  split
  ·rw [List.length_map];omega
  ·simp
 obtain ⟨k0,hk0,hk1,hke⟩:=stg_last n y.1;rw [hE] at hke;have hEg:Tn.good E.hd=true:=zci (zd0 hE1.2.2.1) hV.bits.2;have hst:=fun (U:World) (hU:KQX Z KTY w U)=>zno n v np nt ng y hops U ((hW.kx (zlh hU)).nw) hV ⟨hWY.1,hWY.2.1,hWY.2.2.1,hWY.2.2.2.1,by have:=hWY.2.2.2.2.1;omega,hWY.2.2.2.2.2⟩ (hL.kx hLa hU) hh hnp;have hon:=fun (ev:WV) (U:World) (hU:KQX Z KTY w U) (hl:WL U (E,ev))=>zn3 n v np nt ng (E,ev) hops U ((hW.kx (zlh hU)).nw) hV hE1 hl hh hnp hnt hng;have hpa:=fun (ev:WV) (U:World) (hl:WL U (E,ev))=>path_any (E,ev) U hl (by have:=hE1.2.2.2.1;have:=hE1.2.2.2.2.1;show E.ps.length<=500;omega) (by have:=hE1.2.2.2.1;show E.es.length<=500;omega) hEg;obtain ⟨⟨ps,es,hd⟩,⟨yp,yc,ye,yd⟩⟩:=y;obtain ⟨pp,cp,pt,ct,pg,cg⟩:=v;simp only at hW hWY hL hLa hsub hst hon hX hE hk0 hEh ⊢;obtain ⟨a0,a1,a2,a3,a4,a5,a6,a7,a8,h9⟩:=zbz hd;obtain ⟨mp,hmp⟩:=ex ps.length;obtain ⟨me,hme⟩:=ex es.length;rw [za9 h9 hmp hme] at hst ⊢;have h9E:C9 E.hd a0 a1 a2 a3 a4 a5 a6 a7 a8:=by rw [<-hE,hEh];exact h9
 obtain ⟨b,hb⟩:=ex w.heap.size;obtain ⟨b2,hb2⟩:=ex (w.heap.size+1);obtain ⟨W1,hW1⟩:=ex ((w.alloc (.cells #[.slice pp np cp,.slice pt nt ct,.slice pg ng cg] 64)).alloc (.cells #[.slice yp mp yc,.slice ye me yd,.int .i64 a0,.int .u64 a1,.int .u64 a2,.int .u64 a3,.int .u64 a4,.int .u64 a5,.int .u64 a6,.int .u64 a7,.int .u64 a8] 72));have hz1:(w.alloc (.cells #[.slice pp np cp,.slice pt nt ct,.slice pg ng cg] 64)).heap.size=w.heap.size+1:=Array.size_push _;have b1:Below w.heap.size w W1:=by rw [<-hW1];exact zah (zah (Below.refl _ _) _) _
 have kb:W1.heap[b]?=some (.cells #[.slice pp np cp,.slice pt nt ct,.slice pg ng cg] 64 (0,0)):=by rw [<-hW1,<-hb];exact zae (zah (Below.refl _ _) _) (zaa _ _)
 have kb2:W1.heap[b2]?=some (.cells #[.slice yp mp yc,.slice ye me yd,.int .i64 a0,.int .u64 a1,.int .u64 a2,.int .u64 a3,.int .u64 a4,.int .u64 a5,.int .u64 a6,.int .u64 a7,.int .u64 a8] 72 (0,0)):=by rw [<-hW1,<-hb2,<-hz1];exact zaa _ _
 have HN9:Hid (∀ U,Below W1.heap.size W1 U->(U.cell? ⟨b,0,none⟩=some (.slice pp np cp)/\U.cell? ⟨b,1,none⟩=some (.slice pt nt ct)/\U.cell? ⟨b,2,none⟩=some (.slice pg ng cg))/\(U.cell? ⟨b2,0,none⟩=some (.slice yp mp yc)/\U.cell? ⟨b2,1,none⟩=some (.slice ye me yd)/\U.cell? ⟨b2,2,none⟩=some (.int .i64 a0)/\U.cell? ⟨b2,3,none⟩=some (.int .u64 a1)/\U.cell? ⟨b2,4,none⟩=some (.int .u64 a2)/\U.cell? ⟨b2,5,none⟩=some (.int .u64 a3)/\U.cell? ⟨b2,6,none⟩=some (.int .u64 a4)/\U.cell? ⟨b2,7,none⟩=some (.int .u64 a5)/\U.cell? ⟨b2,8,none⟩=some (.int .u64 a6)/\U.cell? ⟨b2,9,none⟩=some (.int .u64 a7)/\U.cell? ⟨b2,10,none⟩=some (.int .u64 a8))/\U.heap[b2]?=some (.cells #[.slice yp mp yc,.slice ye me yd,.int .i64 a0,.int .u64 a1,.int .u64 a2,.int .u64 a3,.int .u64 a4,.int .u64 a5,.int .u64 a6,.int .u64 a7,.int .u64 a8] 72 (0,0))/\U.heap[b]?=some (.cells #[.slice pp np cp,.slice pt nt ct,.slice pg ng cg] 64 (0,0))):=fun U hU=>by
  have e1:=(zaf (zae hU kb)).1;have e2:=(zaf (zae hU kb2)).1;exact ⟨⟨by rw [e1];rfl,by rw [e1];rfl,by rw [e1];rfl⟩,⟨by rw [e2];rfl,by rw [e2];rfl,by rw [e2];rfl,by rw [e2];rfl,by rw [e2];rfl,by rw [e2];rfl,by rw [e2];rfl,by rw [e2];rfl,by rw [e2];rfl,by rw [e2];rfl,by rw [e2];rfl⟩,zae hU kb2,zae hU kb⟩
 have HST:Hid (∀ U,Below W1.heap.size W1 U->Calls Tryz.prog 59 #[.agg #[.slice pp np cp,.slice pt nt ct,.slice pg ng cg],.agg #[.slice yp mp yc,.slice ye me yd,.int .i64 a0,.int .u64 a1,.int .u64 a2,.int .u64 a3,.int .u64 a4,.int .u64 a5,.int .u64 a6,.int .u64 a7,.int .u64 a8]] U (ONQ (fun v=>v=⟨yp,yc,ye,yd⟩∨FRW U v) (stgM n ⟨ps,es,hd⟩) U)):=fun U hU=>hst U (KQX.below (zac b1 hU));have HON:Hid (∀ (ep ee:Option Addr) (ec ed en em:Nat) (U:World),E.ps.length=en->E.es.length=em->KQX Z KTY w U->WL U (E,⟨ep,ec,ee,ed⟩)->Calls Tryz.prog 60 #[.agg #[.slice pp np cp,.slice pt nt ct,.slice pg ng cg],.agg #[.slice ep en ec,.slice ee em ed,.int .i64 a0,.int .u64 a1,.int .u64 a2,.int .u64 a3,.int .u64 a4,.int .u64 a5,.int .u64 a6,.int .u64 a7,.int .u64 a8],.int .i64 hops] U (ONQ (FRW U) X U)):=fun ep ee ec ed en em U h1 h2 hU hl=>by
  have h:=hon ⟨ep,ec,ee,ed⟩ U hU hl;have e9:(wyC (E,(⟨ep,ec,ee,ed⟩:WV))).toArray=#[.slice ep en ec,.slice ee em ed,.int .i64 a0,.int .u64 a1,.int .u64 a2,.int .u64 a3,.int .u64 a4,.int .u64 a5,.int .u64 a6,.int .u64 a7,.int .u64 a8]:=za9 (ps:=E.ps) (es:=E.es) (hd:=E.hd) h9E h1 h2;rw [e9,hXE] at h;exact h
 have HPA:Hid (∀ (ep ee:Option Addr) (ec ed en em:Nat) (U:World),E.ps.length=en->E.es.length=em->WL U (E,⟨ep,ec,ee,ed⟩)->Calls Tryz.prog 61 #[.agg #[.slice ep en ec,.slice ee em ed,.int .i64 a0,.int .u64 a1,.int .u64 a2,.int .u64 a3,.int .u64 a4,.int .u64 a5,.int .u64 a6,.int .u64 a7,.int .u64 a8]] U fun e w'=>∃ p1 c1 p2 c2,e=.returned (.agg #[.slice p1 en c1,.slice p2 em c2,.string ⟨E.hd.toArray⟩])/\PL w' (E,⟨p1,c1,p2,c2⟩)/\Below U.heap.size U w'):=fun ep ee ec ed en em U h1 h2 hl=>by
  have h:=hpa ⟨ep,ec,ee,ed⟩ U hl;have e9:(wyC (E,(⟨ep,ec,ee,ed⟩:WV))).toArray=#[.slice ep en ec,.slice ee em ed,.int .i64 a0,.int .u64 a1,.int .u64 a2,.int .u64 a3,.int .u64 a4,.int .u64 a5,.int .u64 a6,.int .u64 a7,.int .u64 a8]:=za9 (ps:=E.ps) (es:=E.es) (hd:=E.hd) h9E h1 h2;rw [e9] at h;refine h.mono ?_;rintro e w' ⟨⟨p1,c1,p2,c2⟩,he,hl9,hb9⟩;refine ⟨p1,c1,p2,c2,?_,hl9,hb9⟩;rw [he];show Ending.returned (.agg #[.slice p1 E.ps.length c1,.slice p2 E.es.length c2,.string ⟨E.hd.toArray⟩])=_;rw [h1,h2]
 have HYE:Hid (∀ (p1 p2:Option Addr) (c1 c2 en em:Nat) (o9:List WY) (U:World),E.ps.length=en->E.es.length=em->J o9 U->PL U (E,⟨p1,c1,p2,c2⟩)->(o9++[E]) <+: A->YieldAt Fence.wide m Tryz.prog l #[.agg #[.slice p1 en c1,.slice p2 em c2,.string ⟨E.hd.toArray⟩]] U fun e W'=>(KQX Z KTY U W'/\U.heap.size<=W'.heap.size)/\((e=.returned (.bool true)/\J (o9++[E]) W')∨(e=.returned (.bool false)/\Jx W'))):=fun p1 p2 c1 c2 en em o9 U h1 h2 hj9 hl hp=>by
  have h:=hY o9 U E ⟨p1,c1,p2,c2⟩ hj9 hl hp;rw [show (paC (E,(⟨p1,c1,p2,c2⟩:PV))).toArray=#[.slice p1 en c1,.slice p2 em c2,.string ⟨E.hd.toArray⟩] by show #[Value.slice p1 E.ps.length c1,.slice p2 E.es.length c2,.string ⟨E.hd.toArray⟩]=_;rw [h1,h2]] at h;exact h
 have HSU:Hid (∀ (x:WY) (xp xe:Option Addr) (xc xd xn xm:Nat) (d0 d1 d2 d3 d4 d5 d6 d7 d8:Int) (o9:List WY) (U:World),x∈X->x.ps.length=xn->x.es.length=xm->C9 x.hd d0 d1 d2 d3 d4 d5 d6 d7 d8->J o9 U->KQX Z KTY w U->WL U (x,⟨xp,xc,xe,xd⟩)->AWY Z ⟨xp,xc,xe,xd⟩->w.heap.size<=U.heap.size->(o9++sub x) <+: A->Calls Tryz.prog 31 #[.agg #[.slice pp np cp,.slice pt nt ct,.slice pg ng cg],.agg #[.slice xp xn xc,.slice xe xm xd,.int .i64 d0,.int .u64 d1,.int .u64 d2,.int .u64 d3,.int .u64 d4,.int .u64 d5,.int .u64 d6,.int .u64 d7,.int .u64 d8],.int .i64 hops,.func (.yield l) #[] #[]] U (WKQ Z J Jx o9 (sub x) U)):=fun x xp xe xc xd xn xm d0 d1 d2 d3 d4 d5 d6 d7 d8 o9 U hx h1 h2 h3 hj9 hU hl hla hsz hp=>by
  have h:=hsub (x,⟨xp,xc,xe,xd⟩) o9 U hx hj9 (hW.kx (zlh hU)) hl hla hsz hp;have e9:(wyC (x,(⟨xp,xc,xe,xd⟩:WV))).toArray=#[.slice xp xn xc,.slice xe xm xd,.int .i64 d0,.int .u64 d1,.int .u64 d2,.int .u64 d3,.int .u64 d4,.int .u64 d5,.int .u64 d6,.int .u64 d7,.int .u64 d8]:=za9 (ps:=x.ps) (es:=x.es) (hd:=x.hd) h3 h1 h2;rw [e9] at h;exact h
 have HX:Hid (X.length=N/\(stgM n ⟨ps,es,hd⟩).length=k0+1/\k0<=1/\(stgM n ⟨ps,es,hd⟩)[k0]?=some E/\C9 E.hd a0 a1 a2 a3 a4 a5 a6 a7 a8/\(o++Rz) <+: A):=⟨hN,hk0,hk1,hke,h9E,hA⟩;have HRZ:Hid (Rz=if N=0 then [E] else X.flatMap sub):=hRz.symm
 have HJ:Hid (J o w/\Below w.heap.size w W1):=⟨hj,b1⟩;have HZ:Hid (AWY Z ⟨yp,yc,ye,yd⟩/\∀ b,w.heap.size<=b->¬Z b):=⟨hLa,hZ⟩;have hk7:k0<=1:=hk1;have hN7:N<=100000:=hNB;have HB:=zab hb;have HB2:=zab hb2;have HW:=zab hW1;obtain ⟨⟨q0,q1,q2⟩,⟨r0,r1,r2,r3,r4,r5,r6,r7,r8,r9,r10⟩,-,-⟩:=HN9.out W1 (Below.refl _ _);clear hW1 b1 hb kb hb2 kb2 hz1 hW hV hL hLa hZ hh hnp hnt hng hst hon hpa hsub hE hX hN hWY hk0 hk1 hke hE1 hEh hXE hEg hNB h9 h9E hmp hme hA hj hRz
 go_enter Tryz.func31,Tryz.ntmps31
 go_upto_region 1 with fail
 rw [HW.out,HB2.out,HB.out]
 go_wp2_with fail
 refine (HST.out W1 (Below.refl _ _)).mono ?_;rintro e W2 ⟨qs,cs,V,hVm,rfl,hVo,hVl,c2⟩;have hVr:=zmi (Z:=Z) hVo hVm rfl;clear hVo;rw [HX.out.2.1];obtain ⟨m0,hm0⟩:=ex (k0+1);rw [hm0];clear q0 q1 q2;clear r0 r1 r2 r3 r4 r5 r6 r7 r8 r9 r10;obtain ⟨⟨E9,⟨ep,ec,ee,ed⟩⟩,hx9⟩:∃ x,V[k0]?=some x:=⟨_,List.getElem?_eq_getElem (by have:=congrArg List.length hVm;rw [List.length_map,HX.out.2.1] at this;omega)⟩;obtain rfl:E9=E:=by
  have h1:(V.map Prod.fst)[k0]?=some E9:=by rw [List.getElem?_map,hx9];rfl
  rw [hVm,HX.out.2.2.2.1] at h1;exact (Option.some.inj h1).symm
 obtain ⟨en,hen⟩:=ex E9.ps.length;obtain ⟨em,hem⟩:=ex E9.es.length;have hEc:(wyC (E9,(⟨ep,ec,ee,ed⟩:WV))).toArray=#[.slice ep en ec,.slice ee em ed,.int .i64 a0,.int .u64 a1,.int .u64 a2,.int .u64 a3,.int .u64 a4,.int .u64 a5,.int .u64 a6,.int .u64 a7,.int .u64 a8]:=za9 (ps:=E9.ps) (es:=E9.es) (hd:=E9.hd) HX.out.2.2.2.2.1 hen hem;obtain ⟨gr,orr,e9,hcx⟩:=hVr W2 (KQX.refl _ _ _) k0 _ hx9;subst e9;have hcx9:∀ (i:Nat) (u:Value),([.slice ep en ec,.slice ee em ed,.int .i64 a0,.int .u64 a1,.int .u64 a2,.int .u64 a3,.int .u64 a4,.int .u64 a5,.int .u64 a6,.int .u64 a7,.int .u64 a8]:List Value)[i]?=some u->W2.cell? ⟨gr,orr+k0*11+i,none⟩=some u:=fun i u hu=>hcx i u (by have h7:wyC (E9,(⟨ep,ec,ee,ed⟩:WV))=[.slice ep en ec,.slice ee em ed,.int .i64 a0,.int .u64 a1,.int .u64 a2,.int .u64 a3,.int .u64 a4,.int .u64 a5,.int .u64 a6,.int .u64 a7,.int .u64 a8]:=congrArg Array.toList hEc;rw [h7];exact hu);have u0:=hcx9 0 _ rfl;have u1:=hcx9 1 _ rfl;have u2:=hcx9 2 _ rfl;have u3:=hcx9 3 _ rfl;have u4:=hcx9 4 _ rfl;have u5:=hcx9 5 _ rfl;have u6:=hcx9 6 _ rfl;have u7:=hcx9 7 _ rfl;have u8:=hcx9 8 _ rfl;have u9:=hcx9 9 _ rfl;have u10:=hcx9 10 _ rfl;rw [Nat.add_zero] at u0;have hlE:WL W2 (E9,⟨ep,ec,ee,ed⟩):=(hVl _ (List.mem_of_getElem? hx9)).1;have HEA:Hid (AWY Z ⟨ep,ec,ee,ed⟩):=by
  rcases (hVl _ (List.mem_of_getElem? hx9)).2 with h9 | h9
  ·show AWY Z _
   rw [show (⟨ep,ec,ee,ed⟩:WV)=⟨yp,yc,ye,yd⟩ from h9];exact HZ.out.1
  ·exact h9.aw (fun c hc=>HZ.out.2 c (Nat.le_trans HJ.out.2.size hc))
 obtain ⟨-,⟨r0,r1,r2,r3,r4,r5,r6,r7,r8,r9,r10⟩,hk2,-⟩:=HN9.out W2 c2;have hfz:=(zaf hk2).2;have f0:=hfz 0;have f1:=hfz 1;have f2:=hfz 2;have f3:=hfz 3;have f4:=hfz 4;have f5:=hfz 5;have f6:=hfz 6;have f7:=hfz 7;have f8:=hfz 8;have f9:=hfz 9;have f10:=hfz 10;obtain ⟨W3,hW3⟩:=ex ((((((((((((W2.setCell ⟨b2,0,none⟩ (.slice ep en ec)).setCell ⟨b2,1,none⟩ (.slice ee em ed)).setCell ⟨b2,2,none⟩ (.int .i64 a0)).setCell ⟨b2,3,none⟩ (.int .u64 a1)).setCell ⟨b2,4,none⟩ (.int .u64 a2)).setCell ⟨b2,5,none⟩ (.int .u64 a3)).setCell ⟨b2,6,none⟩ (.int .u64 a4)).setCell ⟨b2,7,none⟩ (.int .u64 a5)).setCell ⟨b2,8,none⟩ (.int .u64 a6)).setCell ⟨b2,9,none⟩ (.int .u64 a7)).setCell ⟨b2,10,none⟩ (.int .u64 a8)));have hk3:W3.heap[b2]?=some (.cells #[.slice ep en ec,.slice ee em ed,.int .i64 a0,.int .u64 a1,.int .u64 a2,.int .u64 a3,.int .u64 a4,.int .u64 a5,.int .u64 a6,.int .u64 a7,.int .u64 a8] 72 (0,0)):=by rw [<-hW3];exact put11 (.slice ep en ec) (.slice ee em ed) (.int .i64 a0) (.int .u64 a1) (.int .u64 a2) (.int .u64 a3) (.int .u64 a4) (.int .u64 a5) (.int .u64 a6) (.int .u64 a7) (.int .u64 a8) hk2
 have hf3:∀ c,c≠b2->W3.heap[c]?=W2.heap[c]?:=fun c hc=>by rw [<-hW3];exact zmc (.slice ep en ec) (.slice ee em ed) (.int .i64 a0) (.int .u64 a1) (.int .u64 a2) (.int .u64 a3) (.int .u64 a4) (.int .u64 a5) (.int .u64 a6) (.int .u64 a7) (.int .u64 a8) hc
 have hB23:Below w.heap.size w W3:=by rw [<-hW3];exact zmd (.slice ep en ec) (.slice ee em ed) (.int .i64 a0) (.int .u64 a1) (.int .u64 a2) (.int .u64 a3) (.int .u64 a4) (.int .u64 a5) (.int .u64 a6) (.int .u64 a7) (.int .u64 a8) (zac HJ.out.2 c2) (by have:=HB2.out;omega)
 have hKB:W3.heap[b]?=some (.cells #[.slice pp np cp,.slice pt nt ct,.slice pg ng cg] 64 (0,0)):=(hf3 b (by have:=HB.out;have:=HB2.out;omega)).trans (HN9.out W2 c2).2.2.2;have hlE3:WL W3 (E9,⟨ep,ec,ee,ed⟩):=hlE.kp (fun c cs fr hc=>(hf3 c (by rintro rfl;rw [hk2] at hc;simp only [Option.some.injEq,Obj.cells.injEq] at hc;exact absurd hc.2.1 (by decide))).trans hc);have H3:Hid (∀ U,KQX Z KTY W3 U->(U.cell? ⟨b,0,none⟩=some (.slice pp np cp)/\U.cell? ⟨b,1,none⟩=some (.slice pt nt ct)/\U.cell? ⟨b,2,none⟩=some (.slice pg ng cg))/\(U.cell? ⟨b2,0,none⟩=some (.slice ep en ec)/\U.cell? ⟨b2,1,none⟩=some (.slice ee em ed)/\U.cell? ⟨b2,2,none⟩=some (.int .i64 a0)/\U.cell? ⟨b2,3,none⟩=some (.int .u64 a1)/\U.cell? ⟨b2,4,none⟩=some (.int .u64 a2)/\U.cell? ⟨b2,5,none⟩=some (.int .u64 a3)/\U.cell? ⟨b2,6,none⟩=some (.int .u64 a4)/\U.cell? ⟨b2,7,none⟩=some (.int .u64 a5)/\U.cell? ⟨b2,8,none⟩=some (.int .u64 a6)/\U.cell? ⟨b2,9,none⟩=some (.int .u64 a7)/\U.cell? ⟨b2,10,none⟩=some (.int .u64 a8))/\WL U (E9,⟨ep,ec,ee,ed⟩)/\KQX Z KTY w U):=fun U hU=>by
  have e1:=(zaf (hU b 64 _ _ (by decide) (fun e=>absurd e (by decide)) hKB)).1;have e2:=(zaf (hU b2 72 _ _ (by decide) (fun e=>absurd e (by decide)) hk3)).1;exact ⟨⟨by rw [e1];rfl,by rw [e1];rfl,by rw [e1];rfl⟩,⟨by rw [e2];rfl,by rw [e2];rfl,by rw [e2];rfl,by rw [e2];rfl,by rw [e2];rfl,by rw [e2];rfl,by rw [e2];rfl,by rw [e2];rfl,by rw [e2];rfl,by rw [e2];rfl,by rw [e2];rfl⟩,hlE3.kx HEA.out hU,(KQX.below hB23).trans hU⟩
 have HJ3:Hid (J o W3/\E9.ps.length=en/\E9.es.length=em/\w.heap.size<=W3.heap.size):=⟨hJ.below _ _ _ HJ.out.1 hB23,hen,hem,hB23.size⟩;have HW3:=zab hW3;have j0:(0:Int)<=(k0:Int):=by omega
 have j1:(k0:Int) < (m0:Int):=by omega
 have j2:(m0:Int) - 1=(k0:Int):=by omega
 have j3:(m0:Int)<=2:=by omega
 clear hW3 hB23 hk3 hf3 hKB hlE3 hlE hx9 hVm hVr hVl hcx hcx9 hEc hen hem hk2 c2 hfz hm0
 go_upto_region 3 with fail
 rw [HW3.out];clear u0 u1 u2 u3 u4 u5 u6 u7 u8 u9 u10 r0 r1 r2 r3 r4 r5 r6 r7 r8 r9 r10 f0 f1 f2 f3 f4 f5 f6 f7 f8 f9 f10 j0 j1 j2 j3;obtain ⟨⟨q0,q1,q2⟩,⟨s0,s1,s2,s3,s4,s5,s6,s7,s8,s9,s10⟩,hl,hq⟩:=H3.out W3 (KQX.refl _ _ _)
 go_wp2_with fail
 refine (HON.out ep ee ec ed en em W3 HJ3.out.2.1 HJ3.out.2.2.1 hq hl).mono ?_;rintro e W4 ⟨qw,cw,V,hVm,rfl,hVo,hVl,c4⟩;have hVr:=zmi (Z:=Z) hVo hVm rfl;clear hVo;rw [HX.out.1];have H4:Hid (∀ U,KQX Z KTY W4 U->(U.cell? ⟨b,0,none⟩=some (.slice pp np cp)/\U.cell? ⟨b,1,none⟩=some (.slice pt nt ct)/\U.cell? ⟨b,2,none⟩=some (.slice pg ng cg))/\(U.cell? ⟨b2,0,none⟩=some (.slice ep en ec)/\U.cell? ⟨b2,1,none⟩=some (.slice ee em ed)/\U.cell? ⟨b2,2,none⟩=some (.int .i64 a0)/\U.cell? ⟨b2,3,none⟩=some (.int .u64 a1)/\U.cell? ⟨b2,4,none⟩=some (.int .u64 a2)/\U.cell? ⟨b2,5,none⟩=some (.int .u64 a3)/\U.cell? ⟨b2,6,none⟩=some (.int .u64 a4)/\U.cell? ⟨b2,7,none⟩=some (.int .u64 a5)/\U.cell? ⟨b2,8,none⟩=some (.int .u64 a6)/\U.cell? ⟨b2,9,none⟩=some (.int .u64 a7)/\U.cell? ⟨b2,10,none⟩=some (.int .u64 a8))/\WL U (E9,⟨ep,ec,ee,ed⟩)/\KQX Z KTY w U/\RowL 11 wyC U qw V/\(∀ x∈V,WL U x/\AWY Z x.2)):=fun U hU=>by
  obtain ⟨h1,h2,h3,h4⟩:=H3.out U ((KQX.below c4).trans hU);exact ⟨h1,h2,h3,h4,hVr U hU,fun x hx=>⟨(hVl x hx).1.kx ((hVl x hx).2.aw (fun c hc=>HZ.out.2 c (Nat.le_trans HJ3.out.2.2.2 hc))) hU,(hVl x hx).2.aw (fun c hc=>HZ.out.2 c (Nat.le_trans HJ3.out.2.2.2 hc))⟩⟩
 have HJ4:Hid (V.map Prod.fst=X/\J o W4/\w.heap.size<=W4.heap.size):=⟨hVm,hJ.below _ _ _ HJ3.out.1 c4,Nat.le_trans HJ3.out.2.2.2 c4.size⟩;clear hVm hVr hVl c4 hl hq q0 q1 q2 s0 s1 s2 s3 s4 s5 s6 s7 s8 s9 s10
 go_wp2_with fail
 go_loopw [28] (fun v28 wr=>∃ k:Nat,v28=.int .i64 (k:Int)/\k<=N/\Hid (J (o++(X.take k).flatMap sub) wr/\KQX Z KTY W4 wr/\W4.heap.size<=wr.heap.size)) (fun v28 _=>N - (intOf v28).toNat)
 case atStart=>exact ⟨0,rfl,Nat.zero_le _,by simpa using HJ4.out.2.1,KQX.refl _ _ _,Nat.le_refl _⟩
 case round=>
  obtain ⟨k,rfl,hk,HH⟩:=hrel
  by_cases hlt:k < N
  ·obtain ⟨⟨x,⟨xp,xc,xe,xd⟩⟩,hx⟩:∃ x,V[k]?=some x:=⟨_,List.getElem?_eq_getElem (by have:=congrArg List.length HJ4.out.1;rw [List.length_map,HX.out.1] at this;omega)⟩
   have hxX:X[k]?=some x:=by rw [<-HJ4.out.1,List.getElem?_map,hx];rfl
   obtain ⟨d0,d1,d2,d3,d4,d5,d6,d7,d8,h8⟩:=zbz x.hd;obtain ⟨xn,hxn⟩:=ex x.ps.length;obtain ⟨xm,hxm⟩:=ex x.es.length;have hXc:(wyC (x,(⟨xp,xc,xe,xd⟩:WV))).toArray=#[.slice xp xn xc,.slice xe xm xd,.int .i64 d0,.int .u64 d1,.int .u64 d2,.int .u64 d3,.int .u64 d4,.int .u64 d5,.int .u64 d6,.int .u64 d7,.int .u64 d8]:=za9 (ps:=x.ps) (es:=x.es) (hd:=x.hd) h8 hxn hxm;obtain ⟨-,-,-,-,hrow,-⟩:=H4.out wr HH.out.2.1;obtain ⟨gr2,or2,e9,hcx⟩:=hrow k _ hx;subst e9;have hcx9:∀ (i:Nat) (u:Value),([.slice xp xn xc,.slice xe xm xd,.int .i64 d0,.int .u64 d1,.int .u64 d2,.int .u64 d3,.int .u64 d4,.int .u64 d5,.int .u64 d6,.int .u64 d7,.int .u64 d8]:List Value)[i]?=some u->wr.cell? ⟨gr2,or2+k*11+i,none⟩=some u:=fun i u hu=>hcx i u (by have h7:wyC (x,(⟨xp,xc,xe,xd⟩:WV))=[.slice xp xn xc,.slice xe xm xd,.int .i64 d0,.int .u64 d1,.int .u64 d2,.int .u64 d3,.int .u64 d4,.int .u64 d5,.int .u64 d6,.int .u64 d7,.int .u64 d8]:=congrArg Array.toList hXc;rw [h7];exact hu);have u0:=hcx9 0 _ rfl;have u1:=hcx9 1 _ rfl;have u2:=hcx9 2 _ rfl;have u3:=hcx9 3 _ rfl;have u4:=hcx9 4 _ rfl;have u5:=hcx9 5 _ rfl;have u6:=hcx9 6 _ rfl;have u7:=hcx9 7 _ rfl;have u8:=hcx9 8 _ rfl;have u9:=hcx9 9 _ rfl;have u10:=hcx9 10 _ rfl;rw [Nat.add_zero] at u0;obtain ⟨rb,hrb⟩:=ex wr.heap.size;obtain ⟨W5,hW5⟩:=ex (wr.alloc (.cells #[.slice xp xn xc,.slice xe xm xd,.int .i64 d0,.int .u64 d1,.int .u64 d2,.int .u64 d3,.int .u64 d4,.int .u64 d5,.int .u64 d6,.int .u64 d7,.int .u64 d8] 72));have b5:Below wr.heap.size wr W5:=by rw [<-hW5];exact zah (Below.refl _ _) _
   have k5:W5.heap[rb]?=some (.cells #[.slice xp xn xc,.slice xe xm xd,.int .i64 d0,.int .u64 d1,.int .u64 d2,.int .u64 d3,.int .u64 d4,.int .u64 d5,.int .u64 d6,.int .u64 d7,.int .u64 d8] 72 (0,0)):=by rw [<-hW5,<-hrb];exact zaa _ _
   have kq5:KQX Z KTY W4 W5:=HH.out.2.1.trans (KQX.below b5);have HSB:=zab (HSU.out x xp xe xc xd xn xm d0 d1 d2 d3 d4 d5 d6 d7 d8 (o++(X.take k).flatMap sub) W5 (List.mem_of_getElem? hxX) hxn hxm h8 (hJ.below _ _ _ HH.out.1 b5) ((H4.out W5 kq5).2.2.2.1) ((H4.out W5 kq5).2.2.2.2.2 _ (List.mem_of_getElem? hx)).1 ((H4.out W5 kq5).2.2.2.2.2 _ (List.mem_of_getElem? hx)).2 (Nat.le_trans HJ4.out.2.2 (Nat.le_trans HH.out.2.2 b5.size)) (pre_take (by have h:=HX.out.2.2.2.2.2;rw [HRZ.out,if_neg (by omega)] at h;exact h) hxX));have HK5:Hid (KQX Z KTY W4 W5/\wr.heap.size<=W5.heap.size/\X[k]?=some x):=⟨kq5,b5.size,hxX⟩;obtain ⟨⟨q0,q1,q2⟩,-,-,-,-,-⟩:=H4.out W5 kq5;have e5:=(zaf k5).1;have t0:W5.cell? ⟨rb,0,none⟩=some (.slice xp xn xc):=by rw [e5];rfl
   have t1:W5.cell? ⟨rb,1,none⟩=some (.slice xe xm xd):=by rw [e5];rfl
   have t2:W5.cell? ⟨rb,2,none⟩=some (.int .i64 d0):=by rw [e5];rfl
   have t3:W5.cell? ⟨rb,3,none⟩=some (.int .u64 d1):=by rw [e5];rfl
   have t4:W5.cell? ⟨rb,4,none⟩=some (.int .u64 d2):=by rw [e5];rfl
   have t5:W5.cell? ⟨rb,5,none⟩=some (.int .u64 d3):=by rw [e5];rfl
   have t6:W5.cell? ⟨rb,6,none⟩=some (.int .u64 d4):=by rw [e5];rfl
   have t7:W5.cell? ⟨rb,7,none⟩=some (.int .u64 d5):=by rw [e5];rfl
   have t8:W5.cell? ⟨rb,8,none⟩=some (.int .u64 d6):=by rw [e5];rfl
   have t9:W5.cell? ⟨rb,9,none⟩=some (.int .u64 d7):=by rw [e5];rfl
   have t10:W5.cell? ⟨rb,10,none⟩=some (.int .u64 d8):=by rw [e5];rfl
   have HW5:=zab hW5;have HRB:=zab hrb;have j0:(0:Int)<=(k:Int):=by omega
   have j1:(k:Int) < (N:Int):=by omega
   clear hx hxX hcx hcx9 h8 hXc hrow hW5 b5 k5 kq5 e5 hrb hxn hxm
   go_upto_region 7 with fail
   rw [HW5.out,HRB.out];clear u0 u1 u2 u3 u4 u5 u6 u7 u8 u9 u10
   go_wp2_with fail
   refine (HSB.out).mono ?_;rintro e W8 ⟨⟨hkq,hsz⟩,⟨rfl,hj8⟩ | ⟨rfl,hx8⟩⟩
   ·have HH9:Hid (J (o++(X.take (k+1)).flatMap sub) W8/\KQX Z KTY W4 W8/\W4.heap.size<=W8.heap.size):=⟨by rw [<-zrf o HK5.out.2.2];exact hj8,HK5.out.1.trans hkq,Nat.le_trans HH.out.2.2 (Nat.le_trans HK5.out.2.1 hsz)⟩
    clear hkq hsz hj8 q0 q1 q2 t0 t1 t2 t3 t4 t5 t6 t7 t8 t9 t10
    go_wp2_with fail
    go_roundw
    case rel=>exact ⟨k+1,by go_num,by omega,HH9⟩
    case measure=>simp [intOf];omega
   ·have HF:Hid (WKQ Z J Jx o Rz w (.returned (.bool false)) W8):=⟨⟨((H4.out W8 (HK5.out.1.trans hkq)).2.2.2.1),Nat.le_trans HJ4.out.2.2 (Nat.le_trans HH.out.2.2 (Nat.le_trans HK5.out.2.1 hsz))⟩,.inr ⟨rfl,hx8⟩⟩
    clear hkq hsz hx8 q0 q1 q2 t0 t1 t2 t3 t4 t5 t6 t7 t8 t9 t10
    go_wp2_with fail
    go_ret
    exact HF.out
  ·obtain rfl:k=N:=by omega
   have j1:¬(k:Int) < (k:Int):=by omega
   obtain ⟨-,⟨s0,s1,s2,s3,s4,s5,s6,s7,s8,s9,s10⟩,hlE,hqw,-,-⟩:=H4.out wr HH.out.2.1
   by_cases h0:k=0
   ·subst h0
    have HPE:=zab (HPA.out ep ee ec ed en em wr HJ3.out.2.1 HJ3.out.2.2.1 hlE);have hA9:(o++[E9]) <+: A:=by have h:=HX.out.2.2.2.2.2;rw [HRZ.out,if_pos rfl] at h;exact h
    have hjo:J o wr:=by have h:=HH.out.1;rw [List.take_zero,List.flatMap_nil,List.append_nil] at h;exact h
    have HYY:Hid (∀ (p1 p2:Option Addr) (c1 c2:Nat) (U:World),Below wr.heap.size wr U->PL U (E9,⟨p1,c1,p2,c2⟩)->YieldAt Fence.wide m Tryz.prog l #[.agg #[.slice p1 en c1,.slice p2 em c2,.string ⟨E9.hd.toArray⟩]] U fun e W'=>WKQ Z J Jx o Rz w e W'/\((e=.returned (.bool true))∨(e=.returned (.bool false)))):=fun p1 p2 c1 c2 U hU hl=>by
     refine (HYE.out p1 p2 c1 c2 en em o U HJ3.out.2.1 HJ3.out.2.2.1 (hJ.below _ _ _ hjo hU) hl hA9).mono ?_;rintro e W' ⟨⟨g1,g2⟩,g3⟩;refine ⟨⟨⟨(hqw.trans (KQX.below hU)).trans g1,Nat.le_trans HJ4.out.2.2 (Nat.le_trans HH.out.2.2 (Nat.le_trans hU.size g2))⟩,?_⟩,?_⟩
     ·rw [HRZ.out,if_pos rfl];exact g3
     ·rcases g3 with ⟨g,-⟩ | ⟨g,-⟩
      ·exact .inl g
      ·exact .inr g
    have g1:¬((0:Nat):Int) > 0:=by omega
    clear hlE hqw hA9 hjo
    go_upto_region 10 with fail
    refine (wpIn_wide (n:=m+1)).1 ?_
    gi_wp2_with (refine ⟨trivial,?_⟩;gi_at_call 61;refine (callsIn_wide.2 HPE.out).mono ?_;rintro e W8 ⟨p1,c1,p2,c2,rfl,hl8,b8⟩;obtain ⟨fn,tmps,assign,body,hy,hR⟩:=HYY.out p1 p2 c1 c2 W8 b8 hl8)
    refine hR.mono ?_;rintro e W9 ⟨hw9,rfl | rfl⟩
    ·have HF:=zab hw9
     clear hR hy hw9 hl8 b8
     gi_wp2
     go_wp2_with fail
     go_ret
     exact HF.out
    ·have HF:=zab hw9
     clear hR hy hw9 hl8 b8
     gi_wp2
     go_wp2_with fail
     go_ret
     exact HF.out
   ·have HF:Hid (WKQ Z J Jx o Rz w (.returned (.bool true)) wr):=by
     refine ⟨⟨hqw,Nat.le_trans HJ4.out.2.2 HH.out.2.2⟩,.inl ⟨rfl,?_⟩⟩;rw [HRZ.out,if_neg h0];have h:=HH.out.1;rw [List.take_of_length_le (by rw [HX.out.1];exact Nat.le_refl _)] at h;exact h
    have g1:(k:Int) > 0:=by omega
    clear hlE hqw
    go_wp2_with fail
    go_ret
    exact HF.out
end Go.Proofs.YtmfakcfmkmppfaaGreatDoor.Nt
