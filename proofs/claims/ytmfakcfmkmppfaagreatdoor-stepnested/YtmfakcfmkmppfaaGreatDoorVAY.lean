import Derived.Test.YtmfakcfmkmppfaaGreatDoorVAX
namespace Go.Proofs.YtmfakcfmkmppfaaGreatDoor.Nt
open Go.RowKit Go.Shelf
theorem zg5 {n:NN} {s:Int×List UInt8} (hV:NetP n) (hp0:0<=s.1) (hp1:s.1 < (n.ports.length:Int)) (hh:HdP n.bits s.2):(zce n s).2.length<=4/\∀ o∈(zce n s).2,StP n o:=by
 obtain ⟨p,h⟩:=s;simp only at hp0 hp1 hh;obtain ⟨hx1,hx2⟩:=hV.port hp0 hp1;obtain ⟨ht1,ht2⟩:=hV.tab hx2.2.1 hx2.2.2.1;cases he:zfu n p h with
 | none=>
  have e9:zce n (p,h)=(-1,[]):=by
   unfold zce;rw [show zfu n (p,h).1 (p,h).2=_ from he]
  rw [e9];exact ⟨Nat.zero_le _,fun o ho=>by simp at ho⟩
 | some kx=>
  obtain ⟨k,x⟩:=kx;have e9:zce n (p,h)=((k:Int),zg7 n x.outs (Tn.wtT h x.wr)):=by
   unfold zce;rw [show zfu n (p,h).1 (p,h).2=_ from he]
  have hmem:x∈ze8 n (zal n p).bx:=by
   unfold zfu at he
   split at he
   ·obtain ⟨i,-,hi,-⟩:=zc7 he
    exact List.mem_of_getElem? hi
   ·cases he
  have hEP:=ht2.1 x hmem;rw [e9];refine ⟨?_,fun o ho=>?_⟩
  ·have h1:(zg7 n x.outs (Tn.wtT h x.wr)).length<=x.outs.length:=by
    unfold zg7;rw [List.length_map];exact List.length_filter_le _ _
   exact Nat.le_trans h1 hEP.2.2.2.2.1
  ·simp only [zg7,List.mem_map,List.mem_filter] at ho
   obtain ⟨q,⟨hq,-⟩,rfl⟩:=ho;have hz:=hEP.2.2.2.2.2.1 q hq;exact ⟨hz.1,hz.2.1,wr_hd hh hEP.2.2.2.1 hV.bits.1⟩
theorem zqi (n:NN) (s:Int×List UInt8):(ovS n s).length<=1:=by
 unfold ovS
 split <;> simp
def nxF (n:NN) (o:Int×List UInt8):List (Int×List UInt8):=o :: ovS n o
theorem nxF_succ {n:NN} {L:List (Int×List UInt8)} {k:Nat} {o:Int×List UInt8} (h:L[k]?=some o):(L.take (k+1)).flatMap (nxF n)=((L.take k).flatMap (nxF n)++[o])++ovS n o:=by
 rw [List.take_add_one,h,Option.toList_some,List.flatMap_append,List.append_assoc];simp [nxF]
def NXQ (n:NN) (s:Int×List UInt8) (w:World) (e:Ending) (w':World):Prop:=∃ q c,e=.returned (.tuple #[.int .i64 (zdt n s).1,.slice q (zdt n s).2.length c])/\w'.ownsRow w.heap.size 75 10 (.slice q (zdt n s).2.length c) (zdt n s).2.length ((zdt n s).2.flatMap stC)/\Below w.heap.size w w'
theorem nx_in {n:NN} {s:Int×List UInt8} {k:Int} {L:List (Int×List UInt8)} (h:(zal n s.1).inn=true) (ha:zce n s=(k,L)):zdt n s=(k,L.flatMap (nxF n)):=by
 unfold zdt;rw [if_pos h,ha];rfl
theorem zjt {n:NN} {s:Int×List UInt8} (h:(zal n s.1).inn=false):zdt n s=(-1,ovS n s):=by
 unfold zdt;rw [if_neg (by rw [h];exact Bool.false_ne_true)]
set_option maxRecDepth 100000 in
set_option maxHeartbeats 16000000 in
theorem next_any (n:NN) (v:NV) (np nt ng:Nat) (p:Int) (h:List UInt8) (w:World) (hW:NW w n v) (hV:NetP n) (hp0:0<=p) (hp1:p < (n.ports.length:Int)) (hh:HdP n.bits h) (hnp:n.ports.length=np) (hnt:n.tabs.length=nt) (hng:n.grds.length=ng) :
  Calls Tryz.prog 62 #[.agg #[.slice v.pp np v.cp,.slice v.pt nt v.ct,.slice v.pg ng v.cg],.agg (stC (p,h)).toArray] w (NXQ n (p,h) w):=by
 have hov:=fun (q:Int) (x:List UInt8) (U:World) (hU:Below w.heap.size w U) (h0:0<=q) (h1:q < (n.ports.length:Int))=>zmg n v np nt ng q x U (hW.below hU) hV h0 h1 hnp;have hap:=fun (U:World) (hU:Below w.heap.size w U)=>zkg n v np nt ng p h U (hW.below hU) hV hp0 hp1 hh hnp hnt hng;obtain ⟨hst4,hstP⟩:=zg5 (s:=(p,h)) hV hp0 hp1 hh;obtain ⟨pp,cp,pt,ct,pg,cg⟩:=v;simp only at hW hov hap ⊢;obtain ⟨a0,a1,a2,a3,a4,a5,a6,a7,a8,h9⟩:=zbz h;have hov1:=fun (U:World) (hU:Below w.heap.size w U)=>hov p h U hU hp0 hp1;rw [zbf h9] at hap hov1 ⊢;obtain ⟨hx1,hx2⟩:=hV.port hp0 hp1;obtain ⟨pk,hpk⟩:∃ pk:Nat,p=(pk:Int):=⟨p.toNat,by omega⟩;subst hpk;rw [Int.toNat_natCast] at hx1;obtain ⟨inn,hinn⟩:∃ inn,(zal n (pk:Int)).inn=inn:=⟨_,rfl⟩;obtain ⟨num,L,haL⟩:∃ num L,zce n ((pk:Int),h)=(num,L):=⟨_,_,rfl⟩;obtain ⟨N,hN⟩:=ex L.length;rw [haL] at hst4 hstP;simp only at hst4 hstP;obtain ⟨gp,op,e1,-,-,a2',-⟩:=hW.1 pk _ hx1;simp only at e1;subst e1;rw [hinn] at a2';have hpn:pk < np:=by rw [<-hnp];exact (List.getElem?_eq_some_iff.1 hx1).1
 obtain ⟨B,hB⟩:=ex w.heap.size;obtain ⟨b2,hb2⟩:=ex (w.heap.size+1);obtain ⟨W1,hW1⟩:=ex ((w.alloc (.cells #[.slice (some ⟨gp,op,none⟩) np cp,.slice pt nt ct,.slice pg ng cg] 64)).alloc (.cells #[.int .i64 (pk:Int),.int .i64 a0,.int .u64 a1,.int .u64 a2,.int .u64 a3,.int .u64 a4,.int .u64 a5,.int .u64 a6,.int .u64 a7,.int .u64 a8] 75));have hz2:(w.alloc (.cells #[.slice (some ⟨gp,op,none⟩) np cp,.slice pt nt ct,.slice pg ng cg] 64)).heap.size=w.heap.size+1:=Array.size_push _;have b1:Below w.heap.size w W1:=by rw [<-hW1];exact zah (zah (Below.refl _ _) _) _
 have k1:W1.heap[B]?=some (.cells #[.slice (some ⟨gp,op,none⟩) np cp,.slice pt nt ct,.slice pg ng cg] 64 (0,0)):=by rw [<-hW1,<-hB];exact zae (zah (Below.refl _ _) _) (zaa _ _)
 have k2:W1.heap[b2]?=some (.cells #[.int .i64 (pk:Int),.int .i64 a0,.int .u64 a1,.int .u64 a2,.int .u64 a3,.int .u64 a4,.int .u64 a5,.int .u64 a6,.int .u64 a7,.int .u64 a8] 75 (0,0)):=by rw [<-hW1,<-hb2,<-hz2];exact zaa _ _
 have HC:Hid (∀ U,Below W1.heap.size W1 U->(U.cell? ⟨B,0,none⟩=some (.slice (some ⟨gp,op,none⟩) np cp)/\U.cell? ⟨B,1,none⟩=some (.slice pt nt ct)/\U.cell? ⟨B,2,none⟩=some (.slice pg ng cg))/\(U.cell? ⟨b2,0,none⟩=some (.int .i64 (pk:Int))/\U.cell? ⟨b2,1,none⟩=some (.int .i64 a0)/\U.cell? ⟨b2,2,none⟩=some (.int .u64 a1)/\U.cell? ⟨b2,3,none⟩=some (.int .u64 a2)/\U.cell? ⟨b2,4,none⟩=some (.int .u64 a3)/\U.cell? ⟨b2,5,none⟩=some (.int .u64 a4)/\U.cell? ⟨b2,6,none⟩=some (.int .u64 a5)/\U.cell? ⟨b2,7,none⟩=some (.int .u64 a6)/\U.cell? ⟨b2,8,none⟩=some (.int .u64 a7)/\U.cell? ⟨b2,9,none⟩=some (.int .u64 a8))):=fun U hU=>by
  have e1:=(zaf (zae hU k1)).1;have e2:=(zaf (zae hU k2)).1;exact ⟨⟨by rw [e1];rfl,by rw [e1];rfl,by rw [e1];rfl⟩,⟨by rw [e2];rfl,by rw [e2];rfl,by rw [e2];rfl,by rw [e2];rfl,by rw [e2];rfl,by rw [e2];rfl,by rw [e2];rfl,by rw [e2];rfl,by rw [e2];rfl,by rw [e2];rfl⟩⟩
 have k9:=zao b1 a2';have HOV:Hid (∀ (q:Int) (x:List UInt8) (U:World),Below W1.heap.size W1 U->0<=q->q < (n.ports.length:Int)->Calls Tryz.prog 83 #[.agg #[.slice (some ⟨gp,op,none⟩) np cp,.slice pt nt ct,.slice pg ng cg],.agg (stC (q,x)).toArray] U (OVQ n (q,x) U)):=fun q x U hU=>hov q x U (zac b1 hU);have HO1:Hid (Calls Tryz.prog 83 #[.agg #[.slice (some ⟨gp,op,none⟩) np cp,.slice pt nt ct,.slice pg ng cg],.agg #[.int .i64 (pk:Int),.int .i64 a0,.int .u64 a1,.int .u64 a2,.int .u64 a3,.int .u64 a4,.int .u64 a5,.int .u64 a6,.int .u64 a7,.int .u64 a8]] W1 (OVQ n ((pk:Int),h) W1)):=hov1 W1 b1;have HAP:Hid (Calls Tryz.prog 85 #[.agg #[.slice (some ⟨gp,op,none⟩) np cp,.slice pt nt ct,.slice pg ng cg],.agg #[.int .i64 (pk:Int),.int .i64 a0,.int .u64 a1,.int .u64 a2,.int .u64 a3,.int .u64 a4,.int .u64 a5,.int .u64 a6,.int .u64 a7,.int .u64 a8]] W1 (APQ n ((pk:Int),h) W1)):=hap W1 b1;have HX:Hid (zce n ((pk:Int),h)=(num,L)/\L.length=N/\N<=4/\(∀ o∈L,StP n o)/\(zal n (pk:Int)).inn=inn):=⟨haL,hN,by omega,hstP,hinn⟩;have HB:=zab hB;have HB2:=zab hb2;have HW1:=zab hW1;have HBW:Hid (∀ U,Below W1.heap.size W1 U->Below w.heap.size w U):=fun U hU=>zac b1 hU;have HSZ1:Hid (w.heap.size<=W1.heap.size):=b1.size;have j0:(0:Int)<=(pk:Int):=by omega
 have j1:(pk:Int) < (np:Int):=by omega
 have hN7:N<=140737488351232:=by have:=HX.out.2.2.1;omega
 clear h9 hW hV hp0 hp1 hh hnp hnt hng hx1 hx2 hinn haL hN hst4 hstP hpn hB hb2 hW1 hz2 b1 k1 k2 a2' hov hov1 hap;obtain ⟨⟨q0,q1,q2⟩,⟨r0,r1,r2,r3,r4,r5,r6,r7,r8,r9⟩⟩:=HC.out W1 (Below.refl _ _)
 go_enter Tryz.func62,Tryz.ntmps62
 go_upto_region 1 with fail
 rw [HW1.out,HB2.out,HB.out];cases inn with
 | false=>
  go_wp2_with fail
  refine (HO1.out).mono ?_;rintro e W2 ⟨q,c,rfl,ho,h0,c2⟩;have HFIN:Hid (NXQ n ((pk:Int),h) w (.returned (.tuple #[.int .i64 (-1),.slice q (ovS n ((pk:Int),h)).length c])) W2):=by
   refine ⟨q,c,?_,?_,HBW.out W2 c2⟩
   ·rw [zjt HX.out.2.2.2.2]
   ·rw [zjt HX.out.2.2.2.2]
    exact zav ho HSZ1.out
  clear ho h0 c2 q0 q1 q2 k9;clear r0 r1 r2 r3 r4 r5 r6 r7 r8 r9
  go_wp2_with fail
  refine bodyPost_ret (results_tmp2 rfl _ _ _) rfl ?_;exact HFIN.out
 | true=>
  go_wp2_with fail
  refine (HAP.out).mono ?_;rintro e W3 ⟨qL,cL,rfl,ho,c3⟩;rw [HX.out.1] at ho ⊢;simp only at ho ⊢;rw [HX.out.2.1] at ho ⊢;have hrl:RowL 10 stC W3 qL L:=zbm zef ho HX.out.2.1;have HR:Hid (∀ U,Below W3.heap.size W3 U->RowL 10 stC U qL L/\Below W1.heap.size W1 U):=fun U hU=>⟨hrl.below hU,zac c3 hU⟩;have HSZ3:Hid (W1.heap.size<=W3.heap.size):=c3.size;clear ho c3 hrl q0 q1 q2 k9;clear r0 r1 r2 r3 r4 r5 r6 r7 r8 r9;obtain ⟨⟨q0,q1,q2⟩,⟨r0,r1,r2,r3,r4,r5,r6,r7,r8,r9⟩⟩:=HC.out W3 (HR.out W3 (Below.refl _ _)).2
  go_wp2_with fail
  clear q0 q1 q2;clear r0 r1 r2 r3 r4 r5 r6 r7 r8 r9
  go_loopw [8,30] (fun v8 vk wr=>∃ (k m:Nat) (q:Option Addr) (c:Nat),v8=.slice q m c/\vk=.int .i64 (k:Int)/\k<=N/\Hid (((L.take k).flatMap (nxF n)).length=m/\m<=2*k/\wr.ownsRow W3.heap.size 75 10 (.slice q m c) m (((L.take k).flatMap (nxF n)).flatMap stC)/\Below W3.heap.size W3 wr)) (fun _ vk _=>N - (intOf vk).toNat)
  case atStart=>exact ⟨0,0,none,0,rfl,rfl,Nat.zero_le _,rfl,Nat.zero_le _,World.ownsRow_nil _ _ _ _,Below.refl _ _⟩
  case round=>
   obtain ⟨k,m,q,c,rfl,rfl,hk,HS⟩:=hrel;obtain ⟨hrow,hb⟩:=HR.out wr HS.out.2.2.2
   by_cases hlt:k < N
   ·obtain ⟨o,hx⟩:∃ o,L[k]?=some o:=⟨_,List.getElem?_eq_getElem (by have:=HX.out.2.1;omega)⟩
    obtain ⟨x,t⟩:=o;obtain ⟨gr,orr,e9,hcx⟩:=hrow k (x,t) hx;subst e9;obtain ⟨d0,d1,d2,d3,d4,d5,d6,d7,d8,h8⟩:=zbz t;have hcx9:∀ (i:Nat) (v:Value),([.int .i64 x,.int .i64 d0,.int .u64 d1,.int .u64 d2,.int .u64 d3,.int .u64 d4,.int .u64 d5,.int .u64 d6,.int .u64 d7,.int .u64 d8]:List Value)[i]?=some v->wr.cell? ⟨gr,orr+k*10+i,none⟩=some v:=fun i v hv=>hcx i v (by unfold stC;rw [show zcp (x,t).2=_ from h8];exact hv);have u0:=hcx9 0 _ rfl;have u1:=hcx9 1 _ rfl;have u2:=hcx9 2 _ rfl;have u3:=hcx9 3 _ rfl;have u4:=hcx9 4 _ rfl;have u5:=hcx9 5 _ rfl;have u6:=hcx9 6 _ rfl;have u7:=hcx9 7 _ rfl;have u8:=hcx9 8 _ rfl;have u9:=hcx9 9 _ rfl;rw [Nat.add_zero] at u0;obtain ⟨k9,hk9⟩:=ex (k+1);obtain ⟨m1,hm1⟩:=ex (m+1);obtain ⟨mo,hmo⟩:=ex ((ovS n (x,t)).length);obtain ⟨m2,hm2⟩:=ex (m1+mo);have hsp:=HX.out.2.2.2.1 (x,t) (List.mem_of_getElem? hx);obtain ⟨W4,hW4⟩:=ex (wr.alloc (Obj.cells #[.int .i64 x,.int .i64 d0,.int .u64 d1,.int .u64 d2,.int .u64 d3,.int .u64 d4,.int .u64 d5,.int .u64 d6,.int .u64 d7,.int .u64 d8] 75));have b4:Below wr.heap.size wr W4:=by rw [<-hW4];exact zah (Below.refl _ _) _
    obtain ⟨rb,hrb⟩:=ex wr.heap.size;have s4:W4.heap[rb]?=some (.cells #[.int .i64 x,.int .i64 d0,.int .u64 d1,.int .u64 d2,.int .u64 d3,.int .u64 d4,.int .u64 d5,.int .u64 d6,.int .u64 d7,.int .u64 d8] 75 (0,0)):=by rw [<-hW4,<-hrb];exact zaa _ _
    have HCX:Hid (∀ U:World,U.heap[rb]?=some (.cells #[.int .i64 x,.int .i64 d0,.int .u64 d1,.int .u64 d2,.int .u64 d3,.int .u64 d4,.int .u64 d5,.int .u64 d6,.int .u64 d7,.int .u64 d8] 75 (0,0))->Below W3.heap.size W3 U->(U.cell? ⟨B,0,none⟩=some (.slice (some ⟨gp,op,none⟩) np cp)/\U.cell? ⟨B,1,none⟩=some (.slice pt nt ct)/\U.cell? ⟨B,2,none⟩=some (.slice pg ng cg))/\(U.cell? ⟨rb,0,none⟩=some (.int .i64 x)/\U.cell? ⟨rb,1,none⟩=some (.int .i64 d0)/\U.cell? ⟨rb,2,none⟩=some (.int .u64 d1)/\U.cell? ⟨rb,3,none⟩=some (.int .u64 d2)/\U.cell? ⟨rb,4,none⟩=some (.int .u64 d3)/\U.cell? ⟨rb,5,none⟩=some (.int .u64 d4)/\U.cell? ⟨rb,6,none⟩=some (.int .u64 d5)/\U.cell? ⟨rb,7,none⟩=some (.int .u64 d6)/\U.cell? ⟨rb,8,none⟩=some (.int .u64 d7)/\U.cell? ⟨rb,9,none⟩=some (.int .u64 d8))):=fun U hU hU3=>by
     have e1:=(zaf hU).1;exact ⟨(HC.out U (HR.out U hU3).2).1,⟨by rw [e1];rfl,by rw [e1];rfl,by rw [e1];rfl,by rw [e1];rfl,by rw [e1];rfl,by rw [e1];rfl,by rw [e1];rfl,by rw [e1];rfl,by rw [e1];rfl,by rw [e1];rfl⟩⟩
    have c4:Below W3.heap.size W3 W4:=zac HS.out.2.2.2 b4;have HOX:Hid (∀ U,Below W3.heap.size W3 U->Calls Tryz.prog 83 #[.agg #[.slice (some ⟨gp,op,none⟩) np cp,.slice pt nt ct,.slice pg ng cg],.agg #[.int .i64 x,.int .i64 d0,.int .u64 d1,.int .u64 d2,.int .u64 d3,.int .u64 d4,.int .u64 d5,.int .u64 d6,.int .u64 d7,.int .u64 d8]] U (OVQ n (x,t) U)):=fun U hU=>by
     have h:=HOV.out x t U (HR.out U hU).2 hsp.1 hsp.2.1;rw [zbf h8] at h;exact h
    have hne:∀ kq,(Value.slice q m c).ownBlock=some kq->kq < rb:=fun kq e=>by rw [<-hrb];exact (World.ownsRow.lt HS.out.2.2.1 kq e).2
    obtain ⟨q7,c7,W7,hr7,o7,b7,kp7,kq7⟩:=pushS (W:=W4.drew) (x:=x) (t:=t) h8 (zaq HS.out.2.2.1 (zac b4 (Below.refl _ _).drew)) (zac c4 (Below.refl _ _).drew).size hm1 (by have:=HS.out.2.1;have:=HX.out.2.2.1;omega);obtain ⟨W6,hW6⟩:=ex ((W4.alloc (.cells #[.int .i64 x,.int .i64 d0,.int .u64 d1,.int .u64 d2,.int .u64 d3,.int .u64 d4,.int .u64 d5,.int .u64 d6,.int .u64 d7,.int .u64 d8] 75 (0,0))).drew);obtain ⟨rs,hrs⟩:=ex W4.heap.size;have c6:Below W3.heap.size W3 W6:=by rw [<-hW6];exact (zah c4 _).drew
    have hs0:=HCX.out W4.drew (zae (Below.refl _ _).drew s4) (zac c4 (Below.refl _ _).drew);have hs6:=HCX.out W6 (by rw [<-hW6];exact zae (zah (Below.refl _ _) _).drew s4) c6;have c7':Below W3.heap.size W3 W7:=(c4.trans ((Below.refl _ _).drew)).trans b7;have s7:W7.heap[rb]?=some (.cells #[.int .i64 x,.int .i64 d0,.int .u64 d1,.int .u64 d2,.int .u64 d3,.int .u64 d4,.int .u64 d5,.int .u64 d6,.int .u64 d7,.int .u64 d8] 75 (0,0)):=kp7 rb _ (zae (Below.refl _ _).drew s4) (fun e=>by have:=hne _ e;omega);have hs7:=HCX.out W7 s7 c7';rw [show W4.drew.alloc (.cells #[.int .i64 x,.int .i64 d0,.int .u64 d1,.int .u64 d2,.int .u64 d3,.int .u64 d4,.int .u64 d5,.int .u64 d6,.int .u64 d7,.int .u64 d8] 75 (0,0))=W6 from hW6,show W4.drew.heap.size=rs from hrs] at hr7;have HRS:=zab hrs;clear hrs;have HX7:=zab hx;have H8:Hid (C9 t d0 d1 d2 d3 d4 d5 d6 d7 d8):=h8;have H7:Hid (W7.ownsRow W3.heap.size 75 10 (.slice q7 m1 c7) m1 ((((L.take k).flatMap (nxF n))++[(x,t)]).flatMap stC)/\Below W3.heap.size W3 W7/\W7.heap[rb]?=some (.cells #[.int .i64 x,.int .i64 d0,.int .u64 d1,.int .u64 d2,.int .u64 d3,.int .u64 d4,.int .u64 d5,.int .u64 d6,.int .u64 d7,.int .u64 d8] 75 (0,0))/\(∀ kq,(Value.slice q7 m1 c7).ownBlock=some kq->kq≠rb)):=⟨o7,c7',s7,fun kq e e9=>by
     rcases kq7 kq e with h | h
     ·have:=hne kq h;omega
     ·have h2:rb < W4.drew.heap.size:=zap (zae (Below.refl _ _).drew s4)
      omega⟩
    have HK9:Hid (k+1=k9/\m+1=m1/\(ovS n (x,t)).length=mo/\m1+mo=m2):=⟨hk9,hm1,hmo,hm2⟩;have HW4:=zab hW4;have HW6:=zab hW6;have HRB:=zab hrb;have j2:(0:Int)<=(k:Int):=by omega
    have j3:(k:Int) < (N:Int):=by omega
    clear hx hcx hcx9 h8 hk9 hm1 hmo hm2 hsp hW4 b4 hrb s4 c4 hne o7 b7 kp7 kq7 hW6 c6 c7' s7 hrow hb
    go_upto_region 8 with fail
    rw [HW4.out,HRB.out];clear u0 u1 u2 u3 u4 u5 u6 u7 u8 u9;refine wp_region_held_drew (S:=fun U=>(U.cell? ⟨B,0,none⟩=some (.slice (some ⟨gp,op,none⟩) np cp)/\U.cell? ⟨B,1,none⟩=some (.slice pt nt ct)/\U.cell? ⟨B,2,none⟩=some (.slice pg ng cg))/\(U.cell? ⟨rb,0,none⟩=some (.int .i64 x)/\U.cell? ⟨rb,1,none⟩=some (.int .i64 d0)/\U.cell? ⟨rb,2,none⟩=some (.int .u64 d1)/\U.cell? ⟨rb,3,none⟩=some (.int .u64 d2)/\U.cell? ⟨rb,4,none⟩=some (.int .u64 d3)/\U.cell? ⟨rb,5,none⟩=some (.int .u64 d4)/\U.cell? ⟨rb,6,none⟩=some (.int .u64 d5)/\U.cell? ⟨rb,7,none⟩=some (.int .u64 d6)/\U.cell? ⟨rb,8,none⟩=some (.int .u64 d7)/\U.cell? ⟨rb,9,none⟩=some (.int .u64 d8))) (by kernel_rfl) hs0 (fun _=>?_);refine tk 0 (.slice q m c) rfl hs0 ?_ ?_
    ·rintro w ⟨⟨q0,q1,q2⟩,⟨x0,x1,x2,x3,x4,x5,x6,x7,x8,x9⟩⟩;go_simp
    refine tk 1 (.agg #[.int .i64 x,.int .i64 d0,.int .u64 d1,.int .u64 d2,.int .u64 d3,.int .u64 d4,.int .u64 d5,.int .u64 d6,.int .u64 d7,.int .u64 d8]) rfl hs0 ?_ ?_
    ·rintro w ⟨⟨q0,q1,q2⟩,⟨x0,x1,x2,x3,x4,x5,x6,x7,x8,x9⟩⟩;go_simp
    refine tk 4 (.agg #[.slice (some ⟨gp,op,none⟩) np cp,.slice pt nt ct,.slice pg ng cg]) rfl hs0 ?_ ?_
    ·rintro w ⟨⟨q0,q1,q2⟩,⟨x0,x1,x2,x3,x4,x5,x6,x7,x8,x9⟩⟩;go_simp
    refine tk 5 (.agg #[.int .i64 x,.int .i64 d0,.int .u64 d1,.int .u64 d2,.int .u64 d3,.int .u64 d4,.int .u64 d5,.int .u64 d6,.int .u64 d7,.int .u64 d8]) rfl hs0 ?_ ?_
    ·rintro w ⟨⟨q0,q1,q2⟩,⟨x0,x1,x2,x3,x4,x5,x6,x7,x8,x9⟩⟩;go_simp
    refine rd 2 rfl fun KK hKK=>?_
    go_simp
    rw [HW6.out,HRS.out];refine hKK.out _ _ hs6 (fun _=>?_);clear hKK KK;refine rd 3 rfl fun KK hKK=>?_;refine zd6 (by rfl) _ _ _ (by rfl) (by rfl) (by rfl) hr7 ?_;refine hKK.out _ _ hs7 (fun _=>?_);clear hKK KK;refine rd 6 rfl fun KK hKK=>?_
    go_simp
    refine (HOX.out _ H7.out.2.1).mono ?_;rintro en W8 ⟨qo,co,rfl,o8,h80,b8⟩;rw [HK9.out.2.2.1] at o8 ⊢;have c8:Below W3.heap.size W3 W8:=zac H7.out.2.1 b8;have s8:W8.heap[rb]?=some (.cells #[.int .i64 x,.int .i64 d0,.int .u64 d1,.int .u64 d2,.int .u64 d3,.int .u64 d4,.int .u64 d5,.int .u64 d6,.int .u64 d7,.int .u64 d8] 75 (0,0)):=zae b8 H7.out.2.2.1;have hs8:=HCX.out W8 s8 c8;obtain ⟨i0,hi,hz0,hz1,hz2⟩:=info_parts zq0;have hmo1:mo<=1:=by rw [<-HK9.out.2.2.1];exact zqi n (x,t)
    obtain ⟨q9,c9,W9,hr9,o9,b9,kp9⟩:=appS (W:=W8) (p2:=qo) (c2:=co) (news:=(ovS n (x,t)).flatMap stC) (TS:=127) Tryz.underlying127 hi hz0 hz1 hz2 rfl (by decide) (zaq H7.out.1 b8) c8.size (fun ad e j u hu=>by
     subst e;exact RowL.news zef (by decide) (zbm zef o8 HK9.out.2.2.1) j u hu) (fun e=>by
     subst e;rcases o8.2 with hv | ⟨g,cap,cur,hv,-⟩
     ·refine ⟨hv.2,h80 rfl,?_⟩
      have e0:ovS n (x,t)=[]:=List.eq_nil_of_length_eq_zero (by rw [HK9.out.2.2.1];exact hv.2);rw [e0];rfl
     ·cases hv) (by rw [zgj zef,HK9.out.2.2.1]) (fun u hu=>by
     obtain ⟨y,-,hy⟩:=List.mem_flatMap.1 hu;exact zpk y u hy) HK9.out.2.2.2 (by have:=HS.out.2.1;have:=HX.out.2.2.1;have:=HK9.out;omega) (by have:=HS.out.2.1;have:=HX.out.2.2.1;have:=HK9.out;omega)
    have c9':Below W3.heap.size W3 W9:=c8.trans b9;have hs9:=HCX.out W9 (kp9 rb _ s8 (fun e=>H7.out.2.2.2 rb e rfl)) c9';have HS9:Hid (((L.take k9).flatMap (nxF n)).length=m2/\m2<=2*k9/\W9.ownsRow W3.heap.size 75 10 (.slice q9 m2 c9) m2 (((L.take k9).flatMap (nxF n)).flatMap stC)/\Below W3.heap.size W3 W9):=by
     rw [<-HK9.out.1,nxF_succ HX7.out,List.flatMap_append];refine ⟨?_,?_,o9,c9'⟩
     ·rw [List.length_append,List.length_append,HS.out.1,HK9.out.2.2.1,<-HK9.out.2.2.2,<-HK9.out.2.1]
      rfl
     ·have:=HS.out.2.1;have:=HK9.out;omega
    clear o8 h80 b8 c8 s8 hi hz0 hz1 hz2 hmo1 o9 b9 kp9 c9'
    go_simp
    refine hKK.out _ _ hs8 (fun _=>?_);clear hKK KK;refine rd 7 rfl fun KK hKK=>?_;refine zd6 (by rfl) _ _ _ (by rfl) (by rfl) (by rfl) hr9 ?_;refine hKK.out _ _ hs9 (fun _=>?_);clear hKK KK;refine tk 8 (.slice q9 m2 c9) rfl hs9 ?_ ?_
    ·rintro w ⟨⟨q0,q1,q2⟩,⟨x0,x1,x2,x3,x4,x5,x6,x7,x8,x9⟩⟩;go_simp
    refine wpAnyH_done (by kernel_rfl) ?_ _;clear hs0 hs6 hs7 hs8 hs9 hr7 hr9
    go_wp2_with fail
    go_roundw
    case rel=>exact ⟨k9,m2,q9,c9,rfl,by rw [<-HK9.out.1];go_num,by have:=HK9.out.1;omega,HS9⟩
    case measure=>have:=HK9.out.1;simp [intOf];omega
   ·obtain rfl:k=N:=by omega
    have j3:¬(k:Int) < (k:Int):=by omega
    have HFIN:Hid (NXQ n ((pk:Int),h) w (.returned (.tuple #[.int .i64 num,.slice q m c])) wr):=by
     have h9:=HS.out;rw [List.take_of_length_le (by have:=HX.out.2.1;omega)] at h9;have e9:=nx_in HX.out.2.2.2.2 HX.out.1;refine ⟨q,c,?_,?_,HBW.out wr hb⟩
     ·rw [e9]
      simp only;rw [h9.1]
     ·rw [e9]
      simp only;rw [h9.1];exact zav h9.2.2.1 (Nat.le_trans HSZ1.out HSZ3.out)
    clear hrow hb
    go_wp2_with fail
    refine bodyPost_ret (results_tmp2 rfl _ _ _) rfl ?_;exact HFIN.out
theorem hasB_rep (k:Nat) (h:List UInt8) (hk:1<=k):Tn.hasB (List.replicate k 120) h=decide (h.length=k/\h.all zfi=true):=by
 unfold Tn.hasB;have e1:(List.replicate k (120:UInt8)).isEmpty=false:=by
  cases k with
  | zero=>omega
  | succ k=>rfl
 rw [e1,List.length_replicate]
 by_cases hl:h.length=k
 ·subst hl
  simp only [Bool.not_false,Bool.true_and,beq_self_eq_true,true_and];rw [Bool.eq_iff_iff,decide_eq_true_eq,Tn.allTo_iff,List.all_eq_true];constructor
  ·intro hh b hb
   obtain ⟨j,hj⟩:=List.getElem?_of_mem hb;have hjl:=(List.getElem?_eq_some_iff.1 hj).1;have h3:=hh j hjl;unfold Tn.okH at h3;rw [List.getElem?_replicate,if_pos hjl,hj] at h3;simp only [Bool.and_eq_true] at h3;exact h3.1
  ·intro hh j hj
   unfold Tn.okH;rw [List.getElem?_replicate,if_pos hj,List.getElem?_eq_getElem hj];simp only [Bool.and_eq_true];exact ⟨hh _ (List.getElem_mem hj),rfl⟩
 ·have e2:(k==h.length)=false:=by
   simp only [beq_eq_false_iff_ne,ne_eq];omega
  rw [e2];simp [hl]
theorem pb_st {n:NN} (hb:1<=n.bits/\n.bits<=256) (p:Int) (h:List UInt8):pb (StP n (p,h))=(decide (0<=p/\p < (n.ports.length:Int))&&Tn.hasB (if 1<=n.bits/\n.bits<=256 then List.replicate n.bits.toNat 120 else []) h):=by
 rw [if_pos hb,hasB_rep _ _ (by omega),Bool.eq_iff_iff,Bool.and_eq_true,decide_eq_true_eq,decide_eq_true_eq];constructor
 ·intro h9
  by_cases hP:StP n (p,h)
  ·exact ⟨⟨hP.1,hP.2.1⟩,by have:=hP.2.2.1;simp only at this;omega,hP.2.2.2⟩
  ·rw [zfd hP] at h9;cases h9
 ·rintro ⟨⟨h1,h2⟩,h3,h4⟩
  exact zck ⟨h1,h2,by simp only;omega,h4⟩
set_option maxRecDepth 100000 in
set_option maxHeartbeats 16000000 in
theorem zn8 (bits:Int) (pp:Option Addr) (np cp:Nat) (pt:Option Addr) (nt ct:Nat) (pg:Option Addr) (ng cg:Nat) (p:Int) (w:World) :
  Calls Tryz.prog 49 #[.agg #[.int .i64 bits,.slice pp np cp,.slice pt nt ct,.slice pg ng cg],.int .i64 p] w fun e w'=>e=.returned (.bool (decide (0<=p/\p < (np:Int))))/\Below w.heap.size w w':=by
 obtain ⟨B,hB⟩:=ex w.heap.size;obtain ⟨W1,hW1⟩:=ex (w.alloc (.cells #[.int .i64 bits,.slice pp np cp,.slice pt nt ct,.slice pg ng cg] 26));have b1:Below w.heap.size w W1:=by rw [<-hW1];exact zah (Below.refl _ _) _
 have k1:W1.heap[B]?=some (.cells #[.int .i64 bits,.slice pp np cp,.slice pt nt ct,.slice pg ng cg] 26 (0,0)):=by rw [<-hW1,<-hB];exact zaa _ _
 have q1:W1.cell? ⟨B,1,none⟩=some (.slice pp np cp):=by rw [(zaf k1).1];rfl
 have HB:=zab hB;have HW1:=zab hW1;have HBW:=zab b1;clear hB hW1 b1 k1
 go_enter Tryz.func49,Tryz.ntmps49
 go_upto_region 1 with fail
 rw [HW1.out,HB.out]
 by_cases h0:p ≥ 0
 ·by_cases h1:p < (np:Int)
  ·go_wp2_with fail
   go_ret
   refine ⟨?_,HBW.out⟩;have:(0<=p/\p < (np:Int)):=⟨h0,h1⟩;simp [this]
  ·go_wp2_with fail
   go_ret
   refine ⟨?_,HBW.out⟩;simp [h1]
 ·go_wp2_with fail
  go_ret
  refine ⟨?_,HBW.out⟩;have:¬0<=p:=by omega
  simp [this]
set_option maxRecDepth 100000 in
set_option maxHeartbeats 16000000 in
theorem zkf (n:NN) (v:NV) (p:Int) (h:List UInt8) (w:World) (hN:LN w n v) (hO:okN n) (hT:TAB w) (hh:okS h) :
  Calls Tryz.prog 24 #[.agg (nnA n v),.agg #[.int .i64 p,.string ⟨h.toArray⟩]] w fun e w'=>e=.returned (.int .i64 (zf6 n (p,h)))/\Below w.heap.size w w':=by
 have hva:=fun (U:World) (hU:Below w.heap.size w U)=>zne n v U (hN.below hU) hO (hT.at hU);obtain ⟨pp,cp,pt,ct,pg,cg⟩:=v;unfold nnA at hva ⊢;simp only at hva ⊢;obtain ⟨np,hnp⟩:=ex n.ports.length;obtain ⟨nt,hnt⟩:=ex n.tabs.length;obtain ⟨ng,hng⟩:=ex n.grds.length;obtain ⟨bits,hbits⟩:=ex n.bits;rw [hnp,hnt,hng,hbits] at hva ⊢;obtain ⟨vb,hvb⟩:=ex (pb (NetP n));rw [hvb] at hva;obtain ⟨ip,hip⟩:=ex (decide (0<=p/\p < (np:Int)));obtain ⟨cw,hcw⟩:=ex ((if 1<=bits/\bits<=256 then List.replicate bits.toNat (120:UInt8) else []))
 obtain ⟨hb9,hhb⟩:=ex (Tn.hasB cw h);obtain ⟨R,hR⟩:=ex (zf6 n (p,h));rw [hR];have HR0:Hid (vb=false->R=90):=fun e=>by rw [<-hR,zf6,hvb,e,if_neg Bool.false_ne_true]
 have HR1:Hid (vb=true->R=if (ip&&hb9)=true then 0 else 100):=fun e=>by
  have hP:NetP n:=by
   by_cases hP:NetP n
   ·exact hP
   ·rw [zfd hP] at hvb;rw [<-hvb] at e;cases e
  rw [<-hR,zf6,hvb,e,if_pos rfl,pb_st hP.bits,hnp,hip,hbits,hcw,hhb]
 obtain ⟨B,hB⟩:=ex w.heap.size;obtain ⟨b2,hb2⟩:=ex (w.heap.size+1);obtain ⟨W1,hW1⟩:=ex ((w.alloc (.cells #[.int .i64 bits,.slice pp np cp,.slice pt nt ct,.slice pg ng cg] 26)).alloc (.cells #[.int .i64 p,.string ⟨h.toArray⟩] 28));have hz2:(w.alloc (.cells #[.int .i64 bits,.slice pp np cp,.slice pt nt ct,.slice pg ng cg] 26)).heap.size=w.heap.size+1:=Array.size_push _;have b1:Below w.heap.size w W1:=by rw [<-hW1];exact zah (zah (Below.refl _ _) _) _
 have k1:W1.heap[B]?=some (.cells #[.int .i64 bits,.slice pp np cp,.slice pt nt ct,.slice pg ng cg] 26 (0,0)):=by rw [<-hW1,<-hB];exact zae (zah (Below.refl _ _) _) (zaa _ _)
 have k2:W1.heap[b2]?=some (.cells #[.int .i64 p,.string ⟨h.toArray⟩] 28 (0,0)):=by rw [<-hW1,<-hb2,<-hz2];exact zaa _ _
 have HC:Hid (∀ U,Below W1.heap.size W1 U->(U.cell? ⟨B,0,none⟩=some (.int .i64 bits)/\U.cell? ⟨B,1,none⟩=some (.slice pp np cp)/\U.cell? ⟨B,2,none⟩=some (.slice pt nt ct)/\U.cell? ⟨B,3,none⟩=some (.slice pg ng cg))/\(U.cell? ⟨b2,0,none⟩=some (.int .i64 p)/\U.cell? ⟨b2,1,none⟩=some (.string ⟨h.toArray⟩))):=fun U hU=>by
  have e1:=(zaf (zae hU k1)).1;have e2:=(zaf (zae hU k2)).1;exact ⟨⟨by rw [e1];rfl,by rw [e1];rfl,by rw [e1];rfl,by rw [e1];rfl⟩,⟨by rw [e2];rfl,by rw [e2];rfl⟩⟩
 have HVA:Hid (Calls Tryz.prog 52 #[.agg #[.int .i64 bits,.slice pp np cp,.slice pt nt ct,.slice pg ng cg]] W1 fun e w'=>e=.returned (.int .i64 (if vb=true then 0 else 90))/\Below W1.heap.size W1 w'):=hva W1 b1
 have HIP:Hid (∀ U,Calls Tryz.prog 49 #[.agg #[.int .i64 bits,.slice pp np cp,.slice pt nt ct,.slice pg ng cg],.int .i64 p] U fun e w'=>e=.returned (.bool ip)/\Below U.heap.size U w'):=fun U=>by
  have h:=zn8 bits pp np cp pt nt ct pg ng cg p U;rw [hip] at h;exact h
 obtain ⟨a0,a1,a2,a3,a4,a5,a6,a7,a8,h9⟩:=zbz cw;have hgd:Tn.good cw=true:=by
  rw [<-hcw]
  split
  ·exact Tn.good_replicate _ (by omega)
  ·exact Tn.good_nil
 have HAL:Hid (∀ U,Calls Tryz.prog 53 #[.int .i64 bits] U fun e w'=>e=.returned (.agg #[.int .i64 a0,.int .u64 a1,.int .u64 a2,.int .u64 a3,.int .u64 a4,.int .u64 a5,.int .u64 a6,.int .u64 a7,.int .u64 a8])/\Below U.heap.size U w'):=fun U=>by
  have h:=Tn.all_any bits U;rw [hcw,h9.agg] at h;exact h
 have HHA:Hid (∀ U,Calls Tryz.prog 54 #[.agg #[.int .i64 a0,.int .u64 a1,.int .u64 a2,.int .u64 a3,.int .u64 a4,.int .u64 a5,.int .u64 a6,.int .u64 a7,.int .u64 a8],.string ⟨h.toArray⟩] U fun e w'=>e=.returned (.bool hb9)/\Below U.heap.size U w'):=fun U=>by
  have h2:=Tn.has_any cw ⟨h.toArray⟩ U hgd (by show h.toArray.size<=_;unfold okS at hh;unfold maxLen;simp;omega);rw [h9.agg,show (⟨h.toArray⟩:ByteArray).data.toList=h from rfl,hhb] at h2;exact h2
 have HB:=zab hB;have HB2:=zab hb2;have HW1:=zab hW1;have HBW:Hid (∀ U,Below W1.heap.size W1 U->Below w.heap.size w U):=fun U hU=>zac b1 hU;obtain ⟨⟨q0,q1,q2,q3⟩,⟨r0,r1⟩⟩:=HC.out W1 (Below.refl _ _);clear hva hN hO hT hh hnp hnt hng hbits hvb hip hcw hhb hR hB hb2 hW1 hz2 b1 k1 k2 h9 hgd
 go_enter Tryz.func24,Tryz.ntmps24
 go_upto_region 1 with fail
 rw [HW1.out,HB2.out,HB.out]
 go_wp2_with fail
 refine (HVA.out).mono ?_;rintro e W2 ⟨rfl,c2⟩;clear q0 q1 q2 q3 r0 r1;cases vb with
 | false=>
  obtain rfl:=HR0.out rfl;simp only [Bool.false_eq_true,if_false];have HFIN:=zab (HBW.out W2 c2);clear c2
  go_wp2_with fail
  go_ret
  exact ⟨rfl,HFIN.out⟩
 | true=>
  simp only [if_true];have HR:=zab (HR1.out rfl);have hs0:(W2.drew.cell? ⟨B,0,none⟩=some (.int .i64 bits)/\W2.drew.cell? ⟨B,1,none⟩=some (.slice pp np cp)/\W2.drew.cell? ⟨B,2,none⟩=some (.slice pt nt ct)/\W2.drew.cell? ⟨B,3,none⟩=some (.slice pg ng cg))/\(W2.drew.cell? ⟨b2,0,none⟩=some (.int .i64 p)/\W2.drew.cell? ⟨b2,1,none⟩=some (.string ⟨h.toArray⟩)):=HC.out W2.drew (zac c2 (Below.refl _ _).drew);have HC2:=zab c2;clear c2
  go_upto_region 4 with fail
  refine wp_region_held_drew (S:=fun U=>(U.cell? ⟨B,0,none⟩=some (.int .i64 bits)/\U.cell? ⟨B,1,none⟩=some (.slice pp np cp)/\U.cell? ⟨B,2,none⟩=some (.slice pt nt ct)/\U.cell? ⟨B,3,none⟩=some (.slice pg ng cg))/\(U.cell? ⟨b2,0,none⟩=some (.int .i64 p)/\U.cell? ⟨b2,1,none⟩=some (.string ⟨h.toArray⟩))) (by kernel_rfl) hs0 (fun _=>?_);refine tk 0 (.agg #[.int .i64 bits,.slice pp np cp,.slice pt nt ct,.slice pg ng cg]) rfl hs0 ?_ ?_
  ·rintro w ⟨⟨q0,q1,q2,q3⟩,⟨r0,r1⟩⟩;go_simp
  refine tk 1 (.pointer (some ⟨b2,0,none⟩)) rfl hs0 ?_ ?_
  ·rintro w ⟨⟨q0,q1,q2,q3⟩,⟨r0,r1⟩⟩;go_simp
  refine tk 2 (.int .i64 p) rfl hs0 ?_ ?_
  ·rintro w ⟨⟨q0,q1,q2,q3⟩,⟨r0,r1⟩⟩;go_simp
  refine rd 3 rfl fun KK hKK=>?_
  go_simp
  refine (HIP.out _).mono ?_;rintro en W3 ⟨rfl,c3⟩
  replace c3:Below W1.heap.size W1 W3:=zac (zac HC2.out (Below.refl _ _).drew) c3
  have hs3:=HC.out W3 c3
  go_simp
  refine hKK.out _ _ hs3 (fun _=>?_);clear hKK KK;cases ip with
  | false=>
   have hR9:R=100:=HR.out;subst hR9;refine tk 4 (.bool true) rfl hs3 ?_ ?_
   ·rintro w ⟨⟨q0,q1,q2,q3⟩,⟨r0,r1⟩⟩;go_simp
   refine tk 5 (.bool true) rfl hs3 ?_ ?_
   ·rintro w ⟨⟨q0,q1,q2,q3⟩,⟨r0,r1⟩⟩;go_simp
   refine tq 6 rfl hs3 ?_;refine tq 7 rfl hs3 ?_;refine tq 8 rfl hs3 ?_;refine tq 9 rfl hs3 ?_;refine tq 10 rfl hs3 ?_;refine tq 11 rfl hs3 ?_;refine tq 12 rfl hs3 ?_;refine tk 13 (.bool true) rfl hs3 ?_ ?_
   ·rintro w ⟨⟨q0,q1,q2,q3⟩,⟨r0,r1⟩⟩;go_simp
   refine wpAnyH_done (by kernel_rfl) ?_ _;simp only [List.getElem_toArray,List.getElem_cons_succ,List.getElem_cons_zero,Act.put,List.setIfInBounds_toArray,List.set_cons_zero,List.set_cons_succ];have HFIN:=zab (HBW.out W3 c3);clear c3 hs0 hs3
   go_wp2_with fail
   go_ret
   exact ⟨rfl,HFIN.out⟩
  | true=>
   refine tk 4 (.bool false) rfl hs3 ?_ ?_
   ·rintro w ⟨⟨q0,q1,q2,q3⟩,⟨r0,r1⟩⟩;go_simp
   refine tk 5 (.bool false) rfl hs3 ?_ ?_
   ·rintro w ⟨⟨q0,q1,q2,q3⟩,⟨r0,r1⟩⟩;go_simp
   refine tk 6 (.pointer (some ⟨B,0,none⟩)) rfl hs3 ?_ ?_
   ·rintro w ⟨⟨q0,q1,q2,q3⟩,⟨r0,r1⟩⟩;go_simp
   refine tk 7 (.int .i64 bits) rfl hs3 ?_ ?_
   ·rintro w ⟨⟨q0,q1,q2,q3⟩,⟨r0,r1⟩⟩;go_simp
   refine tk 9 (.pointer (some ⟨b2,1,none⟩)) rfl hs3 ?_ ?_
   ·rintro w ⟨⟨q0,q1,q2,q3⟩,⟨r0,r1⟩⟩;go_simp
   refine tk 10 (.string ⟨h.toArray⟩) rfl hs3 ?_ ?_
   ·rintro w ⟨⟨q0,q1,q2,q3⟩,⟨r0,r1⟩⟩;go_simp
   refine rd 8 rfl fun KK hKK=>?_
   go_simp
   refine (HAL.out _).mono ?_;rintro en W4 ⟨rfl,c4⟩
   replace c4:Below W1.heap.size W1 W4:=zac c3 c4
   have hs4:=HC.out W4 c4
   go_simp
   refine hKK.out _ _ hs4 (fun _=>?_);clear hKK KK;refine rd 11 rfl fun KK hKK=>?_
   go_simp
   refine (HHA.out _).mono ?_;rintro en W5 ⟨rfl,c5⟩
   replace c5:Below W1.heap.size W1 W5:=zac c4 c5
   have hs5:=HC.out W5 c5
   go_simp
   refine hKK.out _ _ hs5 (fun _=>?_);clear hKK KK;refine tk 12 (.bool (!hb9)) rfl hs5 ?_ ?_
   ·rintro w ⟨⟨q0,q1,q2,q3⟩,⟨r0,r1⟩⟩;go_simp
   refine tk 13 (.bool (!hb9)) rfl hs5 ?_ ?_
   ·rintro w ⟨⟨q0,q1,q2,q3⟩,⟨r0,r1⟩⟩;go_simp
   refine wpAnyH_done (by kernel_rfl) ?_ _;simp only [List.getElem_toArray,List.getElem_cons_succ,List.getElem_cons_zero,Act.put,List.setIfInBounds_toArray,List.set_cons_zero,List.set_cons_succ];have HFIN:=zab (HBW.out W5 c5);clear c3 c4 c5 hs0 hs3 hs4 hs5;cases hb9 with
   | true=>
    have hR9:R=0:=HR.out;subst hR9
    go_wp2_with fail
    go_ret
    exact ⟨rfl,HFIN.out⟩
   | false=>
    have hR9:R=100:=HR.out;subst hR9
    go_wp2_with fail
    go_ret
    exact ⟨rfl,HFIN.out⟩
end Go.Proofs.YtmfakcfmkmppfaaGreatDoor.Nt
