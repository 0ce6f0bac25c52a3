import Derived.Test.YtmfakcfmkmppfaaGreatDoorVAY
import Derived.Shelf.Spec.SlicesGrow
import Derived.Ground.Names8Prog
namespace Go.Proofs.YtmfakcfmkmppfaaGreatDoor.Nt
open Go.RowKit Go.Shelf
theorem zqm {n:NN} {s:Int×List UInt8} (hV:NetP n) (hs:StP n s):(zdt n s).2.length<=8/\∀ o∈(zdt n s).2,StP n o:=by
 obtain ⟨h0,h1,h2⟩:=hs;have hov:∀ o:Int×List UInt8,StP n o->∀ o'∈ovS n o,StP n o':=fun o ho o' ho'=>by
  unfold ovS at ho'
  split at ho'
  ·obtain rfl:o'=_:=by simpa using ho'
   obtain ⟨-,hx2⟩:=hV.port ho.1 ho.2.1;rcases hx2.2.2.2 with e | ⟨-,e1,e2,-⟩
   ·rename_i h9;rw [e] at h9;omega
   ·exact ⟨e1,e2,ho.2.2⟩
  ·simp at ho'
 obtain ⟨a1,a2⟩:=zg5 hV h0 h1 h2
 by_cases hi:(zal n s.1).inn=true
 ·obtain ⟨k0,L0,hkl⟩:∃ k L,zce n s=(k,L):=⟨_,_,rfl⟩
  rw [hkl] at a1 a2;simp only at a1 a2;rw [nx_in hi hkl];refine ⟨?_,fun o ho=>?_⟩
  ·have key:∀ L:List (Int×List UInt8),(L.flatMap (nxF n)).length<=2*L.length:=by
    intro L
    induction L with
    | nil=>simp
    | cons o L ih=>
     rw [List.flatMap_cons,List.length_append];have:=zqi n o;simp only [nxF,List.length_cons];omega
   have:=key L0;show (L0.flatMap (nxF n)).length<=8;omega
  ·obtain ⟨o2,h3,h4⟩:=List.mem_flatMap.1 ho
   rcases List.mem_cons.1 h4 with e | h5
   ·rw [e];exact a2 o2 h3
   ·exact hov o2 (a2 o2 h3) o h5
 ·rw [zjt (by simpa using hi)]
  exact ⟨Nat.le_trans (zqi n s) (by omega),fun o ho=>hov s ⟨h0,h1,h2⟩ o ho⟩
noncomputable def nxE (n:NN) (s:Int×List UInt8):Int:=if zf6 n s=0 then (zdt n s).1 else 0
noncomputable def nxL (n:NN) (s:Int×List UInt8):List (Int×List UInt8):=if zf6 n s=0 then (zdt n s).2 else []
theorem ziy {n:NN} {s:Int×List UInt8} (h1:NetP n) (h2:StP n s):zf6 n s=0:=by unfold zf6;rw [if_pos (zck h1),if_pos (zck h2)]
theorem zrq {n:NN} {s:Int×List UInt8} (h:¬(NetP n/\StP n s)):zf6 n s≠0:=by
 unfold zf6
 by_cases h1:NetP n
 ·rw [if_pos (zck h1),zfd (fun h2=>h ⟨h1,h2⟩),if_neg Bool.false_ne_true];decide
 ·rw [zfd h1,if_neg Bool.false_ne_true];decide
def SNQ (n:NN) (s:Int×List UInt8) (w:World) (e:Ending) (w':World):Prop:=∃ q c,e=.returned (.tuple #[.int .i64 (nxE n s),.slice q (nxL n s).length c,.int .i64 (zf6 n s)])/\w'.ownsRow w.heap.size 28 2 (.slice q (nxL n s).length c) (nxL n s).length ((nxL n s).flatMap asC)/\Below w.heap.size w w'
theorem snq_no {n:NN} {s:Int×List UInt8} {w w':World} {R:Int} (h:zf6 n s=R) (h0:R≠0) (hb:Below w.heap.size w w'):SNQ n s w (.returned (.tuple #[.int .i64 0,.slice none 0 0,.int .i64 R])) w':=by
 have e1:nxE n s=0:=by unfold nxE;rw [if_neg (by rw [h];exact h0)]
 have e2:nxL n s=[]:=by unfold nxL;rw [if_neg (by rw [h];exact h0)]
 refine ⟨none,0,by rw [e1,e2,h];rfl,?_,hb⟩;rw [e2];exact World.ownsRow_nil _ _ _ _
theorem snq_yes {n:NN} {s:Int×List UInt8} {w w':World} {num:Int} {L:List (Int×List UInt8)} {q:Option Addr} {m c:Nat} (h:zf6 n s=0) (hn:zdt n s=(num,L)) (hm:L.length=m) (ho:w'.ownsRow w.heap.size 28 2 (.slice q m c) m (L.flatMap asC)) (hb:Below w.heap.size w w'):SNQ n s w (.returned (.tuple #[.int .i64 num,.slice q m c,.int .i64 0])) w':=by
 have e1:nxE n s=num:=by unfold nxE;rw [if_pos h,hn]
 have e2:nxL n s=L:=by unfold nxL;rw [if_pos h,hn]
 subst hm;refine ⟨q,c,by rw [e1,e2,h],?_,hb⟩;rw [e2];exact ho
theorem info_as:(Tryz.prog.info? 28).map (fun i=>(i.zero,i.size,i.bytes))=some (some (.agg #[.int .i64 0,.string ⟨#[]⟩]),2,24):=by kernel_rfl
theorem pushA {W:World} {B:Nat} {p:Option Addr} {n n9 c:Nat} {L:List (Int×List UInt8)} {x:Int} {t:List UInt8} (h:W.ownsRow B 28 2 (.slice p n c) n (L.flatMap asC)) (hB:B<=W.heap.size) (hn:n+1=n9) (hO:n9*24<=140737488355328) :
  ∃ q c9 W9,(Builtin.append_ #[79,79] 79 #[.slice p n c,.slice (some ⟨W.heap.size,0,none⟩) 1 1]).run Tryz.prog (W.alloc (.cells #[.int .i64 x,.string ⟨t.toArray⟩] 28 (0,0)))=.ok (.slice q n9 c9) W9/\W9.ownsRow B 28 2 (.slice q n9 c9) n9 ((L++[(x,t)]).flatMap asC)/\Below B W W9/\(∀ b o,W.heap[b]?=some o->(Value.slice p n c).ownBlock≠some b->W9.heap[b]?=some o)/\(∀ b,(Value.slice q n9 c9).ownBlock=some b->(Value.slice p n c).ownBlock=some b∨W.heap.size<=b):=by
 subst hn;obtain ⟨i0,hi,hz0,hz1,hz2⟩:=info_parts info_as;obtain ⟨q,c9,W9,hr,o9,b9,kp,kq⟩:=zhn (W:=W) (TS:=79) (cs:=(asC (x,t)).toArray) Tryz.underlying79 hi hz0 hz1 hz2 rfl (by decide) h hB rfl (fun u hu=>asC_one (x,t) u (by simpa using hu)) hO (by omega);refine ⟨q,c9,W9,hr,?_,b9,kp,kq⟩;rw [List.flatMap_append]
 simpa using o9
set_option maxRecDepth 100000 in
set_option maxHeartbeats 16000000 in
theorem zpl (n:NN) (v:NV) (p:Int) (h:List UInt8) (w:World) (hN:LN w n v) (hO:okN n) (hT:TAB w) (hh:okS h) :
  Calls Tryz.prog 33 #[.agg (nnA n v),.agg (asC (p,h)).toArray] w (SNQ n (p,h) w):=by
 have hck:=fun (U:World) (hU:Below w.heap.size w U)=>zkf n v p h U (hN.below hU) hO (hT.at hU) hh;have hso:=fun (U:World)=>zge p h U hh;have hrd:=fun (hV:NetP n) (U:World) (hU:Below w.heap.size w U)=>read_any n v n.ports.length n.tabs.length n.grds.length U (hN.below hU) hO hV rfl rfl rfl;have hnx:=fun (hV:NetP n) (hS:StP n (p,h)) (x:NV) (U:World) (hW:NW U n x)=>next_any n x n.ports.length n.tabs.length n.grds.length p h U hW hV hS.1 hS.2.1 hS.2.2 rfl rfl rfl;rw [show (asC (p,h)).toArray=#[.int .i64 p,.string ⟨h.toArray⟩] from rfl];obtain ⟨pp,cp,pt,ct,pg,cg⟩:=v;unfold nnA at hck ⊢;simp only at hck hrd ⊢;obtain ⟨np,hnp⟩:=ex n.ports.length;obtain ⟨nt,hnt⟩:=ex n.tabs.length;obtain ⟨ng,hng⟩:=ex n.grds.length;obtain ⟨bits,hbits⟩:=ex n.bits;rw [hnp,hnt,hng] at hck hrd hnx ⊢;rw [hbits] at hck hrd ⊢;obtain ⟨R,hR⟩:=ex (zf6 n (p,h));rw [hR] at hck;obtain ⟨B,hB⟩:=ex w.heap.size;obtain ⟨b2,hb2⟩:=ex (w.heap.size+1);obtain ⟨W1,hW1⟩:=ex ((w.alloc (.cells #[.int .i64 bits,.slice pp np cp,.slice pt nt ct,.slice pg ng cg] 26)).alloc (.cells #[.int .i64 p,.string ⟨h.toArray⟩] 28));have hz2:(w.alloc (.cells #[.int .i64 bits,.slice pp np cp,.slice pt nt ct,.slice pg ng cg] 26)).heap.size=w.heap.size+1:=Array.size_push _;have b1:Below w.heap.size w W1:=by rw [<-hW1];exact zah (zah (Below.refl _ _) _) _
 have k1:W1.heap[B]?=some (.cells #[.int .i64 bits,.slice pp np cp,.slice pt nt ct,.slice pg ng cg] 26 (0,0)):=by rw [<-hW1,<-hB];exact zae (zah (Below.refl _ _) _) (zaa _ _)
 have k2:W1.heap[b2]?=some (.cells #[.int .i64 p,.string ⟨h.toArray⟩] 28 (0,0)):=by rw [<-hW1,<-hb2,<-hz2];exact zaa _ _
 have HC:Hid (∀ U,Below W1.heap.size W1 U->(U.cell? ⟨B,0,none⟩=some (.int .i64 bits)/\U.cell? ⟨B,1,none⟩=some (.slice pp np cp)/\U.cell? ⟨B,2,none⟩=some (.slice pt nt ct)/\U.cell? ⟨B,3,none⟩=some (.slice pg ng cg))/\(U.cell? ⟨b2,0,none⟩=some (.int .i64 p)/\U.cell? ⟨b2,1,none⟩=some (.string ⟨h.toArray⟩))):=fun U hU=>by
  have e1:=(zaf (zae hU k1)).1;have e2:=(zaf (zae hU k2)).1;exact ⟨⟨by rw [e1];rfl,by rw [e1];rfl,by rw [e1];rfl,by rw [e1];rfl⟩,⟨by rw [e2];rfl,by rw [e2];rfl⟩⟩
 have HCK:Hid (Calls Tryz.prog 24 #[.agg #[.int .i64 bits,.slice pp np cp,.slice pt nt ct,.slice pg ng cg],.agg #[.int .i64 p,.string ⟨h.toArray⟩]] W1 fun e w'=>e=.returned (.int .i64 R)/\Below W1.heap.size W1 w'):=hck W1 b1;have HV:Hid (okN n/\zf6 n (p,h)=R):=⟨hO,hR⟩;have HSO:Hid (∀ U:World,Calls Tryz.prog 29 #[.agg #[.int .i64 p,.string ⟨h.toArray⟩]] U fun e w'=>e=.returned (.agg (stC (p,Tn.cubeT h)).toArray)/\Below U.heap.size U w'):=hso;have HRD:Hid (NetP n->∀ U,Below W1.heap.size W1 U->Calls Tryz.prog 27 #[.agg #[.int .i64 bits,.slice pp np cp,.slice pt nt ct,.slice pg ng cg]] U (RDQ n np nt ng U)):=fun hV U hU=>hrd hV U (zac b1 hU);have HNX:Hid (NetP n->StP n (p,h)->∀ (x:NV) (U:World),NW U n x->Calls Tryz.prog 62 #[.agg #[.slice x.pp np x.cp,.slice x.pt nt x.ct,.slice x.pg ng x.cg],.agg (stC (p,h)).toArray] U (NXQ n (p,h) U)):=hnx;have HB:=zab hB;have HB2:=zab hb2;have HW1:=zab hW1;have HBW:Hid (∀ U,Below W1.heap.size W1 U->Below w.heap.size w U):=fun U hU=>zac b1 hU;have HSZ:Hid (w.heap.size<=W1.heap.size):=b1.size;obtain ⟨⟨q0,q1,q2,q3⟩,⟨r0,r1⟩⟩:=HC.out W1 (Below.refl _ _);clear hN hO hT hh hck hso hrd hnx hnp hnt hng hbits hR hB hb2 hW1 hz2 b1 k1 k2
 go_enter Tryz.func33,Tryz.ntmps33
 go_upto_region 1 with fail
 rw [HW1.out,HB2.out,HB.out]
 go_wp2_with fail
 refine (HCK.out).mono ?_;rintro e W2 ⟨rfl,c2⟩;clear q0 q1 q2 q3 r0 r1
 by_cases hP:NetP n/\StP n (p,h)
 ·have hR0:R=0:=by rw [<-HV.out.2];exact ziy hP.1 hP.2
  subst hR0;obtain ⟨a0,a1,a2,a3,a4,a5,a6,a7,a8,h9⟩:=zbz h;have HST:Hid (∀ U:World,Calls Tryz.prog 29 #[.agg #[.int .i64 p,.string ⟨h.toArray⟩]] U fun e w'=>e=.returned (.agg #[.int .i64 p,.int .i64 a0,.int .u64 a1,.int .u64 a2,.int .u64 a3,.int .u64 a4,.int .u64 a5,.int .u64 a6,.int .u64 a7,.int .u64 a8])/\Below U.heap.size U w'):=fun U=>by
   have hh:=HSO.out U;rw [zg0 (zd0 hP.2.2.2) hP.1.bits.1 hP.1.bits.2,zbf h9] at hh;exact hh
  have HRD:=zab (HRD.out hP.1);have HNX:Hid (∀ (x:NV) (U:World),NW U n x->Calls Tryz.prog 62 #[.agg #[.slice x.pp np x.cp,.slice x.pt nt x.ct,.slice x.pg ng x.cg],.agg #[.int .i64 p,.int .i64 a0,.int .u64 a1,.int .u64 a2,.int .u64 a3,.int .u64 a4,.int .u64 a5,.int .u64 a6,.int .u64 a7,.int .u64 a8]] U (NXQ n (p,h) U)):=by
   have hh:=HNX.out hP.1 hP.2;rw [zbf h9] at hh;exact hh
  obtain ⟨num,L,hNL⟩:∃ num L,zdt n (p,h)=(num,L):=⟨_,_,rfl⟩;obtain ⟨N,hN⟩:=ex L.length;obtain ⟨hst1,hst2⟩:=zqm hP.1 hP.2;rw [hNL] at hst1 hst2;simp only at hst1 hst2;have HX:Hid (zdt n (p,h)=(num,L)/\L.length=N/\N<=8/\(∀ o∈L,StP n o)/\NetP n):=⟨hNL,hN,by omega,hst2,hP.1⟩;have hN7:N<=140737488351232:=by have:=HX.out.2.2.1;omega
  have hs0:=HC.out W2.drew (zac c2 (Below.refl _ _).drew);have HC2:=zab (zac c2 (Below.refl _ _).drew);clear HSO hP h9 hNL hN hst1 hst2 c2
  go_upto_region 4 with fail
  go_cut [8,9] from 19 to 26 (fun v8 v9 wx=>∃ (q:Option Addr) (c:Nat),v8=.int .i64 num/\v9=.slice q N c/\Hid (RowL 10 stC wx q L/\Below W1.heap.size W1 wx))
  case first=>
   refine wp_region_held_drew (S:=fun U=>(U.cell? ⟨B,0,none⟩=some (.int .i64 bits)/\U.cell? ⟨B,1,none⟩=some (.slice pp np cp)/\U.cell? ⟨B,2,none⟩=some (.slice pt nt ct)/\U.cell? ⟨B,3,none⟩=some (.slice pg ng cg))/\(U.cell? ⟨b2,0,none⟩=some (.int .i64 p)/\U.cell? ⟨b2,1,none⟩=some (.string ⟨h.toArray⟩))) (by kernel_rfl) hs0 (fun _=>?_);refine tk 0 (.agg #[.int .i64 bits,.slice pp np cp,.slice pt nt ct,.slice pg ng cg]) rfl hs0 ?_ ?_
   ·rintro w ⟨⟨q0,q1,q2,q3⟩,⟨r0,r1⟩⟩;go_simp
   refine tk 2 (.agg #[.int .i64 p,.string ⟨h.toArray⟩]) rfl hs0 ?_ ?_
   ·rintro w ⟨⟨q0,q1,q2,q3⟩,⟨r0,r1⟩⟩;go_simp
   refine rd 1 rfl fun KK hKK=>?_
   go_simp
   refine (HRD.out _ HC2.out).mono ?_;rintro en W3 ⟨p1,c1,p2,c2,p3,c3,rfl,hw3,b3⟩;have d3:Below W1.heap.size W1 W3:=zac HC2.out b3;have hs3:=HC.out W3 d3
   go_simp
   refine hKK.out _ _ hs3 (fun _=>?_);clear hKK KK;refine rd 3 rfl fun KK hKK=>?_
   go_simp
   refine (HST.out _).mono ?_;rintro en W4 ⟨rfl,b4⟩;have hw4:=hw3.below b4;have d4:Below W1.heap.size W1 W4:=zac d3 b4;have hs4:=HC.out W4 d4;clear hw3 b3 b4 d3
   go_simp
   refine hKK.out _ _ hs4 (fun _=>?_);clear hKK KK;refine rd 4 rfl fun KK hKK=>?_
   go_simp
   refine (HNX.out _ _ hw4).mono ?_;rintro en W5 ⟨q,c,rfl,ho,b5⟩;rw [HX.out.1] at ho ⊢;simp only at ho ⊢;rw [HX.out.2.1] at ho ⊢;have d5:Below W1.heap.size W1 W5:=zac d4 b5;have hs5:=HC.out W5 d5;have HQ:Hid (RowL 10 stC W5 q L/\Below W1.heap.size W1 W5):=⟨zbm zef ho HX.out.2.1,d5⟩;clear ho b5 d5
   go_simp
   refine hKK.out _ _ hs5 (fun _=>?_);clear hKK KK;refine tk 5 (.tuple #[.int .i64 num,.slice q N c]) rfl hs5 ?_ ?_
   ·rintro w ⟨⟨q0,q1,q2,q3⟩,⟨r0,r1⟩⟩;go_simp
   refine tk 6 (.int .i64 num) rfl hs5 ?_ ?_
   ·rintro w ⟨⟨q0,q1,q2,q3⟩,⟨r0,r1⟩⟩;go_simp
   refine tk 7 (.slice q N c) rfl hs5 ?_ ?_
   ·rintro w ⟨⟨q0,q1,q2,q3⟩,⟨r0,r1⟩⟩;go_simp
   refine tk 8 (.int .i64 num) rfl hs5 ?_ ?_
   ·rintro w ⟨⟨q0,q1,q2,q3⟩,⟨r0,r1⟩⟩;go_simp
   refine tk 9 (.slice q N c) rfl hs5 ?_ ?_
   ·rintro w ⟨⟨q0,q1,q2,q3⟩,⟨r0,r1⟩⟩;go_simp
   refine wpAnyH_done (by kernel_rfl) ?_ _;simp only [List.getElem_toArray,List.getElem_cons_succ,List.getElem_cons_zero,Act.put,List.setIfInBounds_toArray,List.set_cons_zero,List.set_cons_succ];clear hs0 hs3 hs4 hs5
   go_wp2_with fail
   go_meet
   exact ⟨q,c,rfl,rfl,HQ⟩
  case rest=>
   obtain ⟨q,c,rfl,rfl,HQ⟩:=hcut;clear hs0
   go_wp2_with fail
   have HR:Hid (∀ U,Below wc.heap.size wc U->RowL 10 stC U q L/\Below W1.heap.size W1 U):=fun U hU=>⟨HQ.out.1.below hU,zac HQ.out.2 hU⟩;have HSZ3:Hid (W1.heap.size<=wc.heap.size):=HQ.out.2.size;clear HQ
   go_loopw [10,29] (fun v10 vk wr=>∃ (k:Nat) (q:Option Addr) (c:Nat),v10=.slice q k c/\vk=.int .i64 (k:Int)/\k<=N/\Hid (wr.ownsRow wc.heap.size 28 2 (.slice q k c) k ((L.take k).flatMap asC)/\Below wc.heap.size wc wr)) (fun _ vk _=>N - (intOf vk).toNat)
   case atStart=>exact ⟨0,none,0,rfl,rfl,Nat.zero_le _,World.ownsRow_nil _ _ _ _,Below.refl _ _⟩
   case round=>
    obtain ⟨k,q5,c5,rfl,rfl,hk,HS⟩:=hrel;obtain ⟨hrow,hb⟩:=HR.out wr HS.out.2
    by_cases hlt:k < N
    ·obtain ⟨o,hx⟩:∃ o,L[k]?=some o:=⟨_,List.getElem?_eq_getElem (by have:=HX.out.2.1;omega)⟩
     obtain ⟨x,t⟩:=o;obtain ⟨gr,orr,e9,hcx⟩:=hrow k (x,t) hx;subst e9;obtain ⟨d0,d1,d2,d3,d4,d5,d6,d7,d8,h8⟩:=zbz t;have hcx9:∀ (i:Nat) (v:Value),([.int .i64 x,.int .i64 d0,.int .u64 d1,.int .u64 d2,.int .u64 d3,.int .u64 d4,.int .u64 d5,.int .u64 d6,.int .u64 d7,.int .u64 d8]:List Value)[i]?=some v->wr.cell? ⟨gr,orr+k*10+i,none⟩=some v:=fun i v hv=>hcx i v (by unfold stC;rw [show zcp (x,t).2=_ from h8];exact hv);have u0:=hcx9 0 _ rfl;have u1:=hcx9 1 _ rfl;have u2:=hcx9 2 _ rfl;have u3:=hcx9 3 _ rfl;have u4:=hcx9 4 _ rfl;have u5:=hcx9 5 _ rfl;have u6:=hcx9 6 _ rfl;have u7:=hcx9 7 _ rfl;have u8:=hcx9 8 _ rfl;have u9:=hcx9 9 _ rfl;rw [Nat.add_zero] at u0;have hgt:Tn.good t=true:=zci (zd0 (HX.out.2.2.2.1 (x,t) (List.mem_of_getElem? hx)).2.2) HX.out.2.2.2.2.bits.2;have HT9:Hid (∀ U:World,Calls Tryz.prog 63 #[.agg #[.int .i64 d0,.int .u64 d1,.int .u64 d2,.int .u64 d3,.int .u64 d4,.int .u64 d5,.int .u64 d6,.int .u64 d7,.int .u64 d8]] U fun e w'=>e=.returned (.string ⟨t.toArray⟩)/\Below U.heap.size U w'):=fun U=>by
      have h9:=Tn.text_any t U hgt;rw [h8.agg] at h9;exact h9
     obtain ⟨k9,hk9⟩:=ex (k+1);obtain ⟨W4,hW4⟩:=ex (wr.alloc (Obj.cells #[.int .i64 x,.int .i64 d0,.int .u64 d1,.int .u64 d2,.int .u64 d3,.int .u64 d4,.int .u64 d5,.int .u64 d6,.int .u64 d7,.int .u64 d8] 75));have b4:Below wr.heap.size wr W4:=by rw [<-hW4];exact zah (Below.refl _ _) _
     obtain ⟨rb,hrb⟩:=ex wr.heap.size;have s4:W4.heap[rb]?=some (.cells #[.int .i64 x,.int .i64 d0,.int .u64 d1,.int .u64 d2,.int .u64 d3,.int .u64 d4,.int .u64 d5,.int .u64 d6,.int .u64 d7,.int .u64 d8] 75 (0,0)):=by rw [<-hW4,<-hrb];exact zaa _ _
     have HCX:Hid (∀ U:World,U.heap[rb]?=some (.cells #[.int .i64 x,.int .i64 d0,.int .u64 d1,.int .u64 d2,.int .u64 d3,.int .u64 d4,.int .u64 d5,.int .u64 d6,.int .u64 d7,.int .u64 d8] 75 (0,0))->U.cell? ⟨rb,0,none⟩=some (.int .i64 x)/\U.cell? ⟨rb,1,none⟩=some (.int .i64 d0)/\U.cell? ⟨rb,2,none⟩=some (.int .u64 d1)/\U.cell? ⟨rb,3,none⟩=some (.int .u64 d2)/\U.cell? ⟨rb,4,none⟩=some (.int .u64 d3)/\U.cell? ⟨rb,5,none⟩=some (.int .u64 d4)/\U.cell? ⟨rb,6,none⟩=some (.int .u64 d5)/\U.cell? ⟨rb,7,none⟩=some (.int .u64 d6)/\U.cell? ⟨rb,8,none⟩=some (.int .u64 d7)/\U.cell? ⟨rb,9,none⟩=some (.int .u64 d8)):=fun U hU=>by
      have e1:=(zaf hU).1;exact ⟨by rw [e1];rfl,by rw [e1];rfl,by rw [e1];rfl,by rw [e1];rfl,by rw [e1];rfl,by rw [e1];rfl,by rw [e1];rfl,by rw [e1];rfl,by rw [e1];rfl,by rw [e1];rfl⟩
     have hne:∀ kq,(Value.slice q5 k c5).ownBlock=some kq->kq < rb:=fun kq e=>by rw [<-hrb];exact (World.ownsRow.lt HS.out.1 kq e).2
     have HN4:Hid (∀ U,Below W4.heap.size W4 U->Below wc.heap.size wc U/\Below wr.heap.size wr U/\U.heap[rb]?=some (.cells #[.int .i64 x,.int .i64 d0,.int .u64 d1,.int .u64 d2,.int .u64 d3,.int .u64 d4,.int .u64 d5,.int .u64 d6,.int .u64 d7,.int .u64 d8] 75 (0,0))):=fun U hU=>⟨zac HS.out.2 (zac b4 hU),zac b4 hU,zae hU s4⟩;have HX7:Hid (L[k]?=some (x,t)/\k+1=k9/\(∀ kq,(Value.slice q5 k c5).ownBlock=some kq->kq < rb)):=⟨hx,hk9,hne⟩;have hs0:=HCX.out W4.drew (zae (Below.refl _ _).drew s4);have HW4:=zab hW4;have HRB:=zab hrb;have j2:(0:Int)<=(k:Int):=by omega
     have j3:(k:Int) < (N:Int):=by omega
     clear hrow hb hx hcx hcx9 h8 hgt hk9 hW4 b4 hrb s4 hne
     go_upto_region 9 with fail
     rw [HW4.out,HRB.out];clear u0 u1 u2 u3 u4 u5 u6 u7 u8 u9;refine wp_region_held_drew (S:=fun U=>U.cell? ⟨rb,0,none⟩=some (.int .i64 x)/\U.cell? ⟨rb,1,none⟩=some (.int .i64 d0)/\U.cell? ⟨rb,2,none⟩=some (.int .u64 d1)/\U.cell? ⟨rb,3,none⟩=some (.int .u64 d2)/\U.cell? ⟨rb,4,none⟩=some (.int .u64 d3)/\U.cell? ⟨rb,5,none⟩=some (.int .u64 d4)/\U.cell? ⟨rb,6,none⟩=some (.int .u64 d5)/\U.cell? ⟨rb,7,none⟩=some (.int .u64 d6)/\U.cell? ⟨rb,8,none⟩=some (.int .u64 d7)/\U.cell? ⟨rb,9,none⟩=some (.int .u64 d8)) (by kernel_rfl) hs0 (fun _=>?_);refine tk 0 (.slice q5 k c5) rfl hs0 ?_ ?_
     ·rintro w ⟨x0,x1,x2,x3,x4,x5,x6,x7,x8,x9⟩;go_simp
     refine tk 1 (.pointer (some ⟨rb,0,none⟩)) rfl hs0 ?_ ?_
     ·rintro w ⟨x0,x1,x2,x3,x4,x5,x6,x7,x8,x9⟩;go_simp
     refine tk 2 (.int .i64 x) rfl hs0 ?_ ?_
     ·rintro w ⟨x0,x1,x2,x3,x4,x5,x6,x7,x8,x9⟩;go_simp
     refine tk 3 (.pointer (some ⟨rb,1,none⟩)) rfl hs0 ?_ ?_
     ·rintro w ⟨x0,x1,x2,x3,x4,x5,x6,x7,x8,x9⟩;go_simp
     refine tk 4 (.agg #[.int .i64 d0,.int .u64 d1,.int .u64 d2,.int .u64 d3,.int .u64 d4,.int .u64 d5,.int .u64 d6,.int .u64 d7,.int .u64 d8]) rfl hs0 ?_ ?_
     ·rintro w ⟨x0,x1,x2,x3,x4,x5,x6,x7,x8,x9⟩;go_simp
     refine rd 5 rfl fun KK hKK=>?_
     go_simp
     refine (HT9.out _).mono ?_;rintro en W5 ⟨rfl,b5⟩;have dd5:Below W4.heap.size W4 W5:=zac (Below.refl _ _).drew b5;obtain ⟨c5',e5',s5⟩:=HN4.out W5 dd5;have hs5:=HCX.out W5 s5;clear b5
     go_simp
     refine hKK.out _ _ hs5 (fun _=>?_);clear hKK KK;refine tk 6 (.agg #[.int .i64 x,.string ⟨t.toArray⟩]) rfl hs5 ?_ ?_
     ·rintro w ⟨x0,x1,x2,x3,x4,x5,x6,x7,x8,x9⟩;go_simp
     obtain ⟨q7,c7,W7,hr7,o7,b7,kp7,-⟩:=pushA (W:=W5) (x:=x) (t:=t) (zaq HS.out.1 e5') c5'.size HX7.out.2.1 (by have:=HX.out.2.2.1;have:=HX7.out.2.1;omega);obtain ⟨W6,hW6⟩:=ex (W5.alloc (.cells #[.int .i64 x,.string ⟨t.toArray⟩] 28 (0,0)));obtain ⟨rs,hrs⟩:=ex W5.heap.size;have dd6:Below W4.heap.size W4 W6:=by rw [<-hW6];exact zah dd5 _
     have hs6:=HCX.out W6 (HN4.out W6 dd6).2.2;have s7:W7.heap[rb]?=some (.cells #[.int .i64 x,.int .i64 d0,.int .u64 d1,.int .u64 d2,.int .u64 d3,.int .u64 d4,.int .u64 d5,.int .u64 d6,.int .u64 d7,.int .u64 d8] 75 (0,0)):=kp7 rb _ s5 (fun e=>by have:=HX7.out.2.2 _ e;omega);have hs7:=HCX.out W7 s7;rw [hW6,hrs] at hr7;have HW6:=zab hW6;have HRS:=zab hrs;have HS9:Hid (W7.ownsRow wc.heap.size 28 2 (.slice q7 k9 c7) k9 ((L.take k9).flatMap asC)/\Below wc.heap.size wc W7):=by
      refine ⟨?_,c5'.trans b7⟩;rw [<-HX7.out.2.1,List.take_add_one,HX7.out.1];rw [<-HX7.out.2.1] at o7;exact o7
     clear o7 b7 kp7 hW6 hrs dd5 dd6 c5' e5' s5 s7;refine rd 7 rfl fun KK hKK=>?_
     go_simp
     rw [HW6.out,HRS.out];refine hKK.out _ _ hs6 (fun _=>?_);clear hKK KK;refine rd 8 rfl fun KK hKK=>?_;refine zd6 (by rfl) _ _ _ (by rfl) (by rfl) (by rfl) hr7 ?_;refine hKK.out _ _ hs7 (fun _=>?_);clear hKK KK;refine tk 9 (.slice q7 k9 c7) rfl hs7 ?_ ?_
     ·rintro w ⟨x0,x1,x2,x3,x4,x5,x6,x7,x8,x9⟩;go_simp
     refine wpAnyH_done (by kernel_rfl) ?_ _;simp only [List.getElem_toArray,List.getElem_cons_succ,List.getElem_cons_zero,Act.put,List.setIfInBounds_toArray,List.set_cons_zero,List.set_cons_succ];clear hs0 hs5 hs6 hs7 hr7
     go_wp2_with fail
     go_roundw
     case rel=>exact ⟨k9,q7,c7,rfl,by rw [<-HX7.out.2.1];go_num,by have:=HX7.out.2.1;omega,HS9⟩
     case measure=>have:=HX7.out.2.1;simp [intOf];omega
    ·obtain rfl:k=N:=by omega
     have j3:¬(k:Int) < (k:Int):=by omega
     have HFIN:Hid (SNQ n (p,h) w (.returned (.tuple #[.int .i64 num,.slice q5 k c5,.int .i64 0])) wr):=by
      have h9:=HS.out;rw [List.take_of_length_le (by have:=HX.out.2.1;omega)] at h9;exact snq_yes HV.out.2 HX.out.1 HX.out.2.1 (zav h9.1 (Nat.le_trans HSZ.out HSZ3.out)) (HBW.out wr hb)
     clear hrow hb HS
     go_wp2_with fail
     refine bodyPost_ret (results_tmp3 rfl _ _ _) rfl ?_;exact HFIN.out
 ·have hR0:R≠0:=by rw [<-HV.out.2];exact zrq hP
  have HFIN:Hid (SNQ n (p,h) w (.returned (.tuple #[.int .i64 0,.slice none 0 0,.int .i64 R])) W2):=snq_no HV.out.2 hR0 (HBW.out W2 c2);clear hP c2
  go_wp2_with fail
  refine bodyPost_ret (results_tmp3 rfl _ _ _) rfl ?_;exact HFIN.out
def zku (n:NN) (s:Int×List UInt8):List (Int×List UInt8):=if (zal n s.1).inn=true then (zce n s).2 else ovS n s
def zop (n:NN):List Int->Nat->Int×List UInt8->Nat->List UInt8×Int×Int
 | [],_,s,c=>(s.2,(c:Int),0)
 | q :: r,i,s,c=>match (zku n s).find? (fun o=>o.1==q) with
  | none=>([],(i:Int),101)
  | some o=>zop n r (i+1) o (if (zal n s.1).inn=true then c+1 else c)
def folM (n:NN) (s:Int×List UInt8) (ports:List Int):List UInt8×Int×Int:=match ports with
 | []=>([],0,101)
 | q :: r=>if q=s.1 then zop n r 1 s 0 else ([],0,101)
theorem zph {n:NN} {s:Int×List UInt8} (h:(zal n s.1).inn=true):zku n s=(zce n s).2:=by
 unfold zku;rw [if_pos h]
theorem stp_out {n:NN} {s:Int×List UInt8} (h:(zal n s.1).inn=false):zku n s=ovS n s:=by
 unfold zku;rw [if_neg (by rw [h];exact Bool.false_ne_true)]
theorem stp_st {n:NN} {s:Int×List UInt8} (hV:NetP n) (hs:StP n s):(zku n s).length<=4/\∀ o∈zku n s,StP n o:=by
 unfold zku
 split
 ·exact zg5 hV hs.1 hs.2.1 hs.2.2
 ·rename_i h9
  have h:=zqm hV hs;rw [zjt (by simpa using h9)] at h;exact ⟨Nat.le_trans (zqi n s) (by omega),h.2⟩
structure WY where
 ps:List Int
 es:List Int
 hd:List UInt8
def WY.last (w:WY):Int×List UInt8:=(w.ps.getLastD 0,w.hd)
def WY.to (w:WY) (s:Int×List UInt8) (e:List Int):WY:=⟨w.ps++[s.1],w.es++e,s.2⟩
def zcx (n:NN) (w:WY):WY:=if 0<=(zal n w.last.1).lk then w.to ((zal n w.last.1).lk,w.hd) [] else w
def zes (n:NN) (hops:Int) (w:WY):List WY:=if (zal n w.last.1).inn=true/\(w.es.length:Int)≠hops then (zce n w.last).2.map (fun s=>w.to s [(zce n w.last).1]) else []
def zkj (n:NN) (hops:Int):Nat->WY->List WY
 | 0,w=>[zcx n w]
 | f+1,w=>if (zes n hops (zcx n w)).length=0 then [zcx n w] else (zes n hops (zcx n w)).flatMap (zkj n hops f)
def zd4 (s:Int×List UInt8):WY:=⟨[s.1],[],s.2⟩
theorem to_last (w:WY) (s:Int×List UInt8) (e:List Int):(w.to s e).last=s:=by
 unfold WY.last WY.to;simp
def WYP (n:NN) (hops:Int) (x:Nat) (w:WY):Prop:=w.ps≠[]/\(∀ p∈w.ps,0<=p/\p < (n.ports.length:Int))/\HdP n.bits w.hd/\(w.es.length:Int)<=hops/\w.ps.length<=2*w.es.length+1+x/\∀ e∈w.es,-1<=e/\e<=256
theorem WYP.st {n:NN} {hops:Int} {x:Nat} {w:WY} (h:WYP n hops x w):StP n w.last:=by
 obtain ⟨h1,h2,h3,-⟩:=h;have:w.last.1∈w.ps:=by
  unfold WY.last;cases hp:w.ps with
  | nil=>exact absurd hp h1
  | cons a l=>simp only [List.getLastD_cons];rw [<-List.getLast_eq_getLastD (h:=by simp)];exact List.getLast_mem _
 exact ⟨(h2 _ this).1,(h2 _ this).2,h3⟩
theorem zh1 {n:NN} {hops:Int} {s:Int×List UInt8} (h:StP n s) (h0:0<=hops):WYP n hops 0 (zd4 s):=by
 refine ⟨by simp [zd4],?_,h.2.2,by simpa [zd4] using h0,by simp [zd4],by simp [zd4]⟩;intro p hp;have:p=s.1:=by simpa [zd4] using hp
 subst this;exact ⟨h.1,h.2.1⟩
theorem ap_num {n:NN} (hV:NetP n) (s:Int×List UInt8) (hs:StP n s):-1<=(zce n s).1/\(zce n s).1<=256:=by
 unfold zce
 split
 ·rename_i k e he
  unfold zfu at he
  split at he
  ·obtain ⟨i,hi,ht,-⟩:=zc7 he
   obtain ⟨hx1,hx2⟩:=hV.port hs.1 hs.2.1;obtain ⟨ht1,-⟩:=hV.tab hx2.2.1 hx2.2.2.1;have h1:=(List.getElem?_eq_some_iff.1 ht).1;have h2:=zlb n ((zal n s.1).bx.toNat+1);rw [zgo ht1] at h2;have h3:=hV.2.2.1;simp only;omega
  ·cases he
 ·simp
theorem zc9 {n:NN} {hops:Int} {w:WY} (hV:NetP n) (h:WYP n hops 0 w):WYP n hops 1 (zcx n w)/\(zcx n w).es=w.es/\(zcx n w).hd=w.hd:=by
 unfold zcx
 split
 ·rename_i hl
  have hs:=h.st;obtain ⟨-,hx⟩:=hV.port hs.1 hs.2.1;have h9:=hx.2.2.2;obtain ⟨h1,h2,h3,h4,h5,h6⟩:=h;refine ⟨⟨by simp [WY.to],?_,h3,by simpa [WY.to] using h4,by simp [WY.to];omega,by simpa [WY.to] using h6⟩,by simp [WY.to],rfl⟩;intro p hp;rcases List.mem_append.1 hp with hp | hp
  ·exact h2 p hp
  ·have:p=(zal n w.last.1).lk:=by simpa using hp
   subst this;rcases h9 with h9 | ⟨-,h9,h10,-⟩
   ·omega
   ·exact ⟨h9,h10⟩
 ·obtain ⟨h1,h2,h3,h4,h5,h6⟩:=h
  exact ⟨⟨h1,h2,h3,h4,by omega,h6⟩,rfl,rfl⟩
theorem zh0 {n:NN} {hops:Int} {w x:WY} (hV:NetP n) (h:WYP n hops 1 w) (hx:x∈zes n hops w):WYP n hops 0 x/\x.es.length=w.es.length+1:=by
 unfold zes at hx
 split at hx
 ·rename_i hc
  obtain ⟨s,hs,rfl⟩:=List.mem_map.1 hx;have hst:=h.st;have h8:=(stp_st hV hst).2;rw [zph hc.1] at h8;have h9:=h8 s hs;have h10:=ap_num hV w.last hst;obtain ⟨h1,h2,h3,h4,h5,h6⟩:=h;refine ⟨⟨by simp [WY.to],?_,h9.2.2,by simp [WY.to];omega,by simp [WY.to];omega,?_⟩,by simp [WY.to]⟩
  ·intro p hp
   rcases List.mem_append.1 hp with hp | hp
   ·exact h2 p hp
   ·have:p=s.1:=by simpa using hp
    subst this;exact ⟨h9.1,h9.2.1⟩
  ·intro e he
   rcases List.mem_append.1 he with he | he
   ·exact h6 e he
   ·have:e=(zce n w.last).1:=by simpa using he
    subst this;exact h10
 ·cases hx
theorem zo4 {n:NN} {hops:Int} (P:WY->Prop) (hV:NetP n) (he:∀ w,WYP n hops 0 w->P w->P (zcx n w)) (ho:∀ w x,WYP n hops 1 w->P w->x∈zes n hops w->P x):∀ (f:Nat) (w x:WY),WYP n hops 0 w->P w->x∈zkj n hops f w->P x
 | 0,w,x,hw,hp,hx=>by
  have:x=zcx n w:=by simpa [zkj] using hx
  subst this;exact he w hw hp
 | f+1,w,x,hw,hp,hx=>by
  unfold zkj at hx
  split at hx
  ·have:x=zcx n w:=by simpa using hx
   subst this;exact he w hw hp
  ·obtain ⟨y,hy,hxy⟩:=List.mem_flatMap.1 hx
   have h1:=(zc9 hV hw).1;exact zo4 P hV he ho f y x (zh0 hV h1 hy).1 (ho _ y h1 (he w hw hp) hy) hxy
theorem zgb {n:NN} {hops:Int} (hV:NetP n):∀ (f:Nat) (w x:WY),WYP n hops 0 w->hops<=(w.es.length:Int)+f->x∈zkj n hops f w->WYP n hops 1 x/\zes n hops x=[]/\∃ y,WYP n hops 0 y/\x=zcx n y
 | 0,w,x,hw,hf,hx=>by
  have:x=zcx n w:=by simpa [zkj] using hx
  subst this;obtain ⟨h1,h2,-⟩:=zc9 hV hw;refine ⟨h1,?_,w,hw,rfl⟩;unfold zes;rw [if_neg];rintro ⟨-,h9⟩;have:=hw.2.2.2.1;rw [h2] at h9;omega
 | f+1,w,x,hw,hf,hx=>by
  unfold zkj at hx
  split at hx
  ·rename_i h0
   have:x=zcx n w:=by simpa using hx
   subst this;exact ⟨(zc9 hV hw).1,List.length_eq_zero_iff.1 h0,w,hw,rfl⟩
  ·obtain ⟨y,hy,hxy⟩:=List.mem_flatMap.1 hx
   obtain ⟨h1,h2,-⟩:=zc9 hV hw;obtain ⟨h3,h4⟩:=zh0 hV h1 hy;exact zgb hV f y x h3 (by rw [h4,h2];omega) hxy
theorem zj6 (n:NN) (q:Int) (r:List Int) (i:Nat) (s:Int×List UInt8) (c:Nat):zop n (q :: r) i s c=(match (zku n s).find? (fun o=>o.1==q) with | none=>([],(i:Int),101) | some o=>zop n r (i+1) o (if (zal n s.1).inn=true then c+1 else c)):=rfl
theorem zmv {n:NN}:∀ (A B:List Int) (i:Nat) (s:Int×List UInt8) (c:Nat) (h:List UInt8) (k:Nat),zop n A i s c=(h,(k:Int),0)->zop n (A++B) i s c=zop n B (i+A.length) (A.getLastD s.1,h) k
 | [],B,i,s,c,h,k,e=>by
  have e1:s.2=h/\(c:Int)=k:=by
   have:=e;unfold zop at this;simp only [Prod.mk.injEq] at this;exact ⟨this.1,this.2.1⟩
  obtain ⟨rfl,e2⟩:=e1;obtain rfl:c=k:=by omega
  rfl
 | q :: r,B,i,s,c,h,k,e=>by
  rw [List.cons_append,zj6];rw [zj6] at e;cases hf:(zku n s).find? (fun o=>o.1==q) with
  | none=>rw [hf] at e;simp at e
  | some o=>
   rw [hf] at e;simp only at e ⊢;rw [zmv r B (i+1) o _ h k e];have ho:o.1=q:=by have:=List.find?_some hf;simpa using this
   rw [List.length_cons,List.getLastD_cons,ho,show i+1+r.length=i+(r.length+1) by omega]
theorem folM_app {n:NN} {s:Int×List UInt8} {A B:List Int} {h:List UInt8} {k:Nat} (e:folM n s A=(h,(k:Int),0)):folM n s (A++B)=zop n B A.length (A.getLastD 0,h) k:=by
 cases A with
 | nil=>simp [folM] at e
 | cons q r=>
  unfold folM at e ⊢;rw [List.cons_append];simp only at e ⊢
  by_cases hq:q=s.1
  ·rw [if_pos hq] at e ⊢
   rw [zmv r B 1 s 0 h k e,List.length_cons,List.getLastD_cons,hq,Nat.add_comm]
  ·rw [if_neg hq] at e;simp at e
def FLD (n:NN) (s:Int×List UInt8) (w:WY):Prop:=folM n s w.ps=(w.hd,(w.es.length:Int),0)
theorem fld_aln (n:NN) (s:Int×List UInt8):FLD n s (zd4 s):=by
 unfold FLD zd4 folM;simp [zop]
theorem out_same {n:NN} {s x y:Int×List UInt8} (hx:x∈(zce n s).2) (hy:y∈(zce n s).2) (h:x.1=y.1):x=y:=by
 unfold zce at hx hy;cases he:zfu n s.1 s.2 with
 | some ke=>
  obtain ⟨k,e⟩:=ke;rw [he] at hx hy;simp only [zg7] at hx hy;obtain ⟨a,-,rfl⟩:=List.mem_map.1 hx;obtain ⟨b,-,rfl⟩:=List.mem_map.1 hy;simp only at h;rw [h]
 | none=>rw [he] at hx;cases hx
theorem fld_to {n:NN} {s o:Int×List UInt8} {w:WY} {e:List Int} (h:FLD n s w) (ho:o∈zku n w.last) (hu:∀ x∈zku n w.last,x.1=o.1->x=o) (he:e.length=if (zal n w.last.1).inn=true then 1 else 0):FLD n s (w.to o e):=by
 unfold FLD at h ⊢;have e1:(w.to o e).ps=w.ps++[o.1]:=rfl;rw [e1,folM_app h];unfold zop;have hf:(zku n (w.ps.getLastD 0,w.hd)).find? (fun x=>x.1==o.1)=some o:=by
  cases hq:(zku n (w.ps.getLastD 0,w.hd)).find? (fun x=>x.1==o.1) with
  | none=>
   rw [List.find?_eq_none] at hq;exact absurd (by simp) (hq o ho)
  | some x=>
   have h1:=List.find?_some hq;have h2:=List.mem_of_find?_eq_some hq;rw [hu x h2 (by simpa using h1)]
 rw [hf];simp only;unfold zop;have e2:(w.to o e).es.length=w.es.length+e.length:=by simp [WY.to]
 have e3:(w.to o e).hd=o.2:=rfl;rw [e2,e3,he];have e4:(w.ps.getLastD 0)=w.last.1:=rfl;rw [e4]
 split <;> simp
theorem fld_end {n:NN} {hops:Int} {s:Int×List UInt8} {w:WY} (hV:NetP n) (hw:WYP n hops 0 w) (h:FLD n s w):FLD n s (zcx n w):=by
 unfold zcx
 split
 ·rename_i hl
  have hs:=hw.st;obtain ⟨-,hx⟩:=hV.port hs.1 hs.2.1;have hi:(zal n w.last.1).inn=false:=by
   rcases hx.2.2.2 with h9 | h9
   ·omega
   ·exact h9.1
  have hso:zku n w.last=[((zal n w.last.1).lk,w.hd)]:=by
   rw [stp_out hi];unfold ovS;rw [if_pos hl];rfl
  refine fld_to h (by rw [hso];exact List.mem_singleton.2 rfl) (fun x hx _=>by rw [hso] at hx;simpa using hx) ?_;rw [hi];rfl
 ·exact h
theorem fld_onw {n:NN} {hops:Int} {s:Int×List UInt8} {w x:WY} (h:FLD n s w) (hx:x∈zes n hops w):FLD n s x:=by
 unfold zes at hx
 split at hx
 ·rename_i hc
  obtain ⟨o,ho,rfl⟩:=List.mem_map.1 hx;refine fld_to h (by rw [zph hc.1];exact ho) (fun y hy e=>by rw [zph hc.1] at hy;exact out_same hy ho e) ?_;rw [hc.1];rfl
 ·cases hx
theorem fld_wlk {n:NN} {hops:Int} {s:Int×List UInt8} (hV:NetP n) (f:Nat) (w x:WY) (hw:WYP n hops 0 w) (h:FLD n s w) (hx:x∈zkj n hops f w):FLD n s x:=
 zo4 (FLD n s) hV (fun _ h1 h2=>fld_end hV h1 h2) (fun _ _ _ h2 h3=>fld_onw h2 h3) f w x hw h hx
noncomputable def zie (n:NN) (s:Int×List UInt8) (hops:Int):List WY:=if pb (NetP n/\StP n s)=true/\0<=hops/\hops<=64 then zkj n hops hops.toNat (zd4 s) else []
theorem pth_mem {n:NN} {s:Int×List UInt8} {hops:Int} {x:WY} (hx:x∈zie n s hops):NetP n/\StP n s/\0<=hops/\hops<=64/\WYP n hops 1 x/\zes n hops x=[]/\FLD n s x/\∃ y,WYP n hops 0 y/\x=zcx n y:=by
 unfold zie at hx
 split at hx
 ·rename_i hc
  obtain ⟨hV,hS⟩:=za0.1 hc.1;have h0:=zh1 hS hc.2.1;obtain ⟨h1,h2,h3⟩:=zgb hV hops.toNat _ x h0 (by simp [zd4];omega) hx;exact ⟨hV,hS,hc.2.1,hc.2.2,h1,h2,fld_wlk hV _ _ x h0 (fld_aln n s) hx,h3⟩
 ·cases hx
theorem zk1 {n:NN} {s:Int×List UInt8} {hops:Int} {x:WY} (hx:x∈zie n s hops):1<=x.ps.length/\x.ps.length<=130/\x.es.length<=64/\(x.es.length:Int)<=hops:=by
 obtain ⟨-,-,h0,h1,h2,-⟩:=pth_mem hx;have h3:=h2.2.2.2.1;have h4:=h2.2.2.2.2.1;have h5:1<=x.ps.length:=by
  cases hp:x.ps with
  | nil=>exact absurd hp h2.1
  | cons a l=>simp
 omega
theorem put10 {W:World} {b T:Nat} {u0 u1 u2 u3 u4 u5 u6 u7 u8 u9:Value} {m:Nat×Nat} (v0 v1 v2 v3 v4 v5 v6 v7 v8 v9:Value) (h:W.heap[b]?=some (.cells #[u0,u1,u2,u3,u4,u5,u6,u7,u8,u9] T m)):(((((((((((W.setCell ⟨b,0,none⟩ (v0)).setCell ⟨b,1,none⟩ (v1)).setCell ⟨b,2,none⟩ (v2)).setCell ⟨b,3,none⟩ (v3)).setCell ⟨b,4,none⟩ (v4)).setCell ⟨b,5,none⟩ (v5)).setCell ⟨b,6,none⟩ (v6)).setCell ⟨b,7,none⟩ (v7)).setCell ⟨b,8,none⟩ (v8)).setCell ⟨b,9,none⟩ (v9))).heap[b]?=some (.cells #[v0,v1,v2,v3,v4,v5,v6,v7,v8,v9] T m):=
 ((zag _ (zag _ (zag _ (zag _ (zag _ (zag _ (zag _ (zag _ (zag _ (zag _ h)))))))))).trans (by simp))
theorem put10f {W:World} {b b':Nat} (v0 v1 v2 v3 v4 v5 v6 v7 v8 v9:Value) (h:b'≠b):(((((((((((W.setCell ⟨b,0,none⟩ (v0)).setCell ⟨b,1,none⟩ (v1)).setCell ⟨b,2,none⟩ (v2)).setCell ⟨b,3,none⟩ (v3)).setCell ⟨b,4,none⟩ (v4)).setCell ⟨b,5,none⟩ (v5)).setCell ⟨b,6,none⟩ (v6)).setCell ⟨b,7,none⟩ (v7)).setCell ⟨b,8,none⟩ (v8)).setCell ⟨b,9,none⟩ (v9))).heap[b']?=W.heap[b']?:=by
 rw [zby _ _ _ _ _ h,zby _ _ _ _ _ h,zby _ _ _ _ _ h,zby _ _ _ _ _ h,zby _ _ _ _ _ h,zby _ _ _ _ _ h,zby _ _ _ _ _ h,zby _ _ _ _ _ h,zby _ _ _ _ _ h,zby _ _ _ _ _ h]
theorem put10b {w W:World} {b:Nat} (v0 v1 v2 v3 v4 v5 v6 v7 v8 v9:Value) (h0:Below w.heap.size w W) (hle:w.heap.size<=b):Below w.heap.size w (((((((((((W.setCell ⟨b,0,none⟩ (v0)).setCell ⟨b,1,none⟩ (v1)).setCell ⟨b,2,none⟩ (v2)).setCell ⟨b,3,none⟩ (v3)).setCell ⟨b,4,none⟩ (v4)).setCell ⟨b,5,none⟩ (v5)).setCell ⟨b,6,none⟩ (v6)).setCell ⟨b,7,none⟩ (v7)).setCell ⟨b,8,none⟩ (v8)).setCell ⟨b,9,none⟩ (v9))):=
 ((((((((((h0.setCell hle _).setCell hle _).setCell hle _).setCell hle _).setCell hle _).setCell hle _).setCell hle _).setCell hle _).setCell hle _).setCell hle _)
end Go.Proofs.YtmfakcfmkmppfaaGreatDoor.Nt
namespace Go.Proofs
open Go.Shelf
def Tryz.lgr_ren:Go.Shelf.Ren:=⟨fun | 4=>113 | n=>n,fun | 22=>35 | 25=>3 | 3=>3 | 4=>4 | 9=>9 | 20=>20 | 0=>0 | n=>n,fun | n=>n⟩
theorem Tryz.lgr:Go.Proofs.Lays8.n4 Tryz.prog Tryz.lgr_ren:={
 mixed:=by kernel_rfl
 f4:=⟨Tryz.f113.name,by decide,Tryz.func113.trans (congrArg some (by kernel_rfl))⟩
 t0:=Tryz.underlying0
 a0:=Tryz.isAgg0
 z0:=Tryz.sizeOf0
 v0:=Tryz.zeroValue0
 t3:=Tryz.underlying3
 a3:=Tryz.isAgg3
 z3:=Tryz.sizeOf3
 v3:=Tryz.zeroValue3
 t4:=Tryz.underlying4
 a4:=Tryz.isAgg4
 z4:=Tryz.sizeOf4
 v4:=Tryz.zeroValue4
 t9:=Tryz.underlying9
 a9:=Tryz.isAgg9
 z9:=Tryz.sizeOf9
 v9:=Tryz.zeroValue9
 t20:=Tryz.underlying20
 a20:=Tryz.isAgg20
 z20:=Tryz.sizeOf20
 v20:=Tryz.zeroValue20
 t22:=Tryz.underlying35
 a22:=Tryz.isAgg35
 z22:=Tryz.sizeOf35
 v22:=Tryz.zeroValue35 }
end Go.Proofs
