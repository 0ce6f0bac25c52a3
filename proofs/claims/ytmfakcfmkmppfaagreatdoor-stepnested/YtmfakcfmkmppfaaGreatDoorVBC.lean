import Derived.Test.YtmfakcfmkmppfaaGreatDoorVBB
import Derived.RangeFuncSeq
namespace Go.Proofs.YtmfakcfmkmppfaaGreatDoor.Nt
open Go.RowKit Go.Shelf
theorem WL.kp {W U:World} {x:WY×WV} (h:WL W x) (hk:∀ (b:Nat) (cs:Array Value) (fr:Nat×Nat),W.heap[b]?=some (.cells cs 3 fr)->U.heap[b]?=some (.cells cs 3 fr)):WL U x:=⟨h.1.kp hk,h.2.1.kp hk,h.2.2⟩
theorem info_wy:(Tryz.prog.info? 72).map (fun i=>(i.zero,i.size,i.bytes))=some (some (.agg #[.slice none 0 0,.slice none 0 0,.int .i64 0,.int .u64 0,.int .u64 0,.int .u64 0,.int .u64 0,.int .u64 0,.int .u64 0,.int .u64 0,.int .u64 0]),11,120):=by kernel_rfl
theorem pushW {W:World} {B:Nat} {p:Option Addr} {n n9 c:Nat} {V:List (WY×WV)} {x:WY×WV} {cs:Array Value} (h9:(wyC x).toArray=cs) (h:W.ownsRow B 72 11 (.slice p n c) n (V.flatMap wyC)) (hB:B<=W.heap.size) (hn:n+1=n9) (hO:n9*120<=140737488355328) :
  ∃ q c9 W9,(Builtin.append_ #[123,123] 123 #[.slice p n c,.slice (some ⟨W.heap.size,0,none⟩) 1 1]).run Tryz.prog (W.alloc (.cells cs 72 (0,0)))=.ok (.slice q n9 c9) W9/\W9.ownsRow B 72 11 (.slice q n9 c9) n9 ((V++[x]).flatMap wyC)/\Below B W W9/\(∀ b o,W.heap[b]?=some o->(Value.slice p n c).ownBlock≠some b->W9.heap[b]?=some o)/\(∀ b,(Value.slice q n9 c9).ownBlock=some b->(Value.slice p n c).ownBlock=some b∨W.heap.size<=b):=by
 subst hn;subst h9;obtain ⟨i0,hi,hz0,hz1,hz2⟩:=info_parts info_wy;obtain ⟨q,c9,W9,hr,o9,b9,kp,kq⟩:=zhn (W:=W) (TS:=123) (cs:=(wyC x).toArray) Tryz.underlying123 hi hz0 hz1 hz2 rfl (by decide) h hB rfl (fun u hu=>wyC_one x u (by simpa using hu)) hO (by omega);refine ⟨q,c9,W9,hr,?_,b9,kp,kq⟩;rw [List.flatMap_append]
 simpa using o9
def KTY:List TypeId:=64 :: 72 :: NTY
def ONQ (Φ:WV->Prop) (X:List WY) (w:World) (e:Ending) (w':World):Prop:=∃ (q:Option Addr) (c:Nat) (V:List (WY×WV)),V.map Prod.fst=X/\e=.returned (.slice q X.length c)/\w'.ownsRow w.heap.size 72 11 (.slice q X.length c) X.length (V.flatMap wyC)/\(∀ x∈V,WL w' x/\Φ x.2)/\Below w.heap.size w w'
theorem onq_nil {Φ:WV->Prop} {w w':World} (hb:Below w.heap.size w w'):ONQ Φ [] w (.returned (.slice none 0 0)) w':=⟨none,0,[],rfl,rfl,World.ownsRow_nil _ _ _ _,fun x hx=>by simp at hx,hb⟩
set_option maxRecDepth 100000 in
set_option maxHeartbeats 16000000 in
theorem zn3 (n:NN) (v:NV) (np nt ng:Nat) (y:WY×WV) (hops:Int) (w:World) (hW:NW w n v) (hV:NetP n) (hY:WYP n hops 1 y.1) (hL:WL w y) (hh:hops<=64) (hnp:n.ports.length=np) (hnt:n.tabs.length=nt) (hng:n.grds.length=ng) :
  Calls Tryz.prog 60 #[.agg #[.slice v.pp np v.cp,.slice v.pt nt v.ct,.slice v.pg ng v.cg],.agg (wyC y).toArray,.int .i64 hops] w (ONQ (FRW w) (zes n hops y.1) w):=by
 have hS:=hY.st;have hla:=fun (U:World) (hU:Below w.heap.size w U)=>zmo y U (hL.below hU) hY.1 (by have:=hY.2.2.2.1;have:=hY.2.2.2.2.1;omega);have hap:=fun (U:World) (hU:Below w.heap.size w U)=>zkg n v np nt ng y.1.last.1 y.1.last.2 U (hW.below hU) hV hS.1 hS.2.1 hS.2.2 hnp hnt hng;have hto:=fun (t:Int×List UInt8) (E:List Int) (qp:Option Addr) (m9 c9:Nat) (U:World) (hU:Below w.heap.size w U) (hE:IL U qp m9 c9 E) (h3:m9<=500)=>to_any y t E qp m9 c9 U (hL.below hU) hE (by have:=hY.2.2.2.1;have:=hY.2.2.2.2.1;omega) (by have:=hY.2.2.2.1;omega) h3;obtain ⟨⟨ps,es,hd⟩,⟨yp,yc,ye,yd⟩⟩:=y;obtain ⟨pp,cp,pt,ct,pg,cg⟩:=v;simp only at hY hL hS hla hap hto hW ⊢;obtain ⟨p,hp⟩:=ex (ps.getLastD 0);have hlast:WY.last ⟨ps,es,hd⟩=(p,hd):=by show (ps.getLastD 0,hd)=_;rw [hp]
 rw [hlast] at hla hap hS;obtain ⟨a0,a1,a2,a3,a4,a5,a6,a7,a8,h9⟩:=zbz hd;obtain ⟨mp,hmp⟩:=ex ps.length;obtain ⟨me,hme⟩:=ex es.length;rw [za9 h9 hmp hme] at hla hto ⊢;rw [zbf h9] at hla hap;obtain ⟨num,hnum⟩:=ex ((zce n (p,hd)).1);obtain ⟨L,hLe⟩:=ex ((zce n (p,hd)).2);obtain ⟨N,hN⟩:=ex L.length;have hN4:N<=4:=by have:=(zg5 hV hS.1 hS.2.1 hS.2.2).1;rw [hLe,hN] at this;exact this
 obtain ⟨hx1,hx2⟩:=hV.port hS.1 hS.2.1;simp only at hS hx1 hap;obtain ⟨pk,hpk⟩:∃ pk:Nat,p=(pk:Int):=⟨p.toNat,by have:=hS.1;omega⟩;subst hpk;rw [Int.toNat_natCast] at hx1;obtain ⟨inn,hinn⟩:=ex ((zal n (pk:Int)).inn);obtain ⟨gp,op,e1,-,-,a2',-⟩:=hW.1 pk _ hx1;simp only at e1;subst e1;rw [hinn] at a2';have hpn:pk < np:=by rw [<-hnp];exact (List.getElem?_eq_some_iff.1 hx1).1
 obtain ⟨X,hX⟩:=ex (zes n hops ⟨ps,es,hd⟩);rw [hX];have hXe:X=if inn=true/\(me:Int)≠hops then L.map (fun s=>WY.to ⟨ps,es,hd⟩ s [num]) else []:=by
  rw [<-hX];unfold zes;rw [hlast];simp only [hinn,hme,hLe,hnum]
 obtain ⟨b,hb⟩:=ex w.heap.size;obtain ⟨b2,hb2⟩:=ex (w.heap.size+1);obtain ⟨W1,hW1⟩:=ex ((w.alloc (.cells #[.slice (some ⟨gp,op,none⟩) np cp,.slice pt nt ct,.slice pg ng cg] 64)).alloc (.cells #[.slice yp mp yc,.slice ye me yd,.int .i64 a0,.int .u64 a1,.int .u64 a2,.int .u64 a3,.int .u64 a4,.int .u64 a5,.int .u64 a6,.int .u64 a7,.int .u64 a8] 72));have hz1:(w.alloc (.cells #[.slice (some ⟨gp,op,none⟩) np cp,.slice pt nt ct,.slice pg ng cg] 64)).heap.size=w.heap.size+1:=Array.size_push _;have b1:Below w.heap.size w W1:=by rw [<-hW1];exact zah (zah (Below.refl _ _) _) _
 have kb:W1.heap[b]?=some (.cells #[.slice (some ⟨gp,op,none⟩) np cp,.slice pt nt ct,.slice pg ng cg] 64 (0,0)):=by rw [<-hW1,<-hb];exact zae (zah (Below.refl _ _) _) (zaa _ _)
 have kb2:W1.heap[b2]?=some (.cells #[.slice yp mp yc,.slice ye me yd,.int .i64 a0,.int .u64 a1,.int .u64 a2,.int .u64 a3,.int .u64 a4,.int .u64 a5,.int .u64 a6,.int .u64 a7,.int .u64 a8] 72 (0,0)):=by rw [<-hW1,<-hb2,<-hz1];exact zaa _ _
 have HC:Hid (∀ U,Below W1.heap.size W1 U->(U.cell? ⟨b,0,none⟩=some (.slice (some ⟨gp,op,none⟩) np cp)/\U.cell? ⟨b,1,none⟩=some (.slice pt nt ct)/\U.cell? ⟨b,2,none⟩=some (.slice pg ng cg))/\(U.cell? ⟨b2,0,none⟩=some (.slice yp mp yc)/\U.cell? ⟨b2,1,none⟩=some (.slice ye me yd)/\U.cell? ⟨b2,2,none⟩=some (.int .i64 a0)/\U.cell? ⟨b2,3,none⟩=some (.int .u64 a1)/\U.cell? ⟨b2,4,none⟩=some (.int .u64 a2)/\U.cell? ⟨b2,5,none⟩=some (.int .u64 a3)/\U.cell? ⟨b2,6,none⟩=some (.int .u64 a4)/\U.cell? ⟨b2,7,none⟩=some (.int .u64 a5)/\U.cell? ⟨b2,8,none⟩=some (.int .u64 a6)/\U.cell? ⟨b2,9,none⟩=some (.int .u64 a7)/\U.cell? ⟨b2,10,none⟩=some (.int .u64 a8))/\U.cell? ⟨gp,op+pk*4+2,none⟩=some (.bool inn)):=fun U hU=>by
  have e1:=(zaf (zae hU kb)).1;have e2:=(zaf (zae hU kb2)).1;exact ⟨⟨by rw [e1];rfl,by rw [e1];rfl,by rw [e1];rfl⟩,⟨by rw [e2];rfl,by rw [e2];rfl,by rw [e2];rfl,by rw [e2];rfl,by rw [e2];rfl,by rw [e2];rfl,by rw [e2];rfl,by rw [e2];rfl,by rw [e2];rfl,by rw [e2];rfl,by rw [e2];rfl⟩,zao (zac b1 hU) a2'⟩
 have HLA:Hid (∀ U,Below W1.heap.size W1 U->Calls Tryz.prog 75 #[.agg #[.slice yp mp yc,.slice ye me yd,.int .i64 a0,.int .u64 a1,.int .u64 a2,.int .u64 a3,.int .u64 a4,.int .u64 a5,.int .u64 a6,.int .u64 a7,.int .u64 a8]] U fun e w'=>e=.returned (.agg #[.int .i64 (pk:Int),.int .i64 a0,.int .u64 a1,.int .u64 a2,.int .u64 a3,.int .u64 a4,.int .u64 a5,.int .u64 a6,.int .u64 a7,.int .u64 a8])/\Below U.heap.size U w'):=fun U hU=>hla U (zac b1 hU);have HAP:Hid (∀ U,Below W1.heap.size W1 U->Calls Tryz.prog 85 #[.agg #[.slice (some ⟨gp,op,none⟩) np cp,.slice pt nt ct,.slice pg ng cg],.agg #[.int .i64 (pk:Int),.int .i64 a0,.int .u64 a1,.int .u64 a2,.int .u64 a3,.int .u64 a4,.int .u64 a5,.int .u64 a6,.int .u64 a7,.int .u64 a8]] U (APQ n ((pk:Int),hd) U)):=fun U hU=>hap U (zac b1 hU);have HTO:Hid (∀ (t:Int×List UInt8) (x d0 d1 d2 d3 d4 d5 d6 d7 d8:Int) (n6 n11:Nat) (r:Nat) (U:World),t.1=x->C9 t.2 d0 d1 d2 d3 d4 d5 d6 d7 d8->mp+1=n6->me+1=n11->Below W1.heap.size W1 U->U.heap[r]?=some (.cells #[.int .i64 num] 3 (0,0))->Calls Tryz.prog 84 #[.agg #[.slice yp mp yc,.slice ye me yd,.int .i64 a0,.int .u64 a1,.int .u64 a2,.int .u64 a3,.int .u64 a4,.int .u64 a5,.int .u64 a6,.int .u64 a7,.int .u64 a8],.agg #[.int .i64 x,.int .i64 d0,.int .u64 d1,.int .u64 d2,.int .u64 d3,.int .u64 d4,.int .u64 d5,.int .u64 d6,.int .u64 d7,.int .u64 d8],.slice (some ⟨r,0,none⟩) 1 1] U fun e w'=>∃ q6 c6 q11 c11,e=.returned (.agg #[.slice q6 n6 c6,.slice q11 n11 c11,.int .i64 d0,.int .u64 d1,.int .u64 d2,.int .u64 d3,.int .u64 d4,.int .u64 d5,.int .u64 d6,.int .u64 d7,.int .u64 d8])/\(WL w' (WY.to ⟨ps,es,hd⟩ t [num],⟨q6,c6,q11,c11⟩)/\FRW w ⟨q6,c6,q11,c11⟩)/\(wyC (WY.to ⟨ps,es,hd⟩ t [num],⟨q6,c6,q11,c11⟩)).toArray=#[.slice q6 n6 c6,.slice q11 n11 c11,.int .i64 d0,.int .u64 d1,.int .u64 d2,.int .u64 d3,.int .u64 d4,.int .u64 d5,.int .u64 d6,.int .u64 d7,.int .u64 d8]/\Below U.heap.size U w'):=fun t x d0 d1 d2 d3 d4 d5 d6 d7 d8 n6 n11 r U h1 h2 h3 h4 hU hr=>by
  have h:=hto t [num] (some ⟨r,0,none⟩) 1 1 U (zac b1 hU) (zjz hr) (by omega);obtain ⟨t1,t2⟩:=t;simp only at h1 h2;subst h1;rw [zbf h2] at h;refine h.mono ?_;rintro e w' ⟨⟨q6,c6,q11,c11⟩,rfl,hl,hb⟩;have e9:(wyC (WY.to ⟨ps,es,hd⟩ (t1,t2) [num],⟨q6,c6,q11,c11⟩)).toArray=#[.slice q6 n6 c6,.slice q11 n11 c11,.int .i64 d0,.int .u64 d1,.int .u64 d2,.int .u64 d3,.int .u64 d4,.int .u64 d5,.int .u64 d6,.int .u64 d7,.int .u64 d8]:=za9 (ps:=ps++[t1]) (es:=es++[num]) (hd:=t2) h2 (by rw [List.length_append,hmp];exact h3) (by rw [List.length_append,hme];exact h4);rw [e9];exact ⟨q6,c6,q11,c11,rfl,⟨hl.1,hl.2.up (zac b1 hU)⟩,e9,hb⟩
 have HX:Hid ((zce n ((pk:Int),hd)).1=num/\(zce n ((pk:Int),hd)).2=L/\L.length=N/\N<=4/\X=if inn=true/\(me:Int)≠hops then L.map (fun s=>WY.to ⟨ps,es,hd⟩ s [num]) else []):=⟨hnum,hLe,hN,hN4,hXe⟩
 have HBW:Hid (∀ U,Below W1.heap.size W1 U->Below w.heap.size w U):=fun U hU=>zac b1 hU;have hN7:N<=4:=hN4;have HB:=zab hb;have HB2:=zab hb2;have HW:=zab hW1;have HB1:=zab b1;obtain ⟨⟨q0,q1,q2⟩,⟨r0,r1,r2,r3,r4,r5,r6,r7,r8,r9,r10⟩,x2⟩:=HC.out W1 (Below.refl _ _);clear hW1 b1 hb kb hb2 kb2 hz1 hW hV hY hL hh hnp hnt hng hla hap hto hS hp hlast h9 hmp hme hnum hLe hN hN4 hx1 hx2 hinn a2' hX hXe;have j0:(0:Int)<=(pk:Int):=by omega
 have j1:(pk:Int) < (np:Int):=by omega
 clear hpn
 go_enter Tryz.func60,Tryz.ntmps60
 go_upto_region 1 with fail
 rw [HW.out,HB2.out,HB.out]
 go_wp2_with fail
 refine (HLA.out W1 (Below.refl _ _)).mono ?_;rintro e W2 ⟨rfl,c2⟩;clear q0 q1 q2 x2;clear r0 r1 r2 r3 r4 r5 r6 r7 r8 r9 r10;obtain ⟨b3,hb3⟩:=ex W2.heap.size;obtain ⟨W3,hW3⟩:=ex (W2.alloc (.cells #[.int .i64 (pk:Int),.int .i64 a0,.int .u64 a1,.int .u64 a2,.int .u64 a3,.int .u64 a4,.int .u64 a5,.int .u64 a6,.int .u64 a7,.int .u64 a8] 75));have b23:Below W2.heap.size W2 W3:=by rw [<-hW3];exact zah (Below.refl _ _) _
 have c3:Below W1.heap.size W1 W3:=zac c2 b23;have k3:W3.heap[b3]?=some (.cells #[.int .i64 (pk:Int),.int .i64 a0,.int .u64 a1,.int .u64 a2,.int .u64 a3,.int .u64 a4,.int .u64 a5,.int .u64 a6,.int .u64 a7,.int .u64 a8] 75 (0,0)):=by rw [<-hW3,<-hb3];exact zaa _ _
 have HS3:Hid (∀ U,Below W3.heap.size W3 U->(U.cell? ⟨b3,0,none⟩=some (.int .i64 (pk:Int))/\U.cell? ⟨b3,1,none⟩=some (.int .i64 a0)/\U.cell? ⟨b3,2,none⟩=some (.int .u64 a1)/\U.cell? ⟨b3,3,none⟩=some (.int .u64 a2)/\U.cell? ⟨b3,4,none⟩=some (.int .u64 a3)/\U.cell? ⟨b3,5,none⟩=some (.int .u64 a4)/\U.cell? ⟨b3,6,none⟩=some (.int .u64 a5)/\U.cell? ⟨b3,7,none⟩=some (.int .u64 a6)/\U.cell? ⟨b3,8,none⟩=some (.int .u64 a7)/\U.cell? ⟨b3,9,none⟩=some (.int .u64 a8))/\Below W1.heap.size W1 U):=fun U hU=>by
  have e1:=(zaf (zae hU k3)).1;exact ⟨⟨by rw [e1];rfl,by rw [e1];rfl,by rw [e1];rfl,by rw [e1];rfl,by rw [e1];rfl,by rw [e1];rfl,by rw [e1];rfl,by rw [e1];rfl,by rw [e1];rfl,by rw [e1];rfl⟩,zac c3 hU⟩
 have HW3:=zab hW3;have HB3:=zab hb3;clear hW3 hb3 b23 c3 k3 c2
 go_upto_region 2 with fail
 rw [HW3.out,HB3.out];obtain ⟨⟨q0,q1,q2⟩,⟨r0,r1,r2,r3,r4,r5,r6,r7,r8,r9,r10⟩,x2⟩:=HC.out W3 (HS3.out W3 (Below.refl _ _)).2;obtain ⟨⟨s0,s1,s2,s3,s4,s5,s6,s7,s8,s9⟩,-⟩:=HS3.out W3 (Below.refl _ _)
 by_cases hgo:inn=true/\(me:Int)≠hops
 ·have HXX:Hid (X=L.map (fun s=>WY.to ⟨ps,es,hd⟩ s [num])):=by
   have:=HX.out.2.2.2.2;rw [if_pos hgo] at this;exact this
  obtain ⟨hi,hne⟩:=hgo;subst hi;have hne9:((me:Int)==hops)=false:=by simpa using hne
  clear hne
  go_wp2_with fail
  refine (HAP.out W3 (HS3.out W3 (Below.refl _ _)).2).mono ?_;rintro e W4 ⟨qL,cL,rfl,ho,c4⟩;rw [HX.out.1,HX.out.2.1,HX.out.2.2.1];rw [HX.out.2.1,HX.out.2.2.1] at ho;have hrl:RowL 10 stC W4 qL L:=zbm zef ho HX.out.2.2.1;have HR:Hid (∀ U,Below W4.heap.size W4 U->RowL 10 stC U qL L/\Below W1.heap.size W1 U):=fun U hU=>⟨hrl.below hU,(HS3.out U (zac c4 hU)).2⟩;clear ho c4 hrl;clear s0 s1 s2 s3 s4 s5 s6 s7 s8 s9;clear q0 q1 q2 x2;clear r0 r1 r2 r3 r4 r5 r6 r7 r8 r9 r10
  go_wp2_with fail
  go_loopw [10,38] (fun v10 vk wr=>∃ (k c:Nat) (q:Option Addr),v10=.slice q k c/\vk=.int .i64 (k:Int)/\k<=N/\Hid (∃ V:List (WY×WV),V.map Prod.fst=(L.take k).map (fun s=>WY.to ⟨ps,es,hd⟩ s [num])/\wr.ownsRow W4.heap.size 72 11 (.slice q k c) k (V.flatMap wyC)/\(∀ x∈V,WL wr x/\FRW w x.2)/\Below W4.heap.size W4 wr)) (fun _ vk _=>N - (intOf vk).toNat)
  case atStart=>exact ⟨0,0,none,rfl,rfl,Nat.zero_le _,[],rfl,World.ownsRow_nil _ _ _ _,fun x hx=>(by simp at hx),Below.refl _ _⟩
  case round=>
   obtain ⟨k,c,q,rfl,rfl,hk,HH⟩:=hrel;obtain ⟨V,hVm,hVo,hVl,hVb⟩:=HH.out;have HV:Hid (V.map Prod.fst=(L.take k).map (fun s=>WY.to ⟨ps,es,hd⟩ s [num])/\wr.ownsRow W4.heap.size 72 11 (.slice q k c) k (V.flatMap wyC)/\(∀ x∈V,WL wr x/\FRW w x.2)/\Below W4.heap.size W4 wr):=⟨hVm,hVo,hVl,hVb⟩;clear HH hVm hVo hVl hVb;obtain ⟨hrow,hb⟩:=HR.out wr HV.out.2.2.2
   by_cases hlt:k < N
   ·obtain ⟨o,hx⟩:∃ o,L[k]?=some o:=⟨_,List.getElem?_eq_getElem (by have:=HX.out.2.2.1;omega)⟩
    obtain ⟨x,t⟩:=o;obtain ⟨gr,orr,e9,hcx⟩:=hrow k (x,t) hx;subst e9;obtain ⟨d0,d1,d2,d3,d4,d5,d6,d7,d8,h8⟩:=zbz t;have hcx9:∀ (i:Nat) (v:Value),([.int .i64 x,.int .i64 d0,.int .u64 d1,.int .u64 d2,.int .u64 d3,.int .u64 d4,.int .u64 d5,.int .u64 d6,.int .u64 d7,.int .u64 d8]:List Value)[i]?=some v->wr.cell? ⟨gr,orr+k*10+i,none⟩=some v:=fun i v hv=>hcx i v (by unfold stC;rw [show zcp (x,t).2=_ from h8];exact hv);have u0:=hcx9 0 _ rfl;have u1:=hcx9 1 _ rfl;have u2:=hcx9 2 _ rfl;have u3:=hcx9 3 _ rfl;have u4:=hcx9 4 _ rfl;have u5:=hcx9 5 _ rfl;have u6:=hcx9 6 _ rfl;have u7:=hcx9 7 _ rfl;have u8:=hcx9 8 _ rfl;have u9:=hcx9 9 _ rfl;rw [Nat.add_zero] at u0;obtain ⟨k9,hk9⟩:=ex (k+1);obtain ⟨n6,hn6⟩:=ex (mp+1);obtain ⟨n11,hn11⟩:=ex (me+1);obtain ⟨rb,hrb⟩:=ex wr.heap.size;obtain ⟨W5,hW5⟩:=ex (wr.alloc (.cells #[.int .i64 x,.int .i64 d0,.int .u64 d1,.int .u64 d2,.int .u64 d3,.int .u64 d4,.int .u64 d5,.int .u64 d6,.int .u64 d7,.int .u64 d8] 75));have b5:Below wr.heap.size wr W5:=by rw [<-hW5];exact zah (Below.refl _ _) _
    have k5:W5.heap[rb]?=some (.cells #[.int .i64 x,.int .i64 d0,.int .u64 d1,.int .u64 d2,.int .u64 d3,.int .u64 d4,.int .u64 d5,.int .u64 d6,.int .u64 d7,.int .u64 d8] 75 (0,0)):=by rw [<-hW5,<-hrb];exact zaa _ _
    obtain ⟨re,hre⟩:=ex W5.heap.size;obtain ⟨W6,hW6⟩:=ex (W5.alloc (.cells #[.int .i64 num] 3 (0,0)));have b6:Below W5.heap.size W5 W6:=by rw [<-hW6];exact zah (Below.refl _ _) _
    have k6:W6.heap[re]?=some (.cells #[.int .i64 num] 3 (0,0)):=by rw [<-hW6,<-hre];exact zaa _ _
    have b06:Below wr.heap.size wr W6:=zac b5 b6;have HT:=zab (HTO.out (x,t) x d0 d1 d2 d3 d4 d5 d6 d7 d8 n6 n11 re W6 rfl h8 hn6 hn11 (zac hb b06) k6);obtain ⟨⟨q0,q1,q2⟩,⟨r0,r1,r2,r3,r4,r5,r6,r7,r8,r9,r10⟩,x2⟩:=HC.out W5 (zac hb b5);have e5:=(zaf k5).1;have s0:W5.cell? ⟨rb,0,none⟩=some (.int .i64 x):=by rw [e5];rfl
    have s1:W5.cell? ⟨rb,1,none⟩=some (.int .i64 d0):=by rw [e5];rfl
    have s2:W5.cell? ⟨rb,2,none⟩=some (.int .u64 d1):=by rw [e5];rfl
    have s3:W5.cell? ⟨rb,3,none⟩=some (.int .u64 d2):=by rw [e5];rfl
    have s4:W5.cell? ⟨rb,4,none⟩=some (.int .u64 d3):=by rw [e5];rfl
    have s5:W5.cell? ⟨rb,5,none⟩=some (.int .u64 d4):=by rw [e5];rfl
    have s6:W5.cell? ⟨rb,6,none⟩=some (.int .u64 d5):=by rw [e5];rfl
    have s7:W5.cell? ⟨rb,7,none⟩=some (.int .u64 d6):=by rw [e5];rfl
    have s8:W5.cell? ⟨rb,8,none⟩=some (.int .u64 d7):=by rw [e5];rfl
    have s9:W5.cell? ⟨rb,9,none⟩=some (.int .u64 d8):=by rw [e5];rfl
    have HX7:=zab hx;have HW5:=zab hW5;have HW6:=zab hW6;have HRB:=zab hrb;have HRE:=zab hre;have H06:=zab b06;have HK9:Hid (k+1=k9):=hk9;have j2:(0:Int)<=(k:Int):=by omega
    have j3:(k:Int) < (N:Int):=by omega
    clear hx hcx hcx9 h8 hW5 b5 k5 hW6 b6 k6 hrb hre b06 hrow hb e5 hn6 hn11 hk9
    go_upto_region 9 with fail
    rw [HW5.out,HRB.out];clear u0 u1 u2 u3 u4 u5 u6 u7 u8 u9
    go_wp2_with fail
    rw [HW6.out,HRE.out];refine (HT.out).mono ?_;rintro e W7 ⟨q6,c6,q11,c11,rfl,hl7,e7,b7⟩;have c07:Below wr.heap.size wr W7:=zac H06.out b7;have c47:Below W4.heap.size W4 W7:=zac HV.out.2.2.2 c07;have ho7:=zaq HV.out.2.1 c07;obtain ⟨q9,c9,W9,hr9,o9,b9,kp9,-⟩:=pushW (x:=(WY.to ⟨ps,es,hd⟩ (x,t) [num],⟨q6,c6,q11,c11⟩)) e7 ho7 c47.size HK9.out (by have:=HX.out.2.2.2.1;have:=HK9.out;omega);have HV9:Hid (∃ V:List (WY×WV),V.map Prod.fst=(L.take k9).map (fun s=>WY.to ⟨ps,es,hd⟩ s [num])/\W9.ownsRow W4.heap.size 72 11 (.slice q9 k9 c9) k9 (V.flatMap wyC)/\(∀ x∈V,WL W9 x/\FRW w x.2)/\Below W4.heap.size W4 W9):=by
     have hkp:∀ (b:Nat) (cs:Array Value) (fr:Nat×Nat),W7.heap[b]?=some (.cells cs 3 fr)->W9.heap[b]?=some (.cells cs 3 fr):=fun b cs fr hb=>kp9 b _ hb (zqh ho7 hb (by decide));refine ⟨V++[(WY.to ⟨ps,es,hd⟩ (x,t) [num],⟨q6,c6,q11,c11⟩)],?_,o9,?_,c47.trans b9⟩
     ·rw [List.map_append,HV.out.1,<-HK9.out,List.take_add_one,HX7.out,List.map_append]
      rfl
     ·intro z hz
      rcases List.mem_append.1 hz with hz | hz
      ·exact ⟨((HV.out.2.2.1 z hz).1.below c07).kp hkp,(HV.out.2.2.1 z hz).2⟩
      ·obtain rfl:=List.mem_singleton.1 hz
       exact ⟨hl7.1.kp hkp,hl7.2⟩
    clear hl7 e7 b7 c07 c47 ho7 o9 b9 kp9;clear q0 q1 q2 x2;clear r0 r1 r2 r3 r4 r5 r6 r7 r8 r9 r10;clear s0 s1 s2 s3 s4 s5 s6 s7 s8 s9
    go_wp2_with (at_builtin;refine za3 rfl _ _ _ rfl rfl rfl hr9 ?_)
    go_roundw
    case rel=>exact ⟨k9,c9,q9,rfl,by have:=HK9.out;subst this;go_num,by have:=HK9.out;omega,HV9⟩
    case measure=>have:=HK9.out;simp [intOf];omega
   ·obtain rfl:k=N:=by omega
    have j3:¬(k:Int) < (k:Int):=by omega
    have HFIN:Hid (ONQ (FRW w) X w (.returned (.slice q k c)) wr):=by
     have hl:X.length=k:=by rw [HXX.out,List.length_map];exact HX.out.2.2.1
     refine ⟨q,c,V,?_,by rw [hl],?_,HV.out.2.2.1,HBW.out wr hb⟩
     ·rw [HV.out.1,HXX.out,List.take_of_length_le (by have:=HX.out.2.2.1;omega)]
     ·rw [hl];exact zav HV.out.2.1 (HBW.out W4 (HR.out W4 (Below.refl _ _)).2).size
    clear hrow hb HV
    go_wp2_with fail
    go_ret
    exact HFIN.out
 ·have HFIN:Hid (ONQ (FRW w) X w (.returned (.slice none 0 0)) W3):=by
   have:=HX.out.2.2.2.2;rw [if_neg hgo] at this;rw [this];exact onq_nil (HBW.out W3 (HS3.out W3 (Below.refl _ _)).2)
  cases inn with
  | false=>
   go_wp2_with fail
   go_ret
   exact HFIN.out
  | true=>
   have hne9:((me:Int)==hops)=true:=by
    by_cases h:(me:Int)=hops
    ·simpa using h
    ·exact absurd ⟨rfl,h⟩ hgo
   go_wp2_with fail
   go_ret
   exact HFIN.out
def stgM (n:NN) (w:WY):List WY:=w :: (ovS n w.last).map (fun s=>w.to s [])
theorem stg_last (n:NN) (w:WY):∃ k,(stgM n w).length=k+1/\k<=1/\(stgM n w)[k]?=some (zcx n w):=by
 unfold stgM zcx ovS
 by_cases h:0<=(zal n w.last.1).lk
 ·rw [if_pos h,if_pos h]
  exact ⟨1,rfl,Nat.le_refl _,rfl⟩
 ·rw [if_neg h,if_neg h]
  exact ⟨0,rfl,by omega,rfl⟩
set_option maxRecDepth 100000 in
set_option maxHeartbeats 16000000 in
theorem zno (n:NN) (v:NV) (np nt ng:Nat) (y:WY×WV) (hops:Int) (w:World) (hW:NW w n v) (hV:NetP n) (hY:WYP n hops 1 y.1) (hL:WL w y) (hh:hops<=64) (hnp:n.ports.length=np) :
  Calls Tryz.prog 59 #[.agg #[.slice v.pp np v.cp,.slice v.pt nt v.ct,.slice v.pg ng v.cg],.agg (wyC y).toArray] w (ONQ (fun v=>v=y.2∨FRW w v) (stgM n y.1) w):=by
 obtain ⟨Φ,hΦ⟩:∃ Φ,(fun v=>v=y.2∨FRW w v)=Φ:=⟨_,rfl⟩;rw [hΦ];have HΦ:Hid (Φ y.2/\∀ v,FRW w v->Φ v):=by rw [<-hΦ];exact ⟨.inl rfl,fun v hv=>.inr hv⟩
 clear hΦ;have hS:=hY.st;have hla:=fun (U:World) (hU:Below w.heap.size w U)=>zmo y U (hL.below hU) hY.1 (by have:=hY.2.2.2.1;have:=hY.2.2.2.2.1;omega);have hov:=fun (U:World) (hU:Below w.heap.size w U)=>zmg n v np nt ng y.1.last.1 y.1.last.2 U (hW.below hU) hV hS.1 hS.2.1 hnp;have hto:=fun (t:Int×List UInt8) (U:World) (hU:Below w.heap.size w U)=>to_any y t [] none 0 0 U (hL.below hU) (IL.nil U) (by have:=hY.2.2.2.1;have:=hY.2.2.2.2.1;omega) (by have:=hY.2.2.2.1;omega) (by omega);obtain ⟨⟨ps,es,hd⟩,⟨yp,yc,ye,yd⟩⟩:=y;obtain ⟨pp,cp,pt,ct,pg,cg⟩:=v;simp only at hY hL hS hla hov hto hW ⊢;obtain ⟨p,hp⟩:=ex (ps.getLastD 0);have hlast:WY.last ⟨ps,es,hd⟩=(p,hd):=by show (ps.getLastD 0,hd)=_;rw [hp]
 rw [hlast] at hla hov hS;obtain ⟨a0,a1,a2,a3,a4,a5,a6,a7,a8,h9⟩:=zbz hd;obtain ⟨mp,hmp⟩:=ex ps.length;obtain ⟨me,hme⟩:=ex es.length;rw [za9 h9 hmp hme] at hla hto ⊢;rw [zbf h9] at hla hov;obtain ⟨L,hLe⟩:=ex (ovS n (p,hd));obtain ⟨N,hN⟩:=ex L.length;have hN1:N<=1:=by have:=zqi n (p,hd);rw [hLe,hN] at this;exact this
 obtain ⟨X,hX⟩:=ex (stgM n ⟨ps,es,hd⟩);rw [hX];have hXe:X=⟨ps,es,hd⟩ :: L.map (fun s=>WY.to ⟨ps,es,hd⟩ s []):=by
  rw [<-hX];unfold stgM;rw [hlast,hLe]
 obtain ⟨b,hb⟩:=ex w.heap.size;obtain ⟨b2,hb2⟩:=ex (w.heap.size+1);obtain ⟨W1,hW1⟩:=ex ((w.alloc (.cells #[.slice pp np cp,.slice pt nt ct,.slice pg ng cg] 64)).alloc (.cells #[.slice yp mp yc,.slice ye me yd,.int .i64 a0,.int .u64 a1,.int .u64 a2,.int .u64 a3,.int .u64 a4,.int .u64 a5,.int .u64 a6,.int .u64 a7,.int .u64 a8] 72));have hz1:(w.alloc (.cells #[.slice pp np cp,.slice pt nt ct,.slice pg ng cg] 64)).heap.size=w.heap.size+1:=Array.size_push _;have b1:Below w.heap.size w W1:=by rw [<-hW1];exact zah (zah (Below.refl _ _) _) _
 have kb:W1.heap[b]?=some (.cells #[.slice pp np cp,.slice pt nt ct,.slice pg ng cg] 64 (0,0)):=by rw [<-hW1,<-hb];exact zae (zah (Below.refl _ _) _) (zaa _ _)
 have kb2:W1.heap[b2]?=some (.cells #[.slice yp mp yc,.slice ye me yd,.int .i64 a0,.int .u64 a1,.int .u64 a2,.int .u64 a3,.int .u64 a4,.int .u64 a5,.int .u64 a6,.int .u64 a7,.int .u64 a8] 72 (0,0)):=by rw [<-hW1,<-hb2,<-hz1];exact zaa _ _
 have HC:Hid (∀ U,Below W1.heap.size W1 U->(U.cell? ⟨b,0,none⟩=some (.slice pp np cp)/\U.cell? ⟨b,1,none⟩=some (.slice pt nt ct)/\U.cell? ⟨b,2,none⟩=some (.slice pg ng cg))/\(U.cell? ⟨b2,0,none⟩=some (.slice yp mp yc)/\U.cell? ⟨b2,1,none⟩=some (.slice ye me yd)/\U.cell? ⟨b2,2,none⟩=some (.int .i64 a0)/\U.cell? ⟨b2,3,none⟩=some (.int .u64 a1)/\U.cell? ⟨b2,4,none⟩=some (.int .u64 a2)/\U.cell? ⟨b2,5,none⟩=some (.int .u64 a3)/\U.cell? ⟨b2,6,none⟩=some (.int .u64 a4)/\U.cell? ⟨b2,7,none⟩=some (.int .u64 a5)/\U.cell? ⟨b2,8,none⟩=some (.int .u64 a6)/\U.cell? ⟨b2,9,none⟩=some (.int .u64 a7)/\U.cell? ⟨b2,10,none⟩=some (.int .u64 a8))):=fun U hU=>by
  have e1:=(zaf (zae hU kb)).1;have e2:=(zaf (zae hU kb2)).1;exact ⟨⟨by rw [e1];rfl,by rw [e1];rfl,by rw [e1];rfl⟩,⟨by rw [e2];rfl,by rw [e2];rfl,by rw [e2];rfl,by rw [e2];rfl,by rw [e2];rfl,by rw [e2];rfl,by rw [e2];rfl,by rw [e2];rfl,by rw [e2];rfl,by rw [e2];rfl,by rw [e2];rfl⟩⟩
 have HLA:Hid (∀ U,Below W1.heap.size W1 U->Calls Tryz.prog 75 #[.agg #[.slice yp mp yc,.slice ye me yd,.int .i64 a0,.int .u64 a1,.int .u64 a2,.int .u64 a3,.int .u64 a4,.int .u64 a5,.int .u64 a6,.int .u64 a7,.int .u64 a8]] U fun e w'=>e=.returned (.agg #[.int .i64 p,.int .i64 a0,.int .u64 a1,.int .u64 a2,.int .u64 a3,.int .u64 a4,.int .u64 a5,.int .u64 a6,.int .u64 a7,.int .u64 a8])/\Below U.heap.size U w'):=fun U hU=>hla U (zac b1 hU);have HOV:Hid (∀ U,Below W1.heap.size W1 U->Calls Tryz.prog 83 #[.agg #[.slice pp np cp,.slice pt nt ct,.slice pg ng cg],.agg #[.int .i64 p,.int .i64 a0,.int .u64 a1,.int .u64 a2,.int .u64 a3,.int .u64 a4,.int .u64 a5,.int .u64 a6,.int .u64 a7,.int .u64 a8]] U (OVQ n (p,hd) U)):=fun U hU=>hov U (zac b1 hU);have HTO:Hid (∀ (t:Int×List UInt8) (x d0 d1 d2 d3 d4 d5 d6 d7 d8:Int) (n6:Nat) (U:World),t.1=x->C9 t.2 d0 d1 d2 d3 d4 d5 d6 d7 d8->mp+1=n6->Below W1.heap.size W1 U->Calls Tryz.prog 84 #[.agg #[.slice yp mp yc,.slice ye me yd,.int .i64 a0,.int .u64 a1,.int .u64 a2,.int .u64 a3,.int .u64 a4,.int .u64 a5,.int .u64 a6,.int .u64 a7,.int .u64 a8],.agg #[.int .i64 x,.int .i64 d0,.int .u64 d1,.int .u64 d2,.int .u64 d3,.int .u64 d4,.int .u64 d5,.int .u64 d6,.int .u64 d7,.int .u64 d8],.slice none 0 0] U fun e w'=>∃ q6 c6 q11 c11,e=.returned (.agg #[.slice q6 n6 c6,.slice q11 me c11,.int .i64 d0,.int .u64 d1,.int .u64 d2,.int .u64 d3,.int .u64 d4,.int .u64 d5,.int .u64 d6,.int .u64 d7,.int .u64 d8])/\(WL w' (WY.to ⟨ps,es,hd⟩ t [],⟨q6,c6,q11,c11⟩)/\FRW w ⟨q6,c6,q11,c11⟩)/\(wyC (WY.to ⟨ps,es,hd⟩ t [],⟨q6,c6,q11,c11⟩)).toArray=#[.slice q6 n6 c6,.slice q11 me c11,.int .i64 d0,.int .u64 d1,.int .u64 d2,.int .u64 d3,.int .u64 d4,.int .u64 d5,.int .u64 d6,.int .u64 d7,.int .u64 d8]/\Below U.heap.size U w'):=fun t x d0 d1 d2 d3 d4 d5 d6 d7 d8 n6 U h1 h2 h3 hU=>by
  have h:=hto t U (zac b1 hU);obtain ⟨t1,t2⟩:=t;simp only at h1 h2;subst h1;rw [zbf h2] at h;refine h.mono ?_;rintro e w' ⟨⟨q6,c6,q11,c11⟩,rfl,hl,hb⟩;have e9:(wyC (WY.to ⟨ps,es,hd⟩ (t1,t2) [],⟨q6,c6,q11,c11⟩)).toArray=#[.slice q6 n6 c6,.slice q11 me c11,.int .i64 d0,.int .u64 d1,.int .u64 d2,.int .u64 d3,.int .u64 d4,.int .u64 d5,.int .u64 d6,.int .u64 d7,.int .u64 d8]:=za9 (ps:=ps++[t1]) (es:=es++[]) (hd:=t2) h2 (by rw [List.length_append,hmp];exact h3) (by rw [List.append_nil,hme]);rw [e9];exact ⟨q6,c6,q11,c11,rfl,⟨hl.1,hl.2.up (zac b1 hU)⟩,e9,hb⟩
 have HX:Hid (ovS n (p,hd)=L/\L.length=N/\N<=1/\X=⟨ps,es,hd⟩ :: L.map (fun s=>WY.to ⟨ps,es,hd⟩ s [])):=⟨hLe,hN,hN1,hXe⟩;have HBW:Hid (∀ U,Below W1.heap.size W1 U->Below w.heap.size w U):=fun U hU=>zac b1 hU;have hN7:N<=1:=hN1;obtain ⟨r,hr⟩:=ex W1.heap.size;obtain ⟨W2,hW2⟩:=ex (W1.alloc (.cells #[.slice yp mp yc,.slice ye me yd,.int .i64 a0,.int .u64 a1,.int .u64 a2,.int .u64 a3,.int .u64 a4,.int .u64 a5,.int .u64 a6,.int .u64 a7,.int .u64 a8] 72 (0,0)));have b12:Below W1.heap.size W1 W2:=by rw [<-hW2];exact zah (Below.refl _ _) _
 have ho2:W2.ownsRow W1.heap.size 72 11 (.slice (some ⟨r,0,none⟩) 1 1) 1 ([((⟨ps,es,hd⟩:WY),(⟨yp,yc,ye,yd⟩:WV))].flatMap wyC):=by
  have h:=zk4 (W:=W1) (T:=72) (s:=11) (cs:=#[.slice yp mp yc,.slice ye me yd,.int .i64 a0,.int .u64 a1,.int .u64 a2,.int .u64 a3,.int .u64 a4,.int .u64 a5,.int .u64 a6,.int .u64 a7,.int .u64 a8]) rfl;rw [hW2,hr] at h;rw [hr];have e:[((⟨ps,es,hd⟩:WY),(⟨yp,yc,ye,yd⟩:WV))].flatMap wyC=(#[.slice yp mp yc,.slice ye me yd,.int .i64 a0,.int .u64 a1,.int .u64 a2,.int .u64 a3,.int .u64 a4,.int .u64 a5,.int .u64 a6,.int .u64 a7,.int .u64 a8]:Array Value).toList:=by
   rw [<-za9 h9 hmp hme];simp
  rw [e];exact h
 have H2:Hid (W2.ownsRow W1.heap.size 72 11 (.slice (some ⟨r,0,none⟩) 1 1) 1 ([((⟨ps,es,hd⟩:WY),(⟨yp,yc,ye,yd⟩:WV))].flatMap wyC)/\WL W2 (⟨ps,es,hd⟩,⟨yp,yc,ye,yd⟩)/\Below W1.heap.size W1 W2):=⟨ho2,hL.below (zac b1 b12),b12⟩;have HW2:=zab hW2;have HR2:=zab hr;have HB:=zab hb;have HB2:=zab hb2;have HW:=zab hW1;have HB1:=zab b1;obtain ⟨⟨q0,q1,q2⟩,⟨r0,r1,r2,r3,r4,r5,r6,r7,r8,r9,r10⟩⟩:=HC.out W1 (Below.refl _ _);clear hW1 b1 hb kb hb2 kb2 hz1 hW hV hY hL hh hnp hla hov hto hS hp hlast h9 hmp hme hLe hN hN1 hX hXe hW2 hr b12 ho2
 go_enter Tryz.func59,Tryz.ntmps59
 go_upto_region 1 with fail
 rw [HW.out,HB2.out,HB.out]
 go_upto_region 2 with fail
 rw [HW2.out,HR2.out];clear q0 q1 q2;clear r0 r1 r2 r3 r4 r5 r6 r7 r8 r9 r10;have hs0:=HC.out W2.drew (H2.out.2.2).drew;refine wp_region_held_drew (S:=fun U=>(U.cell? ⟨b,0,none⟩=some (.slice pp np cp)/\U.cell? ⟨b,1,none⟩=some (.slice pt nt ct)/\U.cell? ⟨b,2,none⟩=some (.slice pg ng cg))/\(U.cell? ⟨b2,0,none⟩=some (.slice yp mp yc)/\U.cell? ⟨b2,1,none⟩=some (.slice ye me yd)/\U.cell? ⟨b2,2,none⟩=some (.int .i64 a0)/\U.cell? ⟨b2,3,none⟩=some (.int .u64 a1)/\U.cell? ⟨b2,4,none⟩=some (.int .u64 a2)/\U.cell? ⟨b2,5,none⟩=some (.int .u64 a3)/\U.cell? ⟨b2,6,none⟩=some (.int .u64 a4)/\U.cell? ⟨b2,7,none⟩=some (.int .u64 a5)/\U.cell? ⟨b2,8,none⟩=some (.int .u64 a6)/\U.cell? ⟨b2,9,none⟩=some (.int .u64 a7)/\U.cell? ⟨b2,10,none⟩=some (.int .u64 a8))) (by kernel_rfl) hs0 (fun _=>?_);obtain ⟨D,hD⟩:=ex W2.drew;rw [hD] at hs0 ⊢;have hSD:Below W2.heap.size W2 D:=by rw [<-hD];exact (Below.refl _ _).drew
 clear hD;refine tk 0 (.agg #[.slice pp np cp,.slice pt nt ct,.slice pg ng cg]) rfl hs0 ?_ ?_
 ·rintro U ⟨⟨q0,q1,q2⟩,⟨r0,r1,r2,r3,r4,r5,r6,r7,r8,r9,r10⟩⟩;go_simp
 refine tk 1 (.agg #[.slice yp mp yc,.slice ye me yd,.int .i64 a0,.int .u64 a1,.int .u64 a2,.int .u64 a3,.int .u64 a4,.int .u64 a5,.int .u64 a6,.int .u64 a7,.int .u64 a8]) rfl hs0 ?_ ?_
 ·rintro U ⟨⟨q0,q1,q2⟩,⟨r0,r1,r2,r3,r4,r5,r6,r7,r8,r9,r10⟩⟩;go_simp
 refine tk 5 (.int .i64 0) rfl hs0 ?_ ?_
 ·rintro U ⟨⟨q0,q1,q2⟩,⟨r0,r1,r2,r3,r4,r5,r6,r7,r8,r9,r10⟩⟩;go_simp
 refine rd 2 rfl fun KK hKK=>?_
 go_simp
 refine (HLA.out D (zac H2.out.2.2 hSD)).mono ?_;rintro en D1 ⟨rfl,bD⟩;have hSE:=zac hSD bD;have hs1:=HC.out D1 (zac H2.out.2.2 hSE)
 go_simp
 refine hKK.out _ _ hs1 (fun _=>?_);clear hKK KK hs0 hSD bD;have hs0:=hs1;have hSD:=hSE;clear hs1 hSE;refine rd 3 rfl fun KK hKK=>?_
 go_simp
 refine (HOV.out D1 (zac H2.out.2.2 hSD)).mono ?_;rintro en W4 ⟨qL,cL,rfl,ho,-,bD⟩;have hSE:=zac hSD bD;rw [HX.out.1,HX.out.2.1];rw [HX.out.1,HX.out.2.1] at ho;have hrl:RowL 10 stC W4 qL L:=zbm zef ho HX.out.2.1;clear ho;have hs1:=HC.out W4 (zac H2.out.2.2 hSE)
 go_simp
 refine hKK.out _ _ hs1 (fun _=>?_);clear hKK KK hs0 hSD bD;have hs0:=hs1;have hSD:=hSE;clear hs1 hSE;refine tk 4 (.int .i64 (N:Int)) rfl hs0 ?_ ?_
 ·rintro U ⟨⟨q0,q1,q2⟩,⟨r0,r1,r2,r3,r4,r5,r6,r7,r8,r9,r10⟩⟩;go_simp
 have HR:Hid (∀ U,Below W4.heap.size W4 U->RowL 10 stC U qL L):=fun U hU=>hrl.below hU;have H4:Hid (Below W1.heap.size W1 W4/\W4.ownsRow W1.heap.size 72 11 (.slice (some ⟨r,0,none⟩) 1 1) 1 ([((⟨ps,es,hd⟩:WY),(⟨yp,yc,ye,yd⟩:WV))].flatMap wyC)/\WL W4 (⟨ps,es,hd⟩,⟨yp,yc,ye,yd⟩)):=⟨zac H2.out.2.2 hSD,zaq H2.out.1 hSD,H2.out.2.1.below hSD⟩;clear hrl hs0 hSD;refine wpAnyH_done (by kernel_rfl) ?_ _
 try simp only [List.getElem_toArray,List.getElem_cons_succ,List.getElem_cons_zero,Act.put,List.setIfInBounds_toArray,List.set_cons_zero,List.set_cons_succ]
 go_wp2_with fail
 go_loopw [5,15] (fun v5 vk wr=>∃ (k k1 c:Nat) (q:Option Addr),v5=.slice q k1 c/\vk=.int .i64 (k:Int)/\k<=N/\k1<=2/\Hid (k+1=k1/\(k=0->Below W4.heap.size W4 wr)/\∃ V:List (WY×WV),V.map Prod.fst=⟨ps,es,hd⟩ :: (L.take k).map (fun s=>WY.to ⟨ps,es,hd⟩ s [])/\wr.ownsRow W1.heap.size 72 11 (.slice q k1 c) k1 (V.flatMap wyC)/\(∀ x∈V,WL wr x/\Φ x.2)/\Below W1.heap.size W1 wr)) (fun _ vk _=>N - (intOf vk).toNat)
 case atStart=>exact ⟨0,1,1,_,rfl,rfl,Nat.zero_le _,by omega,rfl,fun _=>Below.refl _ _,[((⟨ps,es,hd⟩:WY),(⟨yp,yc,ye,yd⟩:WV))],rfl,H4.out.2.1,fun x hx=>(by obtain rfl:=List.mem_singleton.1 hx;exact ⟨H4.out.2.2,HΦ.out.1⟩),H4.out.1⟩
 case round=>
  obtain ⟨k,k1,c,q,rfl,rfl,hk,hk1,HH⟩:=hrel;obtain ⟨hk2,hb0,V,hVm,hVo,hVl,hVb⟩:=HH.out;have HV:Hid (V.map Prod.fst=⟨ps,es,hd⟩ :: (L.take k).map (fun s=>WY.to ⟨ps,es,hd⟩ s [])/\wr.ownsRow W1.heap.size 72 11 (.slice q k1 c) k1 (V.flatMap wyC)/\(∀ x∈V,WL wr x/\Φ x.2)/\Below W1.heap.size W1 wr):=⟨hVm,hVo,hVl,hVb⟩;have HK1:=zab hk2;clear HH hVm hVo hVl hVb hk2;have hb:=HV.out.2.2.2
  by_cases hlt:k < N
  ·obtain rfl:k=0:=by omega
   have hrow:=HR.out wr (hb0 rfl);obtain ⟨o,hx⟩:∃ o,L[0]?=some o:=⟨_,List.getElem?_eq_getElem (by have:=HX.out.2.1;omega)⟩;obtain ⟨x,t⟩:=o;obtain ⟨gr,orr,e9,hcx⟩:=hrow 0 (x,t) hx;subst e9;obtain ⟨d0,d1,d2,d3,d4,d5,d6,d7,d8,h8⟩:=zbz t;have hcx9:∀ (i:Nat) (v:Value),([.int .i64 x,.int .i64 d0,.int .u64 d1,.int .u64 d2,.int .u64 d3,.int .u64 d4,.int .u64 d5,.int .u64 d6,.int .u64 d7,.int .u64 d8]:List Value)[i]?=some v->wr.cell? ⟨gr,orr+i,none⟩=some v:=fun i v hv=>by
    have:=hcx i v (by unfold stC;rw [show zcp (x,t).2=_ from h8];exact hv);rw [Nat.zero_mul,Nat.add_zero] at this;exact this
   have u0:=hcx9 0 _ rfl;have u1:=hcx9 1 _ rfl;have u2:=hcx9 2 _ rfl;have u3:=hcx9 3 _ rfl;have u4:=hcx9 4 _ rfl;have u5:=hcx9 5 _ rfl;have u6:=hcx9 6 _ rfl;have u7:=hcx9 7 _ rfl;have u8:=hcx9 8 _ rfl;have u9:=hcx9 9 _ rfl;rw [Nat.add_zero] at u0;obtain ⟨n6,hn6⟩:=ex (mp+1);obtain ⟨k9,hk9⟩:=ex (0+1);obtain ⟨m9,hm9⟩:=ex (k9+1);have HK9:Hid (k9=1/\m9=2/\0+1=k9/\k9+1=m9):=⟨by omega,by omega,hk9,hm9⟩;obtain ⟨rb,hrb⟩:=ex wr.heap.size;obtain ⟨W5,hW5⟩:=ex (wr.alloc (.cells #[.int .i64 x,.int .i64 d0,.int .u64 d1,.int .u64 d2,.int .u64 d3,.int .u64 d4,.int .u64 d5,.int .u64 d6,.int .u64 d7,.int .u64 d8] 75));have b5:Below wr.heap.size wr W5:=by rw [<-hW5];exact zah (Below.refl _ _) _
   have k5:W5.heap[rb]?=some (.cells #[.int .i64 x,.int .i64 d0,.int .u64 d1,.int .u64 d2,.int .u64 d3,.int .u64 d4,.int .u64 d5,.int .u64 d6,.int .u64 d7,.int .u64 d8] 75 (0,0)):=by rw [<-hW5,<-hrb];exact zaa _ _
   have HT:=zab (HTO.out (x,t) x d0 d1 d2 d3 d4 d5 d6 d7 d8 n6 W5 rfl h8 hn6 (zac hb b5));obtain ⟨⟨q0,q1,q2⟩,⟨r0,r1,r2,r3,r4,r5,r6,r7,r8,r9,r10⟩⟩:=HC.out W5 (zac hb b5);have e5:=(zaf k5).1;have s0:W5.cell? ⟨rb,0,none⟩=some (.int .i64 x):=by rw [e5];rfl
   have s1:W5.cell? ⟨rb,1,none⟩=some (.int .i64 d0):=by rw [e5];rfl
   have s2:W5.cell? ⟨rb,2,none⟩=some (.int .u64 d1):=by rw [e5];rfl
   have s3:W5.cell? ⟨rb,3,none⟩=some (.int .u64 d2):=by rw [e5];rfl
   have s4:W5.cell? ⟨rb,4,none⟩=some (.int .u64 d3):=by rw [e5];rfl
   have s5:W5.cell? ⟨rb,5,none⟩=some (.int .u64 d4):=by rw [e5];rfl
   have s6:W5.cell? ⟨rb,6,none⟩=some (.int .u64 d5):=by rw [e5];rfl
   have s7:W5.cell? ⟨rb,7,none⟩=some (.int .u64 d6):=by rw [e5];rfl
   have s8:W5.cell? ⟨rb,8,none⟩=some (.int .u64 d7):=by rw [e5];rfl
   have s9:W5.cell? ⟨rb,9,none⟩=some (.int .u64 d8):=by rw [e5];rfl
   have HX7:=zab hx;have HW5:=zab hW5;have HRB:=zab hrb;have H05:=zab b5;have j2:(0:Int) < (N:Int):=by omega
   clear hx hcx hcx9 h8 hW5 b5 k5 hrb hrow hb e5 hn6 hb0 hk9 hm9
   go_upto_region 5 with fail
   rw [HW5.out,HRB.out];clear u0 u1 u2 u3 u4 u5 u6 u7 u8 u9
   go_wp2_with fail
   refine (HT.out).mono ?_;rintro e W7 ⟨q6,c6,q11,c11,rfl,hl7,e7,b7⟩;have c07:Below wr.heap.size wr W7:=zac H05.out b7;have c17:Below W1.heap.size W1 W7:=zac HV.out.2.2.2 c07;have ho7:=zaq HV.out.2.1 c07;obtain ⟨q9,c9,W9,hr9,o9,b9,kp9,-⟩:=pushW (n9:=m9) (x:=(WY.to ⟨ps,es,hd⟩ (x,t) [],⟨q6,c6,q11,c11⟩)) e7 ho7 c17.size (by have:=HK1.out;have:=HK9.out;omega) (by have:=HK9.out;omega);have HV9:Hid (k9+1=m9/\(k9=0->Below W4.heap.size W4 W9)/\∃ V:List (WY×WV),V.map Prod.fst=⟨ps,es,hd⟩ :: (L.take k9).map (fun s=>WY.to ⟨ps,es,hd⟩ s [])/\W9.ownsRow W1.heap.size 72 11 (.slice q9 m9 c9) m9 (V.flatMap wyC)/\(∀ x∈V,WL W9 x/\Φ x.2)/\Below W1.heap.size W1 W9):=by
    have hkp:∀ (b:Nat) (cs:Array Value) (fr:Nat×Nat),W7.heap[b]?=some (.cells cs 3 fr)->W9.heap[b]?=some (.cells cs 3 fr):=fun b cs fr hb=>kp9 b _ hb (zqh ho7 hb (by decide));refine ⟨HK9.out.2.2.2,fun e=>by have:=HK9.out.1;omega,V++[(WY.to ⟨ps,es,hd⟩ (x,t) [],⟨q6,c6,q11,c11⟩)],?_,o9,?_,c17.trans b9⟩
    ·rw [List.map_append,HV.out.1,HK9.out.1,show (1:Nat)=0+1 from rfl,List.take_add_one,HX7.out]
     rfl
    ·intro z hz
     rcases List.mem_append.1 hz with hz | hz
     ·exact ⟨((HV.out.2.2.1 z hz).1.below c07).kp hkp,(HV.out.2.2.1 z hz).2⟩
     ·obtain rfl:=List.mem_singleton.1 hz
      exact ⟨hl7.1.kp hkp,HΦ.out.2 _ hl7.2⟩
   have hk0:k1=1:=by have:=HK1.out;omega
   subst hk0;clear hl7 e7 b7 c07 c17 ho7 o9 b9 kp9;clear q0 q1 q2;clear r0 r1 r2 r3 r4 r5 r6 r7 r8 r9 r10;clear s0 s1 s2 s3 s4 s5 s6 s7 s8 s9
   go_wp2_with (at_builtin;refine za3 rfl _ _ _ rfl rfl rfl hr9 ?_)
   go_roundw
   case rel=>exact ⟨k9,m9,c9,q9,rfl,by rw [HK9.out.1];go_num,by have:=HK9.out;omega,by have:=HK9.out;omega,HV9⟩
   case measure=>simp [intOf];omega
  ·obtain rfl:k=N:=by omega
   have j3:¬(k:Int) < (k:Int):=by omega
   have HFIN:Hid (ONQ Φ X w (.returned (.slice q k1 c)) wr):=by
    have hl:X.length=k1:=by rw [HX.out.2.2.2,List.length_cons,List.length_map,HX.out.2.1];exact HK1.out
    refine ⟨q,c,V,?_,by rw [hl],?_,HV.out.2.2.1,HBW.out wr hb⟩
    ·rw [HV.out.1,HX.out.2.2.2,List.take_of_length_le (by have:=HX.out.2.1;omega)]
    ·rw [hl];exact zav HV.out.2.1 (HBW.out W1 (Below.refl _ _)).size
   clear hb HV hb0
   go_wp2_with fail
   go_ret
   exact HFIN.out
structure JW (J:List WY->World->Prop) (Jx:World->Prop):Prop where
 below:∀ o W W',J o W->Below W.heap.size W W'->J o W'
 belowx:∀ W W',Jx W->Below W.heap.size W W'->Jx W'
def KQX (Z:Nat->Prop) (L:List TypeId) (W W':World):Prop:=∀ (b:Nat) (T:TypeId) (cur:Array Value) (fr:Nat×Nat),T∈L->(T=3->¬Z b)->W.heap[b]?=some (Obj.cells cur T fr)->W'.heap[b]?=some (Obj.cells cur T fr)
theorem KQX.refl (Z:Nat->Prop) (L:List TypeId) (W:World):KQX Z L W W:=fun _ _ _ _ _ _ h=>h
theorem KQX.trans {Z:Nat->Prop} {L:List TypeId} {W W' W'':World} (h:KQX Z L W W') (g:KQX Z L W' W''):KQX Z L W W'':=fun b T cur fr hT hz hb=>g b T cur fr hT hz (h b T cur fr hT hz hb)
theorem KQX.below {Z:Nat->Prop} {L:List TypeId} {W W':World} (h:Below W.heap.size W W'):KQX Z L W W':=fun _ _ _ _ _ _ hb=>zae h hb
theorem KQX.less {Z:Nat->Prop} {L M:List TypeId} {W W':World} (h:KQX Z L W W') (hm:∀ T∈M,T∈L):KQX Z M W W':=fun b T cur fr hT hz hb=>h b T cur fr (hm T hT) hz hb
theorem zlh {Z:Nat->Prop} {W U:World} (h:KQX Z KTY W U):KQX Z NTY W U:=h.less (fun _ hT=>List.mem_cons_of_mem _ (List.mem_cons_of_mem _ hT))
def NKX (Z:Nat->Prop) (W:World) (n:NN) (v:NV):Prop:=∀ U,KQX Z NTY W U->NW U n v
theorem NKX.nw {Z:Nat->Prop} {W:World} {n:NN} {v:NV} (h:NKX Z W n v):NW W n v:=h W (KQX.refl _ _ _)
theorem NKX.kx {Z:Nat->Prop} {W U:World} {n:NN} {v:NV} (h:NKX Z W n v) (hk:KQX Z NTY W U):NKX Z U n v:=fun V hV=>h V (hk.trans hV)
theorem NK.nkx {Z:Nat->Prop} {W:World} {n:NN} {v:NV} (h:NK W n v) (hZ:∀ b,Z b->W.heap.size<=b):NKX Z W n v:=fun U hU=>h U fun b T cur fr hT hb=>hU b T cur fr hT (fun _ hz=>absurd (zap hb) (Nat.not_lt.2 (hZ b hz))) hb
def AWY (Z:Nat->Prop) (v:WV):Prop:=(∀ a,v.pp=some a->¬Z a.block)/\∀ a,v.pe=some a->¬Z a.block
theorem FRW.aw {Z:Nat->Prop} {w:World} {v:WV} (h:FRW w v) (hZ:∀ b,w.heap.size<=b->¬Z b):AWY Z v:=⟨fun a e=>hZ _ (h.1 a e),fun a e=>hZ _ (h.2 a e)⟩
theorem IL.kx {Z:Nat->Prop} {L':List TypeId} {W U:World} {p:Option Addr} {n c:Nat} {L:List Int} (h:IL W p n c L) (ha:∀ a,p=some a->¬Z a.block) (hk:KQX Z L' W U) (hL:3∈L'):IL U p n c L:=by
 refine ⟨h.1,fun k x hx=>?_,h.2.2.1,fun a e=>?_⟩
 ·obtain ⟨g,o,e,hc⟩:=h.2.1 k x hx
  obtain ⟨cs,fr,hb⟩:=h.2.2.2 _ e;have hu:=hk g _ cs fr hL (fun _=>ha _ e) hb;exact ⟨g,o,e,(World.cell?_of_block (w:=W) (w':=U) (a:=⟨g,o+k,none⟩) (hu.trans hb.symm)).trans hc⟩
 ·obtain ⟨cs,fr,hb⟩:=h.2.2.2 a e
  exact ⟨cs,fr,hk _ _ cs fr hL (fun _=>ha a e) hb⟩
theorem WL.kx {Z:Nat->Prop} {W U:World} {x:WY×WV} (h:WL W x) (ha:AWY Z x.2) (hk:KQX Z KTY W U):WL U x:=⟨h.1.kx ha.1 hk (by decide),h.2.1.kx ha.2 hk (by decide),h.2.2⟩
theorem zmi {Z:Nat->Prop} {W:World} {B n c:Nat} {q:Option Addr} {V:List (WY×WV)} {X:List WY} (h:W.ownsRow B 72 11 (.slice q n c) n (V.flatMap wyC)) (hm:V.map Prod.fst=X) (hn:X.length=n):∀ U,KQX Z KTY W U->RowL 11 wyC U q V:=fun U hU=>zbm wyC_len (zfz h (fun b cur hh=>hU b 72 cur _ (by decide) (fun e=>absurd e (by decide)) hh)) (by rw [<-hn,<-hm,List.length_map])
def YLW (Z:Nat->Prop) (A:List WY) (J:List WY->World->Prop) (Jx:World->Prop) (l m:Nat):Prop:=∀ (o:List WY) (W:World) (x:WY) (v:PV),J o W->PL W (x,v)->(o++[x]) <+: A->YieldAt Fence.wide m Tryz.prog l #[.agg (paC (x,v)).toArray] W fun e W'=>(KQX Z KTY W W'/\W.heap.size<=W'.heap.size)/\((e=.returned (.bool true)/\J (o++[x]) W')∨(e=.returned (.bool false)/\Jx W'))
def WKQ (Z:Nat->Prop) (J:List WY->World->Prop) (Jx:World->Prop) (o R:List WY) (W:World) (e:Ending) (W':World):Prop:=(KQX Z KTY W W'/\W.heap.size<=W'.heap.size)/\((e=.returned (.bool true)/\J (o++R) W')∨(e=.returned (.bool false)/\Jx W'))
theorem zqv {W U:World} (h:KQ KTY W U):∀ (b:Nat) (cs:Array Value) (fr:Nat×Nat),W.heap[b]?=some (.cells cs 3 fr)->U.heap[b]?=some (.cells cs 3 fr):=fun b cs fr hb=>h b 3 cs fr (by decide) hb
theorem pre_take {o A:List WY} {X:List WY} {sub:WY->List WY} {k:Nat} {x:WY} (h:(o++X.flatMap sub) <+: A) (hx:X[k]?=some x):((o++(X.take k).flatMap sub)++sub x) <+: A:=by
 refine List.IsPrefix.trans ?_ h;have e:X.flatMap sub=((X.take k).flatMap sub++sub x)++(X.drop (k+1)).flatMap sub:=by
  have h1:X=X.take (k+1)++X.drop (k+1):=(List.take_append_drop _ _).symm
  conv=>lhs;rw [h1]
  rw [List.flatMap_append,List.take_add_one,hx,List.flatMap_append];simp
 rw [e];exact ⟨(X.drop (k+1)).flatMap sub,by simp only [List.append_assoc]⟩
theorem zrf {X:List WY} {sub:WY->List WY} {k:Nat} {x:WY} (o:List WY) (hx:X[k]?=some x):(o++(X.take k).flatMap sub)++sub x=o++(X.take (k+1)).flatMap sub:=by
 rw [List.take_add_one,hx,List.flatMap_append];simp
end Go.Proofs.YtmfakcfmkmppfaaGreatDoor.Nt
