import Derived.Test.YtbplhianpelmfaaGreatDoorYBO
namespace Go.Proofs.YtbplhianpelmfaaGreatDoor.Nt
open Go.RowKit Go.Shelf
theorem WL.kp {W U:World} {x:WY×WV} (h:WL W x) (hk:∀ (b:Nat) (cs:Array Value) (fr:Nat×Nat),W.heap[b]?=some (.cells cs 3 fr)→U.heap[b]?=some (.cells cs 3 fr)):WL U x:=⟨h.1.kp hk,h.2.1.kp hk,h.2.2⟩
theorem info_wy:(Tryz.prog.info? 114).map (fun i=>(i.zero,i.size,i.bytes))=some (some (.agg #[.slice none 0 0,.slice none 0 0,.int .i64 0,.int .u64 0,.int .u64 0,.int .u64 0,.int .u64 0,.int .u64 0,.int .u64 0,.int .u64 0,.int .u64 0]),11,120):=by kernel_rfl
theorem pushW {W:World} {B:Nat} {p:Option Addr} {n n9 c:Nat} {V:List (WY×WV)} {x:WY×WV} {cs:Array Value} (h9:(wyC x).toArray=cs) (h:W.ownsRow B 114 11 (.slice p n c) n (V.flatMap wyC)) (hB:B≤W.heap.size) (hn:n+1=n9) (hO:n9*120≤140737488355328) :
  ∃ q c9 W9,(Builtin.append_ #[132,132] 132 #[.slice p n c,.slice (some ⟨W.heap.size,0,none⟩) 1 1]).run Tryz.prog (W.alloc (.cells cs 114 (0,0)))=.ok (.slice q n9 c9) W9∧W9.ownsRow B 114 11 (.slice q n9 c9) n9 ((V++[x]).flatMap wyC)∧Below B W W9∧(∀ b o,W.heap[b]?=some o→(Value.slice p n c).ownBlock≠some b→W9.heap[b]?=some o)∧(∀ b,(Value.slice q n9 c9).ownBlock=some b→(Value.slice p n c).ownBlock=some b∨W.heap.size≤b):=by
 subst hn
 subst h9
 obtain ⟨i0,hi,hz0,hz1,hz2⟩:=info_parts info_wy
 obtain ⟨q,c9,W9,hr,o9,b9,kp,kq⟩:=pushR9 (W:=W) (TS:=132) (cs:=(wyC x).toArray) Tryz.underlying132 hi hz0 hz1 hz2 rfl (by decide) h hB rfl (fun u hu=>wyC_one x u (by simpa using hu)) hO (by omega)
 refine ⟨q,c9,W9,hr,?_,b9,kp,kq⟩
 rw [List.flatMap_append]
 simpa using o9
def KTY:List TypeId:=72 :: 114 :: NTY
def ONQ (X:List WY) (w:World) (e:Ending) (w':World):Prop:=∃ (q:Option Addr) (c:Nat) (V:List (WY×WV)),V.map Prod.fst=X∧e=.returned (.slice q X.length c)∧w'.ownsRow w.heap.size 114 11 (.slice q X.length c) X.length (V.flatMap wyC)∧(∀ x∈V,WL w' x)∧Below w.heap.size w w'
theorem onq_row {W:World} {B n c:Nat} {q:Option Addr} {V:List (WY×WV)} {X:List WY} (h:W.ownsRow B 114 11 (.slice q n c) n (V.flatMap wyC)) (hm:V.map Prod.fst=X) (hn:X.length=n):∀ U,KQ KTY W U→RowL 11 wyC U q V:=fun U hU=>own_rowL wyC_len (hU.own h (by decide)) (by rw [←hn,←hm,List.length_map])
theorem onq_nil {w w':World} (hb:Below w.heap.size w w'):ONQ [] w (.returned (.slice none 0 0)) w':=⟨none,0,[],rfl,rfl,World.ownsRow_nil _ _ _ _,fun x hx=>by simp at hx,hb⟩
set_option maxRecDepth 100000 in
set_option maxHeartbeats 16000000 in
theorem onward_any (n:NN) (v:NV) (np nt ng:Nat) (y:WY×WV) (hops:Int) (w:World) (hW:NW w n v) (hV:NetP n) (hY:WYP n hops 1 y.1) (hL:WL w y) (hh:hops≤64) (hnp:n.ports.length=np) (hnt:n.tabs.length=nt) (hng:n.grds.length=ng) :
  Calls Tryz.prog 67 #[.agg #[.slice v.pp np v.cp,.slice v.pt nt v.ct,.slice v.pg ng v.cg],.agg (wyC y).toArray,.int .i64 hops] w (ONQ (onwM n hops y.1) w):=by
 have hS:=hY.st
 have hla:=fun (U:World) (hU:Below w.heap.size w U)=>last_any y U (hL.below hU) hY.1 (by have:=hY.2.2.2.1;have:=hY.2.2.2.2.1;omega)
 have hap:=fun (U:World) (hU:Below w.heap.size w U)=>apply_any n v np nt ng y.1.last.1 y.1.last.2 U (hW.below hU) hV hS.1 hS.2.1 hS.2.2 hnp hnt hng
 have hto:=fun (t:Int×List UInt8) (E:List Int) (qp:Option Addr) (m9 c9:Nat) (U:World) (hU:Below w.heap.size w U) (hE:IL U qp m9 c9 E) (h3:m9≤500)=>to_any y t E qp m9 c9 U (hL.below hU) hE (by have:=hY.2.2.2.1;have:=hY.2.2.2.2.1;omega) (by have:=hY.2.2.2.1;omega) h3
 obtain ⟨⟨ps,es,hd⟩,⟨yp,yc,ye,yd⟩⟩:=y
 obtain ⟨pp,cp,pt,ct,pg,cg⟩:=v
 simp only at hY hL hS hla hap hto hW ⊢
 obtain ⟨p,hp⟩:∃ p,ps.getLastD 0=p:=⟨_,rfl⟩
 have hlast:WY.last ⟨ps,es,hd⟩=(p,hd):=by show (ps.getLastD 0,hd)=_;rw [hp]
 rw [hlast] at hla hap hS
 obtain ⟨a0,a1,a2,a3,a4,a5,a6,a7,a8,h9⟩:=c9_ex hd
 obtain ⟨mp,hmp⟩:∃ k,ps.length=k:=⟨_,rfl⟩
 obtain ⟨me,hme⟩:∃ k,es.length=k:=⟨_,rfl⟩
 rw [wyC_arr h9 hmp hme] at hla hto ⊢
 rw [stC_arr h9] at hla hap
 obtain ⟨num,hnum⟩:∃ k,(aplM n (p,hd)).1=k:=⟨_,rfl⟩
 obtain ⟨L,hLe⟩:∃ L,(aplM n (p,hd)).2=L:=⟨_,rfl⟩
 obtain ⟨N,hN⟩:∃ N,L.length=N:=⟨_,rfl⟩
 have hN4:N≤4:=by have:=(apl_st hV hS.1 hS.2.1 hS.2.2).1;rw [hLe,hN] at this;exact this
 obtain ⟨hx1,hx2⟩:=hV.port hS.1 hS.2.1
 simp only at hS hx1 hap
 obtain ⟨pk,hpk⟩:∃ pk:Nat,p=(pk:Int):=⟨p.toNat,by have:=hS.1;omega⟩
 subst hpk
 rw [Int.toNat_natCast] at hx1
 obtain ⟨inn,hinn⟩:∃ b,(portAt n (pk:Int)).inn=b:=⟨_,rfl⟩
 obtain ⟨gp,op,e1,-,-,a2',-⟩:=hW.1 pk _ hx1
 simp only at e1
 subst e1
 rw [hinn] at a2'
 have hpn:pk < np:=by rw [←hnp];exact (List.getElem?_eq_some_iff.1 hx1).1
 obtain ⟨X,hX⟩:∃ X,onwM n hops ⟨ps,es,hd⟩=X:=⟨_,rfl⟩
 rw [hX]
 have hXe:X=if inn=true∧(me:Int)≠hops then L.map (fun s=>WY.to ⟨ps,es,hd⟩ s [num]) else []:=by
  rw [←hX]
  unfold onwM
  rw [hlast]
  simp only [hinn,hme,hLe,hnum]
 obtain ⟨b,hb⟩:∃ b,w.heap.size=b:=⟨_,rfl⟩
 obtain ⟨b2,hb2⟩:∃ b2,w.heap.size+1=b2:=⟨_,rfl⟩
 obtain ⟨W1,hW1⟩:∃ W1,(w.alloc (.cells #[.slice (some ⟨gp,op,none⟩) np cp,.slice pt nt ct,.slice pg ng cg] 72)).alloc (.cells #[.slice yp mp yc,.slice ye me yd,.int .i64 a0,.int .u64 a1,.int .u64 a2,.int .u64 a3,.int .u64 a4,.int .u64 a5,.int .u64 a6,.int .u64 a7,.int .u64 a8] 114)=W1:=⟨_,rfl⟩
 have hz1:(w.alloc (.cells #[.slice (some ⟨gp,op,none⟩) np cp,.slice pt nt ct,.slice pg ng cg] 72)).heap.size=w.heap.size+1:=Array.size_push _
 have b1:Below w.heap.size w W1:=by rw [←hW1];exact belAZ (belAZ (Below.refl _ _) _) _
 have kb:W1.heap[b]?=some (.cells #[.slice (some ⟨gp,op,none⟩) np cp,.slice pt nt ct,.slice pg ng cg] 72 (0,0)):=by rw [←hW1,←hb];exact keepZ (belAZ (Below.refl _ _) _) (alloc_getZ _ _)
 have kb2:W1.heap[b2]?=some (.cells #[.slice yp mp yc,.slice ye me yd,.int .i64 a0,.int .u64 a1,.int .u64 a2,.int .u64 a3,.int .u64 a4,.int .u64 a5,.int .u64 a6,.int .u64 a7,.int .u64 a8] 114 (0,0)):=by rw [←hW1,←hb2,←hz1];exact alloc_getZ _ _
 have HC:Hid (∀ U,Below W1.heap.size W1 U→(U.cell? ⟨b,0,none⟩=some (.slice (some ⟨gp,op,none⟩) np cp)∧U.cell? ⟨b,1,none⟩=some (.slice pt nt ct)∧U.cell? ⟨b,2,none⟩=some (.slice pg ng cg))∧(U.cell? ⟨b2,0,none⟩=some (.slice yp mp yc)∧U.cell? ⟨b2,1,none⟩=some (.slice ye me yd)∧U.cell? ⟨b2,2,none⟩=some (.int .i64 a0)∧U.cell? ⟨b2,3,none⟩=some (.int .u64 a1)∧U.cell? ⟨b2,4,none⟩=some (.int .u64 a2)∧U.cell? ⟨b2,5,none⟩=some (.int .u64 a3)∧U.cell? ⟨b2,6,none⟩=some (.int .u64 a4)∧U.cell? ⟨b2,7,none⟩=some (.int .u64 a5)∧U.cell? ⟨b2,8,none⟩=some (.int .u64 a6)∧U.cell? ⟨b2,9,none⟩=some (.int .u64 a7)∧U.cell? ⟨b2,10,none⟩=some (.int .u64 a8))∧U.cell? ⟨gp,op+pk*4+2,none⟩=some (.bool inn)):=fun U hU=>by
  have e1:=(cellsZ (keepZ hU kb)).1
  have e2:=(cellsZ (keepZ hU kb2)).1
  exact ⟨⟨by rw [e1];rfl,by rw [e1];rfl,by rw [e1];rfl⟩,⟨by rw [e2];rfl,by rw [e2];rfl,by rw [e2];rfl,by rw [e2];rfl,by rw [e2];rfl,by rw [e2];rfl,by rw [e2];rfl,by rw [e2];rfl,by rw [e2];rfl,by rw [e2];rfl,by rw [e2];rfl⟩,keepC (bel0Z b1 hU) a2'⟩
 have HLA:Hid (∀ U,Below W1.heap.size W1 U→Calls Tryz.prog 54 #[.agg #[.slice yp mp yc,.slice ye me yd,.int .i64 a0,.int .u64 a1,.int .u64 a2,.int .u64 a3,.int .u64 a4,.int .u64 a5,.int .u64 a6,.int .u64 a7,.int .u64 a8]] U fun e w'=>e=.returned (.agg #[.int .i64 (pk:Int),.int .i64 a0,.int .u64 a1,.int .u64 a2,.int .u64 a3,.int .u64 a4,.int .u64 a5,.int .u64 a6,.int .u64 a7,.int .u64 a8])∧Below U.heap.size U w'):=fun U hU=>hla U (bel0Z b1 hU)
 have HAP:Hid (∀ U,Below W1.heap.size W1 U→Calls Tryz.prog 45 #[.agg #[.slice (some ⟨gp,op,none⟩) np cp,.slice pt nt ct,.slice pg ng cg],.agg #[.int .i64 (pk:Int),.int .i64 a0,.int .u64 a1,.int .u64 a2,.int .u64 a3,.int .u64 a4,.int .u64 a5,.int .u64 a6,.int .u64 a7,.int .u64 a8]] U (APQ n ((pk:Int),hd) U)):=fun U hU=>hap U (bel0Z b1 hU)
 have HTO:Hid (∀ (t:Int×List UInt8) (x d0 d1 d2 d3 d4 d5 d6 d7 d8:Int) (n6 n11:Nat) (r:Nat) (U:World),t.1=x→C9 t.2 d0 d1 d2 d3 d4 d5 d6 d7 d8→mp+1=n6→me+1=n11→Below W1.heap.size W1 U→U.heap[r]?=some (.cells #[.int .i64 num] 3 (0,0))→Calls Tryz.prog 77 #[.agg #[.slice yp mp yc,.slice ye me yd,.int .i64 a0,.int .u64 a1,.int .u64 a2,.int .u64 a3,.int .u64 a4,.int .u64 a5,.int .u64 a6,.int .u64 a7,.int .u64 a8],.agg #[.int .i64 x,.int .i64 d0,.int .u64 d1,.int .u64 d2,.int .u64 d3,.int .u64 d4,.int .u64 d5,.int .u64 d6,.int .u64 d7,.int .u64 d8],.slice (some ⟨r,0,none⟩) 1 1] U fun e w'=>∃ q6 c6 q11 c11,e=.returned (.agg #[.slice q6 n6 c6,.slice q11 n11 c11,.int .i64 d0,.int .u64 d1,.int .u64 d2,.int .u64 d3,.int .u64 d4,.int .u64 d5,.int .u64 d6,.int .u64 d7,.int .u64 d8])∧WL w' (WY.to ⟨ps,es,hd⟩ t [num],⟨q6,c6,q11,c11⟩)∧(wyC (WY.to ⟨ps,es,hd⟩ t [num],⟨q6,c6,q11,c11⟩)).toArray=#[.slice q6 n6 c6,.slice q11 n11 c11,.int .i64 d0,.int .u64 d1,.int .u64 d2,.int .u64 d3,.int .u64 d4,.int .u64 d5,.int .u64 d6,.int .u64 d7,.int .u64 d8]∧Below U.heap.size U w'):=fun t x d0 d1 d2 d3 d4 d5 d6 d7 d8 n6 n11 r U h1 h2 h3 h4 hU hr=>by
  have h:=hto t [num] (some ⟨r,0,none⟩) 1 1 U (bel0Z b1 hU) (il_one hr) (by omega)
  obtain ⟨t1,t2⟩:=t
  simp only at h1 h2
  subst h1
  rw [stC_arr h2] at h
  refine h.mono ?_
  rintro e w' ⟨⟨q6,c6,q11,c11⟩,rfl,hl,hb⟩
  have e9:(wyC (WY.to ⟨ps,es,hd⟩ (t1,t2) [num],⟨q6,c6,q11,c11⟩)).toArray=#[.slice q6 n6 c6,.slice q11 n11 c11,.int .i64 d0,.int .u64 d1,.int .u64 d2,.int .u64 d3,.int .u64 d4,.int .u64 d5,.int .u64 d6,.int .u64 d7,.int .u64 d8]:=wyC_arr (ps:=ps++[t1]) (es:=es++[num]) (hd:=t2) h2 (by rw [List.length_append,hmp];exact h3) (by rw [List.length_append,hme];exact h4)
  rw [e9]
  exact ⟨q6,c6,q11,c11,rfl,hl,e9,hb⟩
 have HX:Hid ((aplM n ((pk:Int),hd)).1=num∧(aplM n ((pk:Int),hd)).2=L∧L.length=N∧N≤4∧X=if inn=true∧(me:Int)≠hops then L.map (fun s=>WY.to ⟨ps,es,hd⟩ s [num]) else []):=⟨hnum,hLe,hN,hN4,hXe⟩
 have HBW:Hid (∀ U,Below W1.heap.size W1 U→Below w.heap.size w U):=fun U hU=>bel0Z b1 hU
 have hN7:N≤4:=hN4
 have HB:=hideL hb
 have HB2:=hideL hb2
 have HW:=hideL hW1
 have HB1:=hideL b1
 obtain ⟨⟨q0,q1,q2⟩,⟨r0,r1,r2,r3,r4,r5,r6,r7,r8,r9,r10⟩,x2⟩:=HC.out W1 (Below.refl _ _)
 clear hW1 b1 hb kb hb2 kb2 hz1 hW hV hY hL hh hnp hnt hng hla hap hto hS hp hlast h9 hmp hme hnum hLe hN hN4 hx1 hx2 hinn a2' hX hXe
 have j0:(0:Int)≤(pk:Int):=by omega
 have j1:(pk:Int) < (np:Int):=by omega
 clear hpn
 go_enter Tryz.func67,Tryz.ntmps67
 go_upto_region 1 with fail
 rw [HW.out,HB2.out,HB.out]
 go_wp2_with fail
 refine (HLA.out W1 (Below.refl _ _)).mono ?_
 rintro e W2 ⟨rfl,c2⟩
 clear q0 q1 q2 x2
 clear r0 r1 r2 r3 r4 r5 r6 r7 r8 r9 r10
 obtain ⟨b3,hb3⟩:∃ b3,W2.heap.size=b3:=⟨_,rfl⟩
 obtain ⟨W3,hW3⟩:∃ W3,W2.alloc (.cells #[.int .i64 (pk:Int),.int .i64 a0,.int .u64 a1,.int .u64 a2,.int .u64 a3,.int .u64 a4,.int .u64 a5,.int .u64 a6,.int .u64 a7,.int .u64 a8] 81)=W3:=⟨_,rfl⟩
 have b23:Below W2.heap.size W2 W3:=by rw [←hW3];exact belAZ (Below.refl _ _) _
 have c3:Below W1.heap.size W1 W3:=bel0Z c2 b23
 have k3:W3.heap[b3]?=some (.cells #[.int .i64 (pk:Int),.int .i64 a0,.int .u64 a1,.int .u64 a2,.int .u64 a3,.int .u64 a4,.int .u64 a5,.int .u64 a6,.int .u64 a7,.int .u64 a8] 81 (0,0)):=by rw [←hW3,←hb3];exact alloc_getZ _ _
 have HS3:Hid (∀ U,Below W3.heap.size W3 U→(U.cell? ⟨b3,0,none⟩=some (.int .i64 (pk:Int))∧U.cell? ⟨b3,1,none⟩=some (.int .i64 a0)∧U.cell? ⟨b3,2,none⟩=some (.int .u64 a1)∧U.cell? ⟨b3,3,none⟩=some (.int .u64 a2)∧U.cell? ⟨b3,4,none⟩=some (.int .u64 a3)∧U.cell? ⟨b3,5,none⟩=some (.int .u64 a4)∧U.cell? ⟨b3,6,none⟩=some (.int .u64 a5)∧U.cell? ⟨b3,7,none⟩=some (.int .u64 a6)∧U.cell? ⟨b3,8,none⟩=some (.int .u64 a7)∧U.cell? ⟨b3,9,none⟩=some (.int .u64 a8))∧Below W1.heap.size W1 U):=fun U hU=>by
  have e1:=(cellsZ (keepZ hU k3)).1
  exact ⟨⟨by rw [e1];rfl,by rw [e1];rfl,by rw [e1];rfl,by rw [e1];rfl,by rw [e1];rfl,by rw [e1];rfl,by rw [e1];rfl,by rw [e1];rfl,by rw [e1];rfl,by rw [e1];rfl⟩,bel0Z c3 hU⟩
 have HW3:=hideL hW3
 have HB3:=hideL hb3
 clear hW3 hb3 b23 c3 k3 c2
 go_upto_region 2 with fail
 rw [HW3.out,HB3.out]
 obtain ⟨⟨q0,q1,q2⟩,⟨r0,r1,r2,r3,r4,r5,r6,r7,r8,r9,r10⟩,x2⟩:=HC.out W3 (HS3.out W3 (Below.refl _ _)).2
 obtain ⟨⟨s0,s1,s2,s3,s4,s5,s6,s7,s8,s9⟩,-⟩:=HS3.out W3 (Below.refl _ _)
 by_cases hgo:inn=true∧(me:Int)≠hops
 ·have HXX:Hid (X=L.map (fun s=>WY.to ⟨ps,es,hd⟩ s [num])):=by
   have:=HX.out.2.2.2.2
   rw [if_pos hgo] at this
   exact this
  obtain ⟨hi,hne⟩:=hgo
  subst hi
  have hne9:((me:Int)==hops)=false:=by simpa using hne
  clear hne
  go_wp2_with fail
  refine (HAP.out W3 (HS3.out W3 (Below.refl _ _)).2).mono ?_
  rintro e W4 ⟨qL,cL,rfl,ho,c4⟩
  rw [HX.out.1,HX.out.2.1,HX.out.2.2.1]
  rw [HX.out.2.1,HX.out.2.2.1] at ho
  have hrl:RowL 10 stC W4 qL L:=own_rowL stC_len ho HX.out.2.2.1
  have HR:Hid (∀ U,Below W4.heap.size W4 U→RowL 10 stC U qL L∧Below W1.heap.size W1 U):=fun U hU=>⟨hrl.below hU,(HS3.out U (bel0Z c4 hU)).2⟩
  clear ho c4 hrl
  clear s0 s1 s2 s3 s4 s5 s6 s7 s8 s9
  clear q0 q1 q2 x2
  clear r0 r1 r2 r3 r4 r5 r6 r7 r8 r9 r10
  go_wp2_with fail
  go_loopw [10,38] (fun v10 vk wr=>∃ (k c:Nat) (q:Option Addr),v10=.slice q k c∧vk=.int .i64 (k:Int)∧k≤N∧Hid (∃ V:List (WY×WV),V.map Prod.fst=(L.take k).map (fun s=>WY.to ⟨ps,es,hd⟩ s [num])∧wr.ownsRow W4.heap.size 114 11 (.slice q k c) k (V.flatMap wyC)∧(∀ x∈V,WL wr x)∧Below W4.heap.size W4 wr)) (fun _ vk _=>N - (intOf vk).toNat)
  case atStart=>exact ⟨0,0,none,rfl,rfl,Nat.zero_le _,[],rfl,World.ownsRow_nil _ _ _ _,fun x hx=>(by simp at hx),Below.refl _ _⟩
  case round=>
   obtain ⟨k,c,q,rfl,rfl,hk,HH⟩:=hrel
   obtain ⟨V,hVm,hVo,hVl,hVb⟩:=HH.out
   have HV:Hid (V.map Prod.fst=(L.take k).map (fun s=>WY.to ⟨ps,es,hd⟩ s [num])∧wr.ownsRow W4.heap.size 114 11 (.slice q k c) k (V.flatMap wyC)∧(∀ x∈V,WL wr x)∧Below W4.heap.size W4 wr):=⟨hVm,hVo,hVl,hVb⟩
   clear HH hVm hVo hVl hVb
   obtain ⟨hrow,hb⟩:=HR.out wr HV.out.2.2.2
   by_cases hlt:k < N
   ·obtain ⟨o,hx⟩:∃ o,L[k]?=some o:=⟨_,List.getElem?_eq_getElem (by have:=HX.out.2.2.1;omega)⟩
    obtain ⟨x,t⟩:=o
    obtain ⟨gr,orr,e9,hcx⟩:=hrow k (x,t) hx
    subst e9
    obtain ⟨d0,d1,d2,d3,d4,d5,d6,d7,d8,h8⟩:=c9_ex t
    have hcx9:∀ (i:Nat) (v:Value),([.int .i64 x,.int .i64 d0,.int .u64 d1,.int .u64 d2,.int .u64 d3,.int .u64 d4,.int .u64 d5,.int .u64 d6,.int .u64 d7,.int .u64 d8]:List Value)[i]?=some v→wr.cell? ⟨gr,orr+k*10+i,none⟩=some v:=fun i v hv=>hcx i v (by unfold stC;rw [show cubC (x,t).2=_ from h8];exact hv)
    have u0:=hcx9 0 _ rfl
    have u1:=hcx9 1 _ rfl
    have u2:=hcx9 2 _ rfl
    have u3:=hcx9 3 _ rfl
    have u4:=hcx9 4 _ rfl
    have u5:=hcx9 5 _ rfl
    have u6:=hcx9 6 _ rfl
    have u7:=hcx9 7 _ rfl
    have u8:=hcx9 8 _ rfl
    have u9:=hcx9 9 _ rfl
    rw [Nat.add_zero] at u0
    obtain ⟨k9,hk9⟩:∃ k9,k+1=k9:=⟨_,rfl⟩
    obtain ⟨n6,hn6⟩:∃ k,mp+1=k:=⟨_,rfl⟩
    obtain ⟨n11,hn11⟩:∃ k,me+1=k:=⟨_,rfl⟩
    obtain ⟨rb,hrb⟩:∃ rb,wr.heap.size=rb:=⟨_,rfl⟩
    obtain ⟨W5,hW5⟩:∃ W5,wr.alloc (.cells #[.int .i64 x,.int .i64 d0,.int .u64 d1,.int .u64 d2,.int .u64 d3,.int .u64 d4,.int .u64 d5,.int .u64 d6,.int .u64 d7,.int .u64 d8] 81)=W5:=⟨_,rfl⟩
    have b5:Below wr.heap.size wr W5:=by rw [←hW5];exact belAZ (Below.refl _ _) _
    have k5:W5.heap[rb]?=some (.cells #[.int .i64 x,.int .i64 d0,.int .u64 d1,.int .u64 d2,.int .u64 d3,.int .u64 d4,.int .u64 d5,.int .u64 d6,.int .u64 d7,.int .u64 d8] 81 (0,0)):=by rw [←hW5,←hrb];exact alloc_getZ _ _
    obtain ⟨re,hre⟩:∃ re,W5.heap.size=re:=⟨_,rfl⟩
    obtain ⟨W6,hW6⟩:∃ W6,W5.alloc (.cells #[.int .i64 num] 3 (0,0))=W6:=⟨_,rfl⟩
    have b6:Below W5.heap.size W5 W6:=by rw [←hW6];exact belAZ (Below.refl _ _) _
    have k6:W6.heap[re]?=some (.cells #[.int .i64 num] 3 (0,0)):=by rw [←hW6,←hre];exact alloc_getZ _ _
    have b06:Below wr.heap.size wr W6:=bel0Z b5 b6
    have HT:=hideL (HTO.out (x,t) x d0 d1 d2 d3 d4 d5 d6 d7 d8 n6 n11 re W6 rfl h8 hn6 hn11 (bel0Z hb b06) k6)
    obtain ⟨⟨q0,q1,q2⟩,⟨r0,r1,r2,r3,r4,r5,r6,r7,r8,r9,r10⟩,x2⟩:=HC.out W5 (bel0Z hb b5)
    have e5:=(cellsZ k5).1
    have s0:W5.cell? ⟨rb,0,none⟩=some (.int .i64 x):=by rw [e5];rfl
    have s1:W5.cell? ⟨rb,1,none⟩=some (.int .i64 d0):=by rw [e5];rfl
    have s2:W5.cell? ⟨rb,2,none⟩=some (.int .u64 d1):=by rw [e5];rfl
    have s3:W5.cell? ⟨rb,3,none⟩=some (.int .u64 d2):=by rw [e5];rfl
    have s4:W5.cell? ⟨rb,4,none⟩=some (.int .u64 d3):=by rw [e5];rfl
    have s5:W5.cell? ⟨rb,5,none⟩=some (.int .u64 d4):=by rw [e5];rfl
    have s6:W5.cell? ⟨rb,6,none⟩=some (.int .u64 d5):=by rw [e5];rfl
    have s7:W5.cell? ⟨rb,7,none⟩=some (.int .u64 d6):=by rw [e5];rfl
    have s8:W5.cell? ⟨rb,8,none⟩=some (.int .u64 d7):=by rw [e5];rfl
    have s9:W5.cell? ⟨rb,9,none⟩=some (.int .u64 d8):=by rw [e5];rfl
    have HX7:=hideL hx
    have HW5:=hideL hW5
    have HW6:=hideL hW6
    have HRB:=hideL hrb
    have HRE:=hideL hre
    have H06:=hideL b06
    have HK9:Hid (k+1=k9):=hk9
    have j2:(0:Int)≤(k:Int):=by omega
    have j3:(k:Int) < (N:Int):=by omega
    clear hx hcx hcx9 h8 hW5 b5 k5 hW6 b6 k6 hrb hre b06 hrow hb e5 hn6 hn11 hk9
    go_upto_region 9 with fail
    rw [HW5.out,HRB.out]
    clear u0 u1 u2 u3 u4 u5 u6 u7 u8 u9
    go_wp2_with fail
    rw [HW6.out,HRE.out]
    refine (HT.out).mono ?_
    rintro e W7 ⟨q6,c6,q11,c11,rfl,hl7,e7,b7⟩
    have c07:Below wr.heap.size wr W7:=bel0Z H06.out b7
    have c47:Below W4.heap.size W4 W7:=bel0Z HV.out.2.2.2 c07
    have ho7:=own_belZ HV.out.2.1 c07
    obtain ⟨q9,c9,W9,hr9,o9,b9,kp9,-⟩:=pushW (x:=(WY.to ⟨ps,es,hd⟩ (x,t) [num],⟨q6,c6,q11,c11⟩)) e7 ho7 c47.size HK9.out (by have:=HX.out.2.2.2.1;have:=HK9.out;omega)
    have HV9:Hid (∃ V:List (WY×WV),V.map Prod.fst=(L.take k9).map (fun s=>WY.to ⟨ps,es,hd⟩ s [num])∧W9.ownsRow W4.heap.size 114 11 (.slice q9 k9 c9) k9 (V.flatMap wyC)∧(∀ x∈V,WL W9 x)∧Below W4.heap.size W4 W9):=by
     have hkp:∀ (b:Nat) (cs:Array Value) (fr:Nat×Nat),W7.heap[b]?=some (.cells cs 3 fr)→W9.heap[b]?=some (.cells cs 3 fr):=fun b cs fr hb=>kp9 b _ hb (own_neT ho7 hb (by decide))
     refine ⟨V++[(WY.to ⟨ps,es,hd⟩ (x,t) [num],⟨q6,c6,q11,c11⟩)],?_,o9,?_,c47.trans b9⟩
     ·rw [List.map_append,HV.out.1,←HK9.out,List.take_add_one,HX7.out,List.map_append]
      rfl
     ·intro z hz
      rcases List.mem_append.1 hz with hz | hz
      ·exact ((HV.out.2.2.1 z hz).below c07).kp hkp
      ·obtain rfl:=List.mem_singleton.1 hz
       exact hl7.kp hkp
    clear hl7 e7 b7 c07 c47 ho7 o9 b9 kp9
    clear q0 q1 q2 x2
    clear r0 r1 r2 r3 r4 r5 r6 r7 r8 r9 r10
    clear s0 s1 s2 s3 s4 s5 s6 s7 s8 s9
    go_wp2_with (at_builtin;refine wpList_runZ rfl _ _ _ rfl rfl rfl hr9 ?_)
    go_roundw
    case rel=>exact ⟨k9,c9,q9,rfl,by have:=HK9.out;subst this;go_num,by have:=HK9.out;omega,HV9⟩
    case measure=>have:=HK9.out;simp [intOf];omega
   ·obtain rfl:k=N:=by omega
    have j3:¬(k:Int) < (k:Int):=by omega
    have HFIN:Hid (ONQ X w (.returned (.slice q k c)) wr):=by
     have hl:X.length=k:=by rw [HXX.out,List.length_map];exact HX.out.2.2.1
     refine ⟨q,c,V,?_,by rw [hl],?_,HV.out.2.2.1,HBW.out wr hb⟩
     ·rw [HV.out.1,HXX.out,List.take_of_length_le (by have:=HX.out.2.2.1;omega)]
     ·rw [hl];exact own_baseZ HV.out.2.1 (HBW.out W4 (HR.out W4 (Below.refl _ _)).2).size
    clear hrow hb HV
    go_wp2_with fail
    go_ret
    exact HFIN.out
 ·have HFIN:Hid (ONQ X w (.returned (.slice none 0 0)) W3):=by
   have:=HX.out.2.2.2.2
   rw [if_neg hgo] at this
   rw [this]
   exact onq_nil (HBW.out W3 (HS3.out W3 (Below.refl _ _)).2)
  cases inn with
  | false=>
   go_wp2_with fail
   go_ret
   exact HFIN.out
  | true=>
   have hne9:((me:Int)==hops)=true:=by
    by_cases h:(me:Int)=hops
    ·simpa using h
    ·exact absurd ⟨rfl,h⟩ hgo
   go_wp2_with fail
   go_ret
   exact HFIN.out
def stgM (n:NN) (w:WY):List WY:=w :: (ovS n w.last).map (fun s=>w.to s [])
theorem stg_last (n:NN) (w:WY):∃ k,(stgM n w).length=k+1∧k≤1∧(stgM n w)[k]?=some (endM n w):=by
 unfold stgM endM ovS
 by_cases h:0≤(portAt n w.last.1).lk
 ·rw [if_pos h,if_pos h]
  exact ⟨1,rfl,Nat.le_refl _,rfl⟩
 ·rw [if_neg h,if_neg h]
  exact ⟨0,rfl,by omega,rfl⟩
set_option maxRecDepth 100000 in
set_option maxHeartbeats 16000000 in
theorem stages_any (n:NN) (v:NV) (np nt ng:Nat) (y:WY×WV) (hops:Int) (w:World) (hW:NW w n v) (hV:NetP n) (hY:WYP n hops 1 y.1) (hL:WL w y) (hh:hops≤64) (hnp:n.ports.length=np) :
  Calls Tryz.prog 66 #[.agg #[.slice v.pp np v.cp,.slice v.pt nt v.ct,.slice v.pg ng v.cg],.agg (wyC y).toArray] w (ONQ (stgM n y.1) w):=by
 have hS:=hY.st
 have hla:=fun (U:World) (hU:Below w.heap.size w U)=>last_any y U (hL.below hU) hY.1 (by have:=hY.2.2.2.1;have:=hY.2.2.2.2.1;omega)
 have hov:=fun (U:World) (hU:Below w.heap.size w U)=>over_any n v np nt ng y.1.last.1 y.1.last.2 U (hW.below hU) hV hS.1 hS.2.1 hnp
 have hto:=fun (t:Int×List UInt8) (U:World) (hU:Below w.heap.size w U)=>to_any y t [] none 0 0 U (hL.below hU) (IL.nil U) (by have:=hY.2.2.2.1;have:=hY.2.2.2.2.1;omega) (by have:=hY.2.2.2.1;omega) (by omega)
 obtain ⟨⟨ps,es,hd⟩,⟨yp,yc,ye,yd⟩⟩:=y
 obtain ⟨pp,cp,pt,ct,pg,cg⟩:=v
 simp only at hY hL hS hla hov hto hW ⊢
 obtain ⟨p,hp⟩:∃ p,ps.getLastD 0=p:=⟨_,rfl⟩
 have hlast:WY.last ⟨ps,es,hd⟩=(p,hd):=by show (ps.getLastD 0,hd)=_;rw [hp]
 rw [hlast] at hla hov hS
 obtain ⟨a0,a1,a2,a3,a4,a5,a6,a7,a8,h9⟩:=c9_ex hd
 obtain ⟨mp,hmp⟩:∃ k,ps.length=k:=⟨_,rfl⟩
 obtain ⟨me,hme⟩:∃ k,es.length=k:=⟨_,rfl⟩
 rw [wyC_arr h9 hmp hme] at hla hto ⊢
 rw [stC_arr h9] at hla hov
 obtain ⟨L,hLe⟩:∃ L,ovS n (p,hd)=L:=⟨_,rfl⟩
 obtain ⟨N,hN⟩:∃ N,L.length=N:=⟨_,rfl⟩
 have hN1:N≤1:=by have:=ov_le n (p,hd);rw [hLe,hN] at this;exact this
 obtain ⟨X,hX⟩:∃ X,stgM n ⟨ps,es,hd⟩=X:=⟨_,rfl⟩
 rw [hX]
 have hXe:X=⟨ps,es,hd⟩ :: L.map (fun s=>WY.to ⟨ps,es,hd⟩ s []):=by
  rw [←hX]
  unfold stgM
  rw [hlast,hLe]
 obtain ⟨b,hb⟩:∃ b,w.heap.size=b:=⟨_,rfl⟩
 obtain ⟨b2,hb2⟩:∃ b2,w.heap.size+1=b2:=⟨_,rfl⟩
 obtain ⟨W1,hW1⟩:∃ W1,(w.alloc (.cells #[.slice pp np cp,.slice pt nt ct,.slice pg ng cg] 72)).alloc (.cells #[.slice yp mp yc,.slice ye me yd,.int .i64 a0,.int .u64 a1,.int .u64 a2,.int .u64 a3,.int .u64 a4,.int .u64 a5,.int .u64 a6,.int .u64 a7,.int .u64 a8] 114)=W1:=⟨_,rfl⟩
 have hz1:(w.alloc (.cells #[.slice pp np cp,.slice pt nt ct,.slice pg ng cg] 72)).heap.size=w.heap.size+1:=Array.size_push _
 have b1:Below w.heap.size w W1:=by rw [←hW1];exact belAZ (belAZ (Below.refl _ _) _) _
 have kb:W1.heap[b]?=some (.cells #[.slice pp np cp,.slice pt nt ct,.slice pg ng cg] 72 (0,0)):=by rw [←hW1,←hb];exact keepZ (belAZ (Below.refl _ _) _) (alloc_getZ _ _)
 have kb2:W1.heap[b2]?=some (.cells #[.slice yp mp yc,.slice ye me yd,.int .i64 a0,.int .u64 a1,.int .u64 a2,.int .u64 a3,.int .u64 a4,.int .u64 a5,.int .u64 a6,.int .u64 a7,.int .u64 a8] 114 (0,0)):=by rw [←hW1,←hb2,←hz1];exact alloc_getZ _ _
 have HC:Hid (∀ U,Below W1.heap.size W1 U→(U.cell? ⟨b,0,none⟩=some (.slice pp np cp)∧U.cell? ⟨b,1,none⟩=some (.slice pt nt ct)∧U.cell? ⟨b,2,none⟩=some (.slice pg ng cg))∧(U.cell? ⟨b2,0,none⟩=some (.slice yp mp yc)∧U.cell? ⟨b2,1,none⟩=some (.slice ye me yd)∧U.cell? ⟨b2,2,none⟩=some (.int .i64 a0)∧U.cell? ⟨b2,3,none⟩=some (.int .u64 a1)∧U.cell? ⟨b2,4,none⟩=some (.int .u64 a2)∧U.cell? ⟨b2,5,none⟩=some (.int .u64 a3)∧U.cell? ⟨b2,6,none⟩=some (.int .u64 a4)∧U.cell? ⟨b2,7,none⟩=some (.int .u64 a5)∧U.cell? ⟨b2,8,none⟩=some (.int .u64 a6)∧U.cell? ⟨b2,9,none⟩=some (.int .u64 a7)∧U.cell? ⟨b2,10,none⟩=some (.int .u64 a8))):=fun U hU=>by
  have e1:=(cellsZ (keepZ hU kb)).1
  have e2:=(cellsZ (keepZ hU kb2)).1
  exact ⟨⟨by rw [e1];rfl,by rw [e1];rfl,by rw [e1];rfl⟩,⟨by rw [e2];rfl,by rw [e2];rfl,by rw [e2];rfl,by rw [e2];rfl,by rw [e2];rfl,by rw [e2];rfl,by rw [e2];rfl,by rw [e2];rfl,by rw [e2];rfl,by rw [e2];rfl,by rw [e2];rfl⟩⟩
 have HLA:Hid (∀ U,Below W1.heap.size W1 U→Calls Tryz.prog 54 #[.agg #[.slice yp mp yc,.slice ye me yd,.int .i64 a0,.int .u64 a1,.int .u64 a2,.int .u64 a3,.int .u64 a4,.int .u64 a5,.int .u64 a6,.int .u64 a7,.int .u64 a8]] U fun e w'=>e=.returned (.agg #[.int .i64 p,.int .i64 a0,.int .u64 a1,.int .u64 a2,.int .u64 a3,.int .u64 a4,.int .u64 a5,.int .u64 a6,.int .u64 a7,.int .u64 a8])∧Below U.heap.size U w'):=fun U hU=>hla U (bel0Z b1 hU)
 have HOV:Hid (∀ U,Below W1.heap.size W1 U→Calls Tryz.prog 44 #[.agg #[.slice pp np cp,.slice pt nt ct,.slice pg ng cg],.agg #[.int .i64 p,.int .i64 a0,.int .u64 a1,.int .u64 a2,.int .u64 a3,.int .u64 a4,.int .u64 a5,.int .u64 a6,.int .u64 a7,.int .u64 a8]] U (OVQ n (p,hd) U)):=fun U hU=>hov U (bel0Z b1 hU)
 have HTO:Hid (∀ (t:Int×List UInt8) (x d0 d1 d2 d3 d4 d5 d6 d7 d8:Int) (n6:Nat) (U:World),t.1=x→C9 t.2 d0 d1 d2 d3 d4 d5 d6 d7 d8→mp+1=n6→Below W1.heap.size W1 U→Calls Tryz.prog 77 #[.agg #[.slice yp mp yc,.slice ye me yd,.int .i64 a0,.int .u64 a1,.int .u64 a2,.int .u64 a3,.int .u64 a4,.int .u64 a5,.int .u64 a6,.int .u64 a7,.int .u64 a8],.agg #[.int .i64 x,.int .i64 d0,.int .u64 d1,.int .u64 d2,.int .u64 d3,.int .u64 d4,.int .u64 d5,.int .u64 d6,.int .u64 d7,.int .u64 d8],.slice none 0 0] U fun e w'=>∃ q6 c6 q11 c11,e=.returned (.agg #[.slice q6 n6 c6,.slice q11 me c11,.int .i64 d0,.int .u64 d1,.int .u64 d2,.int .u64 d3,.int .u64 d4,.int .u64 d5,.int .u64 d6,.int .u64 d7,.int .u64 d8])∧WL w' (WY.to ⟨ps,es,hd⟩ t [],⟨q6,c6,q11,c11⟩)∧(wyC (WY.to ⟨ps,es,hd⟩ t [],⟨q6,c6,q11,c11⟩)).toArray=#[.slice q6 n6 c6,.slice q11 me c11,.int .i64 d0,.int .u64 d1,.int .u64 d2,.int .u64 d3,.int .u64 d4,.int .u64 d5,.int .u64 d6,.int .u64 d7,.int .u64 d8]∧Below U.heap.size U w'):=fun t x d0 d1 d2 d3 d4 d5 d6 d7 d8 n6 U h1 h2 h3 hU=>by
  have h:=hto t U (bel0Z b1 hU)
  obtain ⟨t1,t2⟩:=t
  simp only at h1 h2
  subst h1
  rw [stC_arr h2] at h
  refine h.mono ?_
  rintro e w' ⟨⟨q6,c6,q11,c11⟩,rfl,hl,hb⟩
  have e9:(wyC (WY.to ⟨ps,es,hd⟩ (t1,t2) [],⟨q6,c6,q11,c11⟩)).toArray=#[.slice q6 n6 c6,.slice q11 me c11,.int .i64 d0,.int .u64 d1,.int .u64 d2,.int .u64 d3,.int .u64 d4,.int .u64 d5,.int .u64 d6,.int .u64 d7,.int .u64 d8]:=wyC_arr (ps:=ps++[t1]) (es:=es++[]) (hd:=t2) h2 (by rw [List.length_append,hmp];exact h3) (by rw [List.append_nil,hme])
  rw [e9]
  exact ⟨q6,c6,q11,c11,rfl,hl,e9,hb⟩
 have HX:Hid (ovS n (p,hd)=L∧L.length=N∧N≤1∧X=⟨ps,es,hd⟩ :: L.map (fun s=>WY.to ⟨ps,es,hd⟩ s [])):=⟨hLe,hN,hN1,hXe⟩
 have HBW:Hid (∀ U,Below W1.heap.size W1 U→Below w.heap.size w U):=fun U hU=>bel0Z b1 hU
 have hN7:N≤1:=hN1
 obtain ⟨r,hr⟩:∃ r,W1.heap.size=r:=⟨_,rfl⟩
 obtain ⟨W2,hW2⟩:∃ W2,W1.alloc (.cells #[.slice yp mp yc,.slice ye me yd,.int .i64 a0,.int .u64 a1,.int .u64 a2,.int .u64 a3,.int .u64 a4,.int .u64 a5,.int .u64 a6,.int .u64 a7,.int .u64 a8] 114 (0,0))=W2:=⟨_,rfl⟩
 have b12:Below W1.heap.size W1 W2:=by rw [←hW2];exact belAZ (Below.refl _ _) _
 have ho2:W2.ownsRow W1.heap.size 114 11 (.slice (some ⟨r,0,none⟩) 1 1) 1 ([((⟨ps,es,hd⟩:WY),(⟨yp,yc,ye,yd⟩:WV))].flatMap wyC):=by
  have h:=own_one (W:=W1) (T:=114) (s:=11) (cs:=#[.slice yp mp yc,.slice ye me yd,.int .i64 a0,.int .u64 a1,.int .u64 a2,.int .u64 a3,.int .u64 a4,.int .u64 a5,.int .u64 a6,.int .u64 a7,.int .u64 a8]) rfl
  rw [hW2,hr] at h
  rw [hr]
  have e:[((⟨ps,es,hd⟩:WY),(⟨yp,yc,ye,yd⟩:WV))].flatMap wyC=(#[.slice yp mp yc,.slice ye me yd,.int .i64 a0,.int .u64 a1,.int .u64 a2,.int .u64 a3,.int .u64 a4,.int .u64 a5,.int .u64 a6,.int .u64 a7,.int .u64 a8]:Array Value).toList:=by
   rw [←wyC_arr h9 hmp hme]
   simp
  rw [e]
  exact h
 have H2:Hid (W2.ownsRow W1.heap.size 114 11 (.slice (some ⟨r,0,none⟩) 1 1) 1 ([((⟨ps,es,hd⟩:WY),(⟨yp,yc,ye,yd⟩:WV))].flatMap wyC)∧WL W2 (⟨ps,es,hd⟩,⟨yp,yc,ye,yd⟩)∧Below W1.heap.size W1 W2):=⟨ho2,hL.below (bel0Z b1 b12),b12⟩
 have HW2:=hideL hW2
 have HR2:=hideL hr
 have HB:=hideL hb
 have HB2:=hideL hb2
 have HW:=hideL hW1
 have HB1:=hideL b1
 obtain ⟨⟨q0,q1,q2⟩,⟨r0,r1,r2,r3,r4,r5,r6,r7,r8,r9,r10⟩⟩:=HC.out W1 (Below.refl _ _)
 clear hW1 b1 hb kb hb2 kb2 hz1 hW hV hY hL hh hnp hla hov hto hS hp hlast h9 hmp hme hLe hN hN1 hX hXe hW2 hr b12 ho2
 go_enter Tryz.func66,Tryz.ntmps66
 go_upto_region 1 with fail
 rw [HW.out,HB2.out,HB.out]
 go_upto_region 2 with fail
 rw [HW2.out,HR2.out]
 clear q0 q1 q2
 clear r0 r1 r2 r3 r4 r5 r6 r7 r8 r9 r10
 have hs0:=HC.out W2.drew (H2.out.2.2).drew
 refine wp_region_held_drew (S:=fun U=>(U.cell? ⟨b,0,none⟩=some (.slice pp np cp)∧U.cell? ⟨b,1,none⟩=some (.slice pt nt ct)∧U.cell? ⟨b,2,none⟩=some (.slice pg ng cg))∧(U.cell? ⟨b2,0,none⟩=some (.slice yp mp yc)∧U.cell? ⟨b2,1,none⟩=some (.slice ye me yd)∧U.cell? ⟨b2,2,none⟩=some (.int .i64 a0)∧U.cell? ⟨b2,3,none⟩=some (.int .u64 a1)∧U.cell? ⟨b2,4,none⟩=some (.int .u64 a2)∧U.cell? ⟨b2,5,none⟩=some (.int .u64 a3)∧U.cell? ⟨b2,6,none⟩=some (.int .u64 a4)∧U.cell? ⟨b2,7,none⟩=some (.int .u64 a5)∧U.cell? ⟨b2,8,none⟩=some (.int .u64 a6)∧U.cell? ⟨b2,9,none⟩=some (.int .u64 a7)∧U.cell? ⟨b2,10,none⟩=some (.int .u64 a8))) (by kernel_rfl) hs0 (fun _=>?_)
 obtain ⟨D,hD⟩:∃ D,W2.drew=D:=⟨_,rfl⟩
 rw [hD] at hs0 ⊢
 have hSD:Below W2.heap.size W2 D:=by rw [←hD];exact (Below.refl _ _).drew
 clear hD
 refine tk 0 (.agg #[.slice pp np cp,.slice pt nt ct,.slice pg ng cg]) rfl hs0 ?_ ?_
 ·rintro U ⟨⟨q0,q1,q2⟩,⟨r0,r1,r2,r3,r4,r5,r6,r7,r8,r9,r10⟩⟩;go_simp
 refine tk 1 (.agg #[.slice yp mp yc,.slice ye me yd,.int .i64 a0,.int .u64 a1,.int .u64 a2,.int .u64 a3,.int .u64 a4,.int .u64 a5,.int .u64 a6,.int .u64 a7,.int .u64 a8]) rfl hs0 ?_ ?_
 ·rintro U ⟨⟨q0,q1,q2⟩,⟨r0,r1,r2,r3,r4,r5,r6,r7,r8,r9,r10⟩⟩;go_simp
 refine tk 5 (.int .i64 0) rfl hs0 ?_ ?_
 ·rintro U ⟨⟨q0,q1,q2⟩,⟨r0,r1,r2,r3,r4,r5,r6,r7,r8,r9,r10⟩⟩;go_simp
 refine rd 2 rfl fun KK hKK=>?_
 go_simp
 refine (HLA.out D (bel0Z H2.out.2.2 hSD)).mono ?_
 rintro en D1 ⟨rfl,bD⟩
 have hSE:=bel0Z hSD bD
 have hs1:=HC.out D1 (bel0Z H2.out.2.2 hSE)
 go_simp
 refine hKK.out _ _ hs1 (fun _=>?_)
 clear hKK KK hs0 hSD bD
 have hs0:=hs1
 have hSD:=hSE
 clear hs1 hSE
 refine rd 3 rfl fun KK hKK=>?_
 go_simp
 refine (HOV.out D1 (bel0Z H2.out.2.2 hSD)).mono ?_
 rintro en W4 ⟨qL,cL,rfl,ho,-,bD⟩
 have hSE:=bel0Z hSD bD
 rw [HX.out.1,HX.out.2.1]
 rw [HX.out.1,HX.out.2.1] at ho
 have hrl:RowL 10 stC W4 qL L:=own_rowL stC_len ho HX.out.2.1
 clear ho
 have hs1:=HC.out W4 (bel0Z H2.out.2.2 hSE)
 go_simp
 refine hKK.out _ _ hs1 (fun _=>?_)
 clear hKK KK hs0 hSD bD
 have hs0:=hs1
 have hSD:=hSE
 clear hs1 hSE
 refine tk 4 (.int .i64 (N:Int)) rfl hs0 ?_ ?_
 ·rintro U ⟨⟨q0,q1,q2⟩,⟨r0,r1,r2,r3,r4,r5,r6,r7,r8,r9,r10⟩⟩;go_simp
 have HR:Hid (∀ U,Below W4.heap.size W4 U→RowL 10 stC U qL L):=fun U hU=>hrl.below hU
 have H4:Hid (Below W1.heap.size W1 W4∧W4.ownsRow W1.heap.size 114 11 (.slice (some ⟨r,0,none⟩) 1 1) 1 ([((⟨ps,es,hd⟩:WY),(⟨yp,yc,ye,yd⟩:WV))].flatMap wyC)∧WL W4 (⟨ps,es,hd⟩,⟨yp,yc,ye,yd⟩)):=⟨bel0Z H2.out.2.2 hSD,own_belZ H2.out.1 hSD,H2.out.2.1.below hSD⟩
 clear hrl hs0 hSD
 refine wpAnyH_done (by kernel_rfl) ?_ _
 try simp only [List.getElem_toArray,List.getElem_cons_succ,List.getElem_cons_zero,Act.put,List.setIfInBounds_toArray,List.set_cons_zero,List.set_cons_succ]
 go_wp2_with fail
 go_loopw [5,15] (fun v5 vk wr=>∃ (k k1 c:Nat) (q:Option Addr),v5=.slice q k1 c∧vk=.int .i64 (k:Int)∧k≤N∧k1≤2∧Hid (k+1=k1∧(k=0→Below W4.heap.size W4 wr)∧∃ V:List (WY×WV),V.map Prod.fst=⟨ps,es,hd⟩ :: (L.take k).map (fun s=>WY.to ⟨ps,es,hd⟩ s [])∧wr.ownsRow W1.heap.size 114 11 (.slice q k1 c) k1 (V.flatMap wyC)∧(∀ x∈V,WL wr x)∧Below W1.heap.size W1 wr)) (fun _ vk _=>N - (intOf vk).toNat)
 case atStart=>exact ⟨0,1,1,_,rfl,rfl,Nat.zero_le _,by omega,rfl,fun _=>Below.refl _ _,[((⟨ps,es,hd⟩:WY),(⟨yp,yc,ye,yd⟩:WV))],rfl,H4.out.2.1,fun x hx=>(by obtain rfl:=List.mem_singleton.1 hx;exact H4.out.2.2),H4.out.1⟩
 case round=>
  obtain ⟨k,k1,c,q,rfl,rfl,hk,hk1,HH⟩:=hrel
  obtain ⟨hk2,hb0,V,hVm,hVo,hVl,hVb⟩:=HH.out
  have HV:Hid (V.map Prod.fst=⟨ps,es,hd⟩ :: (L.take k).map (fun s=>WY.to ⟨ps,es,hd⟩ s [])∧wr.ownsRow W1.heap.size 114 11 (.slice q k1 c) k1 (V.flatMap wyC)∧(∀ x∈V,WL wr x)∧Below W1.heap.size W1 wr):=⟨hVm,hVo,hVl,hVb⟩
  have HK1:=hideL hk2
  clear HH hVm hVo hVl hVb hk2
  have hb:=HV.out.2.2.2
  by_cases hlt:k < N
  ·obtain rfl:k=0:=by omega
   have hrow:=HR.out wr (hb0 rfl)
   obtain ⟨o,hx⟩:∃ o,L[0]?=some o:=⟨_,List.getElem?_eq_getElem (by have:=HX.out.2.1;omega)⟩
   obtain ⟨x,t⟩:=o
   obtain ⟨gr,orr,e9,hcx⟩:=hrow 0 (x,t) hx
   subst e9
   obtain ⟨d0,d1,d2,d3,d4,d5,d6,d7,d8,h8⟩:=c9_ex t
   have hcx9:∀ (i:Nat) (v:Value),([.int .i64 x,.int .i64 d0,.int .u64 d1,.int .u64 d2,.int .u64 d3,.int .u64 d4,.int .u64 d5,.int .u64 d6,.int .u64 d7,.int .u64 d8]:List Value)[i]?=some v→wr.cell? ⟨gr,orr+i,none⟩=some v:=fun i v hv=>by
    have:=hcx i v (by unfold stC;rw [show cubC (x,t).2=_ from h8];exact hv)
    rw [Nat.zero_mul,Nat.add_zero] at this
    exact this
   have u0:=hcx9 0 _ rfl
   have u1:=hcx9 1 _ rfl
   have u2:=hcx9 2 _ rfl
   have u3:=hcx9 3 _ rfl
   have u4:=hcx9 4 _ rfl
   have u5:=hcx9 5 _ rfl
   have u6:=hcx9 6 _ rfl
   have u7:=hcx9 7 _ rfl
   have u8:=hcx9 8 _ rfl
   have u9:=hcx9 9 _ rfl
   rw [Nat.add_zero] at u0
   obtain ⟨n6,hn6⟩:∃ k,mp+1=k:=⟨_,rfl⟩
   obtain ⟨k9,hk9⟩:∃ k,0+1=k:=⟨_,rfl⟩
   obtain ⟨m9,hm9⟩:∃ k,k9+1=k:=⟨_,rfl⟩
   have HK9:Hid (k9=1∧m9=2∧0+1=k9∧k9+1=m9):=⟨by omega,by omega,hk9,hm9⟩
   obtain ⟨rb,hrb⟩:∃ rb,wr.heap.size=rb:=⟨_,rfl⟩
   obtain ⟨W5,hW5⟩:∃ W5,wr.alloc (.cells #[.int .i64 x,.int .i64 d0,.int .u64 d1,.int .u64 d2,.int .u64 d3,.int .u64 d4,.int .u64 d5,.int .u64 d6,.int .u64 d7,.int .u64 d8] 81)=W5:=⟨_,rfl⟩
   have b5:Below wr.heap.size wr W5:=by rw [←hW5];exact belAZ (Below.refl _ _) _
   have k5:W5.heap[rb]?=some (.cells #[.int .i64 x,.int .i64 d0,.int .u64 d1,.int .u64 d2,.int .u64 d3,.int .u64 d4,.int .u64 d5,.int .u64 d6,.int .u64 d7,.int .u64 d8] 81 (0,0)):=by rw [←hW5,←hrb];exact alloc_getZ _ _
   have HT:=hideL (HTO.out (x,t) x d0 d1 d2 d3 d4 d5 d6 d7 d8 n6 W5 rfl h8 hn6 (bel0Z hb b5))
   obtain ⟨⟨q0,q1,q2⟩,⟨r0,r1,r2,r3,r4,r5,r6,r7,r8,r9,r10⟩⟩:=HC.out W5 (bel0Z hb b5)
   have e5:=(cellsZ k5).1
   have s0:W5.cell? ⟨rb,0,none⟩=some (.int .i64 x):=by rw [e5];rfl
   have s1:W5.cell? ⟨rb,1,none⟩=some (.int .i64 d0):=by rw [e5];rfl
   have s2:W5.cell? ⟨rb,2,none⟩=some (.int .u64 d1):=by rw [e5];rfl
   have s3:W5.cell? ⟨rb,3,none⟩=some (.int .u64 d2):=by rw [e5];rfl
   have s4:W5.cell? ⟨rb,4,none⟩=some (.int .u64 d3):=by rw [e5];rfl
   have s5:W5.cell? ⟨rb,5,none⟩=some (.int .u64 d4):=by rw [e5];rfl
   have s6:W5.cell? ⟨rb,6,none⟩=some (.int .u64 d5):=by rw [e5];rfl
   have s7:W5.cell? ⟨rb,7,none⟩=some (.int .u64 d6):=by rw [e5];rfl
   have s8:W5.cell? ⟨rb,8,none⟩=some (.int .u64 d7):=by rw [e5];rfl
   have s9:W5.cell? ⟨rb,9,none⟩=some (.int .u64 d8):=by rw [e5];rfl
   have HX7:=hideL hx
   have HW5:=hideL hW5
   have HRB:=hideL hrb
   have H05:=hideL b5
   have j2:(0:Int) < (N:Int):=by omega
   clear hx hcx hcx9 h8 hW5 b5 k5 hrb hrow hb e5 hn6 hb0 hk9 hm9
   go_upto_region 5 with fail
   rw [HW5.out,HRB.out]
   clear u0 u1 u2 u3 u4 u5 u6 u7 u8 u9
   go_wp2_with fail
   refine (HT.out).mono ?_
   rintro e W7 ⟨q6,c6,q11,c11,rfl,hl7,e7,b7⟩
   have c07:Below wr.heap.size wr W7:=bel0Z H05.out b7
   have c17:Below W1.heap.size W1 W7:=bel0Z HV.out.2.2.2 c07
   have ho7:=own_belZ HV.out.2.1 c07
   obtain ⟨q9,c9,W9,hr9,o9,b9,kp9,-⟩:=pushW (n9:=m9) (x:=(WY.to ⟨ps,es,hd⟩ (x,t) [],⟨q6,c6,q11,c11⟩)) e7 ho7 c17.size (by have:=HK1.out;have:=HK9.out;omega) (by have:=HK9.out;omega)
   have HV9:Hid (k9+1=m9∧(k9=0→Below W4.heap.size W4 W9)∧∃ V:List (WY×WV),V.map Prod.fst=⟨ps,es,hd⟩ :: (L.take k9).map (fun s=>WY.to ⟨ps,es,hd⟩ s [])∧W9.ownsRow W1.heap.size 114 11 (.slice q9 m9 c9) m9 (V.flatMap wyC)∧(∀ x∈V,WL W9 x)∧Below W1.heap.size W1 W9):=by
    have hkp:∀ (b:Nat) (cs:Array Value) (fr:Nat×Nat),W7.heap[b]?=some (.cells cs 3 fr)→W9.heap[b]?=some (.cells cs 3 fr):=fun b cs fr hb=>kp9 b _ hb (own_neT ho7 hb (by decide))
    refine ⟨HK9.out.2.2.2,fun e=>by have:=HK9.out.1;omega,V++[(WY.to ⟨ps,es,hd⟩ (x,t) [],⟨q6,c6,q11,c11⟩)],?_,o9,?_,c17.trans b9⟩
    ·rw [List.map_append,HV.out.1,HK9.out.1,show (1:Nat)=0+1 from rfl,List.take_add_one,HX7.out]
     rfl
    ·intro z hz
     rcases List.mem_append.1 hz with hz | hz
     ·exact ((HV.out.2.2.1 z hz).below c07).kp hkp
     ·obtain rfl:=List.mem_singleton.1 hz
      exact hl7.kp hkp
   have hk0:k1=1:=by have:=HK1.out;omega
   subst hk0
   clear hl7 e7 b7 c07 c17 ho7 o9 b9 kp9
   clear q0 q1 q2
   clear r0 r1 r2 r3 r4 r5 r6 r7 r8 r9 r10
   clear s0 s1 s2 s3 s4 s5 s6 s7 s8 s9
   go_wp2_with (at_builtin;refine wpList_runZ rfl _ _ _ rfl rfl rfl hr9 ?_)
   go_roundw
   case rel=>exact ⟨k9,m9,c9,q9,rfl,by rw [HK9.out.1];go_num,by have:=HK9.out;omega,by have:=HK9.out;omega,HV9⟩
   case measure=>simp [intOf];omega
  ·obtain rfl:k=N:=by omega
   have j3:¬(k:Int) < (k:Int):=by omega
   have HFIN:Hid (ONQ X w (.returned (.slice q k1 c)) wr):=by
    have hl:X.length=k1:=by rw [HX.out.2.2.2,List.length_cons,List.length_map,HX.out.2.1];exact HK1.out
    refine ⟨q,c,V,?_,by rw [hl],?_,HV.out.2.2.1,HBW.out wr hb⟩
    ·rw [HV.out.1,HX.out.2.2.2,List.take_of_length_le (by have:=HX.out.2.1;omega)]
    ·rw [hl];exact own_baseZ HV.out.2.1 (HBW.out W1 (Below.refl _ _)).size
   clear hb HV hb0
   go_wp2_with fail
   go_ret
   exact HFIN.out
theorem end_pre (n:NN) (w:WY):w.ps <+: (endM n w).ps:=by
 unfold endM
 split
 ·exact ⟨_,rfl⟩
 ·exact List.prefix_refl _
theorem wlk_pre {n:NN} {hops:Int}:∀ (f:Nat) (w x:WY),x∈wlkM n hops f w→w.ps <+: x.ps
 | 0,w,x,hx=>by
  have:x=endM n w:=by simpa [wlkM] using hx
  subst this
  exact end_pre n w
 | f+1,w,x,hx=>by
  unfold wlkM at hx
  split at hx
  ·have:x=endM n w:=by simpa using hx
   subst this
   exact end_pre n w
  ·obtain ⟨y,hy,hxy⟩:=List.mem_flatMap.1 hx
   have h1:=wlk_pre f y x hxy
   have h2:(endM n w).ps <+: y.ps:=by
    unfold onwM at hy
    split at hy
    ·obtain ⟨s,-,rfl⟩:=List.mem_map.1 hy
     exact ⟨_,rfl⟩
    ·cases hy
   exact ((end_pre n w).trans h2).trans h1
end Go.Proofs.YtbplhianpelmfaaGreatDoor.Nt
