import Derived.Test.YtmfakcfmkmppfaaGreatDoorVAW
namespace Go.Proofs.YtmfakcfmkmppfaaGreatDoor.Nt
open Go.RowKit Go.Shelf
theorem zk4 {W:World} {T:TypeId} {s:Nat} {cs:Array Value} (hs:cs.size=s):(W.alloc (.cells cs T (0,0))).ownsRow W.heap.size T s (.slice (some ⟨W.heap.size,0,none⟩) 1 1) 1 cs.toList:=
 ⟨by rw [Nat.one_mul,<-hs,Array.length_toList],.inr ⟨W.heap.size,1,cs,rfl,Nat.le_refl _,zaa _ _,Nat.le_refl _,by unfold maxLen;omega,by rw [Nat.one_mul];exact hs,by rw [Nat.one_mul];exact List.take_of_length_le (by rw [Array.length_toList,hs];exact Nat.le_refl _)⟩⟩
theorem appS {T TS:TypeId} {i0:TypeInfo} {z:Value} {s by_:Nat} {W:World} {B:Nat} {p:Option Addr} {n c:Nat} {xs news:List Value} {p2:Option Addr} {m m9 c2:Nat} (hu:Tryz.prog.underlying TS=some (.slice T)) (hi:Tryz.prog.info? T=some i0) (hz0:i0.zero=some z) (hz1:i0.size=s) (hz2:i0.bytes=by_) (hzc:z.cells.size=s) (hs:0 < s) (h:W.ownsRow B T s (.slice p n c) n xs) (hB:B<=W.heap.size) (hn:∀ ad,p2=some ad->∀ j u,news[j]?=some u->W.cell? (ad.add j)=some u) (h0:p2=none->m=0/\c2=0/\news=[]) (hl:news.length=m*s) (hone:∀ u∈news,u.oneCell'=true) (hm9:n+m=m9) (hb1:m9*by_<=140737488355328) (hb2:m9<=140737488355328) :
  ∃ q c9 W9,(Builtin.append_ #[TS,TS] TS #[.slice p n c,.slice p2 m c2]).run Tryz.prog W=.ok (.slice q m9 c9) W9/\W9.ownsRow B T s (.slice q m9 c9) m9 (xs++news)/\Below B W W9/\(∀ b o,W.heap[b]?=some o->(Value.slice p n c).ownBlock≠some b->W9.heap[b]?=some o):=by
 subst hm9;cases p2 with
 | none=>
  obtain ⟨rfl,rfl,rfl⟩:=h0 rfl;have hrun:=run_append_owned_none (P:=Tryz.prog) (w:=W) B TS TS T i0 s hu hi (.slice p n c) n xs h;refine ⟨p,c,W,hrun,?_,Below.refl _ _,fun b o ho _=>ho⟩;rw [List.append_nil,Nat.add_zero];exact h
 | some ad=>
  obtain ⟨v',W3,hr,o3,g3,n3⟩:=run_append_own_at (P:=Tryz.prog) W B TS TS T i0 z s by_ hu hi hz0 hz1 hz2 hzc hs (.slice p n c) n xs h ad m c2 news hl (hn ad rfl) hone (by unfold maxLen;omega) hb1 hB;obtain ⟨q9,c9,hv9⟩:=zec o3;subst hv9;have hown:∀ k,(Value.slice p n c).ownBlock=some k->B<=k:=fun k e=>(World.ownsRow.lt h k e).1;exact ⟨q9,c9,W3,hr,o3,(Below.refl B W).grown g3 hB hown,fun b o ho hne=>(g3.block b (zap ho) (fun e=>hne (by first | exact e | exact e.symm))).trans ho⟩
theorem zq0:(Tryz.prog.info? 75).map (fun i=>(i.zero,i.size,i.bytes))=some (some (.agg #[.int .i64 0,.int .i64 0,.int .u64 0,.int .u64 0,.int .u64 0,.int .u64 0,.int .u64 0,.int .u64 0,.int .u64 0,.int .u64 0]),10,80):=by kernel_rfl
theorem zbf {p:Int} {t:List UInt8} {a0 a1 a2 a3 a4 a5 a6 a7 a8:Int} (h:C9 t a0 a1 a2 a3 a4 a5 a6 a7 a8):(stC (p,t)).toArray=#[.int .i64 p,.int .i64 a0,.int .u64 a1,.int .u64 a2,.int .u64 a3,.int .u64 a4,.int .u64 a5,.int .u64 a6,.int .u64 a7,.int .u64 a8]:=by
 unfold stC;rw [show zcp (p,t).2=_ from h]
theorem zhn {T TS:TypeId} {i0:TypeInfo} {z:Value} {s by_:Nat} {W:World} {B:Nat} {p:Option Addr} {n c:Nat} {xs:List Value} {cs:Array Value} (hu:Tryz.prog.underlying TS=some (.slice T)) (hi:Tryz.prog.info? T=some i0) (hz0:i0.zero=some z) (hz1:i0.size=s) (hz2:i0.bytes=by_) (hzc:z.cells.size=s) (hs:0 < s) (h:W.ownsRow B T s (.slice p n c) n xs) (hB:B<=W.heap.size) (hcs:cs.size=s) (hone:∀ u∈cs.toList,u.oneCell'=true) (hb1:(n+1)*by_<=140737488355328) (hb2:n+1<=140737488355328) :
  ∃ q c9 W9,(Builtin.append_ #[TS,TS] TS #[.slice p n c,.slice (some ⟨W.heap.size,0,none⟩) 1 1]).run Tryz.prog (W.alloc (.cells cs T (0,0)))=.ok (.slice q (n+1) c9) W9/\W9.ownsRow B T s (.slice q (n+1) c9) (n+1) (xs++cs.toList)/\Below B W W9/\(∀ b o,W.heap[b]?=some o->(Value.slice p n c).ownBlock≠some b->W9.heap[b]?=some o)/\(∀ b,(Value.slice q (n+1) c9).ownBlock=some b->(Value.slice p n c).ownBlock=some b∨W.heap.size<=b):=by
 obtain ⟨W2,hW2⟩:=ex (W.alloc (.cells cs T (0,0)));have b2:Below W.heap.size W W2:=by rw [<-hW2];exact zah (Below.refl _ _) _
 have hnb:W2.heap[W.heap.size]?=some (.cells cs T (0,0)):=by rw [<-hW2];exact zaa _ _
 have k2:=zaq h b2;obtain ⟨v',W3,hr,o3,g3,n3⟩:=run_append_own_at (P:=Tryz.prog) W2 B TS TS T i0 z s by_ hu hi hz0 hz1 hz2 hzc hs (.slice p n c) n xs k2 ⟨W.heap.size,0,none⟩ 1 1 cs.toList (by rw [Nat.one_mul,<-hcs];simp) (World.news_of_block hnb) hone (by unfold maxLen;omega) hb1 (Nat.le_trans hB b2.size);obtain ⟨q9,c9,hv9⟩:∃ q9 c9,v'=.slice q9 (n+1) c9:=zec o3;subst hv9;have hown:∀ k,(Value.slice p n c).ownBlock=some k->B<=k:=fun k e=>(World.ownsRow.lt k2 k e).1;refine ⟨q9,c9,W3,by rw [hW2];exact hr,o3,?_,?_,?_⟩
 ·exact (b2.mono hB).grown g3 (Nat.le_trans hB b2.size) hown
 ·intro b o ho hne
  have h2:=zae b2 ho;exact (g3.block b (zap h2) (fun e=>hne (by first | exact e | exact e.symm))).trans h2
 ·intro b hb
  rcases n3.2 with e | e
  ·exact .inl (by rw [<-e];exact hb)
  ·rw [e] at hb
   obtain rfl:=Option.some.inj hb;exact .inr b2.size
theorem pushS {W:World} {B:Nat} {p:Option Addr} {n n9 c:Nat} {L:List (Int×List UInt8)} {x:Int} {t:List UInt8} {a0 a1 a2 a3 a4 a5 a6 a7 a8:Int} (h9:C9 t a0 a1 a2 a3 a4 a5 a6 a7 a8) (h:W.ownsRow B 75 10 (.slice p n c) n (L.flatMap stC)) (hB:B<=W.heap.size) (hn:n+1=n9) (hO:n9*80<=140737488355328) :
  ∃ q c9 W9,(Builtin.append_ #[127,127] 127 #[.slice p n c,.slice (some ⟨W.heap.size,0,none⟩) 1 1]).run Tryz.prog (W.alloc (.cells #[.int .i64 x,.int .i64 a0,.int .u64 a1,.int .u64 a2,.int .u64 a3,.int .u64 a4,.int .u64 a5,.int .u64 a6,.int .u64 a7,.int .u64 a8] 75 (0,0)))=.ok (.slice q n9 c9) W9/\W9.ownsRow B 75 10 (.slice q n9 c9) n9 ((L++[(x,t)]).flatMap stC)/\Below B W W9/\(∀ b o,W.heap[b]?=some o->(Value.slice p n c).ownBlock≠some b->W9.heap[b]?=some o)/\(∀ b,(Value.slice q n9 c9).ownBlock=some b->(Value.slice p n c).ownBlock=some b∨W.heap.size<=b):=by
 subst hn;obtain ⟨i0,hi,hz0,hz1,hz2⟩:=info_parts zq0;obtain ⟨q,c9,W9,hr,o9,b9,kp,kq⟩:=zhn (W:=W) (TS:=127) (cs:=(stC (x,t)).toArray) Tryz.underlying127 hi hz0 hz1 hz2 rfl (by decide) h hB rfl (fun u hu=>zpk (x,t) u (by simpa using hu)) hO (by omega);rw [zbf h9] at hr;refine ⟨q,c9,W9,hr,?_,b9,kp,kq⟩;rw [List.flatMap_append]
 simpa using o9
def OVQ (n:NN) (s:Int×List UInt8) (w:World) (e:Ending) (w':World):Prop:=∃ q c,e=.returned (.slice q (ovS n s).length c)/\w'.ownsRow w.heap.size 75 10 (.slice q (ovS n s).length c) (ovS n s).length ((ovS n s).flatMap stC)/\(q=none->c=0)/\Below w.heap.size w w'
set_option maxRecDepth 100000 in
set_option maxHeartbeats 16000000 in
theorem zmg (n:NN) (v:NV) (np nt ng:Nat) (p:Int) (h:List UInt8) (w:World) (hW:NW w n v) (hV:NetP n) (hp0:0<=p) (hp1:p < (n.ports.length:Int)) (hnp:n.ports.length=np) :
  Calls Tryz.prog 83 #[.agg #[.slice v.pp np v.cp,.slice v.pt nt v.ct,.slice v.pg ng v.cg],.agg (stC (p,h)).toArray] w (OVQ n (p,h) w):=by
 obtain ⟨pp,cp,pt,ct,pg,cg⟩:=v;simp only at hW ⊢;obtain ⟨a0,a1,a2,a3,a4,a5,a6,a7,a8,h9⟩:=zbz h;rw [zbf h9];obtain ⟨hx1,hx2⟩:=hV.port hp0 hp1;obtain ⟨pk,hpk⟩:∃ pk:Nat,p=(pk:Int):=⟨p.toNat,by omega⟩;subst hpk;rw [Int.toNat_natCast] at hx1;obtain ⟨lk,hlk⟩:∃ lk,(zal n (pk:Int)).lk=lk:=⟨_,rfl⟩;obtain ⟨gp,op,e1,-,-,-,a3'⟩:=hW.1 pk _ hx1;simp only at e1;subst e1;rw [hlk] at a3';have hpn:pk < np:=by rw [<-hnp];exact (List.getElem?_eq_some_iff.1 hx1).1
 have hov1:0<=lk->ovS n ((pk:Int),h)=[(lk,h)]:=fun hl=>by unfold ovS;rw [hlk,if_pos hl]
 have hov0:¬0<=lk->ovS n ((pk:Int),h)=[]:=fun hl=>by unfold ovS;rw [hlk,if_neg hl]
 obtain ⟨B,hB⟩:=ex w.heap.size;obtain ⟨b2,hb2⟩:=ex (w.heap.size+1);obtain ⟨W1,hW1⟩:=ex ((w.alloc (.cells #[.slice (some ⟨gp,op,none⟩) np cp,.slice pt nt ct,.slice pg ng cg] 64)).alloc (.cells #[.int .i64 (pk:Int),.int .i64 a0,.int .u64 a1,.int .u64 a2,.int .u64 a3,.int .u64 a4,.int .u64 a5,.int .u64 a6,.int .u64 a7,.int .u64 a8] 75));have hz2:(w.alloc (.cells #[.slice (some ⟨gp,op,none⟩) np cp,.slice pt nt ct,.slice pg ng cg] 64)).heap.size=w.heap.size+1:=Array.size_push _;have b1:Below w.heap.size w W1:=by rw [<-hW1];exact zah (zah (Below.refl _ _) _) _
 have k1:W1.heap[B]?=some (.cells #[.slice (some ⟨gp,op,none⟩) np cp,.slice pt nt ct,.slice pg ng cg] 64 (0,0)):=by rw [<-hW1,<-hB];exact zae (zah (Below.refl _ _) _) (zaa _ _)
 have k2:W1.heap[b2]?=some (.cells #[.int .i64 (pk:Int),.int .i64 a0,.int .u64 a1,.int .u64 a2,.int .u64 a3,.int .u64 a4,.int .u64 a5,.int .u64 a6,.int .u64 a7,.int .u64 a8] 75 (0,0)):=by rw [<-hW1,<-hb2,<-hz2];exact zaa _ _
 have c1:=(zaf k1).1;have c2:=(zaf k2).1;have q0:W1.cell? ⟨B,0,none⟩=some (.slice (some ⟨gp,op,none⟩) np cp):=by rw [c1];rfl
 have q1:W1.cell? ⟨B,1,none⟩=some (.slice pt nt ct):=by rw [c1];rfl
 have q2:W1.cell? ⟨B,2,none⟩=some (.slice pg ng cg):=by rw [c1];rfl
 have r0:W1.cell? ⟨b2,0,none⟩=some (.int .i64 (pk:Int)):=by rw [c2];rfl
 have r1:W1.cell? ⟨b2,1,none⟩=some (.int .i64 a0):=by rw [c2];rfl
 have r2:W1.cell? ⟨b2,2,none⟩=some (.int .u64 a1):=by rw [c2];rfl
 have r3:W1.cell? ⟨b2,3,none⟩=some (.int .u64 a2):=by rw [c2];rfl
 have r4:W1.cell? ⟨b2,4,none⟩=some (.int .u64 a3):=by rw [c2];rfl
 have r5:W1.cell? ⟨b2,5,none⟩=some (.int .u64 a4):=by rw [c2];rfl
 have r6:W1.cell? ⟨b2,6,none⟩=some (.int .u64 a5):=by rw [c2];rfl
 have r7:W1.cell? ⟨b2,7,none⟩=some (.int .u64 a6):=by rw [c2];rfl
 have r8:W1.cell? ⟨b2,8,none⟩=some (.int .u64 a7):=by rw [c2];rfl
 have r9:W1.cell? ⟨b2,9,none⟩=some (.int .u64 a8):=by rw [c2];rfl
 have k9:=zao b1 a3';have H9:Hid (C9 h a0 a1 a2 a3 a4 a5 a6 a7 a8):=h9;have HOV:Hid ((0<=lk->ovS n ((pk:Int),h)=[(lk,h)])/\(¬0<=lk->ovS n ((pk:Int),h)=[])):=⟨hov1,hov0⟩;have HB:=zab hB;have HB2:=zab hb2;have HW1:=zab hW1;have HBW:=zab b1;have j0:(0:Int)<=(pk:Int):=by omega
 have j1:(pk:Int) < (np:Int):=by omega
 clear h9 hW hV hp0 hp1 hnp hx1 hx2 hlk hpn hov1 hov0 hB hb2 hW1 hz2 b1 k1 k2 c1 c2 a3'
 go_enter Tryz.func83,Tryz.ntmps83
 go_upto_region 1 with fail
 rw [HW1.out,HB2.out,HB.out]
 by_cases hl:0<=lk
 ·have HL:=zab (HOV.out.1 hl)
  obtain ⟨W2,hW2⟩:=ex (W1.alloc (.cells #[.int .i64 lk,.int .i64 a0,.int .u64 a1,.int .u64 a2,.int .u64 a3,.int .u64 a4,.int .u64 a5,.int .u64 a6,.int .u64 a7,.int .u64 a8] 75 (0,0)));obtain ⟨r,hr⟩:=ex W1.heap.size;have HFIN:Hid (OVQ n ((pk:Int),h) w (.returned (.slice (some ⟨r,0,none⟩) 1 1)) W2):=by
   have ho:=zk4 (W:=W1) (T:=75) (s:=10) (cs:=#[.int .i64 lk,.int .i64 a0,.int .u64 a1,.int .u64 a2,.int .u64 a3,.int .u64 a4,.int .u64 a5,.int .u64 a6,.int .u64 a7,.int .u64 a8]) rfl;rw [hW2,hr] at ho;refine ⟨some ⟨r,0,none⟩,1,by rw [HL.out];rfl,?_,fun e=>(by cases e),?_⟩
   ·rw [HL.out]
    have e:[(lk,h)].flatMap stC=(#[.int .i64 lk,.int .i64 a0,.int .u64 a1,.int .u64 a2,.int .u64 a3,.int .u64 a4,.int .u64 a5,.int .u64 a6,.int .u64 a7,.int .u64 a8]:Array Value).toList:=by
     rw [<-zbf H9.out];simp
    rw [e];exact zav ho (by rw [<-hr];exact HBW.out.size)
   ·rw [<-hW2];exact zah HBW.out _
  have HW2:=zab hW2;have HR:=zab hr;clear hW2 hr
  go_wp2_with fail
  rw [HW2.out,HR.out]
  go_ret
  exact HFIN.out
 ·have HL:=zab (HOV.out.2 hl)
  have HFIN:Hid (OVQ n ((pk:Int),h) w (.returned (.slice none 0 0)) W1):=by
   refine ⟨none,0,by rw [HL.out];rfl,?_,fun _=>rfl,HBW.out⟩;rw [HL.out];exact World.ownsRow_nil _ _ _ _
  have hl9:¬lk ≥ 0:=hl
  go_wp2_with fail
  go_ret
  exact HFIN.out
def APQ (n:NN) (s:Int×List UInt8) (w:World) (e:Ending) (w':World):Prop:=∃ q c,e=.returned (.tuple #[.int .i64 (zce n s).1,.slice q (zce n s).2.length c])/\w'.ownsRow w.heap.size 75 10 (.slice q (zce n s).2.length c) (zce n s).2.length ((zce n s).2.flatMap stC)/\Below w.heap.size w w'
theorem zmh {n:NN} {L:List Int} {k:Nat} {x:Int} {h:List UInt8} (hx:L[k]?=some x) (hl:zfm (zcv n x) h=true):zg7 n (L.take (k+1)) h=zg7 n (L.take k) h++[(x,h)]:=by
 unfold zg7;rw [List.take_add_one,hx,Option.toList_some,List.filter_append,List.map_append];simp [hl]
theorem zqj {n:NN} {L:List Int} {k:Nat} {x:Int} {h:List UInt8} (hx:L[k]?=some x) (hl:zfm (zcv n x) h=false):zg7 n (L.take (k+1)) h=zg7 n (L.take k) h:=by
 unfold zg7;rw [List.take_add_one,hx,Option.toList_some,List.filter_append,List.map_append];simp [hl]
set_option maxRecDepth 100000 in
set_option maxHeartbeats 16000000 in
theorem zkg (n:NN) (v:NV) (np nt ng:Nat) (p:Int) (h:List UInt8) (w:World) (hW:NW w n v) (hV:NetP n) (hp0:0<=p) (hp1:p < (n.ports.length:Int)) (hh:HdP n.bits h) (hnp:n.ports.length=np) (hnt:n.tabs.length=nt) (hng:n.grds.length=ng) :
  Calls Tryz.prog 85 #[.agg #[.slice v.pp np v.cp,.slice v.pt nt v.ct,.slice v.pg ng v.cg],.agg (stC (p,h)).toArray] w (APQ n (p,h) w):=by
 have hlb:=fun (q:Int) (x:List UInt8) (U:World) (hU:Below w.heap.size w U) (h0:0<=q) (h1:q < (n.ports.length:Int)) (hx:HdP n.bits x)=>zn5 n v np nt ng q x U (hW.below hU) hV h0 h1 hx hng;have hft:=fun (U:World) (hU:Below w.heap.size w U)=>zlk n v np nt ng p h U (hW.below hU) hV hp0 hp1 hh hnp hnt;obtain ⟨pp,cp,pt,ct,pg,cg⟩:=v;simp only at hW hlb hft ⊢;obtain ⟨a0,a1,a2,a3,a4,a5,a6,a7,a8,h9⟩:=zbz h;rw [zbf h9] at hft ⊢;obtain ⟨lb,hlb9⟩:=ex (zfm (zcv n p) h);obtain ⟨fr,hfr⟩:=ex (zkk (zj8 p h) (ze8 n (zal n p).bx) (zd8 n (zal n p).bx.toNat));rw [hfr] at hft;have hap:zfu n p h=if lb=true then fr else none:=by unfold zfu;rw [hlb9,hfr]
 have hfx:∀ k x,fr=some (k,x)->x∈ze8 n (zal n p).bx:=fun k x e=>by
  rw [<-hfr] at e;obtain ⟨i,-,hi,-⟩:=zc7 e;exact List.mem_of_getElem? hi
 obtain ⟨hx1,hx2⟩:=hV.port hp0 hp1;obtain ⟨ht1,ht2⟩:=hV.tab hx2.2.1 hx2.2.2.1;obtain ⟨pk,hpk⟩:∃ pk:Nat,p=(pk:Int):=⟨p.toNat,by omega⟩;subst hpk;obtain ⟨B,hB⟩:=ex w.heap.size;obtain ⟨b2,hb2⟩:=ex (w.heap.size+1);obtain ⟨W1,hW1⟩:=ex ((w.alloc (.cells #[.slice pp np cp,.slice pt nt ct,.slice pg ng cg] 64)).alloc (.cells #[.int .i64 (pk:Int),.int .i64 a0,.int .u64 a1,.int .u64 a2,.int .u64 a3,.int .u64 a4,.int .u64 a5,.int .u64 a6,.int .u64 a7,.int .u64 a8] 75));have hz2:(w.alloc (.cells #[.slice pp np cp,.slice pt nt ct,.slice pg ng cg] 64)).heap.size=w.heap.size+1:=Array.size_push _;have b1:Below w.heap.size w W1:=by rw [<-hW1];exact zah (zah (Below.refl _ _) _) _
 have k1:W1.heap[B]?=some (.cells #[.slice pp np cp,.slice pt nt ct,.slice pg ng cg] 64 (0,0)):=by rw [<-hW1,<-hB];exact zae (zah (Below.refl _ _) _) (zaa _ _)
 have k2:W1.heap[b2]?=some (.cells #[.int .i64 (pk:Int),.int .i64 a0,.int .u64 a1,.int .u64 a2,.int .u64 a3,.int .u64 a4,.int .u64 a5,.int .u64 a6,.int .u64 a7,.int .u64 a8] 75 (0,0)):=by rw [<-hW1,<-hb2,<-hz2];exact zaa _ _
 have HC:Hid (∀ U,Below W1.heap.size W1 U->(U.cell? ⟨B,0,none⟩=some (.slice pp np cp)/\U.cell? ⟨B,1,none⟩=some (.slice pt nt ct)/\U.cell? ⟨B,2,none⟩=some (.slice pg ng cg))/\(U.cell? ⟨b2,0,none⟩=some (.int .i64 (pk:Int))/\U.cell? ⟨b2,1,none⟩=some (.int .i64 a0)/\U.cell? ⟨b2,2,none⟩=some (.int .u64 a1)/\U.cell? ⟨b2,3,none⟩=some (.int .u64 a2)/\U.cell? ⟨b2,4,none⟩=some (.int .u64 a3)/\U.cell? ⟨b2,5,none⟩=some (.int .u64 a4)/\U.cell? ⟨b2,6,none⟩=some (.int .u64 a5)/\U.cell? ⟨b2,7,none⟩=some (.int .u64 a6)/\U.cell? ⟨b2,8,none⟩=some (.int .u64 a7)/\U.cell? ⟨b2,9,none⟩=some (.int .u64 a8))):=fun U hU=>by
  have e1:=(zaf (zae hU k1)).1;have e2:=(zaf (zae hU k2)).1;exact ⟨⟨by rw [e1];rfl,by rw [e1];rfl,by rw [e1];rfl⟩,⟨by rw [e2];rfl,by rw [e2];rfl,by rw [e2];rfl,by rw [e2];rfl,by rw [e2];rfl,by rw [e2];rfl,by rw [e2];rfl,by rw [e2];rfl,by rw [e2];rfl,by rw [e2];rfl⟩⟩
 have HLB:Hid (∀ (q:Int) (x:List UInt8) (U:World),Below W1.heap.size W1 U->0<=q->q < (n.ports.length:Int)->HdP n.bits x->Calls Tryz.prog 100 #[.agg #[.slice pp np cp,.slice pt nt ct,.slice pg ng cg],.int .i64 q,Tn.cubeV x] U fun e w'=>e=.returned (.bool (zfm (zcv n q) x))/\Below U.heap.size U w'):=fun q x U hU=>hlb q x U (zac b1 hU);have HL1:Hid (∀ U:World,Below W1.heap.size W1 U->Calls Tryz.prog 100 #[.agg #[.slice pp np cp,.slice pt nt ct,.slice pg ng cg],.int .i64 (pk:Int),.agg #[.int .i64 a0,.int .u64 a1,.int .u64 a2,.int .u64 a3,.int .u64 a4,.int .u64 a5,.int .u64 a6,.int .u64 a7,.int .u64 a8]] U fun e w'=>e=.returned (.bool lb)/\Below U.heap.size U w'):=fun U hU=>by
  have h:=hlb (pk:Int) h U (zac b1 hU) hp0 hp1 hh;rw [h9.agg,hlb9] at h;exact h
 have HFT:Hid (∀ U:World,Below W1.heap.size W1 U->Calls Tryz.prog 101 #[.agg #[.slice pp np cp,.slice pt nt ct,.slice pg ng cg],.agg #[.int .i64 (pk:Int),.int .i64 a0,.int .u64 a1,.int .u64 a2,.int .u64 a3,.int .u64 a4,.int .u64 a5,.int .u64 a6,.int .u64 a7,.int .u64 a8]] U (FTQ fr U)):=fun U hU=>hft U (zac b1 hU);have HV:Hid (NetP n/\HdP n.bits h/\zfu n (pk:Int) h=(if lb=true then fr else none)/\(∀ k x,fr=some (k,x)->za2 n (zal n (pk:Int)).bx x)):=⟨hV,hh,hap,fun k x e=>ht2.1 x (hfx k x e)⟩
 have H9:Hid (C9 h a0 a1 a2 a3 a4 a5 a6 a7 a8):=h9;have HB:=zab hB;have HB2:=zab hb2;have HW1:=zab hW1;have HBW:Hid (∀ U,Below W1.heap.size W1 U->Below w.heap.size w U):=fun U hU=>zac b1 hU;clear h9 hW hV hp0 hp1 hh hnp hnt hng hx1 hx2 ht1 ht2 hap hfx hfr hlb9 hlb hft hB hb2 hW1 hz2 b1 k1 k2;obtain ⟨⟨q0,q1,q2⟩,⟨r0,r1,r2,r3,r4,r5,r6,r7,r8,r9⟩⟩:=HC.out W1 (Below.refl _ _)
 go_enter Tryz.func85,Tryz.ntmps85
 go_upto_region 1 with fail
 rw [HW1.out,HB2.out,HB.out]
 go_wp2_with fail
 refine (HL1.out W1 (Below.refl _ _)).mono ?_;rintro e W2 ⟨rfl,c2⟩;clear q0 q1 q2;clear r0 r1 r2 r3 r4 r5 r6 r7 r8 r9;cases lb with
 | false=>
  have HFIN:Hid (APQ n ((pk:Int),h) w (.returned (.tuple #[.int .i64 (-1),.slice none 0 0])) W2):=by
   have e9:zce n ((pk:Int),h)=(-1,[]):=by
    unfold zce;rw [show zfu n ((pk:Int),h).1 ((pk:Int),h).2=_ from HV.out.2.2.1];rfl
   exact ⟨none,0,by rw [e9];rfl,by rw [e9];exact World.ownsRow_nil _ _ _ _,HBW.out W2 c2⟩
  clear c2
  go_wp2_with fail
  refine bodyPost_ret (results_tmp2 rfl _ _ _) rfl ?_;exact HFIN.out
 | true=>
  obtain ⟨⟨q0,q1,q2⟩,⟨r0,r1,r2,r3,r4,r5,r6,r7,r8,r9⟩⟩:=HC.out W2 c2;have hft2:=zab (HFT.out W2 c2);have HC2:=zab c2;clear c2
  go_wp2_with fail
  refine Calls.mono hft2.out ?_;rintro e W3 ⟨c3,hres⟩;have c3':=zac HC2.out c3;clear q0 q1 q2;clear r0 r1 r2 r3 r4 r5 r6 r7 r8 r9;cases fr with
  | none=>
   simp only at hres;subst hres;have HFIN:Hid (APQ n ((pk:Int),h) w (.returned (.tuple #[.int .i64 (-1),.slice none 0 0])) (W3.alloc (.cells #[.int .i64 0,.slice none 0 0,.slice none 0 0,.slice none 0 0,.int .i64 0,.int .u64 0,.int .u64 0,.int .u64 0,.int .u64 0,.int .u64 0,.int .u64 0,.int .u64 0,.int .u64 0] 119))):=by
    have e9:zce n ((pk:Int),h)=(-1,[]):=by
     unfold zce;rw [show zfu n ((pk:Int),h).1 ((pk:Int),h).2=_ from HV.out.2.2.1];rfl
    exact ⟨none,0,by rw [e9];rfl,by rw [e9];exact World.ownsRow_nil _ _ _ _,zah (HBW.out W3 c3') _⟩
   clear c3 c3'
   go_wp2_with fail
   refine bodyPost_ret (results_tmp2 rfl _ _ _) rfl ?_;exact HFIN.out
  | some kx=>
   obtain ⟨num,x⟩:=kx;simp only at hres;obtain ⟨pi,ci,po,co,pc,cc,hres,hli⟩:=hres;obtain ⟨d0,d1,d2,d3,d4,d5,d6,d7,d8,h8⟩:=zbz x.wr;rw [show zcp x.wr=_ from h8] at hres;obtain ⟨ni,hni⟩:=ex x.ins.length;obtain ⟨nc,hnc⟩:=ex x.cubes.length;obtain ⟨no,hno⟩:=ex x.outs.length;rw [hni,hnc,hno] at hres
   replace hres:e=.returned (.tuple #[.agg #[.int .i64 (num:Int),.slice pi ni ci,.slice po no co,.slice pc nc cc,.int .i64 d0,.int .u64 d1,.int .u64 d2,.int .u64 d3,.int .u64 d4,.int .u64 d5,.int .u64 d6,.int .u64 d7,.int .u64 d8],.bool true]):=hres
   subst hres;have hEP:=HV.out.2.2.2 num x rfl;have hbt:=HV.out.1.bits;obtain ⟨W4,hW4⟩:=ex (W3.alloc (Obj.cells #[.int .i64 (num:Int),.slice pi ni ci,.slice po no co,.slice pc nc cc,.int .i64 d0,.int .u64 d1,.int .u64 d2,.int .u64 d3,.int .u64 d4,.int .u64 d5,.int .u64 d6,.int .u64 d7,.int .u64 d8] 119));have b4:Below W3.heap.size W3 W4:=by rw [<-hW4];exact zah (Below.refl _ _) _
   obtain ⟨rb,hrb⟩:=ex W3.heap.size;have s4:W4.heap[rb]?=some (.cells #[.int .i64 (num:Int),.slice pi ni ci,.slice po no co,.slice pc nc cc,.int .i64 d0,.int .u64 d1,.int .u64 d2,.int .u64 d3,.int .u64 d4,.int .u64 d5,.int .u64 d6,.int .u64 d7,.int .u64 d8] 119 (0,0)):=by rw [<-hW4,<-hrb];exact zaa _ _
   have c4:=zac c3' b4;have HD:Hid (∀ U,Below W4.heap.size W4 U->(U.cell? ⟨rb,0,none⟩=some (.int .i64 (num:Int))/\U.cell? ⟨rb,1,none⟩=some (.slice pi ni ci)/\U.cell? ⟨rb,2,none⟩=some (.slice po no co)/\U.cell? ⟨rb,3,none⟩=some (.slice pc nc cc)/\U.cell? ⟨rb,4,none⟩=some (.int .i64 d0)/\U.cell? ⟨rb,5,none⟩=some (.int .u64 d1)/\U.cell? ⟨rb,6,none⟩=some (.int .u64 d2)/\U.cell? ⟨rb,7,none⟩=some (.int .u64 d3)/\U.cell? ⟨rb,8,none⟩=some (.int .u64 d4)/\U.cell? ⟨rb,9,none⟩=some (.int .u64 d5)/\U.cell? ⟨rb,10,none⟩=some (.int .u64 d6)/\U.cell? ⟨rb,11,none⟩=some (.int .u64 d7)/\U.cell? ⟨rb,12,none⟩=some (.int .u64 d8))/\LI U po x.outs/\Below W1.heap.size W1 U):=fun U hU=>by
    have e1:=(zaf (zae hU s4)).1;exact ⟨⟨by rw [e1];rfl,by rw [e1];rfl,by rw [e1];rfl,by rw [e1];rfl,by rw [e1];rfl,by rw [e1];rfl,by rw [e1];rfl,by rw [e1];rfl,by rw [e1];rfl,by rw [e1];rfl,by rw [e1];rfl,by rw [e1];rfl,by rw [e1];rfl⟩,hli.below (zac b4 hU),zac c4 hU⟩
   obtain ⟨t9,ht9⟩:=ex (Tn.wtT h x.wr);have hh9:HdP n.bits t9:=by rw [<-ht9];exact wr_hd HV.out.2.1 hEP.2.2.2.1 hbt.1
   obtain ⟨g0,g1,g2,g3,g4,g5,g6,g7,g8,h7⟩:=zbz t9;have HWR:Hid (∀ U,Calls Tryz.prog 102 #[.agg #[.int .i64 a0,.int .u64 a1,.int .u64 a2,.int .u64 a3,.int .u64 a4,.int .u64 a5,.int .u64 a6,.int .u64 a7,.int .u64 a8],.agg #[.int .i64 d0,.int .u64 d1,.int .u64 d2,.int .u64 d3,.int .u64 d4,.int .u64 d5,.int .u64 d6,.int .u64 d7,.int .u64 d8]] U fun e w'=>e=.returned (.agg #[.int .i64 g0,.int .u64 g1,.int .u64 g2,.int .u64 g3,.int .u64 g4,.int .u64 g5,.int .u64 g6,.int .u64 g7,.int .u64 g8])/\Below U.heap.size U w'):=fun U=>by
    have hh:=Tn.write_any h x.wr U;rw [H9.out.agg,h8.agg,ht9,h7.agg] at hh;exact hh
   have HAP:Hid (zce n ((pk:Int),h)=((num:Int),zg7 n x.outs t9)):=by
    show _=_;unfold zce;rw [show zfu n ((pk:Int),h).1 ((pk:Int),h).2=_ from HV.out.2.2.1];simp only [if_true];rw [<-ht9]
   have HX:Hid (x.outs.length=no/\no<=4/\(∀ q∈x.outs,zbt n (zal n (pk:Int)).bx q false)/\HdP n.bits t9):=⟨hno,by rw [<-hno];exact hEP.2.2.2.2.1,hEP.2.2.2.2.2.1,hh9⟩;have H7:Hid (C9 t9 g0 g1 g2 g3 g4 g5 g6 g7 g8):=h7;have hno7:no<=4:=by rw [<-hno];exact hEP.2.2.2.2.1
   have HW4:=zab hW4;have HRB:=zab hrb;clear hli h8 hni hnc hno hEP hbt hW4 b4 hrb s4 c4 c3 c3' ht9 hh9 h7
   go_upto_region 4 with fail
   rw [HW4.out,HRB.out];obtain ⟨⟨v0,v1,v2,v3,v4,v5,v6,v7,v8,v9,v10,v11,v12⟩,-,hb4⟩:=HD.out W4 (Below.refl _ _);obtain ⟨⟨q0,q1,q2⟩,⟨r0,r1,r2,r3,r4,r5,r6,r7,r8,r9⟩⟩:=HC.out W4 hb4;clear hb4
   go_wp2_with fail
   refine (HWR.out W4).mono ?_;rintro e W5 ⟨rfl,c5⟩;clear q0 q1 q2;clear r0 r1 r2 r3 r4 r5 r6 r7 r8 r9;clear v0 v1 v2 v3 v4 v5 v6 v7 v8 v9 v10 v11 v12;obtain ⟨W6,hW6⟩:=ex (W5.alloc (Obj.cells #[.int .i64 g0,.int .u64 g1,.int .u64 g2,.int .u64 g3,.int .u64 g4,.int .u64 g5,.int .u64 g6,.int .u64 g7,.int .u64 g8] 70));have b6:Below W5.heap.size W5 W6:=by rw [<-hW6];exact zah (Below.refl _ _) _
   obtain ⟨rc,hrc⟩:=ex W5.heap.size;have s6:W6.heap[rc]?=some (.cells #[.int .i64 g0,.int .u64 g1,.int .u64 g2,.int .u64 g3,.int .u64 g4,.int .u64 g5,.int .u64 g6,.int .u64 g7,.int .u64 g8] 70 (0,0)):=by rw [<-hW6,<-hrc];exact zaa _ _
   have c6:=zac c5 b6;have HG:Hid (∀ U,Below W6.heap.size W6 U->(U.cell? ⟨rc,0,none⟩=some (.int .i64 g0)/\U.cell? ⟨rc,1,none⟩=some (.int .u64 g1)/\U.cell? ⟨rc,2,none⟩=some (.int .u64 g2)/\U.cell? ⟨rc,3,none⟩=some (.int .u64 g3)/\U.cell? ⟨rc,4,none⟩=some (.int .u64 g4)/\U.cell? ⟨rc,5,none⟩=some (.int .u64 g5)/\U.cell? ⟨rc,6,none⟩=some (.int .u64 g6)/\U.cell? ⟨rc,7,none⟩=some (.int .u64 g7)/\U.cell? ⟨rc,8,none⟩=some (.int .u64 g8))/\Below W4.heap.size W4 U):=fun U hU=>by
    have e1:=(zaf (zae hU s6)).1;exact ⟨⟨by rw [e1];rfl,by rw [e1];rfl,by rw [e1];rfl,by rw [e1];rfl,by rw [e1];rfl,by rw [e1];rfl,by rw [e1];rfl,by rw [e1];rfl,by rw [e1];rfl⟩,zac c6 hU⟩
   have HSZ:Hid (w.heap.size<=W6.heap.size):=(HBW.out W6 (HD.out W6 c6).2.2).size;have HW6:=zab hW6;have HRC:=zab hrc;clear c5 hW6 b6 hrc s6 c6
   go_upto_region 7 with fail
   rw [HW6.out,HRC.out];obtain ⟨-,hg6⟩:=HG.out W6 (Below.refl _ _);obtain ⟨⟨v0,v1,v2,v3,v4,v5,v6,v7,v8,v9,v10,v11,v12⟩,-,hb6⟩:=HD.out W6 hg6;obtain ⟨⟨q0,q1,q2⟩,⟨r0,r1,r2,r3,r4,r5,r6,r7,r8,r9⟩⟩:=HC.out W6 hb6;clear hg6 hb6
   go_wp2_with fail
   clear q0 q1 q2;clear r0 r1 r2 r3 r4 r5 r6 r7 r8 r9;clear v0 v1 v2 v3 v4 v5 v6 v7 v8 v9 v10 v11 v12
   go_loopw [9,35] (fun v9 vk wr=>∃ (k m9:Nat) (q:Option Addr) (c:Nat),v9=.slice q m9 c/\vk=.int .i64 (k:Int)/\k<=no/\Hid (m9<=k/\(zg7 n (x.outs.take k) t9).length=m9/\wr.ownsRow W6.heap.size 75 10 (.slice q m9 c) m9 ((zg7 n (x.outs.take k) t9).flatMap stC)/\Below W6.heap.size W6 wr)) (fun _ vk _=>no - (intOf vk).toNat)
   case atStart=>exact ⟨0,0,none,0,rfl,rfl,Nat.zero_le _,Nat.le_refl _,rfl,World.ownsRow_nil _ _ _ _,Below.refl _ _⟩
   case round=>
    obtain ⟨k,m9,q,c,rfl,rfl,hk,HS⟩:=hrel;obtain ⟨⟨y0,y1,y2,y3,y4,y5,y6,y7,y8⟩,hg⟩:=HG.out wr HS.out.2.2.2;obtain ⟨⟨v0,v1,v2,v3,v4,v5,v6,v7,v8,v9,v10,v11,v12⟩,hli,hb⟩:=HD.out wr hg;obtain ⟨⟨q0,q1,q2⟩,⟨r0,r1,r2,r3,r4,r5,r6,r7,r8,r9⟩⟩:=HC.out wr hb
    by_cases hlt:k < no
    ·obtain ⟨z,hz⟩:∃ z,x.outs[k]?=some z:=⟨_,List.getElem?_eq_getElem (by have:=HX.out.1;omega)⟩
     obtain ⟨go,oo,e9,u0⟩:=hli k z hz;subst e9;obtain ⟨k9,hk9⟩:=ex (k+1);have hz2:=HX.out.2.2.1 z (List.mem_of_getElem? hz);obtain ⟨bl,hbl⟩:=ex (zfm (zcv n z) t9);have HLZ:Hid (Calls Tryz.prog 100 #[.agg #[.slice pp np cp,.slice pt nt ct,.slice pg ng cg],.int .i64 z,.agg #[.int .i64 g0,.int .u64 g1,.int .u64 g2,.int .u64 g3,.int .u64 g4,.int .u64 g5,.int .u64 g6,.int .u64 g7,.int .u64 g8]] wr fun e w'=>e=.returned (.bool bl)/\Below wr.heap.size wr w'):=by
      have h:=HLB.out z t9 wr hb hz2.1 hz2.2.1 HX.out.2.2.2;rw [H7.out.agg,hbl] at h;exact h
     have HZ:=zab hz;have HBL:=zab hbl;have HK9:=zab hk9;have j0:(0:Int)<=(k:Int):=by omega
     have j1:(k:Int) < (no:Int):=by omega
     clear hz hk9 hz2 hbl hli hg hb
     go_wp2_with fail
     refine (HLZ.out).mono ?_;rintro e W7 ⟨rfl,b7⟩;clear q0 q1 q2 u0;clear r0 r1 r2 r3 r4 r5 r6 r7 r8 r9;clear v0 v1 v2 v3 v4 v5 v6 v7 v8 v9 v10 v11 v12;clear y0 y1 y2 y3 y4 y5 y6 y7 y8;have c7:=zac HS.out.2.2.2 b7;cases bl with
     | false=>
      have HS9:Hid (m9<=k9/\(zg7 n (x.outs.take k9) t9).length=m9/\W7.ownsRow W6.heap.size 75 10 (.slice q m9 c) m9 ((zg7 n (x.outs.take k9) t9).flatMap stC)/\Below W6.heap.size W6 W7):=by
       rw [<-HK9.out,zqj HZ.out HBL.out];exact ⟨by have:=HS.out.1;omega,HS.out.2.1,zaq HS.out.2.2.1 b7,c7⟩
      clear HS b7 c7
      go_wp2_with fail
      go_roundw
      case rel=>exact ⟨k9,m9,q,c,rfl,by rw [<-HK9.out];go_num,by have:=HK9.out;omega,HS9⟩
      case measure=>have:=HK9.out;simp [intOf];omega
     | true=>
      obtain ⟨m8,hm8⟩:=ex (m9+1);obtain ⟨q8,c8,W9,hr9,o9,b9,-⟩:=pushS (x:=z) H7.out (zaq HS.out.2.2.1 b7) (Nat.le_trans HS.out.2.2.2.size b7.size) hm8 (by have:=HS.out.1;omega);have HS9:Hid (m8<=k9/\(zg7 n (x.outs.take k9) t9).length=m8/\W9.ownsRow W6.heap.size 75 10 (.slice q8 m8 c8) m8 ((zg7 n (x.outs.take k9) t9).flatMap stC)/\Below W6.heap.size W6 W9):=by
       rw [<-HK9.out,zmh HZ.out HBL.out];exact ⟨by have:=HS.out.1;omega,by rw [List.length_append,HS.out.2.1,<-hm8];rfl,o9,c7.trans b9⟩
      obtain ⟨⟨y0,y1,y2,y3,y4,y5,y6,y7,y8⟩,-⟩:=HG.out W7 c7;clear HS b7 c7 o9 b9 hm8
      go_wp2_with (at_builtin;refine za3 rfl _ _ _ rfl rfl rfl hr9 ?_)
      clear y0 y1 y2 y3 y4 y5 y6 y7 y8;clear hr9
      go_wp2_with fail
      go_roundw
      case rel=>exact ⟨k9,m8,q8,c8,rfl,by rw [<-HK9.out];go_num,by have:=HK9.out;omega,HS9⟩
      case measure=>have:=HK9.out;simp [intOf];omega
    ·obtain rfl:k=no:=by omega
     have j1:¬(k:Int) < (k:Int):=by omega
     have HFIN:Hid (APQ n ((pk:Int),h) w (.returned (.tuple #[.int .i64 (num:Int),.slice q m9 c])) wr):=by
      have h9:=HS.out;rw [List.take_of_length_le (by have:=HX.out.1;omega)] at h9;refine ⟨q,c,?_,?_,HBW.out wr hb⟩
      ·rw [HAP.out]
       simp only;rw [h9.2.1]
      ·rw [HAP.out]
       simp only;rw [h9.2.1];exact zav h9.2.2.1 HSZ.out
     clear hli hg hb
     go_wp2_with fail
     refine bodyPost_ret (results_tmp2 rfl _ _ _) rfl ?_;exact HFIN.out
end Go.Proofs.YtmfakcfmkmppfaaGreatDoor.Nt
