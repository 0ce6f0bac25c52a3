import Derived.Test.YtmfakcfmkmppfaaGreatDoorVBF
namespace Go.Proofs.YtmfakcfmkmppfaaGreatDoor.Nt
open Go.RowKit Go.Shelf
def KX (b:Nat) (W U:World):Prop:=W.grownBy U (some b)
theorem KX.refl (b:Nat) (W:World):KX b W W:=⟨rfl,rfl,rfl,Nat.le_refl _,fun _ _ _=>rfl⟩
theorem KX.below {b:Nat} {W U V:World} (h:KX b W U) (hb:Below W.heap.size U V):KX b W V:=⟨hb.os.trans h.os,hb.tape.trans h.tape,hb.output.trans h.output,Nat.le_trans h.size hb.size,fun k hk hn=>(hb.block k hk).trans (h.block k hk hn)⟩
theorem KX.drew {b:Nat} {W U:World} (h:KX b W U):KX b W U.drew:=⟨h.os,h.tape,h.output,h.size,h.block⟩
theorem KX.trans {b:Nat} {W U V:World} (h:KX b W U) (g:KX b U V):KX b W V:=⟨g.os.trans h.os,g.tape.trans h.tape,g.output.trans h.output,Nat.le_trans h.size g.size,fun k hk hn=>(g.block k (Nat.lt_of_lt_of_le hk h.size) hn).trans (h.block k hk hn)⟩
theorem KX.set {b:Nat} {W U:World} (h:KX b W U) (j:Nat) (v:Value):KX b W (U.setCell ⟨b,j,none⟩ v):=KX.trans h (gr_setZ U b j v)
theorem KX.bel {b:Nat} {w W U:World} (h:KX b W U) (hw:Below w.heap.size w W) (hb:w.heap.size<=b):Below w.heap.size w U:=hw.grown h hw.size (fun k e=>by injection e with e;omega)
theorem KX.get {b:Nat} {W U:World} (h:KX b W U) {c:Nat} {o:Obj} (hc:W.heap[c]?=some o) (hn:c≠b):U.heap[c]?=some o:=(h.block c (zap hc) (fun e=>hn (by injection e))).trans hc
theorem KX.kpi {b:Nat} {W U:World} (h:KX b W U) {cs:Array Value} {m:Nat×Nat} (hb:W.heap[b]?=some (.cells cs 37 m)):∀ (k:Nat) (cs':Array Value) (fr:Nat×Nat),W.heap[k]?=some (.cells cs' 3 fr)->U.heap[k]?=some (.cells cs' 3 fr):=fun k cs' fr h9=>h.get h9 fun e=>by
 rw [e,hb] at h9;injection h9 with h9;injection h9 with _ h9 _;exact absurd h9 (by decide)
theorem own_ge {W:World} {B T s n:Nat} {v:Value} {xs:List Value} (h:W.ownsRow B T s v n xs):∀ b,v.ownBlock=some b->B<=b:=by
 intro b e;rcases h.2 with ⟨rfl,-⟩ | ⟨g,cap,cur,rfl,hg,-⟩
 ·cases e
 ·have e':g=b:=by injection e
  omega
theorem own_set {W:World} {b j B n:Nat} {v:Value} {xs:List Value} {cs:Array Value} {m:Nat×Nat} (u:Value) (h:W.ownsRow B 3 1 v n xs) (hb:W.heap[b]?=some (.cells cs 37 m)):(W.setCell ⟨b,j,none⟩ u).ownsRow B 3 1 v n xs:=
 zfz h fun k cur hh=>(KX.set (KX.refl b W) j u).kpi hb k cur _ hh
theorem zf1 {W0 U:World} {b9 j k k9 c:Nat} {q:Option Addr} {L:List Int} {cs:Array Value} (x:Int) (hc:U.heap[b9]?=some (.cells cs 37 (0,0))) (ho:U.ownsRow W0.heap.size 3 1 (.slice q k c) k (inZ L)) (hx:KX b9 W0 U) (hb:b9 < W0.heap.size) (hn:k+1=k9) (hO:k9*8<=140737488355328) :
  ∃ q9 c9 W9,(Builtin.append_ #[35,35] 35 #[.slice q k c,.slice (some ⟨U.heap.size,0,none⟩) 1 1]).run Tryz.prog (U.alloc (.cells #[.int .i64 x] 3 (0,0)))=.ok (.slice q9 k9 c9) W9/\W9.heap[b9]?=some (.cells cs 37 (0,0))/\KX b9 W0 W9/\(W9.setCell ⟨b9,j,none⟩ (.slice q9 k9 c9)).heap[b9]?=some (.cells (cs.setIfInBounds j (.slice q9 k9 c9)) 37 (0,0))/\KX b9 W0 (W9.setCell ⟨b9,j,none⟩ (.slice q9 k9 c9))/\(W9.setCell ⟨b9,j,none⟩ (.slice q9 k9 c9)).ownsRow W0.heap.size 3 1 (.slice q9 k9 c9) k9 (inZ (L++[x])):=by
 obtain ⟨q9,c9,W9,hr9,o9,d9,kp,-⟩:=zp4 x ho hx.size hn hO;have h9:=kp b9 _ hc (fun e=>by have:=own_ge ho b9 e;omega);have hx9:=hx.below d9;exact ⟨q9,c9,W9,hr9,h9,hx9,zag _ h9,hx9.set _ _,own_set _ o9 h9⟩
theorem zc0 {ops:Array Oper} {rest:List Oper} {o:Oper} {a:Act} {P:Program} {w:World} {Q:Exit->Act->World->Prop} (hgd:o.guard=none) (s x:Operand) (t:TypeId) (ho:o.op=.call { callee:=.builtin .append,args:=#[s,x],argTypes:=#[t,t] }) {v u v':Value} {w':World} (hs:a.eval s=v) (hx:a.eval x=u) (hr:(Builtin.append_ #[t,t] o.type #[v,u]).run P w=.ok v' w') (h:wpList P ops Q rest (a.put o.dst v') w'):wpList P ops Q (o :: rest) a w:=
 wpList_plain hgd fun _ hK=>by
  unfold Oper.wp execOp;simp only [ho,resolve,invoke,builtin,Sem.run_bind,Sem.run_pure,Result.andThen_ok,List.map_toArray,List.map_cons,List.map_nil,hs,hx,hr];exact hK _ _ h
theorem res_dm (tmps:Array Value) (W:World) (b:Nat) (p q:Option Addr) (np cp ne ce:Nat) (t:List UInt8) (h:tmps[8]?.getD undef=.pointer (some ⟨b,0,none⟩)) (hb:W.heap[b]?=some (.cells #[.slice p np cp,.slice q ne ce,.string ⟨t.toArray⟩] 37 (0,0))) :
  (results Tryz.f69 tmps).run Tryz.prog W=.ok (.agg #[.slice p np cp,.slice q ne ce,.string ⟨t.toArray⟩]) W:=by
 have h1:=(zaf hb).1;have c0:=h1 0;have c1:=h1 1;have c2:=h1 2;simp at c0 c1 c2;simp [results,h,c0,c1,c2,go_sem]
set_option maxRecDepth 100000 in
set_option maxHeartbeats 16000000 in
theorem zmk (ps es:List Int) (h0:List UInt8) (pp pe pq:Option Addr) (np cp ne ce nq cq:Nat) (Q:List Int) (e:Int) (hd:List UInt8) (w:World) (hnp:ps.length=np) (hne:es.length=ne) (hnq:Q.length=nq) (hlp:LI w pp ps) (hle:LI w pe es) (hlq:LI w pq Q) (hN:np<=1000/\ne<=1000/\nq<=1000) :
  Calls Tryz.prog 69 #[.agg #[.slice pp np cp,.slice pe ne ce,.string ⟨h0.toArray⟩],.slice pq nq cq,.int .i64 e,.string ⟨hd.toArray⟩] w (PAQ ⟨ps++Q,es++(if 0<=e then [e] else []),hd⟩ w):=by
 obtain ⟨hN1,hN2,hN3⟩:=hN;obtain ⟨EE,hEE⟩:=ex (es++(if 0<=e then [e] else []))
 rw [hEE];have HEE:=zab hEE;clear hEE;obtain ⟨b,hb⟩:=ex w.heap.size;obtain ⟨b2,hb2⟩:=ex (w.heap.size+1);obtain ⟨W1,hW1⟩:=ex (((w.alloc (.cells #[.slice pp np cp,.slice pe ne ce,.string ⟨h0.toArray⟩] 37)).alloc (.cells #[.slice none 0 0,.slice none 0 0,.string ⟨#[]⟩] 37)));obtain ⟨b9,hb9⟩:=ex W1.heap.size;obtain ⟨W2,hW2⟩:=ex (W1.alloc (.cells #[.slice none 0 0,.slice none 0 0,.string ⟨hd.toArray⟩] 37));have hz1:(w.alloc (.cells #[.slice pp np cp,.slice pe ne ce,.string ⟨h0.toArray⟩] 37)).heap.size=w.heap.size+1:=Array.size_push _;have b1:Below w.heap.size w W1:=by rw [<-hW1];exact zah (zah (Below.refl _ _) _) _
 have bW2:Below w.heap.size w W2:=by rw [<-hW2];exact zah b1 _
 have c2:Below W1.heap.size W1 W2:=by rw [<-hW2];exact zah (Below.refl _ _) _
 have k1:W1.heap[b]?=some (.cells #[.slice pp np cp,.slice pe ne ce,.string ⟨h0.toArray⟩] 37 (0,0)):=by rw [<-hW1,<-hb];exact zae (zah (Below.refl _ _) _) (zaa _ _)
 have k2:W1.heap[b2]?=some (.cells #[.slice none 0 0,.slice none 0 0,.string ⟨#[]⟩] 37 (0,0)):=by rw [<-hW1,<-hb2,<-hz1];exact zaa _ _
 have k9:W2.heap[b9]?=some (.cells #[.slice none 0 0,.slice none 0 0,.string ⟨hd.toArray⟩] 37 (0,0)):=by rw [<-hW2,<-hb9];exact zaa _ _
 have l2:=zap k2;have l9:=zap k9;have HS:Hid (∀ U,KX b9 W2 U->(U.cell? ⟨b,0,none⟩=some (.slice pp np cp)/\U.cell? ⟨b,1,none⟩=some (.slice pe ne ce))/\U.heap[b2]?=some (.cells #[.slice none 0 0,.slice none 0 0,.string ⟨#[]⟩] 37 (0,0))/\Below w.heap.size w U):=fun U hU=>by
  have e1:=(zaf (hU.get (zae c2 k1) (by omega))).1;exact ⟨⟨by rw [e1];rfl,by rw [e1];rfl⟩,hU.get (zae c2 k2) (by omega),hU.bel bW2 (by omega)⟩
 have HN:Hid (ps.length=np/\es.length=ne/\Q.length=nq/\LI w pp ps/\LI w pe es/\LI w pq Q):=⟨hnp,hne,hnq,hlp,hle,hlq⟩;have H9:Hid (W2.heap[b9]?=some (.cells #[.slice none 0 0,.slice none 0 0,.string ⟨hd.toArray⟩] 37 (0,0))/\b9 < W2.heap.size/\w.heap.size<=b2/\b2 < b9):=⟨k9,l9,by omega,by omega⟩;have HB:=zab hb;have HB2:=zab hb2;have HB9:=zab hb9;have HW1:=zab hW1;have HW2:=zab hW2;clear hnp hne hnq hlp hle hlq hb hb2 hW1 hb9 hW2 hz1 b1 bW2 c2 k1 k2 k9 l2 l9
 go_enter Tryz.func69,Tryz.ntmps69
 go_upto_region 1 with fail
 rw [HW1.out,HB2.out,HB.out]
 go_upto_region 2 with fail
 simp only [HB9.out,HW2.out]
 go_wp2_with fail
 go_loopw [10] (fun vk wr=>∃ (k m:Nat) (q:Option Addr) (c:Nat),vk=.int .i64 (k:Int)/\k<=np/\Hid (m=k/\wr.heap[b9]?=some (.cells #[.slice q m c,.slice none 0 0,.string ⟨hd.toArray⟩] 37 (0,0))/\wr.ownsRow W2.heap.size 3 1 (.slice q m c) m (inZ (ps.take k))/\KX b9 W2 wr)) (fun vk _=>np - (intOf vk).toNat)
 case atStart=>exact ⟨0,0,none,0,rfl,Nat.zero_le _,rfl,H9.out.1,World.ownsRow_nil _ _ _ _,KX.refl _ _⟩
 case round=>
  obtain ⟨k,m,q,c,rfl,hk,HR⟩:=hrel;have hkx:KX b9 W2 wr:=HR.out.2.2.2;obtain ⟨⟨q0,q1⟩,-,-⟩:=HS.out wr hkx
  by_cases hlt:k < np
  ·obtain ⟨x,hx⟩:∃ x,ps[k]?=some x:=⟨_,List.getElem?_eq_getElem (by have:=HN.out.1;omega)⟩
   obtain ⟨gp,op,rfl,a0⟩:=HN.out.2.2.2.1 k x hx;obtain ⟨m9,hm9⟩:=ex (m+1);obtain ⟨q9,c9,W9,hr9,h99,hx9,h910,hx10,ho10⟩:=zf1 (j:=0) (U:=wr.drew) x HR.out.2.1 HR.out.2.2.1 HR.out.2.2.2.drew (by have:=H9.out.2.1;omega) hm9 (by have:=HR.out.1;omega);obtain ⟨W7,hW7⟩:=ex (wr.drew.alloc (.cells #[.int .i64 x] 3 (0,0)));have b7:Below wr.drew.heap.size wr.drew W7:=by rw [<-hW7];exact zah (Below.refl _ _) _
   rw [hW7] at hr9;have HW7:Hid ((wr.alloc (.cells #[.int .i64 x] 3 (0,0))).drew=W7):=hW7;have c50:wr.drew.cell? ⟨b9,0,none⟩=some (.slice q m c):=by rw [(zaf (W:=wr.drew) HR.out.2.1).1];rfl
   have c57:W7.cell? ⟨b9,0,none⟩=some (.slice q m c):=zao b7 c50;have d5:=zaf h99;have d59:W9.cell? ⟨b9,0,none⟩=some (.slice q m c):=by rw [d5.1];rfl
   have f59:=d5.2 0;obtain ⟨W10,hW10⟩:=ex (W9.setCell ⟨b9,0,none⟩ (.slice q9 m9 c9));rw [hW10] at h910 hx10 ho10;have hS:∀ U,KX b9 W2 U->U.cell? ⟨b,0,none⟩=some (.slice (some ⟨gp,op,none⟩) np cp)/\U.cell? ⟨gp,op+k,none⟩=some (.int .i64 x):=fun U hU=>⟨(HS.out U hU).1.1,zao (HS.out U hU).2.2 a0⟩;have hs0:=hS wr.drew HR.out.2.2.2.drew;have hs7:=hS W7 (HR.out.2.2.2.drew.below (b7.mono HR.out.2.2.2.size));have hs9:=hS W9 hx9;have hs10:=hS W10 hx10;have HRR:Hid (m9=(k+1)/\W10.heap[b9]?=some (.cells #[.slice q9 m9 c9,.slice none 0 0,.string ⟨hd.toArray⟩] 37 (0,0))/\W10.ownsRow W2.heap.size 3 1 (.slice q9 m9 c9) m9 (inZ (ps.take (k+1)))/\KX b9 W2 W10):=by
    refine ⟨by have:=HR.out.1;omega,h910,?_,hx10⟩;have e9:ps.take (k+1)=(ps.take k)++[x]:=by rw [List.take_add_one,hx];simp
    rw [e9];exact ho10
   have j0:(0:Int)<=(k:Int):=by omega
   have j1:(k:Int) < (np:Int):=by omega
   have HW10:=zab hW10;clear hx hm9 h99 hx9 h910 hx10 ho10 hW7 b7 d5 hW10 hS a0 hkx
   go_upto_region 5 with fail
   clear q0 q1;refine wp_region_held_drew (S:=fun U=>U.cell? ⟨b,0,none⟩=some (.slice (some ⟨gp,op,none⟩) np cp)/\U.cell? ⟨gp,op+k,none⟩=some (.int .i64 x)) (by kernel_rfl) hs0 (fun _=>?_);refine tk 0 (.pointer (some ⟨b9,0,none⟩)) rfl hs0 ?_ ?_
   ·rintro w ⟨r0,r1⟩;go_simp
   refine tk 2 (.pointer (some ⟨b,0,none⟩)) rfl hs0 ?_ ?_
   ·rintro w ⟨r0,r1⟩;go_simp
   refine tk 3 (.slice (some ⟨gp,op,none⟩) np cp) rfl hs0 ?_ ?_
   ·rintro w ⟨r0,r1⟩;go_simp
   refine tk 4 (.int .i64 (k:Int)) rfl hs0 ?_ ?_
   ·rintro w ⟨r0,r1⟩;go_simp
   refine tk 5 (.pointer (some ⟨gp,op+k,none⟩)) rfl hs0 ?_ ?_
   ·rintro w ⟨r0,r1⟩;go_simp
   refine tk 6 (.int .i64 x) rfl hs0 ?_ ?_
   ·rintro w ⟨r0,r1⟩;go_simp
   refine wpAnyH_ready (rs:=[1,7]) (by kernel_rfl) (by simp) ?_;refine AllReadyH.cons rfl (fun KK hKK=>?_) (AllReadyH.cons rfl (fun KK hKK=>?_) AllReadyH.nil)
   ·go_simp
    refine hKK.out _ _ hs0 (fun _=>?_);clear hKK KK;refine rd 7 rfl fun KK hKK=>?_
    go_simp
    rw [HW7.out];refine hKK.out _ _ hs7 (fun _=>?_);clear hKK KK;refine rd 8 rfl fun KK hKK=>?_;refine zd6 (by rfl) _ _ _ (by rfl) (by rfl) (by rfl) hr9 ?_;refine hKK.out _ _ hs9 (fun _=>?_);clear hKK KK;refine tk 9 (.pointer (some ⟨b9,0,none⟩)) rfl hs9 ?_ ?_
    ·rintro w ⟨r0,r1⟩;go_simp
    refine rd 10 rfl fun KK hKK=>?_
    go_simp
    try rw [HW10.out]
    refine hKK.out _ _ hs10 (fun _=>?_);clear hKK KK;refine wpAnyH_done (by kernel_rfl) ?_ _
    try simp only [List.getElem_toArray,List.getElem_cons_succ,List.getElem_cons_zero,Act.put,List.setIfInBounds_toArray,List.set_cons_zero,List.set_cons_succ]
    clear hs0 hs7 hs9 hs10 hr9 c50 c57 d59 f59
    go_wp2_with fail
    go_roundw
    case rel=>exact ⟨k+1,m9,q9,c9,by go_num,by omega,HRR.out⟩
    case measure=>simp [intOf];omega
   ·go_simp
    rw [HW7.out];refine hKK.out _ _ hs7 (fun _=>?_);clear hKK KK;refine rd 1 rfl fun KK hKK=>?_
    go_simp
    refine hKK.out _ _ hs7 (fun _=>?_);clear hKK KK;refine rd 8 rfl fun KK hKK=>?_;refine zd6 (by rfl) _ _ _ (by rfl) (by rfl) (by rfl) hr9 ?_;refine hKK.out _ _ hs9 (fun _=>?_);clear hKK KK;refine tk 9 (.pointer (some ⟨b9,0,none⟩)) rfl hs9 ?_ ?_
    ·rintro w ⟨r0,r1⟩;go_simp
    refine rd 10 rfl fun KK hKK=>?_
    go_simp
    try rw [HW10.out]
    refine hKK.out _ _ hs10 (fun _=>?_);clear hKK KK;refine wpAnyH_done (by kernel_rfl) ?_ _
    try simp only [List.getElem_toArray,List.getElem_cons_succ,List.getElem_cons_zero,Act.put,List.setIfInBounds_toArray,List.set_cons_zero,List.set_cons_succ]
    clear hs0 hs7 hs9 hs10 hr9 c50 c57 d59 f59
    go_wp2_with fail
    go_roundw
    case rel=>exact ⟨k+1,m9,q9,c9,by go_num,by omega,HRR.out⟩
    case measure=>simp [intOf];omega
  ·obtain rfl:k=np:=by omega
   have e9:ps.take k=ps:=List.take_of_length_le (by rw [HN.out.1];exact Nat.le_refl _);have HR2:Hid (m=k/\wr.heap[b9]?=some (.cells #[.slice q m c,.slice none 0 0,.string ⟨hd.toArray⟩] 37 (0,0))/\wr.ownsRow W2.heap.size 3 1 (.slice q m c) m (inZ ps)/\KX b9 W2 wr):=by
    have h9:=HR.out;rw [e9] at h9;exact h9
   have j1:¬(k:Int) < (k:Int):=by omega
   obtain ⟨w5,rfl⟩:∃ w5,w5=wr:=⟨wr,rfl⟩;clear e9 HR hkx
   go_wp2_with fail
   go_loopw [11] (fun vk wr=>∃ (k2 m:Nat) (q:Option Addr) (c:Nat),vk=.int .i64 (k2:Int)/\k2<=nq/\Hid (m=k+k2/\wr.heap[b9]?=some (.cells #[.slice q m c,.slice none 0 0,.string ⟨hd.toArray⟩] 37 (0,0))/\wr.ownsRow W2.heap.size 3 1 (.slice q m c) m (inZ (ps++Q.take k2))/\KX b9 W2 wr)) (fun vk _=>nq - (intOf vk).toNat)
   case atStart=>exact ⟨0,_,_,_,rfl,Nat.zero_le _,HR2.out.1,HR2.out.2.1,by simpa using HR2.out.2.2.1,HR2.out.2.2.2⟩
   case round=>
    obtain ⟨k2,m,q,c,rfl,hk,HR⟩:=hrel;have hkx:KX b9 W2 wr:=HR.out.2.2.2;have hkx9:=hkx
    by_cases hlt:k2 < nq
    ·obtain ⟨x,hx⟩:∃ x,Q[k2]?=some x:=⟨_,List.getElem?_eq_getElem (by have:=HN.out.2.2.1;omega)⟩
     obtain ⟨gp,op,rfl,a0⟩:=HN.out.2.2.2.2.2 k2 x hx;obtain ⟨m9,hm9⟩:=ex (m+1);obtain ⟨q9,c9,W9,hr9,h99,hx9,h910,hx10,ho10⟩:=zf1 (j:=0) (U:=wr.drew) x HR.out.2.1 HR.out.2.2.1 HR.out.2.2.2.drew (by have:=H9.out.2.1;omega) hm9 (by have:=HR.out.1;omega);obtain ⟨W7,hW7⟩:=ex (wr.drew.alloc (.cells #[.int .i64 x] 3 (0,0)));have b7:Below wr.drew.heap.size wr.drew W7:=by rw [<-hW7];exact zah (Below.refl _ _) _
     rw [hW7] at hr9;have HW7:Hid ((wr.alloc (.cells #[.int .i64 x] 3 (0,0))).drew=W7):=hW7;have c50:wr.drew.cell? ⟨b9,0,none⟩=some (.slice q m c):=by rw [(zaf (W:=wr.drew) HR.out.2.1).1];rfl
     have c57:W7.cell? ⟨b9,0,none⟩=some (.slice q m c):=zao b7 c50;have d5:=zaf h99;have d59:W9.cell? ⟨b9,0,none⟩=some (.slice q m c):=by rw [d5.1];rfl
     have f59:=d5.2 0;obtain ⟨W10,hW10⟩:=ex (W9.setCell ⟨b9,0,none⟩ (.slice q9 m9 c9));rw [hW10] at h910 hx10 ho10;have hS:∀ U,KX b9 W2 U->U.cell? ⟨gp,op+k2,none⟩=some (.int .i64 x):=fun U hU=>zao (HS.out U hU).2.2 a0;have hs0:=hS wr.drew HR.out.2.2.2.drew;have hs7:=hS W7 (HR.out.2.2.2.drew.below (b7.mono HR.out.2.2.2.size));have hs9:=hS W9 hx9;have hs10:=hS W10 hx10;have HRR:Hid (m9=k+(k2+1)/\W10.heap[b9]?=some (.cells #[.slice q9 m9 c9,.slice none 0 0,.string ⟨hd.toArray⟩] 37 (0,0))/\W10.ownsRow W2.heap.size 3 1 (.slice q9 m9 c9) m9 (inZ (ps++Q.take (k2+1)))/\KX b9 W2 W10):=by
      refine ⟨by have:=HR.out.1;omega,h910,?_,hx10⟩;have e9:ps++Q.take (k2+1)=(ps++Q.take k2)++[x]:=by rw [List.take_add_one,hx];simp
      rw [e9];exact ho10
     have j0:(0:Int)<=(k2:Int):=by omega
     have j1:(k2:Int) < (nq:Int):=by omega
     have HW10:=zab hW10;clear hx hm9 h99 hx9 h910 hx10 ho10 hW7 b7 d5 hW10 hS a0 hkx hkx9
     go_upto_region 9 with fail
     refine wp_region_held_drew (S:=fun U=>U.cell? ⟨gp,op+k2,none⟩=some (.int .i64 x)) (by kernel_rfl) hs0 (fun _=>?_);refine tk 0 (.pointer (some ⟨b9,0,none⟩)) rfl hs0 ?_ ?_
     ·rintro w r0;go_simp
     refine tk 2 (.slice (some ⟨gp,op,none⟩) nq cq) rfl hs0 ?_ ?_
     ·rintro w r0;go_simp
     refine tk 3 (.int .i64 (k2:Int)) rfl hs0 ?_ ?_
     ·rintro w r0;go_simp
     refine tk 4 (.pointer (some ⟨gp,op+k2,none⟩)) rfl hs0 ?_ ?_
     ·rintro w r0;go_simp
     refine tk 5 (.int .i64 x) rfl hs0 ?_ ?_
     ·rintro w r0;go_simp
     refine wpAnyH_ready (rs:=[1,6]) (by kernel_rfl) (by simp) ?_;refine AllReadyH.cons rfl (fun KK hKK=>?_) (AllReadyH.cons rfl (fun KK hKK=>?_) AllReadyH.nil)
     ·go_simp
      refine hKK.out _ _ hs0 (fun _=>?_);clear hKK KK;refine rd 6 rfl fun KK hKK=>?_
      go_simp
      rw [HW7.out];refine hKK.out _ _ hs7 (fun _=>?_);clear hKK KK;refine rd 7 rfl fun KK hKK=>?_;refine zd6 (by rfl) _ _ _ (by rfl) (by rfl) (by rfl) hr9 ?_;refine hKK.out _ _ hs9 (fun _=>?_);clear hKK KK;refine tk 8 (.pointer (some ⟨b9,0,none⟩)) rfl hs9 ?_ ?_
      ·rintro w r0;go_simp
      refine rd 9 rfl fun KK hKK=>?_
      go_simp
      try rw [HW10.out]
      refine hKK.out _ _ hs10 (fun _=>?_);clear hKK KK;refine wpAnyH_done (by kernel_rfl) ?_ _
      try simp only [List.getElem_toArray,List.getElem_cons_succ,List.getElem_cons_zero,Act.put,List.setIfInBounds_toArray,List.set_cons_zero,List.set_cons_succ]
      clear hs0 hs7 hs9 hs10 hr9 c50 c57 d59 f59
      go_wp2_with fail
      go_roundw
      case rel=>exact ⟨k2+1,m9,q9,c9,by go_num,by omega,HRR.out⟩
      case measure=>simp [intOf];omega
     ·go_simp
      rw [HW7.out];refine hKK.out _ _ hs7 (fun _=>?_);clear hKK KK;refine rd 1 rfl fun KK hKK=>?_
      go_simp
      refine hKK.out _ _ hs7 (fun _=>?_);clear hKK KK;refine rd 7 rfl fun KK hKK=>?_;refine zd6 (by rfl) _ _ _ (by rfl) (by rfl) (by rfl) hr9 ?_;refine hKK.out _ _ hs9 (fun _=>?_);clear hKK KK;refine tk 8 (.pointer (some ⟨b9,0,none⟩)) rfl hs9 ?_ ?_
      ·rintro w r0;go_simp
      refine rd 9 rfl fun KK hKK=>?_
      go_simp
      try rw [HW10.out]
      refine hKK.out _ _ hs10 (fun _=>?_);clear hKK KK;refine wpAnyH_done (by kernel_rfl) ?_ _
      try simp only [List.getElem_toArray,List.getElem_cons_succ,List.getElem_cons_zero,Act.put,List.setIfInBounds_toArray,List.set_cons_zero,List.set_cons_succ]
      clear hs0 hs7 hs9 hs10 hr9 c50 c57 d59 f59
      go_wp2_with fail
      go_roundw
      case rel=>exact ⟨k2+1,m9,q9,c9,by go_num,by omega,HRR.out⟩
      case measure=>simp [intOf];omega
    ·obtain rfl:k2=nq:=by omega
     have e9:Q.take k2=Q:=List.take_of_length_le (by rw [HN.out.2.2.1];exact Nat.le_refl _);have HR5:Hid (m=(ps++Q).length/\wr.heap[b9]?=some (.cells #[.slice q m c,.slice none 0 0,.string ⟨hd.toArray⟩] 37 (0,0))/\wr.ownsRow W2.heap.size 3 1 (.slice q m c) m (inZ (ps++Q))/\KX b9 W2 wr):=by
      have h9:=HR.out;rw [e9] at h9;refine ⟨?_,h9.2⟩;rw [List.length_append,HN.out.1,HN.out.2.2.1];exact h9.1
     have j2:¬(k2:Int) < (k2:Int):=by omega
     obtain ⟨w6,rfl⟩:∃ w6,w6=wr:=⟨wr,rfl⟩;obtain ⟨pz,rfl⟩:∃ x,x=q:=⟨q,rfl⟩;obtain ⟨mz,rfl⟩:∃ x,x=m:=⟨m,rfl⟩;obtain ⟨cz,rfl⟩:∃ x,x=c:=⟨c,rfl⟩;have HX5:Hid (KX b9 W2 w6):=HR5.out.2.2.2;have HIP:Hid (IL w6 pz mz cz (ps++Q)/\mz<=cz):=⟨zcb HR5.out.2.2.1 HR5.out.1.symm,zbh HR5.out.2.2.1⟩;clear e9 HR hkx hkx9
     go_wp2_with fail
     go_loopw [12] (fun vk wr=>∃ (k3 m:Nat) (q:Option Addr) (c:Nat),vk=.int .i64 (k3:Int)/\k3<=ne/\Hid (m=k3/\wr.heap[b9]?=some (.cells #[.slice pz mz cz,.slice q m c,.string ⟨hd.toArray⟩] 37 (0,0))/\wr.ownsRow w6.heap.size 3 1 (.slice q m c) m (inZ (es.take k3))/\KX b9 w6 wr)) (fun vk _=>ne - (intOf vk).toNat)
     case atStart=>exact ⟨0,0,none,0,rfl,Nat.zero_le _,rfl,HR5.out.2.1,World.ownsRow_nil _ _ _ _,KX.refl _ _⟩
     case round=>
      obtain ⟨k3,m,q,c,rfl,hk,HR⟩:=hrel;have hkx:KX b9 W2 wr:=KX.trans HX5.out HR.out.2.2.2;obtain ⟨⟨q0,q1⟩,-,-⟩:=HS.out wr hkx
      by_cases hlt:k3 < ne
      ·obtain ⟨x,hx⟩:∃ x,es[k3]?=some x:=⟨_,List.getElem?_eq_getElem (by have:=HN.out.2.1;omega)⟩
       obtain ⟨gp,op,rfl,a0⟩:=HN.out.2.2.2.2.1 k3 x hx;obtain ⟨m9,hm9⟩:=ex (m+1);obtain ⟨q9,c9,W9,hr9,h99,hx9,h910,hx10,ho10⟩:=zf1 (j:=1) (U:=wr.drew) x HR.out.2.1 HR.out.2.2.1 HR.out.2.2.2.drew (by have:=H9.out.2.1;have:=HX5.out.size;omega) hm9 (by have:=HR.out.1;omega);obtain ⟨W7,hW7⟩:=ex (wr.drew.alloc (.cells #[.int .i64 x] 3 (0,0)));have b7:Below wr.drew.heap.size wr.drew W7:=by rw [<-hW7];exact zah (Below.refl _ _) _
       rw [hW7] at hr9;have HW7:Hid ((wr.alloc (.cells #[.int .i64 x] 3 (0,0))).drew=W7):=hW7;have c50:wr.drew.cell? ⟨b9,1,none⟩=some (.slice q m c):=by rw [(zaf (W:=wr.drew) HR.out.2.1).1];rfl
       have c57:W7.cell? ⟨b9,1,none⟩=some (.slice q m c):=zao b7 c50;have d5:=zaf h99;have d59:W9.cell? ⟨b9,1,none⟩=some (.slice q m c):=by rw [d5.1];rfl
       have f59:=d5.2 1;obtain ⟨W10,hW10⟩:=ex (W9.setCell ⟨b9,1,none⟩ (.slice q9 m9 c9));rw [hW10] at h910 hx10 ho10;have hS:∀ U,KX b9 w6 U->U.cell? ⟨b,1,none⟩=some (.slice (some ⟨gp,op,none⟩) ne ce)/\U.cell? ⟨gp,op+k3,none⟩=some (.int .i64 x):=fun U hU=>⟨(HS.out U (KX.trans HX5.out hU)).1.2,zao (HS.out U (KX.trans HX5.out hU)).2.2 a0⟩;have hs0:=hS wr.drew HR.out.2.2.2.drew;have hs7:=hS W7 (HR.out.2.2.2.drew.below (b7.mono HR.out.2.2.2.size));have hs9:=hS W9 hx9;have hs10:=hS W10 hx10;have HRR:Hid (m9=(k3+1)/\W10.heap[b9]?=some (.cells #[.slice pz mz cz,.slice q9 m9 c9,.string ⟨hd.toArray⟩] 37 (0,0))/\W10.ownsRow w6.heap.size 3 1 (.slice q9 m9 c9) m9 (inZ (es.take (k3+1)))/\KX b9 w6 W10):=by
        refine ⟨by have:=HR.out.1;omega,h910,?_,hx10⟩;have e9:es.take (k3+1)=(es.take k3)++[x]:=by rw [List.take_add_one,hx];simp
        rw [e9];exact ho10
       have j0:(0:Int)<=(k3:Int):=by omega
       have j1:(k3:Int) < (ne:Int):=by omega
       have HW10:=zab hW10;clear hx hm9 h99 hx9 h910 hx10 ho10 hW7 b7 d5 hW10 hS a0 hkx
       go_upto_region 13 with fail
       clear q0 q1;refine wp_region_held_drew (S:=fun U=>U.cell? ⟨b,1,none⟩=some (.slice (some ⟨gp,op,none⟩) ne ce)/\U.cell? ⟨gp,op+k3,none⟩=some (.int .i64 x)) (by kernel_rfl) hs0 (fun _=>?_);refine tk 0 (.pointer (some ⟨b9,1,none⟩)) rfl hs0 ?_ ?_
       ·rintro w ⟨r0,r1⟩;go_simp
       refine tk 2 (.pointer (some ⟨b,1,none⟩)) rfl hs0 ?_ ?_
       ·rintro w ⟨r0,r1⟩;go_simp
       refine tk 3 (.slice (some ⟨gp,op,none⟩) ne ce) rfl hs0 ?_ ?_
       ·rintro w ⟨r0,r1⟩;go_simp
       refine tk 4 (.int .i64 (k3:Int)) rfl hs0 ?_ ?_
       ·rintro w ⟨r0,r1⟩;go_simp
       refine tk 5 (.pointer (some ⟨gp,op+k3,none⟩)) rfl hs0 ?_ ?_
       ·rintro w ⟨r0,r1⟩;go_simp
       refine tk 6 (.int .i64 x) rfl hs0 ?_ ?_
       ·rintro w ⟨r0,r1⟩;go_simp
       refine wpAnyH_ready (rs:=[1,7]) (by kernel_rfl) (by simp) ?_;refine AllReadyH.cons rfl (fun KK hKK=>?_) (AllReadyH.cons rfl (fun KK hKK=>?_) AllReadyH.nil)
       ·go_simp
        refine hKK.out _ _ hs0 (fun _=>?_);clear hKK KK;refine rd 7 rfl fun KK hKK=>?_
        go_simp
        rw [HW7.out];refine hKK.out _ _ hs7 (fun _=>?_);clear hKK KK;refine rd 8 rfl fun KK hKK=>?_;refine zd6 (by rfl) _ _ _ (by rfl) (by rfl) (by rfl) hr9 ?_;refine hKK.out _ _ hs9 (fun _=>?_);clear hKK KK;refine tk 9 (.pointer (some ⟨b9,1,none⟩)) rfl hs9 ?_ ?_
        ·rintro w ⟨r0,r1⟩;go_simp
        refine rd 10 rfl fun KK hKK=>?_
        go_simp
        try rw [HW10.out]
        refine hKK.out _ _ hs10 (fun _=>?_);clear hKK KK;refine wpAnyH_done (by kernel_rfl) ?_ _
        try simp only [List.getElem_toArray,List.getElem_cons_succ,List.getElem_cons_zero,Act.put,List.setIfInBounds_toArray,List.set_cons_zero,List.set_cons_succ]
        clear hs0 hs7 hs9 hs10 hr9 c50 c57 d59 f59
        go_wp2_with fail
        go_roundw
        case rel=>exact ⟨k3+1,m9,q9,c9,by go_num,by omega,HRR.out⟩
        case measure=>simp [intOf];omega
       ·go_simp
        rw [HW7.out];refine hKK.out _ _ hs7 (fun _=>?_);clear hKK KK;refine rd 1 rfl fun KK hKK=>?_
        go_simp
        refine hKK.out _ _ hs7 (fun _=>?_);clear hKK KK;refine rd 8 rfl fun KK hKK=>?_;refine zd6 (by rfl) _ _ _ (by rfl) (by rfl) (by rfl) hr9 ?_;refine hKK.out _ _ hs9 (fun _=>?_);clear hKK KK;refine tk 9 (.pointer (some ⟨b9,1,none⟩)) rfl hs9 ?_ ?_
        ·rintro w ⟨r0,r1⟩;go_simp
        refine rd 10 rfl fun KK hKK=>?_
        go_simp
        try rw [HW10.out]
        refine hKK.out _ _ hs10 (fun _=>?_);clear hKK KK;refine wpAnyH_done (by kernel_rfl) ?_ _
        try simp only [List.getElem_toArray,List.getElem_cons_succ,List.getElem_cons_zero,Act.put,List.setIfInBounds_toArray,List.set_cons_zero,List.set_cons_succ]
        clear hs0 hs7 hs9 hs10 hr9 c50 c57 d59 f59
        go_wp2_with fail
        go_roundw
        case rel=>exact ⟨k3+1,m9,q9,c9,by go_num,by omega,HRR.out⟩
        case measure=>simp [intOf];omega
      ·obtain rfl:k3=ne:=by omega
       have e9:es.take k3=es:=List.take_of_length_le (by rw [HN.out.2.1];exact Nat.le_refl _);have hle9:es.length=m:=by have h9:=HR.out.1;rw [HN.out.2.1];omega
       have ho:wr.ownsRow w6.heap.size 3 1 (.slice q m c) m (inZ es):=by have h9:=HR.out.2.2.1;rwa [e9] at h9
       have j3:¬(k3:Int) < (k3:Int):=by omega
       clear e9
       by_cases he:0<=e
       ·have hEe:es++[e]=EE:=by rw [<-HEE.out,if_pos he]
        obtain ⟨m9,hm9⟩:=ex (m+1);have hEl:EE.length=m9:=by rw [<-hEe];simp;omega
        obtain ⟨q9,c9,W9,hr9,h99,hx9,h910,hx10,ho10⟩:=zf1 (j:=1) (U:=wr) e HR.out.2.1 ho HR.out.2.2.2 (by have:=H9.out.2.1;have:=HX5.out.size;omega) hm9 (by have:=HR.out.1;omega);have hle9:(es++[e]).length=m9:=by rw [hEe];exact hEl
        have d0:wr.cell? ⟨b9,1,none⟩=some (.slice q m c):=by rw [(zaf HR.out.2.1).1];rfl
        have d5:=zaf h99;have y0:W9.cell? ⟨b9,0,none⟩=some (.slice pz mz cz):=by rw [d5.1];rfl
        have y1:W9.cell? ⟨b9,1,none⟩=some (.slice q m c):=by rw [d5.1];rfl
        have y2:W9.cell? ⟨b9,2,none⟩=some (.string ⟨hd.toArray⟩):=by rw [d5.1];rfl
        have g1:=d5.2 1;have nb:b9≠b2:=by have:=H9.out.2.2.2;omega
        have z3:=zaf ((HS.out W9 (KX.trans HX5.out hx9)).2.1);have z0:W9.cell? ⟨b2,0,none⟩=some (.slice none 0 0):=by rw [z3.1];rfl
        have f0:=z3.2 0;have z1:W9.cell? ⟨b2,1,none⟩=some (.slice none 0 0):=by rw [z3.1];rfl
        have f1:=z3.2 1;have z2:W9.cell? ⟨b2,2,none⟩=some (.string ⟨#[]⟩):=by rw [z3.1];rfl
        have f2:=z3.2 2;have hk3:(W9.setCell ⟨b9,1,none⟩ (.slice q9 m9 c9)).heap[b2]?=some (.cells #[.slice none 0 0,.slice none 0 0,.string ⟨#[]⟩] 37 (0,0)):=(HS.out _ (KX.trans HX5.out hx10)).2.1;have hbw:Below w.heap.size w (W9.setCell ⟨b9,1,none⟩ (.slice q9 m9 c9)):=(HS.out _ (KX.trans HX5.out hx10)).2.2;have hip:IL (W9.setCell ⟨b9,1,none⟩ (.slice q9 m9 c9)) pz mz cz (ps++Q):=HIP.out.1.kp (hx10.kpi HR5.out.2.1);have hie:IL (W9.setCell ⟨b9,1,none⟩ (.slice q9 m9 c9)) q9 m9 c9 (es++[e]):=zcb ho10 hle9;have hcap:m9<=c9:=zbh ho10;have HRES:Hid (((((W9.setCell ⟨b9,1,none⟩ (.slice q9 m9 c9)).setCell ⟨b2,0,none⟩ (.slice pz mz cz)).setCell ⟨b2,1,none⟩ (.slice q9 m9 c9)).setCell ⟨b2,2,none⟩ (.string ⟨hd.toArray⟩)).heap[b2]?=some (.cells #[.slice pz mz cz,.slice q9 m9 c9,.string ⟨hd.toArray⟩] 37 (0,0))):=put3 _ _ _ hk3;have HFIN:Hid (∃ v:PV,Ending.returned (.agg #[.slice pz mz cz,.slice q9 m9 c9,.string ⟨hd.toArray⟩])=.returned (.agg (paC (⟨ps++Q,EE,hd⟩,v)).toArray)/\PL ((((W9.setCell ⟨b9,1,none⟩ (.slice q9 m9 c9)).setCell ⟨b2,0,none⟩ (.slice pz mz cz)).setCell ⟨b2,1,none⟩ (.slice q9 m9 c9)).setCell ⟨b2,2,none⟩ (.string ⟨hd.toArray⟩)) (⟨ps++Q,EE,hd⟩,v)/\Below w.heap.size w ((((W9.setCell ⟨b9,1,none⟩ (.slice q9 m9 c9)).setCell ⟨b2,0,none⟩ (.slice pz mz cz)).setCell ⟨b2,1,none⟩ (.slice q9 m9 c9)).setCell ⟨b2,2,none⟩ (.string ⟨hd.toArray⟩))):=by
         have e1:(paC ((⟨ps++Q,EE,hd⟩:WY),(⟨pz,cz,q9,c9⟩:PV))).toArray=#[.slice pz mz cz,.slice q9 m9 c9,.string ⟨hd.toArray⟩]:=by
          show #[Value.slice pz (ps++Q).length cz,Value.slice q9 EE.length c9,Value.string ⟨hd.toArray⟩]=_;rw [<-HR5.out.1,hEl]
         refine ⟨⟨pz,cz,q9,c9⟩,by rw [e1],⟨?_,?_,?_,?_⟩,zk0 _ _ _ hbw H9.out.2.2.1⟩
         ·show IL _ pz (ps++Q).length cz (ps++Q)
          rw [<-HR5.out.1];exact zej _ _ _ hip hk3
         ·show IL _ q9 EE.length c9 EE
          rw [hEl,<-hEe];exact zej _ _ _ hie hk3
         ·show (ps++Q).length<=cz
          rw [<-HR5.out.1];exact HIP.out.2
         ·show EE.length<=c9
          rw [hEl];exact hcap
        clear hk3 hbw hip hie hcap hEe hEl hm9 h99 hx9 h910 hx10 ho10 d5 z3 ho hkx
        go_wp2_with (at_builtin;refine zc0 rfl _ _ _ rfl rfl rfl hr9 ?_)
        refine bodyPost_ret (res_dm _ _ b2 _ _ _ _ _ _ _ rfl HRES.out) rfl ?_;exact HFIN.out
       ·have hEe:es=EE:=by rw [<-HEE.out,if_neg he,List.append_nil]
        have hEl:EE.length=m:=by rw [<-hEe];exact hle9
        have d5:=zaf HR.out.2.1;have y0:wr.cell? ⟨b9,0,none⟩=some (.slice pz mz cz):=by rw [d5.1];rfl
        have y1:wr.cell? ⟨b9,1,none⟩=some (.slice q m c):=by rw [d5.1];rfl
        have y2:wr.cell? ⟨b9,2,none⟩=some (.string ⟨hd.toArray⟩):=by rw [d5.1];rfl
        have z3:=zaf ((HS.out wr (KX.trans HX5.out HR.out.2.2.2)).2.1);have z0:wr.cell? ⟨b2,0,none⟩=some (.slice none 0 0):=by rw [z3.1];rfl
        have f0:=z3.2 0;have z1:wr.cell? ⟨b2,1,none⟩=some (.slice none 0 0):=by rw [z3.1];rfl
        have f1:=z3.2 1;have z2:wr.cell? ⟨b2,2,none⟩=some (.string ⟨#[]⟩):=by rw [z3.1];rfl
        have f2:=z3.2 2;have hk3:wr.heap[b2]?=some (.cells #[.slice none 0 0,.slice none 0 0,.string ⟨#[]⟩] 37 (0,0)):=(HS.out _ (KX.trans HX5.out HR.out.2.2.2)).2.1;have hbw:Below w.heap.size w wr:=(HS.out _ (KX.trans HX5.out HR.out.2.2.2)).2.2;have hip:IL wr pz mz cz (ps++Q):=HIP.out.1.kp (HR.out.2.2.2.kpi HR5.out.2.1);have hie:IL wr q m c es:=zcb ho hle9;have hcap:m<=c:=zbh ho;have HRES:Hid ((((wr.setCell ⟨b2,0,none⟩ (.slice pz mz cz)).setCell ⟨b2,1,none⟩ (.slice q m c)).setCell ⟨b2,2,none⟩ (.string ⟨hd.toArray⟩)).heap[b2]?=some (.cells #[.slice pz mz cz,.slice q m c,.string ⟨hd.toArray⟩] 37 (0,0))):=put3 _ _ _ hk3;have HFIN:Hid (∃ v:PV,Ending.returned (.agg #[.slice pz mz cz,.slice q m c,.string ⟨hd.toArray⟩])=.returned (.agg (paC (⟨ps++Q,EE,hd⟩,v)).toArray)/\PL (((wr.setCell ⟨b2,0,none⟩ (.slice pz mz cz)).setCell ⟨b2,1,none⟩ (.slice q m c)).setCell ⟨b2,2,none⟩ (.string ⟨hd.toArray⟩)) (⟨ps++Q,EE,hd⟩,v)/\Below w.heap.size w (((wr.setCell ⟨b2,0,none⟩ (.slice pz mz cz)).setCell ⟨b2,1,none⟩ (.slice q m c)).setCell ⟨b2,2,none⟩ (.string ⟨hd.toArray⟩))):=by
         have e1:(paC ((⟨ps++Q,EE,hd⟩:WY),(⟨pz,cz,q,c⟩:PV))).toArray=#[.slice pz mz cz,.slice q m c,.string ⟨hd.toArray⟩]:=by
          show #[Value.slice pz (ps++Q).length cz,Value.slice q EE.length c,Value.string ⟨hd.toArray⟩]=_;rw [<-HR5.out.1,hEl]
         refine ⟨⟨pz,cz,q,c⟩,by rw [e1],⟨?_,?_,?_,?_⟩,zk0 _ _ _ hbw H9.out.2.2.1⟩
         ·show IL _ pz (ps++Q).length cz (ps++Q)
          rw [<-HR5.out.1];exact zej _ _ _ hip hk3
         ·show IL _ q EE.length c EE
          rw [hEl,<-hEe];exact zej _ _ _ hie hk3
         ·show (ps++Q).length<=cz
          rw [<-HR5.out.1];exact HIP.out.2
         ·show EE.length<=c
          rw [hEl];exact hcap
        clear hk3 hbw hip hie hcap hEe hEl hle9 d5 z3 ho hkx
        go_wp2_with fail
        refine bodyPost_ret (res_dm _ _ b2 _ _ _ _ _ _ _ rfl HRES.out) rfl ?_;exact HFIN.out
end Go.Proofs.YtmfakcfmkmppfaaGreatDoor.Nt
namespace Go.Proofs.YtmfakcfmkmppfaaGreatDoor.Tn
open Go.RowKit

theorem zrl (c:ByteArray):c.toList.isEmpty=c.data.toList.isEmpty:=by rw [ByteArray.toList_eq]

set_option maxHeartbeats 400000 in
theorem rFit_any (a b:ByteArray) (w:World):Calls Tryz.prog 105 #[.string a,.string b] w fun e w'=>e=.returned (.bool (fitB a.data.toList b.data.toList))/\w'=w:=by
 have hfin:Hid (fitB a.data.toList b.data.toList=((!a.toList.isEmpty)&&((a.size:Int)==(b.size:Int)))):=by
  unfold Hid fitB;rw [zrl]
  congr 1
  rw [Bool.eq_iff_iff];simp;omega
 cases h0:a.toList.isEmpty
 all_goals
  go_enter Tryz.func105,Tryz.ntmps105
  go_wp2
  go_ret
  exact ⟨by rw [hfin.out,h0];rfl,rfl⟩
theorem rFit_D (a b:ByteArray) (q:Bool) (w:World) (h:fitB a.data.toList b.data.toList=q):Calls Tryz.prog 105 #[.string a,.string b] w fun e w'=>e=.returned (.bool q)/\w=w':=by
 subst h;exact (rFit_any a b w).mono (fun _ _ h=>⟨h.1,h.2.symm⟩)

theorem zme {W:World} {B k:Nat} {v':Value} {f:UInt8->UInt8->UInt8} {a b:ByteArray} {x:UInt8} (hl:a.size=b.size) (hk:k < a.size) (hx:f a[k] (b[k]'(by omega))=x)
  (h:W.ownsRow B 5 1 v' (k+1) (bys ((List.zipWith f a.data.toList b.data.toList).take k)++[.int .u8 (x.toNat:Int)])):W.ownsRow B 5 1 v' (k+1) (bys ((List.zipWith f a.data.toList b.data.toList).take (k+1))):=by
 have la:a.data.toList.length=b.data.toList.length:=by simp;exact hl
 have lk:k < a.data.toList.length:=by simpa using hk
 rw [take_zip f _ _ la k lk,zem a k hk,zem b k (by omega),hx,<-bys_snoc];exact h

set_option maxHeartbeats 400000 in
theorem zpz (a b:ByteArray) (w:World) (hf0:fitB a.data.toList b.data.toList=false) :
  Calls Tryz.prog 87 #[.string a,.string b] w fun e w'=>e=.returned (.string ⟨#[]⟩)/\Below w.heap.size w w':=by
 have hf:Hid (fitB a.data.toList b.data.toList=false):=hf0;clear hf0
 go_enter Tryz.func87,Tryz.ntmps87
 go_wp2_with (go_at_call 105;refine (rFit_D a b false _ hf.out).mono ?_;rintro e w' ⟨rfl,rfl⟩)
 go_ret
 exact ⟨rfl,Below.refl _ _⟩

set_option maxHeartbeats 2000000 in
theorem zky (a b:ByteArray) (w:World) (ga:good a.data.toList=true) (_gb:good b.data.toList=true) (hf0:fitB a.data.toList b.data.toList=true) :
  Calls Tryz.prog 87 #[.string a,.string b] w fun e w'=>e=.returned (.string ⟨(wrT a.data.toList b.data.toList).toArray⟩)/\Below w.heap.size w w':=by
 have hf:Hid (fitB a.data.toList b.data.toList=true):=hf0;have hz0:a.size=b.size:=by simpa using zdg hf0
 have hz:Hid (a.size=b.size):=hz0;have hl:a.size<=256:=by simpa using zdf ga
 have LA:Hid (a.data.toList.length=a.size):=by simp [Hid]
 clear hf0 hz0;obtain ⟨i0,hi,hz0,hz1,hz2⟩:=info_parts zgs
 go_enter Tryz.func87,Tryz.ntmps87
 go_wp2_with (go_at_call 105;refine (rFit_D a b true _ hf.out).mono ?_;rintro e w' ⟨rfl,rfl⟩)
 go_loopw [6,7] (fun v i wr=>∃ k:Nat,k<=a.size/\i=.int .i64 k/\wr.ownsRow w.heap.size 5 1 v k (bys ((wrT a.data.toList b.data.toList).take k))/\Below w.heap.size w wr) (fun _ i _=>a.size - (intOf i).toNat)
 case atStart=>exact ⟨0,Nat.zero_le _,rfl,World.ownsRow_nil _ _ _ _,Below.refl _ _⟩
 case round=>
  obtain ⟨k,hk,rfl,hown,hB⟩:=hrel
  by_cases hlt:k < a.size
  ·skip
   have hkb:k < b.size:=by rw [<-hz.out];exact hlt
   have i0':(0:Int)<=(k:Int):=by omega
   have i1:(k:Int) < (a.size:Int):=by omega
   have i2:(k:Int) < (b.size:Int):=by omega
   obtain ⟨p2,n2⟩:=ex (((b[k].toNat:Int)==120));have M2:Hid ((b[k]==120)=p2):=by
    unfold Hid;have:=zf8 b[k] 120 (by decide);unfold bne at this;rw [<-n2];exact (Bool.not_inj this).symm
   cases p2
   ·go_wp2_with (at_builtin;refine wpList_append_own _ rfl _ _ 145 rfl w.heap.size 5 i0 (.int .u8 0) 1 1 Tryz.underlying145 hi hz0 hz1 hz2 rfl (by decide) _ _ _ rfl (hown.alloc _) ⟨wr.heap.size,0,none⟩ 1 1 [.int .u8 (b[k].toNat:Int)] rfl rfl (cell_one_new _ _ _) (by simp [Value.oneCell']) (by unfold maxLen;omega) (by omega) (by have:=hB.size;simp;omega) ?_;intro v' w1 hown' hgrow _)
    go_roundw
    case rel=>exact ⟨k+1,by omega,by go_num,zme (f:=fun x y=>if y==120 then x else y) hz.out hlt (by show (if (b[k]==120)=true then a[k] else b[k])=b[k];rw [M2.out];rfl) hown',zr0 hB hown hgrow⟩
    case measure=>simp [intOf];omega
   ·go_wp2_with (at_builtin;refine wpList_append_own _ rfl _ _ 145 rfl w.heap.size 5 i0 (.int .u8 0) 1 1 Tryz.underlying145 hi hz0 hz1 hz2 rfl (by decide) _ _ _ rfl (hown.alloc _) ⟨wr.heap.size,0,none⟩ 1 1 [.int .u8 (a[k].toNat:Int)] rfl rfl (cell_one_new _ _ _) (by simp [Value.oneCell']) (by unfold maxLen;omega) (by omega) (by have:=hB.size;simp;omega) ?_;intro v' w1 hown' hgrow _)
    go_roundw
    case rel=>exact ⟨k+1,by omega,by go_num,zme (f:=fun x y=>if y==120 then x else y) hz.out hlt (by show (if (b[k]==120)=true then a[k] else b[k])=a[k];rw [M2.out];rfl) hown',zr0 hB hown hgrow⟩
    case measure=>simp [intOf];omega
  ·have hkn:k=a.size:=by omega
   have hT:(wrT a.data.toList b.data.toList).take k=wrT a.data.toList b.data.toList:=by rw [hkn,<-LA.out];exact take_all _ _ _ (zdg hf.out)
   have hL:(wrT a.data.toList b.data.toList).length=k:=by unfold wrT;rw [zf9 _ _ _ (zdg hf.out),LA.out,hkn]
   have hcv:=conv_any wr w.heap.size _ (wrT a.data.toList b.data.toList) (by rw [hL];rw [hT] at hown;exact hown);clear hT hL
   go_wp2
   go_ret
   exact ⟨rfl,hB⟩

theorem rWrite_D (A B M:List UInt8) (w:World) (ga:good A=true) (gb:good B=true) (hM:wtT A B=M) :
  Calls Tryz.prog 87 #[.string ⟨A.toArray⟩,.string ⟨B.toArray⟩] w fun e w'=>e=.returned (.string ⟨M.toArray⟩)/\Below w.heap.size w w':=by
 subst hM;unfold wtT;cases hf:fitB A B
 ·exact zpz ⟨A.toArray⟩ ⟨B.toArray⟩ w hf
 ·exact zky ⟨A.toArray⟩ ⟨B.toArray⟩ w ga gb hf


set_option maxHeartbeats 400000 in
theorem rHas_off (c s:ByteArray) (w:World) (hc:c.size<=maxLen) (_hs:s.size<=maxLen) (h:c.size=0∨c.size≠s.size) :
    Calls Tryz.prog 116 #[.string c,.string s] w fun e w'=>e=.returned (.bool false)/\∃ n,w'=w.drewN n:=by
  unfold maxLen at _hs hc
  by_cases h0:c.size=0
  · have hz:c=⟨#[]⟩:=by
      obtain ⟨⟨l⟩⟩:=c;have:l=[]:=List.eq_nil_of_length_eq_zero (by simpa [ByteArray.size] using h0);subst this;rfl
    subst hz;clear h h0
    go_enter Tryz.func116,Tryz.ntmps116
    go_wp2
    go_ret
    exact ⟨rfl,0,rfl⟩
  · have b0:c.toList.isEmpty=false:=by
      rw [ByteArray.toList_eq];obtain ⟨⟨l⟩⟩:=c;cases l with
      | nil=>exact absurd rfl h0
      | cons x l=>rfl
    have b1:((c.size:Int) != (s.size:Int))=true:=by simp;omega
    clear h h0
    go_enter Tryz.func116,Tryz.ntmps116
    go_wp2
    go_ret
    exact ⟨rfl,0,rfl⟩

theorem okH_str (c s:ByteArray) (k:Nat) (hk:k < c.size) (hks:k < s.size) (p1 p2 p3 p4:Bool) (n1:((s[k].toNat:Int) != 48)=p1) (n2:((s[k].toNat:Int) != 49)=p2) (n3:((c[k].toNat:Int) != 120)=p3) (n4:((c[k].toNat:Int) != (s[k].toNat:Int))=p4) :
    okH c.data.toList s.data.toList k=!((p1&&p2) || (p3&&p4)):=
  okH_eq c.data.toList s k (by simpa using hk) hks p1 p2 p3 p4 n1 n2 n3 n4

theorem drewN2 (w:World) (a b:Nat):∃ n,(w.drewN a).drewN b=w.drewN n:=⟨a+b,by simp [World.drewN,Nat.add_assoc]⟩

set_option maxHeartbeats 2000000 in
theorem zp0 (c s:ByteArray) (w:World) (hc:c.size<=256) (h0:1<=c.size) (hsz:s.size=c.size) :
    Calls Tryz.prog 116 #[.string c,.string s] w fun e w'=>e=.returned (.bool (allTo (okH c.data.toList s.data.toList) c.data.toList.length))/\∃ n,w'=w.drewN n:=by
  have HS:Hid (s.size=c.size):=hsz;have HL:Hid (c.data.toList.length=c.size):=by simp [Hid]
  have b0:c.toList.isEmpty=false:=by
    rw [ByteArray.toList_eq];obtain ⟨⟨l⟩⟩:=c;cases l with
    | nil=>simp [ByteArray.size] at h0
    | cons x l=>rfl
  have b1:((c.size:Int) != (s.size:Int))=false:=by simp [hsz]
  clear hsz
  go_enter Tryz.func116,Tryz.ntmps116
  go_wp2
  clear b0 b1
  go_loopw [5] (fun i wr=>∃ k:Nat,k<=c.size/\i=.int .i64 k/\Hid (∀ j,j < k->okH c.data.toList s.data.toList j=true)/\∃ n,wr=w.drewN n) (fun i _=>c.size - (intOf i).toNat)
  case atStart=>exact ⟨0,Nat.zero_le _,rfl,fun j h=>by omega,0,rfl⟩
  case round=>
    obtain ⟨k,hk,rfl,hok,nd,rfl⟩:=hrel
    by_cases hlt:k < c.size
    · have hks:k < s.size:=by rw [HS.out];exact hlt
      have i0:(0:Int)<=(k:Int):=by omega
      have i1:(k:Int) < (s.size:Int):=by omega
      have i2:(k:Int) < (c.size:Int):=by omega
      obtain ⟨p1,n1⟩:=ex (((s[k].toNat:Int) != 48));obtain ⟨p2,n2⟩:=ex (((s[k].toNat:Int) != 49));obtain ⟨p3,n3⟩:=ex (((c[k].toNat:Int) != 120));obtain ⟨p4,n4⟩:=ex (((c[k].toNat:Int) != (s[k].toNat:Int)));have hH:Hid (okH c.data.toList s.data.toList k=!((p1&&p2) || (p3&&p4))):=okH_str c s k hlt hks p1 p2 p3 p4 n1 n2 n3 n4;have hlt':Hid (k < c.data.toList.length):=by unfold Hid;rw [HL.out];exact hlt
      by_cases hp:(p1&&p2)=true
      · obtain ⟨rfl,rfl⟩:p1=true/\p2=true:=by simpa using hp
        clear hp;have hF:Hid (okH c.data.toList s.data.toList k=false):=hH.out
        go_wp2
        go_ret
        exact ⟨by rw [zen k hlt'.out hF.out];rfl,_,rfl⟩
      · have hp':(p1&&p2)=false:=by simpa using hp
        clear hp;cases p1 <;> cases p2 <;> cases p3 <;> cases p4
        all_goals first | (exact absurd hp' (by decide)) | skip
        all_goals
          clear hp'
          go_wp2
          go_quiet (fail)
          go_wp2
          first
            | (have hF : okH c.data.toList s.data.toList k = false := hH.out
               have hF2 := zen k hlt'.out hF
               go_ret
               refine ⟨?_, drewN2 _ _ _⟩;rw [hF2];rfl)
            | (have hF : okH c.data.toList s.data.toList k = true := hH.out
               have hF2 := zql hok.out hF
               go_roundw
               case rel => exact ⟨k + 1, by omega, by go_num, hF2, _, rfl⟩
               case measure => simp [intOf]; omega)
    · have hA:Hid (allTo (okH c.data.toList s.data.toList) c.data.toList.length=true):=(allTo_iff _ _).2 (fun j hj=>hok.out j (by rw [HL.out] at hj;omega));clear hok
      go_wp2
      go_ret
      exact ⟨by rw [hA.out];rfl,_,rfl⟩

theorem rHas_any (c s:ByteArray) (w:World) (hc:c.size<=256) (hs:s.size<=maxLen) :
    Calls Tryz.prog 116 #[.string c,.string s] w fun e w'=>e=.returned (.bool (hasB c.data.toList s.data.toList))/\∃ n,w'=w.drewN n:=by
  have hl1:c.data.toList.length=c.size:=by simp
  have hl2:s.data.toList.length=s.size:=by simp
  unfold hasB
  by_cases h:c.size=0∨c.size≠s.size
  · have e:(!c.data.toList.isEmpty&&(c.data.toList.length==s.data.toList.length))=false:=by
      rcases h with h | h
      · have:c.data.toList=[]:=List.eq_nil_of_length_eq_zero (by omega);rw [this];rfl
      · have:(c.data.toList.length==s.data.toList.length)=false:=by rw [hl1,hl2];simpa using h
        rw [this];simp
    rw [e];exact rHas_off c s w (by unfold maxLen;omega) hs h
  · have e:(!c.data.toList.isEmpty&&(c.data.toList.length==s.data.toList.length))=true:=by
      have h1:(c.data.toList.length==s.data.toList.length)=true:=by rw [hl1,hl2];simp;omega
      have h2:c.data.toList.isEmpty=false:=by
        cases hh:c.data.toList with
        | nil=>rw [hh] at hl1;simp at hl1;omega
        | cons x l=>rfl
      rw [h1,h2];rfl
    rw [e,Bool.true_and];exact zp0 c s w hc (by omega) (by omega)

end Go.Proofs.YtmfakcfmkmppfaaGreatDoor.Tn
