import Derived.Maps.OwnIn
import Derived.Test.YtmfakcfmkmppfaaGreatDoorVBD
import Derived.Test.YtmfakcfmkmppfaaGreatDoorVBE
namespace Go.Proofs.YtmfakcfmkmppfaaGreatDoor.Nt
open Go.RowKit Go.Shelf
section
variable {F:Fence} {m:Nat} {P:Program}
theorem zgi {l:Nat} {r:Loop} {W:World} {args:Array Value} {In:World->Prop} {Out:Code->World->Prop} (hF:F.fn r.fn) (hl:W.heap[l]?=some (.loop r)) (hr:r.state=.ready) (hp:r.pending=none) (hs:args.size=r.params.size)
  (a1:Act) (W1:World) (hl1:W1.heap[l]?=some (.loop r)) (has:∀ K:Act->World->Prop,K a1 W1->r.assign.wpIn (F.inRound l) m P (Exit.then K (fun _ _ _=>False)) { tmps:=(r.params.zip args).foldl (fun tmps (t,a)=>tmps.setIfInBounds t a) r.tmps,defers:=[] } W)
  (hb:r.body.wpIn (F.inRound l) m P (zry l r In Out) a1 (W1.putObj l (.loop { r with state:=.busy }))) :
  YieldAt F m P l args W fun e W'=>(e=.returned (.bool true)/\In W')∨(e=.returned (.bool false)/\∃ c,Out c W'):=by
 refine ⟨_,_,_,_,run_yield hl hs,roundIn_of_wpIn hF (has _ ⟨_,run_beginRound hl1 hr,wpIn_mono hb ?_⟩)⟩;intro e a2 W2 h;cases e with
 | normal=>
  have q:=run_endRound (P:=P) none h.1;have e1:({ ({ r with state:=.busy }:Loop) with state:=if (none:Option Code).isNone=true then .ready else .done,pending:=none }:Loop)=r:=by
   cases r;simp_all
  rw [e1] at q;exact ⟨_,_,q,.inl ⟨rfl,h.2⟩⟩
 | exit id=>exact ⟨_,_,run_endRound (P:=P) (some (.exit id)) h.1,.inr ⟨rfl,_,h.2⟩⟩
 | ret=>exact ⟨_,_,run_endRound (P:=P) (some .ret) h.1,.inr ⟨rfl,_,h.2⟩⟩
 | goto t=>exact h.elim
 | panic c=>exact h.elim
 | outgrown=>exact h.elim
theorem zjn {n id:Nat} {g:Operand} {ps:Array Tmp} {assign body:Code} {Q:Exit->Act->World->Prop} {a:Act} {w:World}
  (hro:F.round=none) (h1:1<=n) {gf:Nat} {lb:Array Value} (hg:a.eval g=.func (.func gf) #[] lb) (hFg:F.fn gf) (eg:∀ args w,(callFunc gf args).run P w=.ok (.enter gf args) w)
  (hx:∀ a w,Q .normal a w->(Code.exit id).wpIn F n P Q a w)
  (h:∀ fn,F.fn fn->CallsIn F (n - 1) P gf (#[.func (.yield (w.heap.size+1)) #[] #[]]++lb) ((w.alloc (.deferred (some []))).alloc (.loop (zb7 fn a.tmps ps assign body w.heap.size)))
   fun e W=>(∃ v,e=.returned v)/\∃ r,W.heap[w.heap.size+1]?=some (.loop r)/\r.state≠.busy/\(r.pending=none∨r.pending=some (.exit id))/\Q .normal { a with defers:={ target:=.collected w.heap.size,args:=#[] } :: a.defers } (W.putObj (w.heap.size+1) (.loop { r with state:=.exhausted }))) :
  (Code.rangeFunc g ps assign body).wpIn F n P Q a w:=by
 refine zfy hro h1 hg hFg eg (fun fn hfn=>(h fn hfn).mono ?_);rintro e W ⟨hv,r,hr,hb,hp | hp,hq⟩
 ·exact ⟨hv,r,hr,hb,.inl ⟨hp,hq⟩⟩
 ·exact ⟨hv,r,hr,hb,.inr ⟨_,hp,hx _ _ hq⟩⟩
end
theorem zbc {W:World} {b c:Nat} {o o':Obj} (h:W.heap[c]?=some o) (hne:c≠b):(W.putObj b o').heap[c]?=some o:=(World.putObj_heap_other hne).trans h
theorem seq_nil1 (lb:Array Value) (w:World):(binOp .eql 33 (.func (.func 26) #[] lb) .nilFunc).run Tryz.prog w=.ok (.bool false) w:=by kernel_rfl
theorem seq_nil2 (lb:Array Value) (w:World):(binOp .eql 33 (.func (.func 30) #[] lb) .nilFunc).run Tryz.prog w=.ok (.bool false) w:=by kernel_rfl
theorem zqe (x:WY×PV):∀ u∈(paC x).toArray.toList,u.oneCell'=true:=fun u hu=>by
 have hu:u∈paC x:=by simpa using hu
 unfold paC at hu;rcases List.mem_cons.1 hu with rfl | hu
 ·rfl
 rcases List.mem_cons.1 hu with rfl | hu
 ·rfl
 obtain rfl:=List.mem_singleton.1 hu;rfl
theorem PL.kp {W U:World} {x:WY×PV} (h:PL W x) (hk:∀ (b:Nat) (cs:Array Value) (fr:Nat×Nat),W.heap[b]?=some (.cells cs 3 fr)->U.heap[b]?=some (.cells cs 3 fr)):PL U x:=⟨h.1.kp hk,h.2.1.kp hk,h.2.2⟩
theorem zq2:(Tryz.prog.info? 37).map (fun i=>(i.zero,i.size,i.bytes))=some (some (.agg #[.slice none 0 0,.slice none 0 0,.string ⟨#[]⟩]),3,64):=by kernel_rfl
theorem pushP {W:World} {B:Nat} {p:Option Addr} {n n9 c:Nat} {V:List (WY×PV)} {x:WY×PV} {cs:Array Value} (h9:(paC x).toArray=cs) (h:W.ownsRow B 37 3 (.slice p n c) n (V.flatMap paC)) (hB:B<=W.heap.size) (hn:n+1=n9) (hO:n9*64<=140737488355328) :
  ∃ q c9 W9,(Builtin.append_ #[30,30] 30 #[.slice p n c,.slice (some ⟨W.heap.size,0,none⟩) 1 1]).run Tryz.prog (W.alloc (.cells cs 37 (0,0)))=.ok (.slice q n9 c9) W9/\W9.ownsRow B 37 3 (.slice q n9 c9) n9 ((V++[x]).flatMap paC)/\Below B W W9/\(∀ b o,W.heap[b]?=some o->(Value.slice p n c).ownBlock≠some b->W9.heap[b]?=some o):=by
 subst hn;subst h9;obtain ⟨i0,hi,hz0,hz1,hz2⟩:=info_parts zq2;obtain ⟨q,c9,W9,hr,o9,b9,kp,-⟩:=zhn (W:=W) (TS:=30) (cs:=(paC x).toArray) Tryz.underlying30 hi hz0 hz1 hz2 rfl (by decide) h hB rfl (zqe x) hO (by omega);refine ⟨q,c9,W9,hr,?_,b9,kp⟩;rw [List.flatMap_append]
 simpa using o9
theorem zli {L:List TypeId} {W:World} {l:Nat} {R:Loop} (h:W.heap[l]?=some (.loop R)) (o:Obj):KQ L W (W.putObj l o):=fun b T cur fr _ hb=>zbc hb (fun e=>by rw [e,h] at hb;cases hb)
theorem walk_any {Z:Nat->Prop} {A:List WY} {J:List WY->World->Prop} {Jx:World->Prop} {l m:Nat} (hJ:JW J Jx) (hY:YLW Z A J Jx l m) (n:NN) (v:NV) (np nt ng:Nat) (hops:Int) (hV:NetP n) (hh:hops<=64) (hnp:n.ports.length=np) (hnt:n.tabs.length=nt) (hng:n.grds.length=ng):∀ (f:Nat) (y:WY×WV) (o:List WY) (U:World),J o U->NKX Z U n v->WYP n hops 0 y.1->hops<=(y.1.es.length:Int)+f->WL U y->AWY Z y.2->(∀ b,U.heap.size<=b->¬Z b)->(o++zkj n hops f y.1) <+: A->
  Calls Tryz.prog 31 #[.agg #[.slice v.pp np v.cp,.slice v.pt nt v.ct,.slice v.pg ng v.cg],.agg (wyC y).toArray,.int .i64 hops,.func (.yield l) #[] #[]] U (WKQ Z J Jx o (zkj n hops f y.1) U):=by
 intro f
 induction f with
 | zero=>
  intro y o U hj hW hY9 hf hL hLa hZ hA;have h0:zes n hops (zcx n y.1)=[]:=(zgb hV 0 y.1 (zcx n y.1) hY9 hf (by simp [zkj])).2.1;have hA':(o++(if (zes n hops (zcx n y.1)).length=0 then [zcx n y.1] else (zes n hops (zcx n y.1)).flatMap (fun _=>[]))) <+: A:=by
   rw [h0];exact hA
  have h:=zje hJ hY n v np nt ng hops (fun _=>[]) y o U hV hh hnp hnt hng (fun x o9 W hx=>by rw [h0] at hx;cases hx) hj hW hY9 hL hLa hZ hA';rw [h0] at h;exact h
 | succ f ih=>
  intro y o U hj hW hY9 hf hL hLa hZ hA;obtain ⟨h1,h2,-⟩:=zc9 hV hY9;have h:=zje hJ hY n v np nt ng hops (zkj n hops f) y o U hV hh hnp hnt hng (fun x o9 W hx hj9 hW9 hL9 hLa9 hsz9 hA9=>by
   obtain ⟨h3,h4⟩:=zh0 hV h1 hx;exact ih x o9 W hj9 hW9 h3 (by rw [h4,h2];omega) hL9 hLa9 (fun b hb=>hZ b (Nat.le_trans hsz9 hb)) hA9) hj hW hY9 hL hLa hZ hA
  exact h
theorem pth_no {n:NN} {s:Int×List UInt8} {hops:Int} (h:¬((NetP n/\StP n s)/\HOK hops)):zie n s hops=[]:=by
 unfold zie;rw [if_neg];rintro ⟨h1,h2⟩;exact h ⟨za0.1 h1,h2⟩
theorem zp6 {n:NN} {s:Int×List UInt8} {hops:Int} (h:(NetP n/\StP n s)/\HOK hops):zie n s hops=zkj n hops hops.toNat (zd4 s):=by
 unfold zie;rw [if_pos ⟨za0.2 h.1,h.2⟩]
set_option maxRecDepth 100000 in
set_option maxHeartbeats 16000000 in
theorem seq2_any {Z:Nat->Prop} {J:List WY->World->Prop} {Jx:World->Prop} {l m:Nat} (n:NN) (np nt ng:Nat) (s:Int×List UInt8) (hops:Int) (b7 b8 b5:Nat) (p1 p2 p3:Option Addr) (c1 c2 c3:Nat) (wv:WV) (w:World) (hP:(NetP n/\StP n s)/\HOK hops) (hJ:JW J Jx) (hY:YLW Z (zie n s hops) J Jx l m) (hnp:n.ports.length=np) (hnt:n.tabs.length=nt) (hng:n.grds.length=ng)
  (hj:J [] w) (k7:w.heap[b7]?=some (.cells #[.slice p1 np c1,.slice p2 nt c2,.slice p3 ng c3] 64 (0,0))) (k8:w.heap[b8]?=some (.cells (wyC (zd4 s,wv)).toArray 72 (0,0))) (k5:w.heap[b5]?=some (.cells #[.int .i64 hops] 3 (0,0))) (hW:NKX Z w n ⟨p1,c1,p2,c2,p3,c3⟩) (hL:WL w (zd4 s,wv)) (hLa:AWY Z wv) (hZ:∀ b,w.heap.size<=b->¬Z b) :
  Calls Tryz.prog 30 #[.func (.yield l) #[] #[],.pointer (some ⟨b7,0,none⟩),.pointer (some ⟨b8,0,none⟩),.pointer (some ⟨b5,0,none⟩)] w fun e w'=>(∃ v,e=.returned v)/\(J (zie n s hops) w'∨Jx w'):=by
 obtain ⟨p,h⟩:=s;obtain ⟨q1,e1,q2,e2⟩:=wv;obtain ⟨a0,a1,a2,a3,a4,a5,a6,a7,a8,h9⟩:=zbz h;have e9:(wyC (zd4 (p,h),(⟨q1,e1,q2,e2⟩:WV))).toArray=#[.slice q1 1 e1,.slice q2 0 e2,.int .i64 a0,.int .u64 a1,.int .u64 a2,.int .u64 a3,.int .u64 a4,.int .u64 a5,.int .u64 a6,.int .u64 a7,.int .u64 a8]:=za9 (ps:=[p]) (es:=[]) (hd:=h) h9 rfl rfl;have hwk:=walk_any hJ hY n ⟨p1,c1,p2,c2,p3,c3⟩ np nt ng hops hP.1.1 hP.2.2 hnp hnt hng hops.toNat (zd4 (p,h),⟨q1,e1,q2,e2⟩) [] w hj hW (zh1 hP.1.2 hP.2.1) (by have:=hP.2.1;show hops<=((0:Nat):Int)+_;omega) hL hLa hZ (by rw [List.nil_append];rw [zp6 hP];exact List.prefix_refl _);rw [e9] at hwk k8;simp only at hwk;rw [<-zp6 hP] at hwk;have HWK:=zab hwk;have z7:=(zaf k7).1;have z8:=(zaf k8).1;have z5:=(zaf k5).1;obtain ⟨q9,q10,q11⟩:w.cell? ⟨b7,0,none⟩=some (.slice p1 np c1)/\w.cell? ⟨b7,1,none⟩=some (.slice p2 nt c2)/\w.cell? ⟨b7,2,none⟩=some (.slice p3 ng c3):=⟨by rw [z7];rfl,by rw [z7];rfl,by rw [z7];rfl⟩;obtain ⟨r0,r1,r2,r3,r4,r5,r6,r7,r8,r9,r10⟩:w.cell? ⟨b8,0,none⟩=some (.slice q1 1 e1)/\w.cell? ⟨b8,1,none⟩=some (.slice q2 0 e2)/\w.cell? ⟨b8,2,none⟩=some (.int .i64 a0)/\w.cell? ⟨b8,3,none⟩=some (.int .u64 a1)/\w.cell? ⟨b8,4,none⟩=some (.int .u64 a2)/\w.cell? ⟨b8,5,none⟩=some (.int .u64 a3)/\w.cell? ⟨b8,6,none⟩=some (.int .u64 a4)/\w.cell? ⟨b8,7,none⟩=some (.int .u64 a5)/\w.cell? ⟨b8,8,none⟩=some (.int .u64 a6)/\w.cell? ⟨b8,9,none⟩=some (.int .u64 a7)/\w.cell? ⟨b8,10,none⟩=some (.int .u64 a8):=⟨by rw [z8];rfl,by rw [z8];rfl,by rw [z8];rfl,by rw [z8];rfl,by rw [z8];rfl,by rw [z8];rfl,by rw [z8];rfl,by rw [z8];rfl,by rw [z8];rfl,by rw [z8];rfl,by rw [z8];rfl⟩;have t0:w.cell? ⟨b5,0,none⟩=some (.int .i64 hops):=by rw [z5];rfl
 clear hwk hP hJ hY hnp hnt hng hj k7 k8 k5 hW hL hLa hZ h9 e9 z7 z8 z5
 go_enter Tryz.func30,Tryz.ntmps30
 go_wp2_with fail
 refine (HWK.out).mono ?_;rintro e W ⟨-,⟨rfl,hj9⟩ | ⟨rfl,hx9⟩⟩
 ·have HF:Hid (J (zie n (p,h) hops) W∨Jx W):=.inl (by rw [List.nil_append] at hj9;exact hj9)
  clear hj9
  go_wp2_with fail
  exact ⟨rfl,_,results_none rfl _ _ _,⟨_,rfl⟩,HF.out⟩
 ·have HF:Hid (J (zie n (p,h) hops) W∨Jx W):=.inr hx9
  clear hx9
  go_wp2_with fail
  exact ⟨rfl,_,results_none rfl _ _ _,⟨_,rfl⟩,HF.out⟩
theorem seq1_any (l:Nat) (w:World):Calls Tryz.prog 26 #[.func (.yield l) #[] #[]] w fun e w'=>(∃ v,e=.returned v)/\w'=w:=by
 go_enter Tryz.func26,Tryz.ntmps26
 go_wp2_with fail
 exact ⟨rfl,_,results_none rfl _ _ _,⟨_,rfl⟩,rfl⟩
def zh8 (n:NN) (hops:Int) (w:WY):List WY:=(zes n hops w).map (zcx n)
def zi9 (n:NN) (hops:Int):Nat->WY->List WY
 | 0,w=>[w]
 | f+1,w=>if (zh8 n hops w).length=0 then [w] else (zh8 n hops w).flatMap (zi9 n hops f)
theorem wll_wlk (n:NN) (hops:Int):∀ (f:Nat) (w:WY),zi9 n hops f (zcx n w)=zkj n hops f w:=by
 intro f
 induction f with
 | zero=>intro w;rfl
 | succ f ih=>
  intro w;unfold zi9 zkj zh8;rw [List.length_map]
  split
  ·rfl
  ·rw [List.flatMap_map]
   congr 1
   funext x
   exact ih x
theorem wll_nil {n:NN} {hops:Int} {w:WY} (h:zh8 n hops w=[]) (f:Nat):zi9 n hops f w=[w]:=by
 cases f with
 | zero=>rfl
 | succ f=>unfold zi9;rw [h];rfl
theorem wll_more {n:NN} {hops:Int} {w:WY} (h:zh8 n hops w≠[]) (f:Nat):zi9 n hops (f+1) w=(zh8 n hops w).flatMap (zi9 n hops f):=by
 conv=>lhs;unfold zi9
 rw [if_neg];intro h9;exact h (List.length_eq_zero_iff.1 h9)
def zja (m:Nat) (l A:List WY):List WY:=l++A.take (m - l.length)
theorem put_full {m:Nat} {l:List WY} (h:m<=l.length) (A:List WY):zja m l A=l:=by
 unfold zja;rw [Nat.sub_eq_zero_of_le h,List.take_zero,List.append_nil]
theorem put_nil (m:Nat) (A:List WY):zja m [] A=A.take m:=by
 unfold zja;simp
theorem put_none (m:Nat) (l:List WY):zja m l []=l:=by
 unfold zja;simp
theorem put_one {m:Nat} {l:List WY} (h:¬m<=l.length) (w:WY):zja m l [w]=l++[w]:=by
 unfold zja;rw [List.take_of_length_le (by simp;omega)]
theorem put_put (m:Nat) (l A B:List WY):zja m (zja m l A) B=zja m l (A++B):=by
 unfold zja;rw [List.take_append,List.append_assoc,List.length_append,List.length_take];have e:m - (l.length+min (m - l.length) A.length)=m - l.length - A.length:=by omega
 rw [e]
theorem stp_mem {n:NN} {hops:Int} {w x:WY} (hV:NetP n) (h:WYP n hops 1 w) (hx:x∈zh8 n hops w):WYP n hops 1 x/\x.es.length=w.es.length+1:=by
 unfold zh8 at hx;obtain ⟨y,hy,rfl⟩:=List.mem_map.1 hx;obtain ⟨h1,h2⟩:=zh0 hV h hy;obtain ⟨h3,h4,-⟩:=zc9 hV h1;exact ⟨h3,by rw [h4,h2]⟩
theorem zl6 {n:NN} {hops:Int} {w:WY} (h:WYP n hops 1 w) (hf:hops<=(w.es.length:Int)):zh8 n hops w=[]:=by
 unfold zh8 zes;rw [if_neg]
 ·rfl
 ·rintro ⟨-,h2⟩
  have:=h.2.2.2.1;omega
theorem res_de (tmps:Array Value) (W:World) (b:Nat) (p:Int) (t:List UInt8) (h:tmps[2]?.getD undef=.pointer (some ⟨b,0,none⟩)) (hb:W.heap[b]?=some (.cells #[.int .i64 p,.string ⟨t.toArray⟩] 28 (0,0))) :
  (results Tryz.f46 tmps).run Tryz.prog W=.ok (.agg #[.int .i64 p,.string ⟨t.toArray⟩]) W:=by
 have h1:=(zaf hb).1;have c0:=h1 0;have c1:=h1 1;simp at c0 c1;simp [results,h,c0,c1,go_sem]
set_option maxRecDepth 100000 in
set_option maxHeartbeats 16000000 in
theorem dend_any (ps:List Int) (pp pe:Option Addr) (np cp ne ce:Nat) (hd:List UInt8) (w:World) (hn:ps.length=np) (hl:LI w pp ps) (hne:ps≠[]) (hN:np<=1000) :
  Calls Tryz.prog 46 #[.agg #[.slice pp np cp,.slice pe ne ce,.string ⟨hd.toArray⟩]] w fun e w'=>e=.returned (.agg #[.int .i64 (ps.getLastD 0),.string ⟨hd.toArray⟩])/\Below w.heap.size w w':=by
 obtain ⟨p,hp⟩:=ex (ps.getLastD 0);rw [hp];obtain ⟨k,hk⟩:∃ k,np=k+1:=by
  cases hc:ps with
  | nil=>exact absurd hc hne
  | cons a l=>exact ⟨l.length,by rw [<-hn,hc];rfl⟩
 have hpk:ps[k]?=some p:=by
  rw [<-hp];exact zmn (by rw [hn,hk])
 obtain ⟨g,o,e0,cl⟩:=hl k p hpk;subst e0;have hgw:g < w.heap.size:=World.block_lt_of_cell? w _ cl;obtain ⟨b,hb⟩:=ex w.heap.size;obtain ⟨b2,hb2⟩:=ex (w.heap.size+1);obtain ⟨W1,hW1⟩:=ex ((w.alloc (.cells #[.slice (some ⟨g,o,none⟩) np cp,.slice pe ne ce,.string ⟨hd.toArray⟩] 37)).alloc (.cells #[.int .i64 0,.string ⟨#[]⟩] 28));have hz1:(w.alloc (.cells #[.slice (some ⟨g,o,none⟩) np cp,.slice pe ne ce,.string ⟨hd.toArray⟩] 37)).heap.size=w.heap.size+1:=Array.size_push _;have b1:Below w.heap.size w W1:=by rw [<-hW1];exact zah (zah (Below.refl _ _) _) _
 have kb:W1.heap[b]?=some (.cells #[.slice (some ⟨g,o,none⟩) np cp,.slice pe ne ce,.string ⟨hd.toArray⟩] 37 (0,0)):=by rw [<-hW1,<-hb];exact zae (zah (Below.refl _ _) _) (zaa _ _)
 have kb2:W1.heap[b2]?=some (.cells #[.int .i64 0,.string ⟨#[]⟩] 28 (0,0)):=by rw [<-hW1,<-hb2,<-hz1];exact zaa _ _
 have HS:Hid (∀ U,Below W1.heap.size W1 U->((U.cell? ⟨b,0,none⟩=some (.slice (some ⟨g,o,none⟩) np cp)/\U.cell? ⟨b,2,none⟩=some (.string ⟨hd.toArray⟩))/\U.cell? ⟨g,o+k,none⟩=some (.int .i64 p))):=fun U hU=>by
  have e1:=(zaf (zae hU kb)).1;exact ⟨⟨by rw [e1];rfl,by rw [e1];rfl⟩,zao (zac b1 hU) cl⟩
 have HK:Hid (W1.drew.heap[b2]?=some (.cells #[.int .i64 0,.string ⟨#[]⟩] 28 (0,0))/\Below w.heap.size w W1.drew/\w.heap.size<=b2/\b≠b2/\g≠b2):=⟨zae (Below.refl _ _).drew kb2,b1.drew,by omega,by omega,by omega⟩;have HB:=zab hb;have HB2:=zab hb2;have HW:=zab hW1;have ek:IntKind.i64.wrap ((np:Int) - 1)=(k:Int):=by rw [IntKind.wrap_i64];omega
 have j0:(0:Int)<=(k:Int):=by omega
 have j1:(k:Int) < (np:Int):=by omega
 have hs0:=HS.out W1.drew (Below.refl _ _).drew;clear hW1 b1 hb kb hb2 kb2 hz1 hl hne hN hn hp hpk cl hk hgw
 go_enter Tryz.func46,Tryz.ntmps46
 go_upto_region 1 with fail
 rw [HW.out,HB2.out,HB.out];refine wp_region_held_drew (S:=fun U=>((U.cell? ⟨b,0,none⟩=some (.slice (some ⟨g,o,none⟩) np cp)/\U.cell? ⟨b,2,none⟩=some (.string ⟨hd.toArray⟩))/\U.cell? ⟨g,o+k,none⟩=some (.int .i64 p))) (by kernel_rfl) hs0 (fun _=>?_);obtain ⟨D,hD⟩:=ex W1.drew;rw [hD] at hs0 ⊢;have HKD:=HK.out;rw [hD] at HKD;clear hD;refine tk 0 (.pointer (some ⟨b,0,none⟩)) rfl hs0 ?_ ?_
 ·rintro w ⟨⟨r0,r2⟩,rl⟩;go_simp
 refine tk 1 (.slice (some ⟨g,o,none⟩) np cp) rfl hs0 ?_ ?_
 ·rintro w ⟨⟨r0,r2⟩,rl⟩;go_simp
 refine tk 2 (.pointer (some ⟨b,0,none⟩)) rfl hs0 ?_ ?_
 ·rintro w ⟨⟨r0,r2⟩,rl⟩;go_simp
 refine tk 3 (.slice (some ⟨g,o,none⟩) np cp) rfl hs0 ?_ ?_
 ·rintro w ⟨⟨r0,r2⟩,rl⟩;go_simp
 refine tk 4 (.int .i64 (np:Int)) rfl hs0 ?_ ?_
 ·rintro w ⟨⟨r0,r2⟩,rl⟩;go_simp
 refine tk 5 (.int .i64 (k:Int)) rfl hs0 ?_ ?_
 ·rintro w ⟨⟨r0,r2⟩,rl⟩;go_simp
 refine tk 6 (.pointer (some ⟨g,o+k,none⟩)) rfl hs0 ?_ ?_
 ·rintro w ⟨⟨r0,r2⟩,rl⟩;go_simp
 refine tk 7 (.int .i64 p) rfl hs0 ?_ ?_
 ·rintro w ⟨⟨r0,r2⟩,rl⟩;go_simp
 refine tk 8 (.pointer (some ⟨b,2,none⟩)) rfl hs0 ?_ ?_
 ·rintro w ⟨⟨r0,r2⟩,rl⟩;go_simp
 refine tk 9 (.string ⟨hd.toArray⟩) rfl hs0 ?_ ?_
 ·rintro w ⟨⟨r0,r2⟩,rl⟩;go_simp
 refine tk 10 (.agg #[.int .i64 p,.string ⟨hd.toArray⟩]) rfl hs0 ?_ ?_
 ·rintro w ⟨⟨r0,r2⟩,rl⟩;go_simp
 have hz:=zaf HKD.1;have z0:D.cell? ⟨b2,0,none⟩=some (.int .i64 0):=by rw [hz.1];rfl
 have f0:=hz.2 0;have z1:D.cell? ⟨b2,1,none⟩=some (.string ⟨#[]⟩):=by rw [hz.1];rfl
 have f1:=hz.2 1;obtain ⟨W9,hW9⟩:=ex ((D.setCell ⟨b2,0,none⟩ (.int .i64 p)).setCell ⟨b2,1,none⟩ (.string ⟨hd.toArray⟩));have HRES:Hid (W9.heap[b2]?=some (.cells #[.int .i64 p,.string ⟨hd.toArray⟩] 28 (0,0))):=by
  rw [<-hW9];exact (zag _ (zag _ HKD.1)).trans (by simp)
 have HFIN:Hid (Below w.heap.size w W9):=by
  rw [<-hW9];exact (HKD.2.1.setCell HKD.2.2.1 _).setCell HKD.2.2.1 _
 have kp:∀ c j,c≠b2->W9.cell? ⟨c,j,none⟩=D.cell? ⟨c,j,none⟩:=fun c j hc=>by
  unfold World.cell?;rw [<-hW9];simp only [zby _ _ _ _ _ hc]
 have hs9:((W9.cell? ⟨b,0,none⟩=some (.slice (some ⟨g,o,none⟩) np cp)/\W9.cell? ⟨b,2,none⟩=some (.string ⟨hd.toArray⟩))/\W9.cell? ⟨g,o+k,none⟩=some (.int .i64 p)):=by
  obtain ⟨⟨r0,r2⟩,rl⟩:=hs0;exact ⟨⟨(kp _ _ HK.out.2.2.2.1).trans r0,(kp _ _ HK.out.2.2.2.1).trans r2⟩,(kp _ _ HK.out.2.2.2.2).trans rl⟩
 have HW9:=zab hW9;clear hW9 hz kp HKD;refine rd 11 rfl fun KK hKK=>?_
 go_simp
 rw [HW9.out];refine hKK.out _ _ hs9 (fun _=>?_);clear hKK KK;refine wpAnyH_done (by kernel_rfl) ?_ _
 try simp only [List.getElem_toArray,List.getElem_cons_succ,List.getElem_cons_zero,Act.put,List.setIfInBounds_toArray,List.set_cons_zero,List.set_cons_succ]
 clear hs0 hs9
 go_wp2_with fail
 refine bodyPost_ret (res_de _ _ b2 _ _ rfl HRES.out) rfl ?_;exact ⟨rfl,HFIN.out⟩
theorem zp4 {W:World} {B:Nat} {p:Option Addr} {n n9 c:Nat} {L:List Int} (x:Int) (h:W.ownsRow B 3 1 (.slice p n c) n (inZ L)) (hB:B<=W.heap.size) (hn:n+1=n9) (hO:n9*8<=140737488355328) :
  ∃ q c9 W9,(Builtin.append_ #[35,35] 35 #[.slice p n c,.slice (some ⟨W.heap.size,0,none⟩) 1 1]).run Tryz.prog (W.alloc (.cells #[.int .i64 x] 3 (0,0)))=.ok (.slice q n9 c9) W9/\W9.ownsRow B 3 1 (.slice q n9 c9) n9 (inZ (L++[x]))/\Below B W W9/\(∀ b o,W.heap[b]?=some o->(Value.slice p n c).ownBlock≠some b->W9.heap[b]?=some o)/\(∀ b,(Value.slice q n9 c9).ownBlock=some b->(Value.slice p n c).ownBlock=some b∨W.heap.size<=b):=by
 subst hn;obtain ⟨i0,hi,hz0,hz1,hz2⟩:=info_parts zdz;obtain ⟨q,c9,W9,hr,o9,b9,kp,kq⟩:=zhn (W:=W) (TS:=35) (cs:=#[.int .i64 x]) Tryz.underlying35 hi hz0 hz1 hz2 rfl (by decide) h hB rfl (by intro u hu;simp at hu;subst hu;rfl) hO (by omega);refine ⟨q,c9,W9,hr,?_,b9,kp,kq⟩;rw [zq5];exact o9
theorem zjy {W:World} {b j:Nat} {p:Option Addr} {n c:Nat} {L:List Int} {cs:Array Value} {m:Nat×Nat} (v:Value) (h:IL W p n c L) (hb:W.heap[b]?=some (.cells cs 37 m)):IL (W.setCell ⟨b,j,none⟩ v) p n c L:=h.kp fun k cs' fr h9=>by
 by_cases e:k=b
 ·rw [e,hb] at h9
  injection h9 with h9;injection h9 with _ h9 _;exact absurd h9 (by decide)
 ·rw [zby _ _ _ _ _ e]
  exact h9
theorem zej {W:World} {b:Nat} {p:Option Addr} {n c:Nat} {L:List Int} {cs:Array Value} {m:Nat×Nat} (v0 v1 v2:Value) (h:IL W p n c L) (hb:W.heap[b]?=some (.cells cs 37 m)):IL (((W.setCell ⟨b,0,none⟩ v0).setCell ⟨b,1,none⟩ v1).setCell ⟨b,2,none⟩ v2) p n c L:=
 zjy v2 (zjy v1 (zjy v0 h hb) (zag v0 hb)) (zag v1 (zag v0 hb))
theorem zmf {W:World} {r B:Nat} {x:Int} (h:W.heap[r]?=some (.cells #[.int .i64 x] 3 (0,0))) (hB:B<=r):W.ownsRow B 3 1 (.slice (some ⟨r,0,none⟩) 1 1) 1 (inZ [x]):=
 ⟨rfl,.inr ⟨r,1,#[.int .i64 x],rfl,hB,h,Nat.le_refl _,by unfold maxLen;omega,rfl,rfl⟩⟩
theorem zpt (tmps:Array Value) (W:World) (b:Nat) (p q:Option Addr) (np cp ne ce:Nat) (t:List UInt8) (h:tmps[4]?.getD undef=.pointer (some ⟨b,0,none⟩)) (hb:W.heap[b]?=some (.cells #[.slice p np cp,.slice q ne ce,.string ⟨t.toArray⟩] 37 (0,0))) :
  (results Tryz.f23 tmps).run Tryz.prog W=.ok (.agg #[.slice p np cp,.slice q ne ce,.string ⟨t.toArray⟩]) W:=by
 have h1:=(zaf hb).1;have c0:=h1 0;have c1:=h1 1;have c2:=h1 2;simp at c0 c1 c2;simp [results,h,c0,c1,c2,go_sem]
set_option maxRecDepth 100000 in
set_option maxHeartbeats 16000000 in
theorem zog (n:NN) (v:NV) (p:Int) (h:List UInt8) (w:World) (hN:LN w n v) (hp0:0<=p) (hp1:p < (n.ports.length:Int)) :
  Calls Tryz.prog 23 #[.agg (nnA n v),.agg #[.int .i64 p,.string ⟨h.toArray⟩]] w (PAQ (zcx n (zd4 (p,h))) w):=by
 obtain ⟨t,rfl⟩:∃ t:Nat,p=(t:Int):=⟨p.toNat,by omega⟩;have hlp:=hN.1;clear hN;obtain ⟨pp,cp,pt,ct,pg,cg⟩:=v;simp only at hlp;obtain ⟨np,hnp⟩:=ex n.ports.length;obtain ⟨nt,hnt⟩:=ex n.tabs.length;obtain ⟨ng,hng⟩:=ex n.grds.length;obtain ⟨bits,hbits⟩:∃ bits,n.bits=bits:=⟨_,rfl⟩;obtain ⟨lk,hlk⟩:∃ lk,(zal n (t:Int)).lk=lk:=⟨_,rfl⟩;have hE:nnA n ⟨pp,cp,pt,ct,pg,cg⟩=#[.int .i64 bits,.slice pp np cp,.slice pt nt ct,.slice pg ng cg]:=by unfold nnA;rw [hnp,hnt,hng,hbits]
 have hY:zcx n (zd4 ((t:Int),h))=if 0<=lk then ⟨[(t:Int),lk],[],h⟩ else ⟨[(t:Int)],[],h⟩:=by
  unfold zcx;rw [show (zal n (zd4 ((t:Int),h)).last.1).lk=lk from hlk]
  split <;> rfl
 rw [hE,hY];have hpt:n.ports[t]?=some (zal n (t:Int)):=by
  unfold zal;rw [Int.toNat_natCast,List.getD_eq_getElem?_getD,List.getElem?_eq_getElem (by omega)];rfl
 obtain ⟨gq,oq,rfl,-,-,-,a3⟩:=hlp t _ hpt;rw [hlk] at a3;obtain ⟨B,hB⟩:=ex w.heap.size;obtain ⟨b2,hb2⟩:=ex (w.heap.size+1);obtain ⟨b3,hb3⟩:=ex (w.heap.size+1+1);obtain ⟨W1,hW1⟩:=ex ((((w.alloc (.cells #[.int .i64 bits,.slice (some ⟨gq,oq,none⟩) np cp,.slice pt nt ct,.slice pg ng cg] 26)).alloc (.cells #[.int .i64 (t:Int),.string ⟨h.toArray⟩] 28)).alloc (.cells #[.slice none 0 0,.slice none 0 0,.string ⟨#[]⟩] 37)));have hz1:(w.alloc (.cells #[.int .i64 bits,.slice (some ⟨gq,oq,none⟩) np cp,.slice pt nt ct,.slice pg ng cg] 26)).heap.size=w.heap.size+1:=Array.size_push _;have hz2:((w.alloc (.cells #[.int .i64 bits,.slice (some ⟨gq,oq,none⟩) np cp,.slice pt nt ct,.slice pg ng cg] 26)).alloc (.cells #[.int .i64 (t:Int),.string ⟨h.toArray⟩] 28)).heap.size=w.heap.size+1+1:=(Array.size_push _).trans (by rw [hz1]);have b1:Below w.heap.size w W1:=by rw [<-hW1];exact zah (zah (zah (Below.refl _ _) _) _) _
 have k1:W1.heap[B]?=some (.cells #[.int .i64 bits,.slice (some ⟨gq,oq,none⟩) np cp,.slice pt nt ct,.slice pg ng cg] 26 (0,0)):=by rw [<-hW1,<-hB];exact zae (zah (zah (Below.refl _ _) _) _) (zaa _ _)
 have k2:W1.heap[b2]?=some (.cells #[.int .i64 (t:Int),.string ⟨h.toArray⟩] 28 (0,0)):=by rw [<-hW1,<-hb2,<-hz1];exact zae (zah (Below.refl _ _) _) (zaa _ _)
 have k3:W1.heap[b3]?=some (.cells #[.slice none 0 0,.slice none 0 0,.string ⟨#[]⟩] 37 (0,0)):=by rw [<-hW1,<-hb3,<-hz2];exact zaa _ _
 have hl3:=zap k3;obtain ⟨r,hr⟩:=ex W1.heap.size;obtain ⟨b5,hb5⟩:=ex (r+1);obtain ⟨W2,hW2⟩:=ex (W1.alloc (.cells #[.int .i64 (t:Int)] 3 (0,0)));obtain ⟨W3,hW3⟩:=ex (W2.alloc (.cells #[.slice (some ⟨r,0,none⟩) 1 1,.slice none 0 0,.string ⟨h.toArray⟩] 37));have hz5:W2.heap.size=b5:=by rw [<-hW2,<-hb5,<-hr];exact Array.size_push _
 have c2:Below W1.heap.size W1 W2:=by rw [<-hW2];exact zah (Below.refl _ _) _
 have c3:Below W1.heap.size W1 W3:=by rw [<-hW3];exact zah c2 _
 have kr:W3.heap[r]?=some (.cells #[.int .i64 (t:Int)] 3 (0,0)):=by rw [<-hW3];refine zae (zah (Below.refl _ _) _) ?_;rw [<-hW2,<-hr];exact zaa _ _
 have k5:W3.heap[b5]?=some (.cells #[.slice (some ⟨r,0,none⟩) 1 1,.slice none 0 0,.string ⟨h.toArray⟩] 37 (0,0)):=by rw [<-hW3,<-hz5];exact zaa _ _
 have HS:Hid (∀ U,Below W1.heap.size W1 U->((U.cell? ⟨B,1,none⟩=some (.slice (some ⟨gq,oq,none⟩) np cp)/\U.cell? ⟨b2,0,none⟩=some (.int .i64 (t:Int))/\U.cell? ⟨b2,1,none⟩=some (.string ⟨h.toArray⟩))/\U.cell? ⟨gq,oq+t*4+3,none⟩=some (.int .i64 lk))):=fun U hU=>by
  have e1:=(zaf (zae hU k1)).1;have e2:=(zaf (zae hU k2)).1;exact ⟨⟨by rw [e1];rfl,by rw [e2];rfl,by rw [e2];rfl⟩,zao (zac b1 hU) a3⟩
 have HK:Hid ((∀ U,Below W1.heap.size W1 U->U.heap[b3]?=some (.cells #[.slice none 0 0,.slice none 0 0,.string ⟨#[]⟩] 37 (0,0))/\Below w.heap.size w U)/\w.heap.size<=b3/\b3 < r/\r < b5):=⟨fun U hU=>⟨zae hU k3,zac b1 hU⟩,by omega,by omega,by omega⟩;have HK3:Hid (W3.heap[r]?=some (.cells #[.int .i64 (t:Int)] 3 (0,0))/\W3.heap[b5]?=some (.cells #[.slice (some ⟨r,0,none⟩) 1 1,.slice none 0 0,.string ⟨h.toArray⟩] 37 (0,0))/\Below W1.heap.size W1 W3/\W1.heap.size=r):=⟨kr,k5,c3,hr⟩;have HB:=zab hB;have HB2:=zab hb2;have HB3:=zab hb3;have HR:=zab hr;have HB5:=zab hz5;have HR5:=zab hb5;have HW:=zab hW1;have HW2:=zab hW2;have HW3:=zab hW3;have j0:(0:Int)<=(t:Int):=by omega
 have j1:(t:Int) < (np:Int):=by omega
 obtain ⟨⟨q1,r0,r1⟩,rl⟩:=HS.out W1 (Below.refl _ _);have m1:(W1.alloc (.cells #[.int .i64 (t:Int)] 3 (0,0))).cell? ⟨b2,1,none⟩=some (.string ⟨h.toArray⟩):=by rw [hW2];exact (HS.out W2 c2).1.2.2
 clear hlp hp0 hp1 hnp hnt hng hbits hlk hE hY hpt a3 hB hb2 hb3 hW1 hz1 hz2 b1 k1 k2 k3 hl3 hr hb5 hW2 hW3 hz5 c2 c3 kr k5
 go_enter Tryz.func23,Tryz.ntmps23
 go_upto_region 1 with fail
 rw [HW.out,HB3.out,HB2.out,HB.out]
 go_upto_region 2 with fail
 simp only [HR.out,HW2.out,HW3.out,HR5.out];clear q1 r0 r1 rl m1;obtain ⟨⟨q1,r0,r1⟩,rl⟩:=HS.out W3 HK3.out.2.2.1
 by_cases hlk:0<=lk
 ·rw [if_pos hlk]
  obtain ⟨q9,c9,W9,hr9,o9,d9,kp,kq⟩:=zp4 (W:=W3.drew) lk (zmf HK3.out.1 (Nat.le_refl _)) (zap HK3.out.1 |> Nat.le_of_lt) rfl (by omega);have hr13:Below W1.heap.size W1 W3.drew:=HK3.out.2.2.1.drew;have c9':Below W1.heap.size W1 W9:=hr13.trans (by rw [HK3.out.2.2.2];exact d9);have k59:W9.heap[b5]?=some (.cells #[.slice (some ⟨r,0,none⟩) 1 1,.slice none 0 0,.string ⟨h.toArray⟩] 37 (0,0)):=kp b5 _ HK3.out.2.1 (fun e=>by have h1:=HK.out.2.2.2;have e':r=b5:=Option.some.inj e;omega);obtain ⟨W7,hW7⟩:=ex (W3.drew.alloc (.cells #[.int .i64 lk] 3 (0,0)));have b7:Below W3.drew.heap.size W3.drew W7:=by rw [<-hW7];exact zah (Below.refl _ _) _
  rw [hW7] at hr9;have HW7:Hid ((W3.alloc (.cells #[.int .i64 lk] 3 (0,0))).drew=W7):=hW7;have c50:W3.drew.cell? ⟨b5,0,none⟩=some (.slice (some ⟨r,0,none⟩) 1 1):=by rw [(zaf (W:=W3.drew) HK3.out.2.1).1];rfl
  have c57:W7.cell? ⟨b5,0,none⟩=some (.slice (some ⟨r,0,none⟩) 1 1):=zao b7 c50;have d5:=zaf k59;have d59:W9.cell? ⟨b5,0,none⟩=some (.slice (some ⟨r,0,none⟩) 1 1):=by rw [d5.1];rfl
  have f59:=d5.2 0;obtain ⟨W10,hW10⟩:=ex (W9.setCell ⟨b5,0,none⟩ (.slice q9 2 c9));have c10:Below W1.heap.size W1 W10:=by rw [<-hW10];exact c9'.setCell (by show W1.heap.size<=b5;have:=HK.out.2.2.2;have:=HK3.out.2.2.2;omega) _
  have k10:W10.heap[b5]?=some (.cells #[.slice q9 2 c9,.slice none 0 0,.string ⟨h.toArray⟩] 37 (0,0)):=by rw [<-hW10];exact (zag _ k59).trans (by simp)
  have hs0:=HS.out W3.drew HK3.out.2.2.1.drew;have hs7:=HS.out W7 (hr13.trans (b7.mono hr13.size));have hs9:=HS.out W9 c9';have hs10:=HS.out W10 c10;have HO9:=zab o9;have HK59:=zab k59;have HC10:=zab c10;have HK10:=zab k10;have HW10:=zab hW10;clear hr13 c9' k59 hW7 b7 d5 hW10 c10 k10 o9 d9 kp kq
  go_upto_region 3 with fail
  clear q1 r0 r1 rl;refine wp_region_held_drew (S:=fun U=>((U.cell? ⟨B,1,none⟩=some (.slice (some ⟨gq,oq,none⟩) np cp)/\U.cell? ⟨b2,0,none⟩=some (.int .i64 (t:Int))/\U.cell? ⟨b2,1,none⟩=some (.string ⟨h.toArray⟩))/\U.cell? ⟨gq,oq+t*4+3,none⟩=some (.int .i64 lk))) (by kernel_rfl) hs0 (fun _=>?_);refine tk 0 (.pointer (some ⟨b5,0,none⟩)) rfl hs0 ?_ ?_
  ·rintro w ⟨⟨q1,r0,r1⟩,rl⟩;go_simp
  refine tk 2 (.pointer (some ⟨B,1,none⟩)) rfl hs0 ?_ ?_
  ·rintro w ⟨⟨q1,r0,r1⟩,rl⟩;go_simp
  refine tk 3 (.slice (some ⟨gq,oq,none⟩) np cp) rfl hs0 ?_ ?_
  ·rintro w ⟨⟨q1,r0,r1⟩,rl⟩;go_simp
  refine tk 4 (.pointer (some ⟨b2,0,none⟩)) rfl hs0 ?_ ?_
  ·rintro w ⟨⟨q1,r0,r1⟩,rl⟩;go_simp
  refine tk 5 (.int .i64 (t:Int)) rfl hs0 ?_ ?_
  ·rintro w ⟨⟨q1,r0,r1⟩,rl⟩;go_simp
  refine tk 6 (.pointer (some ⟨gq,oq+t*4,none⟩)) rfl hs0 ?_ ?_
  ·rintro w ⟨⟨q1,r0,r1⟩,rl⟩;go_simp
  refine tk 7 (.pointer (some ⟨gq,oq+t*4+3,none⟩)) rfl hs0 ?_ ?_
  ·rintro w ⟨⟨q1,r0,r1⟩,rl⟩;go_simp
  refine tk 8 (.int .i64 lk) rfl hs0 ?_ ?_
  ·rintro w ⟨⟨q1,r0,r1⟩,rl⟩;go_simp
  refine wpAnyH_ready (rs:=[1,9]) (by kernel_rfl) (by simp) ?_;refine AllReadyH.cons rfl (fun KK hKK=>?_) (AllReadyH.cons rfl (fun KK hKK=>?_) AllReadyH.nil)
  ·go_simp
   refine hKK.out _ _ hs0 (fun _=>?_);clear hKK KK;refine rd 9 rfl fun KK hKK=>?_
   go_simp
   rw [HW7.out];refine hKK.out _ _ hs7 (fun _=>?_);clear hKK KK;refine rd 10 rfl fun KK hKK=>?_;refine zd6 (by rfl) _ _ _ (by rfl) (by rfl) (by rfl) hr9 ?_;refine hKK.out _ _ hs9 (fun _=>?_);clear hKK KK;refine tk 11 (.pointer (some ⟨b5,0,none⟩)) rfl hs9 ?_ ?_
   ·rintro w ⟨⟨q1,r0,r1⟩,rl⟩;go_simp
   refine rd 12 rfl fun KK hKK=>?_
   go_simp
   try rw [HW10.out]
   refine hKK.out _ _ hs10 (fun _=>?_);clear hKK KK;refine wpAnyH_done (by kernel_rfl) ?_ _
   try simp only [List.getElem_toArray,List.getElem_cons_succ,List.getElem_cons_zero,Act.put,List.setIfInBounds_toArray,List.set_cons_zero,List.set_cons_succ]
   clear hs0 hs7 hs9 hs10 hr9 c50 c57 d59 f59;have hk5:=HK10.out;have hk3:=(HK.out.1 W10 HC10.out).1;have hbw:=(HK.out.1 W10 HC10.out).2;have hil:IL W10 q9 2 c9 [(t:Int),lk]:=by
    rw [<-HW10.out];exact zjy _ (zcb HO9.out rfl) HK59.out
   have hcap:2<=c9:=zbh HO9.out;have z5:=(zaf hk5).1;have z3:=zaf hk3;have y0:W10.cell? ⟨b5,0,none⟩=some (.slice q9 2 c9):=by rw [z5];rfl
   have y1:W10.cell? ⟨b5,1,none⟩=some (.slice none 0 0):=by rw [z5];rfl
   have y2:W10.cell? ⟨b5,2,none⟩=some (.string ⟨h.toArray⟩):=by rw [z5];rfl
   have z0:W10.cell? ⟨b3,0,none⟩=some (.slice none 0 0):=by rw [z3.1];rfl
   have f0:=z3.2 0;have z1:W10.cell? ⟨b3,1,none⟩=some (.slice none 0 0):=by rw [z3.1];rfl
   have f1:=z3.2 1;have z2:W10.cell? ⟨b3,2,none⟩=some (.string ⟨#[]⟩):=by rw [z3.1];rfl
   have f2:=z3.2 2;have HRES:Hid ((((W10.setCell ⟨b3,0,none⟩ (.slice q9 2 c9)).setCell ⟨b3,1,none⟩ (.slice none 0 0)).setCell ⟨b3,2,none⟩ (.string ⟨h.toArray⟩)).heap[b3]?=some (.cells #[.slice q9 2 c9,.slice none 0 0,.string ⟨h.toArray⟩] 37 (0,0))):=put3 _ _ _ hk3;have HFIN:Hid (∃ v:PV,Ending.returned (.agg #[.slice q9 2 c9,.slice none 0 0,.string ⟨h.toArray⟩])=.returned (.agg (paC (⟨[(t:Int),lk],[],h⟩,v)).toArray)/\PL (((W10.setCell ⟨b3,0,none⟩ (.slice q9 2 c9)).setCell ⟨b3,1,none⟩ (.slice none 0 0)).setCell ⟨b3,2,none⟩ (.string ⟨h.toArray⟩)) (⟨[(t:Int),lk],[],h⟩,v)/\Below w.heap.size w (((W10.setCell ⟨b3,0,none⟩ (.slice q9 2 c9)).setCell ⟨b3,1,none⟩ (.slice none 0 0)).setCell ⟨b3,2,none⟩ (.string ⟨h.toArray⟩))):=by
    refine ⟨⟨q9,c9,none,0⟩,rfl,⟨zej _ _ _ hil hk3,IL.nil _,hcap,Nat.le_refl _⟩,zk0 _ _ _ hbw HK.out.2.1⟩
   clear hk5 hk3 z5 z3 hcap hbw hil
   go_wp2_with fail
   refine bodyPost_ret (zpt _ _ b3 _ _ _ _ _ _ _ rfl HRES.out) rfl ?_;exact HFIN.out
  ·go_simp
   rw [HW7.out];refine hKK.out _ _ hs7 (fun _=>?_);clear hKK KK;refine rd 1 rfl fun KK hKK=>?_
   go_simp
   refine hKK.out _ _ hs7 (fun _=>?_);clear hKK KK;refine rd 10 rfl fun KK hKK=>?_;refine zd6 (by rfl) _ _ _ (by rfl) (by rfl) (by rfl) hr9 ?_;refine hKK.out _ _ hs9 (fun _=>?_);clear hKK KK;refine tk 11 (.pointer (some ⟨b5,0,none⟩)) rfl hs9 ?_ ?_
   ·rintro w ⟨⟨q1,r0,r1⟩,rl⟩;go_simp
   refine rd 12 rfl fun KK hKK=>?_
   go_simp
   try rw [HW10.out]
   refine hKK.out _ _ hs10 (fun _=>?_);clear hKK KK;refine wpAnyH_done (by kernel_rfl) ?_ _
   try simp only [List.getElem_toArray,List.getElem_cons_succ,List.getElem_cons_zero,Act.put,List.setIfInBounds_toArray,List.set_cons_zero,List.set_cons_succ]
   clear hs0 hs7 hs9 hs10 hr9 c50 c57 d59 f59;have hk5:=HK10.out;have hk3:=(HK.out.1 W10 HC10.out).1;have hbw:=(HK.out.1 W10 HC10.out).2;have hil:IL W10 q9 2 c9 [(t:Int),lk]:=by
    rw [<-HW10.out];exact zjy _ (zcb HO9.out rfl) HK59.out
   have hcap:2<=c9:=zbh HO9.out;have z5:=(zaf hk5).1;have z3:=zaf hk3;have y0:W10.cell? ⟨b5,0,none⟩=some (.slice q9 2 c9):=by rw [z5];rfl
   have y1:W10.cell? ⟨b5,1,none⟩=some (.slice none 0 0):=by rw [z5];rfl
   have y2:W10.cell? ⟨b5,2,none⟩=some (.string ⟨h.toArray⟩):=by rw [z5];rfl
   have z0:W10.cell? ⟨b3,0,none⟩=some (.slice none 0 0):=by rw [z3.1];rfl
   have f0:=z3.2 0;have z1:W10.cell? ⟨b3,1,none⟩=some (.slice none 0 0):=by rw [z3.1];rfl
   have f1:=z3.2 1;have z2:W10.cell? ⟨b3,2,none⟩=some (.string ⟨#[]⟩):=by rw [z3.1];rfl
   have f2:=z3.2 2;have HRES:Hid ((((W10.setCell ⟨b3,0,none⟩ (.slice q9 2 c9)).setCell ⟨b3,1,none⟩ (.slice none 0 0)).setCell ⟨b3,2,none⟩ (.string ⟨h.toArray⟩)).heap[b3]?=some (.cells #[.slice q9 2 c9,.slice none 0 0,.string ⟨h.toArray⟩] 37 (0,0))):=put3 _ _ _ hk3;have HFIN:Hid (∃ v:PV,Ending.returned (.agg #[.slice q9 2 c9,.slice none 0 0,.string ⟨h.toArray⟩])=.returned (.agg (paC (⟨[(t:Int),lk],[],h⟩,v)).toArray)/\PL (((W10.setCell ⟨b3,0,none⟩ (.slice q9 2 c9)).setCell ⟨b3,1,none⟩ (.slice none 0 0)).setCell ⟨b3,2,none⟩ (.string ⟨h.toArray⟩)) (⟨[(t:Int),lk],[],h⟩,v)/\Below w.heap.size w (((W10.setCell ⟨b3,0,none⟩ (.slice q9 2 c9)).setCell ⟨b3,1,none⟩ (.slice none 0 0)).setCell ⟨b3,2,none⟩ (.string ⟨h.toArray⟩))):=by
    refine ⟨⟨q9,c9,none,0⟩,rfl,⟨zej _ _ _ hil hk3,IL.nil _,hcap,Nat.le_refl _⟩,zk0 _ _ _ hbw HK.out.2.1⟩
   clear hk5 hk3 z5 z3 hcap hbw hil
   go_wp2_with fail
   refine bodyPost_ret (zpt _ _ b3 _ _ _ _ _ _ _ rfl HRES.out) rfl ?_;exact HFIN.out
 ·rw [if_neg hlk]
  have hk5:=HK3.out.2.1;have hk3:=(HK.out.1 W3 HK3.out.2.2.1).1;have hbw:=(HK.out.1 W3 HK3.out.2.2.1).2;have hil:IL W3 (some ⟨r,0,none⟩) 1 1 [(t:Int)]:=zjz HK3.out.1;have hcap:1<=1:=Nat.le_refl _;have z5:=(zaf hk5).1;have z3:=zaf hk3;have y0:W3.cell? ⟨b5,0,none⟩=some (.slice (some ⟨r,0,none⟩) 1 1):=by rw [z5];rfl
  have y1:W3.cell? ⟨b5,1,none⟩=some (.slice none 0 0):=by rw [z5];rfl
  have y2:W3.cell? ⟨b5,2,none⟩=some (.string ⟨h.toArray⟩):=by rw [z5];rfl
  have z0:W3.cell? ⟨b3,0,none⟩=some (.slice none 0 0):=by rw [z3.1];rfl
  have f0:=z3.2 0;have z1:W3.cell? ⟨b3,1,none⟩=some (.slice none 0 0):=by rw [z3.1];rfl
  have f1:=z3.2 1;have z2:W3.cell? ⟨b3,2,none⟩=some (.string ⟨#[]⟩):=by rw [z3.1];rfl
  have f2:=z3.2 2;have HRES:Hid ((((W3.setCell ⟨b3,0,none⟩ (.slice (some ⟨r,0,none⟩) 1 1)).setCell ⟨b3,1,none⟩ (.slice none 0 0)).setCell ⟨b3,2,none⟩ (.string ⟨h.toArray⟩)).heap[b3]?=some (.cells #[.slice (some ⟨r,0,none⟩) 1 1,.slice none 0 0,.string ⟨h.toArray⟩] 37 (0,0))):=put3 _ _ _ hk3;have HFIN:Hid (∃ v:PV,Ending.returned (.agg #[.slice (some ⟨r,0,none⟩) 1 1,.slice none 0 0,.string ⟨h.toArray⟩])=.returned (.agg (paC (⟨[(t:Int)],[],h⟩,v)).toArray)/\PL (((W3.setCell ⟨b3,0,none⟩ (.slice (some ⟨r,0,none⟩) 1 1)).setCell ⟨b3,1,none⟩ (.slice none 0 0)).setCell ⟨b3,2,none⟩ (.string ⟨h.toArray⟩)) (⟨[(t:Int)],[],h⟩,v)/\Below w.heap.size w (((W3.setCell ⟨b3,0,none⟩ (.slice (some ⟨r,0,none⟩) 1 1)).setCell ⟨b3,1,none⟩ (.slice none 0 0)).setCell ⟨b3,2,none⟩ (.string ⟨h.toArray⟩))):=by
   refine ⟨⟨(some ⟨r,0,none⟩),1,none,0⟩,rfl,⟨zej _ _ _ hil hk3,IL.nil _,hcap,Nat.le_refl _⟩,zk0 _ _ _ hbw HK.out.2.1⟩
  clear hk5 hk3 z5 z3 hcap hbw hil
  go_wp2_with fail
  refine bodyPost_ret (zpt _ _ b3 _ _ _ _ _ _ _ rfl HRES.out) rfl ?_;exact HFIN.out
end Go.Proofs.YtmfakcfmkmppfaaGreatDoor.Nt
