import Derived.Test.YtbplhianpelmfaaGreatDoorXBN
import Derived.Test.YtbplhianpelmfaaGreatDoorXAD
import Derived.Maps.OwnIn
import Derived.RangeFuncSeq
import Derived.Test.YtbplhianpelmfaaGreatDoorXBO
import Derived.Test.YtbplhianpelmfaaGreatDoorXBP
namespace Go.Proofs.YtbplhianpelmfaaGreatDoor.Nt
open Go.RowKit Go.Shelf
section
variable {F:Fence} {m:Nat} {P:Program}
theorem wpListIn_runZ {ops:Array Oper} {rest:List Oper} {o:Oper} {a:Act} {w w':World} {Q:Exit→Act→World→Prop} {v u v':Value} (hgd:o.guard=none) (s x:Operand) (t:TypeId) (ho:o.op=.call { callee:=.builtin .append,args:=#[s,x],argTypes:=#[t,t] }) (hs:a.eval s=v) (hx:a.eval x=u) (hr:(Builtin.append_ #[t,t] o.type #[v,u]).run P w=.ok v' w') (h:wpListIn F m P ops Q rest (a.put o.dst v') w'):wpListIn F m P ops Q (o :: rest) a w:=by
 refine wpListIn_plain hgd fun K hK=>?_
 unfold Oper.wpIn
 refine ⟨by simp [Oper.about,ho,resolve,Target.leads,Sem.run_pure],?_⟩
 rw [Oper.semAt_plain F _ _ (by rw [ho];intro c hc';cases hc')]
 simp [execOp,ho,resolve,invoke,builtin,hs,hx,hr,Result.andThen]
 exact hK _ _ h
theorem round_byA {l:Nat} {r:Loop} {W:World} {args:Array Value} {In:World→Prop} {Out:Code→World→Prop} (hF:F.fn r.fn) (hl:W.heap[l]?=some (.loop r)) (hr:r.state=.ready) (hp:r.pending=none) (hs:args.size=r.params.size)
  (a1:Act) (W1:World) (hl1:W1.heap[l]?=some (.loop r)) (has:∀ K:Act→World→Prop,K a1 W1→r.assign.wpIn (F.inRound l) m P (Exit.then K (fun _ _ _=>False)) { tmps:=(r.params.zip args).foldl (fun tmps (t,a)=>tmps.setIfInBounds t a) r.tmps,defers:=[] } W)
  (hb:r.body.wpIn (F.inRound l) m P (bodyEnd l r In Out) a1 (W1.putObj l (.loop { r with state:=.busy }))) :
  YieldAt F m P l args W fun e W'=>(e=.returned (.bool true)∧In W')∨(e=.returned (.bool false)∧∃ c,Out c W'):=by
 refine ⟨_,_,_,_,run_yield hl hs,roundIn_of_wpIn hF (has _ ⟨_,run_beginRound hl1 hr,wpIn_mono hb ?_⟩)⟩
 intro e a2 W2 h
 cases e with
 | normal=>
  have q:=run_endRound (P:=P) none h.1
  have e1:({ ({ r with state:=.busy }:Loop) with state:=if (none:Option Code).isNone=true then .ready else .done,pending:=none }:Loop)=r:=by
   cases r;simp_all
  rw [e1] at q
  exact ⟨_,_,q,.inl ⟨rfl,h.2⟩⟩
 | exit id=>exact ⟨_,_,run_endRound (P:=P) (some (.exit id)) h.1,.inr ⟨rfl,_,h.2⟩⟩
 | ret=>exact ⟨_,_,run_endRound (P:=P) (some .ret) h.1,.inr ⟨rfl,_,h.2⟩⟩
 | goto t=>exact h.elim
 | panic c=>exact h.elim
 | outgrown=>exact h.elim
theorem range_by1 {n id:Nat} {g:Operand} {ps:Array Tmp} {assign body:Code} {Q:Exit→Act→World→Prop} {a:Act} {w:World}
  (hro:F.round=none) (h1:1≤n) {gf:Nat} {lb:Array Value} (hg:a.eval g=.func (.func gf) #[] lb) (hFg:F.fn gf) (eg:∀ args w,(callFunc gf args).run P w=.ok (.enter gf args) w)
  (hx:∀ a w,Q .normal a w→(Code.exit id).wpIn F n P Q a w)
  (h:∀ fn,F.fn fn→CallsIn F (n - 1) P gf (#[.func (.yield (w.heap.size+1)) #[] #[]]++lb) ((w.alloc (.deferred (some []))).alloc (.loop (recOf fn a.tmps ps assign body w.heap.size)))
   fun e W=>(∃ v,e=.returned v)∧∃ r,W.heap[w.heap.size+1]?=some (.loop r)∧r.state≠.busy∧(r.pending=none∨r.pending=some (.exit id))∧Q .normal { a with defers:={ target:=.collected w.heap.size,args:=#[] } :: a.defers } (W.putObj (w.heap.size+1) (.loop { r with state:=.exhausted }))) :
  (Code.rangeFunc g ps assign body).wpIn F n P Q a w:=by
 refine range_by hro h1 hg hFg eg (fun fn hfn=>(h fn hfn).mono ?_)
 rintro e W ⟨hv,r,hr,hb,hp | hp,hq⟩
 ·exact ⟨hv,r,hr,hb,.inl ⟨hp,hq⟩⟩
 ·exact ⟨hv,r,hr,hb,.inr ⟨_,hp,hx _ _ hq⟩⟩
end
theorem put_otherZ {W:World} {b c:Nat} {o o':Obj} (h:W.heap[c]?=some o) (hne:c≠b):(W.putObj b o').heap[c]?=some o:=(World.putObj_heap_other hne).trans h
theorem seq_nil1 (lb:Array Value) (w:World):(binOp .eql 89 (.func (.func 47) #[] lb) .nilFunc).run Tryz.prog w=.ok (.bool false) w:=by kernel_rfl
theorem seq_nil2 (lb:Array Value) (w:World):(binOp .eql 89 (.func (.func 49) #[] lb) .nilFunc).run Tryz.prog w=.ok (.bool false) w:=by kernel_rfl
theorem paC_one (x:WY×PV):∀ u∈(paC x).toArray.toList,u.oneCell'=true:=fun u hu=>by
 have hu:u∈paC x:=by simpa using hu
 unfold paC at hu
 rcases List.mem_cons.1 hu with rfl | hu
 ·rfl
 rcases List.mem_cons.1 hu with rfl | hu
 ·rfl
 obtain rfl:=List.mem_singleton.1 hu
 rfl
theorem PL.kp {W U:World} {x:WY×PV} (h:PL W x) (hk:∀ (b:Nat) (cs:Array Value) (fr:Nat×Nat),W.heap[b]?=some (.cells cs 3 fr)→U.heap[b]?=some (.cells cs 3 fr)):PL U x:=⟨h.1.kp hk,h.2.1.kp hk,h.2.2⟩
theorem info_pa:(Tryz.prog.info? 52).map (fun i=>(i.zero,i.size,i.bytes))=some (some (.agg #[.slice none 0 0,.slice none 0 0,.string ⟨#[]⟩]),3,64):=by kernel_rfl
theorem pushP {W:World} {B:Nat} {p:Option Addr} {n n9 c:Nat} {V:List (WY×PV)} {x:WY×PV} {cs:Array Value} (h9:(paC x).toArray=cs) (h:W.ownsRow B 52 3 (.slice p n c) n (V.flatMap paC)) (hB:B≤W.heap.size) (hn:n+1=n9) (hO:n9*64≤140737488355328) :
  ∃ q c9 W9,(Builtin.append_ #[49,49] 49 #[.slice p n c,.slice (some ⟨W.heap.size,0,none⟩) 1 1]).run Tryz.prog (W.alloc (.cells cs 52 (0,0)))=.ok (.slice q n9 c9) W9∧W9.ownsRow B 52 3 (.slice q n9 c9) n9 ((V++[x]).flatMap paC)∧Below B W W9∧(∀ b o,W.heap[b]?=some o→(Value.slice p n c).ownBlock≠some b→W9.heap[b]?=some o):=by
 subst hn
 subst h9
 obtain ⟨i0,hi,hz0,hz1,hz2⟩:=info_parts info_pa
 obtain ⟨q,c9,W9,hr,o9,b9,kp,-⟩:=pushR9 (W:=W) (TS:=49) (cs:=(paC x).toArray) Tryz.underlying49 hi hz0 hz1 hz2 rfl (by decide) h hB rfl (paC_one x) hO (by omega)
 refine ⟨q,c9,W9,hr,?_,b9,kp⟩
 rw [List.flatMap_append]
 simpa using o9
structure SMJ (w:World) (b9 b7 D l S:Nat) (k:Int) (R:Loop) (o:List WY) (W:World):Prop where
 bx:∃ (q:Option Addr) (c:Nat) (V:List (WY×PV)),V.map Prod.fst=o∧W.heap[b9]?=some (.cells #[.slice q o.length c] 49 (0,0))∧W.ownsRow S 52 3 (.slice q o.length c) o.length (V.flatMap paC)∧∀ x∈V,PL W x
 kb:W.heap[b7]?=some (.cells #[.int .i64 k] 3 (0,0))
 df:W.heap[D]?=some (.deferred (some []))
 lp:W.heap[l]?=some (.loop R)
 be:Below w.heap.size w W
 sz:S≤W.heap.size
theorem SMJ.below {w:World} {b9 b7 D l S:Nat} {k:Int} {R:Loop} {o:List WY} {W U:World} (h:SMJ w b9 b7 D l S k R o W) (hb:Below W.heap.size W U):SMJ w b9 b7 D l S k R o U:=by
 obtain ⟨⟨q,c,V,h1,h2,h3,h4⟩,kb,df,lp,be,sz⟩:=h
 exact ⟨⟨q,c,V,h1,keepZ hb h2,own_belZ h3 hb,fun x hx=>(h4 x hx).below hb⟩,keepZ hb kb,keepZ hb df,keepZ hb lp,bel0Z be hb,Nat.le_trans sz hb.size⟩
theorem SMJ.loop {w:World} {b9 b7 D l S:Nat} {k:Int} {R:Loop} {o:List WY} {W:World} (h:SMJ w b9 b7 D l S k R o W) (R':Loop) (hl:w.heap.size≤l) (hlS:l < S):SMJ w b9 b7 D l S k R' o (W.putObj l (.loop R')):=by
 obtain ⟨⟨q,c,V,h1,h2,h3,h4⟩,kb,df,lp,be,sz⟩:=h
 have hne:∀ (b:Nat) (cs:Array Value) (T:TypeId) (fr:Nat×Nat),W.heap[b]?=some (.cells cs T fr)→b≠l:=fun b cs T fr hb e=>by
  rw [e,lp] at hb
  cases hb
 refine ⟨⟨q,c,V,h1,put_otherZ h2 (hne _ _ _ _ h2),World.ownsRow.kept h3 (grownBy_putObj' W _ _) (.inr (fun e=>by have:=(World.ownsRow.lt h3 _ e).1;omega)),fun x hx=>(h4 x hx).kp (fun b cs fr hb=>put_otherZ hb (hne _ _ _ _ hb))⟩,put_otherZ kb (hne _ _ _ _ kb),put_otherZ df (fun e=>by rw [e,lp] at df;cases df),World.putObj_heap_same (lt_getZ lp),be.grown (grownBy_putObj' W l _) be.size (fun x e=>by cases e;exact hl),by simpa using sz⟩
theorem kq_loop {L:List TypeId} {W:World} {l:Nat} {R:Loop} (h:W.heap[l]?=some (.loop R)) (o:Obj):KQ L W (W.putObj l o):=fun b T cur fr _ hb=>put_otherZ hb (fun e=>by rw [e,h] at hb;cases hb)
end Go.Proofs.YtbplhianpelmfaaGreatDoor.Nt
namespace Go.Proofs.YtbplhianpelmfaaGreatDoor.Nt
open Go.RowKit Go.Shelf
theorem walk_any {A:List WY} {J:List WY→World→Prop} {Jx:World→Prop} {l m:Nat} (hJ:JW J Jx) (hY:YLW A J Jx l m) (n:NN) (v:NV) (np nt ng:Nat) (hops:Int) (hV:NetP n) (hh:hops≤64) (hnp:n.ports.length=np) (hnt:n.tabs.length=nt) (hng:n.grds.length=ng):∀ (f:Nat) (y:WY×WV) (o:List WY) (U:World),J o U→NK U n v→WYP n hops 0 y.1→hops≤(y.1.es.length:Int)+f→WL U y→(o++wlkM n hops f y.1) <+: A→
  Calls Tryz.prog 50 #[.agg #[.slice v.pp np v.cp,.slice v.pt nt v.ct,.slice v.pg ng v.cg],.agg (wyC y).toArray,.int .i64 hops,.func (.yield l) #[] #[]] U (WKQ J Jx o (wlkM n hops f y.1) U):=by
 intro f
 induction f with
 | zero=>
  intro y o U hj hW hY9 hf hL hA
  have h0:onwM n hops (endM n y.1)=[]:=(wlk_whole hV 0 y.1 (endM n y.1) hY9 hf (by simp [wlkM])).2.1
  have hA':(o++(if (onwM n hops (endM n y.1)).length=0 then [endM n y.1] else (onwM n hops (endM n y.1)).flatMap (fun _=>[]))) <+: A:=by
   rw [h0]
   exact hA
  have h:=walk_step hJ hY n v np nt ng hops (fun _=>[]) y o U hV hh hnp hnt hng (fun x o9 W hx=>by rw [h0] at hx;cases hx) hj hW hY9 hL hA'
  rw [h0] at h
  exact h
 | succ f ih=>
  intro y o U hj hW hY9 hf hL hA
  obtain ⟨h1,h2,-⟩:=wyp_end hV hY9
  have h:=walk_step hJ hY n v np nt ng hops (wlkM n hops f) y o U hV hh hnp hnt hng (fun x o9 W hx hj9 hW9 hL9 hA9=>by
   obtain ⟨h3,h4⟩:=wyp_onw hV h1 hx
   exact ih x o9 W hj9 hW9 h3 (by rw [h4,h2];omega) hL9 hA9) hj hW hY9 hL hA
  exact h
theorem pth_no {n:NN} {s:Int×List UInt8} {hops:Int} (h:¬((NetP n∧StP n s)∧HOK hops)):pthM n s hops=[]:=by
 unfold pthM
 rw [if_neg]
 rintro ⟨h1,h2⟩
 exact h ⟨pb_iff.1 h1,h2⟩
theorem pth_yes {n:NN} {s:Int×List UInt8} {hops:Int} (h:(NetP n∧StP n s)∧HOK hops):pthM n s hops=wlkM n hops hops.toNat (alnM s):=by
 unfold pthM
 rw [if_pos ⟨pb_iff.2 h.1,h.2⟩]
set_option maxRecDepth 100000 in
set_option maxHeartbeats 16000000 in
theorem seq2_any {J:List WY→World→Prop} {Jx:World→Prop} {l m:Nat} (n:NN) (np nt ng:Nat) (s:Int×List UInt8) (hops:Int) (b7 b8 b5:Nat) (p1 p2 p3:Option Addr) (c1 c2 c3:Nat) (wv:WV) (w:World) (hP:(NetP n∧StP n s)∧HOK hops) (hJ:JW J Jx) (hY:YLW (pthM n s hops) J Jx l m) (hnp:n.ports.length=np) (hnt:n.tabs.length=nt) (hng:n.grds.length=ng)
  (hj:J [] w) (k7:w.heap[b7]?=some (.cells #[.slice p1 np c1,.slice p2 nt c2,.slice p3 ng c3] 72 (0,0))) (k8:w.heap[b8]?=some (.cells (wyC (alnM s,wv)).toArray 114 (0,0))) (k5:w.heap[b5]?=some (.cells #[.int .i64 hops] 3 (0,0))) (hW:NK w n ⟨p1,c1,p2,c2,p3,c3⟩) (hL:WL w (alnM s,wv)) :
  Calls Tryz.prog 49 #[.func (.yield l) #[] #[],.pointer (some ⟨b7,0,none⟩),.pointer (some ⟨b8,0,none⟩),.pointer (some ⟨b5,0,none⟩)] w fun e w'=>(∃ v,e=.returned v)∧(J (pthM n s hops) w'∨Jx w'):=by
 obtain ⟨p,h⟩:=s
 obtain ⟨q1,e1,q2,e2⟩:=wv
 obtain ⟨a0,a1,a2,a3,a4,a5,a6,a7,a8,h9⟩:=c9_ex h
 have e9:(wyC (alnM (p,h),(⟨q1,e1,q2,e2⟩:WV))).toArray=#[.slice q1 1 e1,.slice q2 0 e2,.int .i64 a0,.int .u64 a1,.int .u64 a2,.int .u64 a3,.int .u64 a4,.int .u64 a5,.int .u64 a6,.int .u64 a7,.int .u64 a8]:=wyC_arr (ps:=[p]) (es:=[]) (hd:=h) h9 rfl rfl
 have hwk:=walk_any hJ hY n ⟨p1,c1,p2,c2,p3,c3⟩ np nt ng hops hP.1.1 hP.2.2 hnp hnt hng hops.toNat (alnM (p,h),⟨q1,e1,q2,e2⟩) [] w hj hW (wyp_aln hP.1.2 hP.2.1) (by have:=hP.2.1;show hops≤((0:Nat):Int)+_;omega) hL (by rw [List.nil_append];rw [pth_yes hP];exact List.prefix_refl _)
 rw [e9] at hwk k8
 simp only at hwk
 rw [←pth_yes hP] at hwk
 have HWK:=hideL hwk
 have z7:=(cellsZ k7).1
 have z8:=(cellsZ k8).1
 have z5:=(cellsZ k5).1
 obtain ⟨q9,q10,q11⟩:w.cell? ⟨b7,0,none⟩=some (.slice p1 np c1)∧w.cell? ⟨b7,1,none⟩=some (.slice p2 nt c2)∧w.cell? ⟨b7,2,none⟩=some (.slice p3 ng c3):=⟨by rw [z7];rfl,by rw [z7];rfl,by rw [z7];rfl⟩
 obtain ⟨r0,r1,r2,r3,r4,r5,r6,r7,r8,r9,r10⟩:w.cell? ⟨b8,0,none⟩=some (.slice q1 1 e1)∧w.cell? ⟨b8,1,none⟩=some (.slice q2 0 e2)∧w.cell? ⟨b8,2,none⟩=some (.int .i64 a0)∧w.cell? ⟨b8,3,none⟩=some (.int .u64 a1)∧w.cell? ⟨b8,4,none⟩=some (.int .u64 a2)∧w.cell? ⟨b8,5,none⟩=some (.int .u64 a3)∧w.cell? ⟨b8,6,none⟩=some (.int .u64 a4)∧w.cell? ⟨b8,7,none⟩=some (.int .u64 a5)∧w.cell? ⟨b8,8,none⟩=some (.int .u64 a6)∧w.cell? ⟨b8,9,none⟩=some (.int .u64 a7)∧w.cell? ⟨b8,10,none⟩=some (.int .u64 a8):=⟨by rw [z8];rfl,by rw [z8];rfl,by rw [z8];rfl,by rw [z8];rfl,by rw [z8];rfl,by rw [z8];rfl,by rw [z8];rfl,by rw [z8];rfl,by rw [z8];rfl,by rw [z8];rfl,by rw [z8];rfl⟩
 have t0:w.cell? ⟨b5,0,none⟩=some (.int .i64 hops):=by rw [z5];rfl
 clear hwk hP hJ hY hnp hnt hng hj k7 k8 k5 hW hL h9 e9 z7 z8 z5
 go_enter Tryz.func49,Tryz.ntmps49
 go_wp2_with fail
 refine (HWK.out).mono ?_
 rintro e W ⟨-,⟨rfl,hj9⟩ | ⟨rfl,hx9⟩⟩
 ·have HF:Hid (J (pthM n (p,h) hops) W∨Jx W):=.inl (by rw [List.nil_append] at hj9;exact hj9)
  clear hj9
  go_wp2_with fail
  exact ⟨rfl,_,results_none rfl _ _ _,⟨_,rfl⟩,HF.out⟩
 ·have HF:Hid (J (pthM n (p,h) hops) W∨Jx W):=.inr hx9
  clear hx9
  go_wp2_with fail
  exact ⟨rfl,_,results_none rfl _ _ _,⟨_,rfl⟩,HF.out⟩
theorem seq1_any (l:Nat) (w:World):Calls Tryz.prog 47 #[.func (.yield l) #[] #[]] w fun e w'=>(∃ v,e=.returned v)∧w'=w:=by
 go_enter Tryz.func47,Tryz.ntmps47
 go_wp2_with fail
 exact ⟨rfl,_,results_none rfl _ _ _,⟨_,rfl⟩,rfl⟩
end Go.Proofs.YtbplhianpelmfaaGreatDoor.Nt
