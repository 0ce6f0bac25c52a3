import Derived.Maps.OwnIn
import Derived.Test.YtbplhianpelmfaaGreatDoorYBR
import Derived.Test.YtbplhianpelmfaaGreatDoorYBS
import Derived.Sort.CutIn
namespace Go.Proofs.YtbplhianpelmfaaGreatDoor.Nt
open Go.RowKit Go.Shelf
section
variable {F:Fence} {m:Nat} {P:Program}
theorem wpListIn_runZ {ops:Array Oper} {rest:List Oper} {o:Oper} {a:Act} {w w':World} {Q:Exit→Act→World→Prop} {v u v':Value} (hgd:o.guard=none) (s x:Operand) (t:TypeId) (ho:o.op=.call { callee:=.builtin .append,args:=#[s,x],argTypes:=#[t,t] }) (hs:a.eval s=v) (hx:a.eval x=u) (hr:(Builtin.append_ #[t,t] o.type #[v,u]).run P w=.ok v' w') (h:wpListIn F m P ops Q rest (a.put o.dst v') w'):wpListIn F m P ops Q (o :: rest) a w:=by
 refine wpListIn_plain hgd fun K hK=>?_
 unfold Oper.wpIn
 refine ⟨by simp [Oper.about,ho,resolve,Target.leads,Sem.run_pure],?_⟩
 rw [Oper.semAt_plain F _ _ (by rw [ho];intro c hc';cases hc')]
 simp [execOp,ho,resolve,invoke,builtin,hs,hx,hr,Result.andThen]
 exact hK _ _ h
theorem round_byA {l:Nat} {r:Loop} {W:World} {args:Array Value} {In:World→Prop} {Out:Code→World→Prop} (hF:F.fn r.fn) (hl:W.heap[l]?=some (.loop r)) (hr:r.state=.ready) (hp:r.pending=none) (hs:args.size=r.params.size)
  (a1:Act) (W1:World) (hl1:W1.heap[l]?=some (.loop r)) (has:∀ K:Act→World→Prop,K a1 W1→r.assign.wpIn (F.inRound l) m P (Exit.then K (fun _ _ _=>False)) { tmps:=(r.params.zip args).foldl (fun tmps (t,a)=>tmps.setIfInBounds t a) r.tmps,defers:=[] } W)
  (hb:r.body.wpIn (F.inRound l) m P (bodyEnd l r In Out) a1 (W1.putObj l (.loop { r with state:=.busy }))) :
  YieldAt F m P l args W fun e W'=>(e=.returned (.bool true)∧In W')∨(e=.returned (.bool false)∧∃ c,Out c W'):=by
 refine ⟨_,_,_,_,run_yield hl hs,roundIn_of_wpIn hF (has _ ⟨_,run_beginRound hl1 hr,wpIn_mono hb ?_⟩)⟩
 intro e a2 W2 h
 cases e with
 | normal=>
  have q:=run_endRound (P:=P) none h.1
  have e1:({ ({ r with state:=.busy }:Loop) with state:=if (none:Option Code).isNone=true then .ready else .done,pending:=none }:Loop)=r:=by
   cases r;simp_all
  rw [e1] at q
  exact ⟨_,_,q,.inl ⟨rfl,h.2⟩⟩
 | exit id=>exact ⟨_,_,run_endRound (P:=P) (some (.exit id)) h.1,.inr ⟨rfl,_,h.2⟩⟩
 | ret=>exact ⟨_,_,run_endRound (P:=P) (some .ret) h.1,.inr ⟨rfl,_,h.2⟩⟩
 | goto t=>exact h.elim
 | panic c=>exact h.elim
 | outgrown=>exact h.elim
theorem range_by1 {n id:Nat} {g:Operand} {ps:Array Tmp} {assign body:Code} {Q:Exit→Act→World→Prop} {a:Act} {w:World}
  (hro:F.round=none) (h1:1≤n) {gf:Nat} {lb:Array Value} (hg:a.eval g=.func (.func gf) #[] lb) (hFg:F.fn gf) (eg:∀ args w,(callFunc gf args).run P w=.ok (.enter gf args) w)
  (hx:∀ a w,Q .normal a w→(Code.exit id).wpIn F n P Q a w)
  (h:∀ fn,F.fn fn→CallsIn F (n - 1) P gf (#[.func (.yield (w.heap.size+1)) #[] #[]]++lb) ((w.alloc (.deferred (some []))).alloc (.loop (recOf fn a.tmps ps assign body w.heap.size)))
   fun e W=>(∃ v,e=.returned v)∧∃ r,W.heap[w.heap.size+1]?=some (.loop r)∧r.state≠.busy∧(r.pending=none∨r.pending=some (.exit id))∧Q .normal { a with defers:={ target:=.collected w.heap.size,args:=#[] } :: a.defers } (W.putObj (w.heap.size+1) (.loop { r with state:=.exhausted }))) :
  (Code.rangeFunc g ps assign body).wpIn F n P Q a w:=by
 refine range_by hro h1 hg hFg eg (fun fn hfn=>(h fn hfn).mono ?_)
 rintro e W ⟨hv,r,hr,hb,hp | hp,hq⟩
 ·exact ⟨hv,r,hr,hb,.inl ⟨hp,hq⟩⟩
 ·exact ⟨hv,r,hr,hb,.inr ⟨_,hp,hx _ _ hq⟩⟩
end
theorem put_otherZ {W:World} {b c:Nat} {o o':Obj} (h:W.heap[c]?=some o) (hne:c≠b):(W.putObj b o').heap[c]?=some o:=(World.putObj_heap_other hne).trans h
theorem seq_nil1 (lb:Array Value) (w:World):(binOp .eql 89 (.func (.func 47) #[] lb) .nilFunc).run Tryz.prog w=.ok (.bool false) w:=by kernel_rfl
theorem seq_nil2 (lb:Array Value) (w:World):(binOp .eql 89 (.func (.func 49) #[] lb) .nilFunc).run Tryz.prog w=.ok (.bool false) w:=by kernel_rfl
theorem paC_one (x:WY×PV):∀ u∈(paC x).toArray.toList,u.oneCell'=true:=fun u hu=>by
 have hu:u∈paC x:=by simpa using hu
 unfold paC at hu
 rcases List.mem_cons.1 hu with rfl | hu
 ·rfl
 rcases List.mem_cons.1 hu with rfl | hu
 ·rfl
 obtain rfl:=List.mem_singleton.1 hu
 rfl
theorem PL.kp {W U:World} {x:WY×PV} (h:PL W x) (hk:∀ (b:Nat) (cs:Array Value) (fr:Nat×Nat),W.heap[b]?=some (.cells cs 3 fr)→U.heap[b]?=some (.cells cs 3 fr)):PL U x:=⟨h.1.kp hk,h.2.1.kp hk,h.2.2⟩
theorem info_pa:(Tryz.prog.info? 52).map (fun i=>(i.zero,i.size,i.bytes))=some (some (.agg #[.slice none 0 0,.slice none 0 0,.string ⟨#[]⟩]),3,64):=by kernel_rfl
theorem pushP {W:World} {B:Nat} {p:Option Addr} {n n9 c:Nat} {V:List (WY×PV)} {x:WY×PV} {cs:Array Value} (h9:(paC x).toArray=cs) (h:W.ownsRow B 52 3 (.slice p n c) n (V.flatMap paC)) (hB:B≤W.heap.size) (hn:n+1=n9) (hO:n9*64≤140737488355328) :
  ∃ q c9 W9,(Builtin.append_ #[49,49] 49 #[.slice p n c,.slice (some ⟨W.heap.size,0,none⟩) 1 1]).run Tryz.prog (W.alloc (.cells cs 52 (0,0)))=.ok (.slice q n9 c9) W9∧W9.ownsRow B 52 3 (.slice q n9 c9) n9 ((V++[x]).flatMap paC)∧Below B W W9∧(∀ b o,W.heap[b]?=some o→(Value.slice p n c).ownBlock≠some b→W9.heap[b]?=some o):=by
 subst hn
 subst h9
 obtain ⟨i0,hi,hz0,hz1,hz2⟩:=info_parts info_pa
 obtain ⟨q,c9,W9,hr,o9,b9,kp,-⟩:=pushR9 (W:=W) (TS:=49) (cs:=(paC x).toArray) Tryz.underlying49 hi hz0 hz1 hz2 rfl (by decide) h hB rfl (paC_one x) hO (by omega)
 refine ⟨q,c9,W9,hr,?_,b9,kp⟩
 rw [List.flatMap_append]
 simpa using o9
structure SMJ (w:World) (b9 b7 D l S:Nat) (k:Int) (R:Loop) (o:List WY) (W:World):Prop where
 bx:∃ (q:Option Addr) (c:Nat) (V:List (WY×PV)),V.map Prod.fst=o∧W.heap[b9]?=some (.cells #[.slice q o.length c] 49 (0,0))∧W.ownsRow S 52 3 (.slice q o.length c) o.length (V.flatMap paC)∧∀ x∈V,PL W x
 kb:W.heap[b7]?=some (.cells #[.int .i64 k] 3 (0,0))
 df:W.heap[D]?=some (.deferred (some []))
 lp:W.heap[l]?=some (.loop R)
 be:Below w.heap.size w W
 sz:S≤W.heap.size
theorem SMJ.below {w:World} {b9 b7 D l S:Nat} {k:Int} {R:Loop} {o:List WY} {W U:World} (h:SMJ w b9 b7 D l S k R o W) (hb:Below W.heap.size W U):SMJ w b9 b7 D l S k R o U:=by
 obtain ⟨⟨q,c,V,h1,h2,h3,h4⟩,kb,df,lp,be,sz⟩:=h
 exact ⟨⟨q,c,V,h1,keepZ hb h2,own_belZ h3 hb,fun x hx=>(h4 x hx).below hb⟩,keepZ hb kb,keepZ hb df,keepZ hb lp,bel0Z be hb,Nat.le_trans sz hb.size⟩
theorem SMJ.loop {w:World} {b9 b7 D l S:Nat} {k:Int} {R:Loop} {o:List WY} {W:World} (h:SMJ w b9 b7 D l S k R o W) (R':Loop) (hl:w.heap.size≤l) (hlS:l < S):SMJ w b9 b7 D l S k R' o (W.putObj l (.loop R')):=by
 obtain ⟨⟨q,c,V,h1,h2,h3,h4⟩,kb,df,lp,be,sz⟩:=h
 have hne:∀ (b:Nat) (cs:Array Value) (T:TypeId) (fr:Nat×Nat),W.heap[b]?=some (.cells cs T fr)→b≠l:=fun b cs T fr hb e=>by
  rw [e,lp] at hb
  cases hb
 refine ⟨⟨q,c,V,h1,put_otherZ h2 (hne _ _ _ _ h2),World.ownsRow.kept h3 (grownBy_putObj' W _ _) (.inr (fun e=>by have:=(World.ownsRow.lt h3 _ e).1;omega)),fun x hx=>(h4 x hx).kp (fun b cs fr hb=>put_otherZ hb (hne _ _ _ _ hb))⟩,put_otherZ kb (hne _ _ _ _ kb),put_otherZ df (fun e=>by rw [e,lp] at df;cases df),World.putObj_heap_same (lt_getZ lp),be.grown (grownBy_putObj' W l _) be.size (fun x e=>by cases e;exact hl),by simpa using sz⟩
theorem kq_loop {L:List TypeId} {W:World} {l:Nat} {R:Loop} (h:W.heap[l]?=some (.loop R)) (o:Obj):KQ L W (W.putObj l o):=fun b T cur fr _ hb=>put_otherZ hb (fun e=>by rw [e,h] at hb;cases hb)
theorem walk_any {A:List WY} {J:List WY→World→Prop} {Jx:World→Prop} {l m:Nat} (hJ:JW J Jx) (hY:YLW A J Jx l m) (n:NN) (v:NV) (np nt ng:Nat) (hops:Int) (hV:NetP n) (hh:hops≤64) (hnp:n.ports.length=np) (hnt:n.tabs.length=nt) (hng:n.grds.length=ng):∀ (f:Nat) (y:WY×WV) (o:List WY) (U:World),J o U→NK U n v→WYP n hops 0 y.1→hops≤(y.1.es.length:Int)+f→WL U y→(o++wlkM n hops f y.1) <+: A→
  Calls Tryz.prog 50 #[.agg #[.slice v.pp np v.cp,.slice v.pt nt v.ct,.slice v.pg ng v.cg],.agg (wyC y).toArray,.int .i64 hops,.func (.yield l) #[] #[]] U (WKQ J Jx o (wlkM n hops f y.1) U):=by
 intro f
 induction f with
 | zero=>
  intro y o U hj hW hY9 hf hL hA
  have h0:onwM n hops (endM n y.1)=[]:=(wlk_whole hV 0 y.1 (endM n y.1) hY9 hf (by simp [wlkM])).2.1
  have hA':(o++(if (onwM n hops (endM n y.1)).length=0 then [endM n y.1] else (onwM n hops (endM n y.1)).flatMap (fun _=>[]))) <+: A:=by
   rw [h0]
   exact hA
  have h:=walk_step hJ hY n v np nt ng hops (fun _=>[]) y o U hV hh hnp hnt hng (fun x o9 W hx=>by rw [h0] at hx;cases hx) hj hW hY9 hL hA'
  rw [h0] at h
  exact h
 | succ f ih=>
  intro y o U hj hW hY9 hf hL hA
  obtain ⟨h1,h2,-⟩:=wyp_end hV hY9
  have h:=walk_step hJ hY n v np nt ng hops (wlkM n hops f) y o U hV hh hnp hnt hng (fun x o9 W hx hj9 hW9 hL9 hA9=>by
   obtain ⟨h3,h4⟩:=wyp_onw hV h1 hx
   exact ih x o9 W hj9 hW9 h3 (by rw [h4,h2];omega) hL9 hA9) hj hW hY9 hL hA
  exact h
theorem pth_no {n:NN} {s:Int×List UInt8} {hops:Int} (h:¬((NetP n∧StP n s)∧HOK hops)):pthM n s hops=[]:=by
 unfold pthM
 rw [if_neg]
 rintro ⟨h1,h2⟩
 exact h ⟨pb_iff.1 h1,h2⟩
theorem pth_yes {n:NN} {s:Int×List UInt8} {hops:Int} (h:(NetP n∧StP n s)∧HOK hops):pthM n s hops=wlkM n hops hops.toNat (alnM s):=by
 unfold pthM
 rw [if_pos ⟨pb_iff.2 h.1,h.2⟩]
set_option maxRecDepth 100000 in
set_option maxHeartbeats 16000000 in
theorem seq2_any {J:List WY→World→Prop} {Jx:World→Prop} {l m:Nat} (n:NN) (np nt ng:Nat) (s:Int×List UInt8) (hops:Int) (b7 b8 b5:Nat) (p1 p2 p3:Option Addr) (c1 c2 c3:Nat) (wv:WV) (w:World) (hP:(NetP n∧StP n s)∧HOK hops) (hJ:JW J Jx) (hY:YLW (pthM n s hops) J Jx l m) (hnp:n.ports.length=np) (hnt:n.tabs.length=nt) (hng:n.grds.length=ng)
  (hj:J [] w) (k7:w.heap[b7]?=some (.cells #[.slice p1 np c1,.slice p2 nt c2,.slice p3 ng c3] 72 (0,0))) (k8:w.heap[b8]?=some (.cells (wyC (alnM s,wv)).toArray 114 (0,0))) (k5:w.heap[b5]?=some (.cells #[.int .i64 hops] 3 (0,0))) (hW:NK w n ⟨p1,c1,p2,c2,p3,c3⟩) (hL:WL w (alnM s,wv)) :
  Calls Tryz.prog 49 #[.func (.yield l) #[] #[],.pointer (some ⟨b7,0,none⟩),.pointer (some ⟨b8,0,none⟩),.pointer (some ⟨b5,0,none⟩)] w fun e w'=>(∃ v,e=.returned v)∧(J (pthM n s hops) w'∨Jx w'):=by
 obtain ⟨p,h⟩:=s
 obtain ⟨q1,e1,q2,e2⟩:=wv
 obtain ⟨a0,a1,a2,a3,a4,a5,a6,a7,a8,h9⟩:=c9_ex h
 have e9:(wyC (alnM (p,h),(⟨q1,e1,q2,e2⟩:WV))).toArray=#[.slice q1 1 e1,.slice q2 0 e2,.int .i64 a0,.int .u64 a1,.int .u64 a2,.int .u64 a3,.int .u64 a4,.int .u64 a5,.int .u64 a6,.int .u64 a7,.int .u64 a8]:=wyC_arr (ps:=[p]) (es:=[]) (hd:=h) h9 rfl rfl
 have hwk:=walk_any hJ hY n ⟨p1,c1,p2,c2,p3,c3⟩ np nt ng hops hP.1.1 hP.2.2 hnp hnt hng hops.toNat (alnM (p,h),⟨q1,e1,q2,e2⟩) [] w hj hW (wyp_aln hP.1.2 hP.2.1) (by have:=hP.2.1;show hops≤((0:Nat):Int)+_;omega) hL (by rw [List.nil_append];rw [pth_yes hP];exact List.prefix_refl _)
 rw [e9] at hwk k8
 simp only at hwk
 rw [←pth_yes hP] at hwk
 have HWK:=hideL hwk
 have z7:=(cellsZ k7).1
 have z8:=(cellsZ k8).1
 have z5:=(cellsZ k5).1
 obtain ⟨q9,q10,q11⟩:w.cell? ⟨b7,0,none⟩=some (.slice p1 np c1)∧w.cell? ⟨b7,1,none⟩=some (.slice p2 nt c2)∧w.cell? ⟨b7,2,none⟩=some (.slice p3 ng c3):=⟨by rw [z7];rfl,by rw [z7];rfl,by rw [z7];rfl⟩
 obtain ⟨r0,r1,r2,r3,r4,r5,r6,r7,r8,r9,r10⟩:w.cell? ⟨b8,0,none⟩=some (.slice q1 1 e1)∧w.cell? ⟨b8,1,none⟩=some (.slice q2 0 e2)∧w.cell? ⟨b8,2,none⟩=some (.int .i64 a0)∧w.cell? ⟨b8,3,none⟩=some (.int .u64 a1)∧w.cell? ⟨b8,4,none⟩=some (.int .u64 a2)∧w.cell? ⟨b8,5,none⟩=some (.int .u64 a3)∧w.cell? ⟨b8,6,none⟩=some (.int .u64 a4)∧w.cell? ⟨b8,7,none⟩=some (.int .u64 a5)∧w.cell? ⟨b8,8,none⟩=some (.int .u64 a6)∧w.cell? ⟨b8,9,none⟩=some (.int .u64 a7)∧w.cell? ⟨b8,10,none⟩=some (.int .u64 a8):=⟨by rw [z8];rfl,by rw [z8];rfl,by rw [z8];rfl,by rw [z8];rfl,by rw [z8];rfl,by rw [z8];rfl,by rw [z8];rfl,by rw [z8];rfl,by rw [z8];rfl,by rw [z8];rfl,by rw [z8];rfl⟩
 have t0:w.cell? ⟨b5,0,none⟩=some (.int .i64 hops):=by rw [z5];rfl
 clear hwk hP hJ hY hnp hnt hng hj k7 k8 k5 hW hL h9 e9 z7 z8 z5
 go_enter Tryz.func49,Tryz.ntmps49
 go_wp2_with fail
 refine (HWK.out).mono ?_
 rintro e W ⟨-,⟨rfl,hj9⟩ | ⟨rfl,hx9⟩⟩
 ·have HF:Hid (J (pthM n (p,h) hops) W∨Jx W):=.inl (by rw [List.nil_append] at hj9;exact hj9)
  clear hj9
  go_wp2_with fail
  exact ⟨rfl,_,results_none rfl _ _ _,⟨_,rfl⟩,HF.out⟩
 ·have HF:Hid (J (pthM n (p,h) hops) W∨Jx W):=.inr hx9
  clear hx9
  go_wp2_with fail
  exact ⟨rfl,_,results_none rfl _ _ _,⟨_,rfl⟩,HF.out⟩
theorem seq1_any (l:Nat) (w:World):Calls Tryz.prog 47 #[.func (.yield l) #[] #[]] w fun e w'=>(∃ v,e=.returned v)∧w'=w:=by
 go_enter Tryz.func47,Tryz.ntmps47
 go_wp2_with fail
 exact ⟨rfl,_,results_none rfl _ _ _,⟨_,rfl⟩,rfl⟩
def SMQ (n:NN) (s:Int×List UInt8) (hops k:Int) (w:World) (e:Ending) (w':World):Prop:=∃ (q:Option Addr) (c:Nat) (V:List (WY×PV)),V.map Prod.fst=(pthM n s hops).take k.toNat∧e=.returned (.slice q V.length c)∧RowL 3 paC w' q V∧(∀ x∈V,PL w' x)∧Below w.heap.size w w'
theorem pre_take2 {A o:List WY} {k:Nat} (h:o <+: A) (hk:o.length=k):o=A.take k:=by
 obtain ⟨t,rfl⟩:=h
 rw [←hk]
 simp
theorem SMJ.push {w V W9:World} {b9 b7 D l S m m1 cv c9:Nat} {k:Int} {R:Loop} {o:List WY} {x:WY} {v:PV} {Vs:List (WY×PV)} {pv q:Option Addr} (hm:o.length=m) (hm1:m+1=m1) (hVs:Vs.map Prod.fst=o) (h2:V.heap[b9]?=some (.cells #[.slice pv m cv] 49 (0,0))) (h3:V.ownsRow S 52 3 (.slice pv m cv) m (Vs.flatMap paC)) (h4:∀ y∈Vs,PL V y)
  (kb:V.heap[b7]?=some (.cells #[.int .i64 k] 3 (0,0))) (df:V.heap[D]?=some (.deferred (some []))) (lp:V.heap[l]?=some (.loop R)) (be:Below w.heap.size w V) (hx:PL V (x,v)) (h9S:w.heap.size≤b9) (hS:b9 < S∧D < S∧l < S∧w.heap.size≤S∧S≤V.heap.size)
  (o9:W9.ownsRow S 52 3 (.slice q m1 c9) m1 ((Vs++[(x,v)]).flatMap paC)) (g9:Below S V W9) (kp:∀ b o,V.heap[b]?=some o→(Value.slice pv m cv).ownBlock≠some b→W9.heap[b]?=some o) :
  SMJ w b9 b7 D l S k R (o++[x]) (W9.setCell ⟨b9,0,none⟩ (.slice q m1 c9))∧KQ KTY V (W9.setCell ⟨b9,0,none⟩ (.slice q m1 c9))∧W9.heap[b9]?=some (.cells #[.slice pv m cv] 49 (0,0))∧V.heap.size≤(W9.setCell ⟨b9,0,none⟩ (.slice q m1 c9)).heap.size∧(W9.setCell ⟨b9,0,none⟩ (.slice q m1 c9)).heap[b7]?=some (.cells #[.int .i64 k] 3 (0,0)):=by
 have hlt:∀ b,b < S→(Value.slice pv m cv).ownBlock≠some b:=fun b hb e=>by have:=(World.ownsRow.lt h3 b e).1;omega
 have k9:=kp b9 _ h2 (hlt b9 hS.1)
 have kd:=kp D _ df (hlt D hS.2.1)
 have kl:=kp l _ lp (hlt l hS.2.2.1)
 have hkq:∀ (b:Nat) (cs:Array Value) (T:TypeId) (fr:Nat×Nat),T≠52→T≠49→V.heap[b]?=some (.cells cs T fr)→(W9.setCell ⟨b9,0,none⟩ (.slice q m1 c9)).heap[b]?=some (.cells cs T fr):=fun b cs T fr h1 h2' hb=>by
  have e1:=kp b _ hb (own_neT h3 hb (fun e=>h1 e.symm))
  rw [far1 _ _ _ _ _ (fun e=>by
   rw [e,k9] at e1
   simp only [Option.some.injEq,Obj.cells.injEq] at e1
   exact h2' e1.2.1.symm)]
  exact e1
 have hK:KQ KTY V (W9.setCell ⟨b9,0,none⟩ (.slice q m1 c9)):=fun b T cs fr hT hb=>hkq b cs T fr (fun e=>by rw [e] at hT;exact absurd hT (by decide)) (fun e=>by rw [e] at hT;exact absurd hT (by decide)) hb
 have hrow:(W9.setCell ⟨b9,0,none⟩ (.slice q m1 c9)).ownsRow S 52 3 (.slice q m1 c9) m1 ((Vs++[(x,v)]).flatMap paC):=World.ownsRow.kept o9 (gr_setZ W9 b9 0 _) (.inr (fun e=>by have:=(World.ownsRow.lt o9 _ e).1;omega))
 have hlen:(o++[x]).length=m1:=by rw [List.length_append,hm,List.length_singleton,hm1]
 refine ⟨⟨⟨q,c9,Vs++[(x,v)],by rw [List.map_append,hVs];rfl,?_,by rw [hlen];exact hrow,fun y hy=>?_⟩,hkq b7 _ _ _ (by decide) (by decide) kb,?_,?_,?_,?_⟩,hK,k9,?_,hkq b7 _ _ _ (by decide) (by decide) kb⟩
 ·rw [hlen,set_getZ _ k9];rfl
 ·rcases List.mem_append.1 hy with hy | hy
  ·exact (h4 y hy).kp (fun b cs fr hb=>hkq b cs _ fr (by decide) (by decide) hb)
  ·obtain rfl:=List.mem_singleton.1 hy
   exact hx.kp (fun b cs fr hb=>hkq b cs _ fr (by decide) (by decide) hb)
 ·rw [far1 _ _ _ _ _ (fun e=>by rw [e,k9] at kd;cases kd)];exact kd
 ·rw [far1 _ _ _ _ _ (fun e=>by rw [e,k9] at kl;cases kl)];exact kl
 ·exact (be.trans (g9.mono hS.2.2.2.1)).setCell (p:=⟨b9,0,none⟩) h9S _
 ·have:=g9.size;simp;omega
 ·have:=g9.size;simp;omega
attribute [local go_sem] Oper.semAt_some
set_option maxRecDepth 100000 in
set_option maxHeartbeats 16000000 in
theorem some_any (n:NN) (v:NV) (s9:Int×List UInt8) (hops k:Int) (w:World) (hN:LN w n v) (hO:okN n) (hT:TAB w) (hh:okS s9.2) (hk9:k≤100000) :
  Calls Tryz.prog 16 #[.agg (nnA n v),.agg #[.int .i64 s9.1,.string ⟨s9.2.toArray⟩],.int .i64 hops,.int .i64 k] w (SMQ n s9 hops k w):=by
 have hpt:=fun (U:World) (hU:Below w.heap.size w U)=>paths_any n v s9 hops U (hN.below hU) hO (hT.at hU) hh
 obtain ⟨np,hnp⟩:∃ np,n.ports.length=np:=⟨_,rfl⟩
 obtain ⟨nt,hnt⟩:∃ nt,n.tabs.length=nt:=⟨_,rfl⟩
 obtain ⟨ng,hng⟩:∃ ng,n.grds.length=ng:=⟨_,rfl⟩
 obtain ⟨bits,hbits⟩:∃ bits,n.bits=bits:=⟨_,rfl⟩
 obtain ⟨pp,cp,pt,ct,pg,cg⟩:=v
 have hE:nnA n ⟨pp,cp,pt,ct,pg,cg⟩=#[.int .i64 bits,.slice pp np cp,.slice pt nt ct,.slice pg ng cg]:=by unfold nnA;rw [hnp,hnt,hng,hbits]
 rw [hE] at hpt ⊢
 rw [hnp,hnt,hng] at hpt
 obtain ⟨A,hA⟩:∃ A,pthM n s9 hops=A:=⟨_,rfl⟩
 have HSM:Hid (∀ e w',(∃ (q:Option Addr) (c:Nat) (V:List (WY×PV)),V.map Prod.fst=A.take k.toNat∧e=.returned (.slice q V.length c)∧RowL 3 paC w' q V∧(∀ x∈V,PL w' x)∧Below w.heap.size w w')→SMQ n s9 hops k w e w'):=fun e w' h=>by
  unfold SMQ
  rw [hA]
  exact h
 have HA:Hid (pthM n s9 hops=A):=hA
 obtain ⟨C,hC⟩:∃ C:Prop,((NetP n∧StP n s9)∧HOK hops)=C:=⟨_,rfl⟩
 have HNO:Hid (¬C→A=[]):=fun h=>by rw [←hA];exact pth_no (by rw [hC];exact h)
 have HCC:Hid (C→(NetP n∧StP n s9)∧HOK hops):=fun h=>by rw [hC];exact h
 have HNN:Hid (n.ports.length=np∧n.tabs.length=nt∧n.grds.length=ng):=⟨hnp,hnt,hng⟩
 obtain ⟨p,h⟩:=s9
 simp only at hpt hh ⊢
 unfold PTQ at hpt
 rw [hC] at hpt
 obtain ⟨B,hB⟩:∃ B,w.heap.size=B:=⟨_,rfl⟩
 obtain ⟨b2,hb2⟩:∃ b2,B+1=b2:=⟨_,rfl⟩
 obtain ⟨b7,hb7⟩:∃ b7,b2+1=b7:=⟨_,rfl⟩
 obtain ⟨b9,hb9⟩:∃ b9,b7+1=b9:=⟨_,rfl⟩
 obtain ⟨W1,hW1⟩:∃ W1,(((w.alloc (.cells #[.int .i64 bits,.slice pp np cp,.slice pt nt ct,.slice pg ng cg] 26)).alloc (.cells #[.int .i64 p,.string ⟨h.toArray⟩] 28)).alloc (.cells #[.int .i64 k] 3)).alloc (.cells #[.slice none 0 0] 49)=W1:=⟨_,rfl⟩
 have z1:(w.alloc (.cells #[.int .i64 bits,.slice pp np cp,.slice pt nt ct,.slice pg ng cg] 26)).heap.size=b2:=by rw [←hb2,←hB];exact Array.size_push _
 have z2:((w.alloc (.cells #[.int .i64 bits,.slice pp np cp,.slice pt nt ct,.slice pg ng cg] 26)).alloc (.cells #[.int .i64 p,.string ⟨h.toArray⟩] 28)).heap.size=b7:=by rw [←hb7,←z1];exact Array.size_push _
 have z3:(((w.alloc (.cells #[.int .i64 bits,.slice pp np cp,.slice pt nt ct,.slice pg ng cg] 26)).alloc (.cells #[.int .i64 p,.string ⟨h.toArray⟩] 28)).alloc (.cells #[.int .i64 k] 3)).heap.size=b9:=by rw [←hb9,←z2];exact Array.size_push _
 have b1:Below w.heap.size w W1:=by rw [←hW1];exact belAZ (belAZ (belAZ (belAZ (Below.refl _ _) _) _) _) _
 have k1:W1.heap[B]?=some (.cells #[.int .i64 bits,.slice pp np cp,.slice pt nt ct,.slice pg ng cg] 26 (0,0)):=by rw [←hW1,←hB];exact keepZ (belAZ (Below.refl _ _) _) (keepZ (belAZ (Below.refl _ _) _) (keepZ (belAZ (Below.refl _ _) _) (alloc_getZ _ _)))
 have k2:W1.heap[b2]?=some (.cells #[.int .i64 p,.string ⟨h.toArray⟩] 28 (0,0)):=by rw [←hW1,←z1];exact keepZ (belAZ (Below.refl _ _) _) (keepZ (belAZ (Below.refl _ _) _) (alloc_getZ _ _))
 have k3:W1.heap[b7]?=some (.cells #[.int .i64 k] 3 (0,0)):=by rw [←hW1,←z2];exact keepZ (belAZ (Below.refl _ _) _) (alloc_getZ _ _)
 have k4:W1.heap[b9]?=some (.cells #[.slice none 0 0] 49 (0,0)):=by rw [←hW1,←z3];exact alloc_getZ _ _
 have HPT:=hideL (hpt W1 b1)
 have e1:=(cellsZ k1).1
 have e2:=(cellsZ k2).1
 obtain ⟨q0,q1,q2,q3⟩:W1.cell? ⟨B,0,none⟩=some (.int .i64 bits)∧W1.cell? ⟨B,1,none⟩=some (.slice pp np cp)∧W1.cell? ⟨B,2,none⟩=some (.slice pt nt ct)∧W1.cell? ⟨B,3,none⟩=some (.slice pg ng cg):=⟨by rw [e1];rfl,by rw [e1];rfl,by rw [e1];rfl,by rw [e1];rfl⟩
 obtain ⟨r0,r1⟩:W1.cell? ⟨b2,0,none⟩=some (.int .i64 p)∧W1.cell? ⟨b2,1,none⟩=some (.string ⟨h.toArray⟩):=⟨by rw [e2];rfl,by rw [e2];rfl⟩
 have HK:Hid (W1.heap[b7]?=some (.cells #[.int .i64 k] 3 (0,0))∧W1.heap[b9]?=some (.cells #[.slice none 0 0] 49 (0,0))∧Below w.heap.size w W1∧w.heap.size≤b9):=⟨k3,k4,b1,by omega⟩
 have HZ1:=hideL z1
 have HZ2:=hideL z2
 have HZ3:=hideL z3
 have HB:=hideL hB
 have HB2:=hideL hb2
 have HB7:=hideL hb7
 have HB9:=hideL hb9
 have HW1:=hideL hW1
 clear hN hO hT hh hpt hE hA hC hnp hnt hng hbits hB hb2 hb7 hb9 z1 z2 z3 k1 k2 k3 k4 e1 e2 hW1
 refine (callsIn_wide (n:=8)).1 ?_
 refine callsIn_of_wp_marks Tryz.func16 rfl trivial ?_ rfl
 simp only [Tryz.ntmps16,List.size_toArray,List.length_cons,List.length_nil,Nat.reduceAdd,Nat.reduceSub,Array.replicate_succ,Array.replicate_zero,List.push_toArray,List.append_toArray,List.nil_append,List.cons_append]
 gi_upto_region 2 with fail
 simp only [HW1.out,HB.out,HB2.out,HB7.out,HB9.out]
 gi_wp2_with fail
 refine ⟨trivial,(callsIn_wide.2 HPT.out).mono ?_⟩
 rintro e W2 ⟨hy,hn,c2⟩
 have HW2:Hid (W2.heap[b7]?=some (.cells #[.int .i64 k] 3 (0,0))∧W2.heap[b9]?=some (.cells #[.slice none 0 0] 49 (0,0))∧Below w.heap.size w W2∧w.heap.size≤b9∧b9 < W2.heap.size∧b7 < W2.heap.size):=⟨keepZ c2 HK.out.1,keepZ c2 HK.out.2.1,bel0Z HK.out.2.2.1 c2,HK.out.2.2.2,by have:=lt_getZ HK.out.2.1;have:=c2.size;omega,by have:=lt_getZ HK.out.1;have:=c2.size;omega⟩
 clear q0 q1 q2 q3 r0 r1 c2 HK HPT HW1 HZ1 HZ2 HZ3 HB HB2 HB7 HB9
 have g7:=(cellsZ HW2.out.1).1 0
 have g9:=(cellsZ HW2.out.2.1).1 0
 by_cases hk0:k < 1
 ·have HF0:Hid (∃ (q:Option Addr) (c:Nat) (V:List (WY×PV)),V.map Prod.fst=A.take k.toNat∧Ending.returned (.slice none 0 0)=.returned (.slice q V.length c)∧RowL 3 paC W2 q V∧(∀ x∈V,PL W2 x)∧Below w.heap.size w W2):=⟨none,0,[],by rw [show k.toNat=0 by omega];rfl,rfl,fun j x hx=>by simp at hx,fun x hx=>by simp at hx,HW2.out.2.2.1⟩
  by_cases hC:C
  ·obtain ⟨x7,x8,x5,p1,c1,p2,c2,p3,c3,wv,rfl,-⟩:=hy hC
   have hsn:=seq_nil2 #[.pointer (some ⟨x7,0,none⟩),.pointer (some ⟨x8,0,none⟩),.pointer (some ⟨x5,0,none⟩)]
   clear hy hn hC
   gi_wp2_with fail
   refine ⟨_,results_tmp rfl _ _ _,?_⟩
   show SMQ n (p,h) hops k w (.returned (.slice none 0 0)) W2
   exact HSM.out _ _ HF0.out
  ·obtain rfl:=hn hC
   have hsn:=seq_nil1 #[]
   clear hy hn hC
   gi_wp2_with fail
   refine ⟨_,results_tmp rfl _ _ _,?_⟩
   show SMQ n (p,h) hops k w (.returned (.slice none 0 0)) W2
   exact HSM.out _ _ HF0.out
 ·obtain ⟨D,hD⟩:∃ D,W2.heap.size=D:=⟨_,rfl⟩
  obtain ⟨l,hl⟩:∃ l,D+1=l:=⟨_,rfl⟩
  obtain ⟨S,hS⟩:∃ S,l+1=S:=⟨_,rfl⟩
  have HDS:Hid (W2.heap.size=D∧D+1=l∧l+1=S):=⟨hD,hl,hS⟩
  have hk1:¬k < 1:=hk0
  by_cases hC:C
  ·obtain ⟨x7,x8,x5,p1,c1,p2,c2,p3,c3,wv,rfl,m7,m8,m5,nk,wl⟩:=hy hC
   have hsn:=seq_nil2 #[.pointer (some ⟨x7,0,none⟩),.pointer (some ⟨x8,0,none⟩),.pointer (some ⟨x5,0,none⟩)]
   have HM:=hideL m7
   have HM8:=hideL m8
   have HM5:=hideL m5
   have HNK:=hideL nk
   have HWL:=hideL wl
   clear hy hn hD hl hS m7 m8 m5 nk wl
   gi_wp2_with fail
   refine range_by1 (id:=0) rfl (by omega) (gf:=49) (lb:=#[.pointer (some ⟨x7,0,none⟩),.pointer (some ⟨x8,0,none⟩),.pointer (some ⟨x5,0,none⟩)]) rfl trivial (enters_of Tryz.func49 (by kernel_rfl) rfl) (fun _ _ h=>wpIn_exit h) ?_
   intro fn hfn
   simp only [HDS.out.1,HDS.out.2.1]
   generalize hR:recOf fn _ _ _ _ _=R
   have rs:R.state=.ready:=by rw [←hR];rfl
   have rp:R.pending=none:=by rw [←hR];rfl
   have rf:R.fn=fn:=by rw [←hR];rfl
   have rq:R.params=#[24]:=by rw [←hR];rfl
   obtain ⟨X,hX⟩:∃ X,(W2.alloc (.deferred (some []))).alloc (.loop R)=X:=⟨_,rfl⟩
   have xz:(W2.alloc (.deferred (some []))).heap.size=l:=by rw [←HDS.out.2.1,←HDS.out.1];exact Array.size_push _
   have xb:Below W2.heap.size W2 X:=by rw [←hX];exact belAZ (belAZ (Below.refl _ _) _) _
   have x1:X.heap[D]?=some (.deferred (some [])):=by rw [←hX,←HDS.out.1];exact keepZ (belAZ (Below.refl _ _) _) (alloc_getZ _ _)
   have x2:X.heap[l]?=some (.loop R):=by rw [←hX,←xz];exact alloc_getZ _ _
   have xs:S≤X.heap.size:=by have:=lt_getZ x2;have:=HDS.out.2.2;omega
   have q0:SMJ w b9 b7 D l S k R [] X:=⟨⟨none,0,[],rfl,keepZ xb HW2.out.2.1,World.ownsRow_nil _ _ _ _,fun x hx=>by simp at hx⟩,keepZ xb HW2.out.1,x1,x2,bel0Z HW2.out.2.2.1 xb,xs⟩
   have HL:Hid (w.heap.size≤l∧l < S∧D < S∧b9 < S∧b7 < S∧w.heap.size≤b9∧w.heap.size≤S∧w.heap.size≤D∧b9≠D∧b9≠l):=by
    obtain ⟨h1,h2,h3⟩:=HDS.out
    obtain ⟨-,-,h4,h5,h6,h7⟩:=HW2.out
    have:=h4.size
    exact ⟨by omega,by omega,by omega,by omega,by omega,by omega,by omega,by omega,by omega,by omega⟩
   rw [hX]
   clear hX xz
   have HFIN:Hid (∀ (r:Loop) (o:List WY) (W:World),SMJ w b9 b7 D l S k r o W→o=A.take k.toNat→∃ (q:Option Addr) (c:Nat),(W.putObj l (.loop { r with state:=.exhausted })).cell? ⟨b9,0,none⟩=some (.slice q o.length c)∧(W.putObj l (.loop { r with state:=.exhausted })).heap[D]?=some (.deferred (some []))∧∃ V:List (WY×PV),V.map Prod.fst=A.take k.toNat∧Ending.returned (.slice q o.length c)=.returned (.slice q V.length c)∧RowL 3 paC ((W.putObj l (.loop { r with state:=.exhausted })).putObj D (.deferred none)) q V∧(∀ x∈V,PL ((W.putObj l (.loop { r with state:=.exhausted })).putObj D (.deferred none)) x)∧Below w.heap.size w ((W.putObj l (.loop { r with state:=.exhausted })).putObj D (.deferred none))):=by
    intro r o W hq ho
    have q2:=hq.loop { r with state:=.exhausted } HL.out.1 HL.out.2.1
    obtain ⟨⟨q,c,V,v1,v2,v3,v4⟩,kb,df,lp,be,sz⟩:=q2
    have hlen:o.length=V.length:=by rw [←v1,List.length_map]
    refine ⟨q,c,(cellsZ v2).1 0,df,V,by rw [v1,ho],by rw [hlen],?_,fun x hx=>(v4 x hx).kp (fun b cs fr hb=>put_otherZ hb (fun e=>by rw [e,df] at hb;cases hb)),be.grown (grownBy_putObj' _ D _) be.size (fun x e=>by cases e;exact HL.out.2.2.2.2.2.2.2.1)⟩
    exact own_rowL paC_len (World.ownsRow.kept v3 (grownBy_putObj' _ _ _) (.inr (fun e=>by have:=(World.ownsRow.lt v3 _ e).1;have:=HL.out.2.2.1;omega))) hlen.symm
   have hJW:JW (fun o W=>SMJ w b9 b7 D l S k R o W∧(o.length:Int) < k) (fun W=>∃ r o,r.state=.done∧r.pending=some (.exit 0)∧SMJ w b9 b7 D l S k r o W∧o <+: A∧(o.length:Int)=k):=⟨fun o W W' h hb=>⟨h.1.below hb,h.2⟩,fun W W' h hb=>by
    obtain ⟨r,o,h1,h2,h3,h4⟩:=h
    exact ⟨r,o,h1,h2,h3.below hb,h4⟩⟩
   have hY:YLW A (fun o W=>SMJ w b9 b7 D l S k R o W∧(o.length:Int) < k) (fun W=>∃ r o,r.state=.done∧r.pending=some (.exit 0)∧SMJ w b9 b7 D l S k r o W∧o <+: A∧(o.length:Int)=k) l 6:=by
    intro o W x v hj hx hpa
    obtain ⟨hj,hlt⟩:=hj
    obtain ⟨mm,hmm⟩:∃ m,o.length=m:=⟨_,rfl⟩
    obtain ⟨m1,hm1⟩:∃ m1,mm+1=m1:=⟨_,rfl⟩
    obtain ⟨n1,hn1⟩:∃ n1,x.ps.length=n1:=⟨_,rfl⟩
    obtain ⟨n2,hn2⟩:∃ n2,x.es.length=n2:=⟨_,rfl⟩
    obtain ⟨t,ht⟩:∃ t,x.hd=t:=⟨_,rfl⟩
    obtain ⟨u1,e1,u2,e2⟩:=v
    have e9:(paC (x,(⟨u1,e1,u2,e2⟩:PV))).toArray=#[.slice u1 n1 e1,.slice u2 n2 e2,.string ⟨t.toArray⟩]:=by
     show #[Value.slice u1 x.ps.length e1,.slice u2 x.es.length e2,.string ⟨x.hd.toArray⟩]=_
     rw [hn1,hn2,ht]
    rw [e9]
    obtain ⟨W1,hW1⟩:∃ W1,W.alloc (.cells #[.slice u1 n1 e1,.slice u2 n2 e2,.string ⟨t.toArray⟩] 52 (0,0))=W1:=⟨_,rfl⟩
    have hB1:Below W.heap.size W W1:=by rw [←hW1];exact belAZ (Below.refl _ _) _
    have hg1:W1.heap[W.heap.size]?=some (.cells #[.slice u1 n1 e1,.slice u2 n2 e2,.string ⟨t.toArray⟩] 52 (0,0)):=by rw [←hW1];exact alloc_getZ _ _
    have hj1:=hj.below hB1
    have hlp:=hj.lp
    have hlp1:=hj1.lp
    have hlW:=lt_getZ hj.lp
    have HJ0:Hid (SMJ w b9 b7 D l S k R o W1∧PL W (x,⟨u1,e1,u2,e2⟩)∧(o++[x]) <+: A∧Below W.heap.size W W1∧W1.heap[W.heap.size]?=some (.cells #[.slice u1 n1 e1,.slice u2 n2 e2,.string ⟨t.toArray⟩] 52 (0,0))∧o.length=mm∧mm+1=m1∧(paC (x,(⟨u1,e1,u2,e2⟩:PV))).toArray=#[.slice u1 n1 e1,.slice u2 n2 e2,.string ⟨t.toArray⟩]∧(o.length:Int) < k):=⟨hj1,hx,hpa,hB1,hg1,hmm,hm1,e9,hlt⟩
    clear hj hx hpa hj1 hB1 hg1 hmm hm1 hn1 hn2 ht e9 hlt q0 x1 x2 xb hJW HFIN
    refine (round_byA (F:=Fence.wide) (m:=6) (In:=fun W'=>(KQ KTY W W'∧W.heap.size≤W'.heap.size)∧(SMJ w b9 b7 D l S k R (o++[x]) W'∧((o++[x]).length:Int) < k)) (Out:=fun _ W'=>(KQ KTY W W'∧W.heap.size≤W'.heap.size)∧∃ r o,r.state=.done∧r.pending=some (.exit 0)∧SMJ w b9 b7 D l S k r o W'∧o <+: A∧(o.length:Int)=k) (by rw [rf];exact hfn) hlp rs rp (by rw [rq];rfl) ?aHY W1 hlp1 ?hasHY ?hbHY).mono ?_
    case hasHY=>
     intro K hK
     rw [congrArg Loop.assign hR.symm,rq,congrArg Loop.tmps hR.symm]
     simp only [recOf,List.zip_toArray,List.zip_cons_cons,List.zip_nil_right,List.foldl_toArray',List.foldl_cons,List.foldl_nil,List.setIfInBounds_toArray,List.size_toArray,List.length_cons,List.length_nil,List.set_cons_zero,List.set_cons_succ]
     gi_wp2
     exact hK
    case hbHY=>
     obtain ⟨hj1,hx,hpa,hB1,hg1,hmm,hm1,e9,hlt⟩:=HJ0.out
     have qb:=hj1.loop { R with state:=.busy } HL.out.1 HL.out.2.1
     have hgb:(W1.putObj l (.loop { R with state:=.busy })).heap[W.heap.size]?=some (.cells #[.slice u1 n1 e1,.slice u2 n2 e2,.string ⟨t.toArray⟩] 52 (0,0)):=put_otherZ hg1 (by omega)
     have hKQ0:KQ KTY W (W1.putObj l (.loop { R with state:=.busy })):=(KQ.below hB1).trans (kq_loop hlp1 _)
     have hsz0:W.heap.size≤(W1.putObj l (.loop { R with state:=.busy })).heap.size:=by have:=hB1.size;simpa using this
     obtain ⟨V,hV⟩:∃ V,W1.putObj l (.loop { R with state:=.busy })=V:=⟨_,rfl⟩
     rw [hV] at qb hgb hKQ0 hsz0 ⊢
     rw [congrArg Loop.body hR.symm]
     simp only [recOf]
     obtain ⟨⟨q,c,Vs,v1,v2,v3,v4⟩,kb,df,lp,be,sz⟩:=qb
     rw [hmm] at v2 v3
     have hxV:PL V (x,⟨u1,e1,u2,e2⟩):=hx.kp (kq_int hKQ0)
     obtain ⟨q9,c9,W9,hr9,o9,g9,kp9⟩:=pushP (x:=(x,(⟨u1,e1,u2,e2⟩:PV))) e9 v3 sz hm1 (by omega)
     obtain ⟨hSM,hK9,k9,hs9,k7⟩:=SMJ.push hmm hm1 v1 v2 v3 v4 kb df lp be hxV HL.out.2.2.2.2.2.1 ⟨HL.out.2.2.2.1,HL.out.2.2.1,HL.out.2.1,HL.out.2.2.2.2.2.2.1,sz⟩ o9 g9 kp9
     have m9:=set_getZ (j:=0) (.slice q9 m1 c9) k9
     obtain ⟨W10,hW10⟩:∃ W,W9.setCell ⟨b9,0,none⟩ (.slice q9 m1 c9)=W:=⟨_,rfl⟩
     rw [hW10] at hSM hK9 hs9 k7 m9
     have t9:W10.cell? ⟨b9,0,none⟩=some (.slice q9 m1 c9):=(cellsZ m9).1 0
     have t7:=(cellsZ k7).1 0
     have y9:=(cellsZ k9).1 0
     have f9:=(cellsZ k9).2 0
     have d9:=(cellsZ v2).1 0
     have eb:=(cellsZ hgb).1
     have d0:V.cell? ⟨W.heap.size,0,none⟩=some (.slice u1 n1 e1):=by rw [eb];rfl
     have d1:V.cell? ⟨W.heap.size,1,none⟩=some (.slice u2 n2 e2):=by rw [eb];rfl
     have d2:V.cell? ⟨W.heap.size,2,none⟩=some (.string ⟨t.toArray⟩):=by rw [eb];rfl
     have HSS:Hid (SMJ w b9 b7 D l S k { R with state:=.busy } (o++[x]) W10∧KQ KTY W W10∧W.heap.size≤W10.heap.size∧(o++[x]) <+: A∧(o++[x]).length=m1):=⟨hSM,hKQ0.trans hK9,Nat.le_trans hsz0 hs9,hpa,by rw [List.length_append,hmm,List.length_singleton,hm1]⟩
     have HLK:Hid ((mm:Int) < k∧mm+1=m1):=⟨by rw [←hmm];exact hlt,hm1⟩
     have HRR:Hid (∀ r,(W10.putObj l (.loop r)).heap.size=W10.heap.size):=fun r=>by simp
     clear hx hpa hj1 hlp hlp1 hB1 hg1 hgb hKQ0 hsz0 v1 v2 v3 v4 kb df lp be sz hxV o9 g9 kp9 hSM hK9 hs9 k7 k9 m9 eb hV hmm hm1 e9 hlt hW1
     by_cases hkk:(m1:Int)=k
     ·have hbq:((m1:Int)==k)=true:=by simpa using hkk
      gi_wp2_with (gi_at_builtin;refine wpListIn_runZ rfl _ _ _ rfl rfl rfl hr9 ?_)
      exact ⟨HSS.out.1.lp,⟨HSS.out.2.1.trans (kq_loop HSS.out.1.lp _),by rw [HRR.out];exact HSS.out.2.2.1⟩,_,o++[x],rfl,rfl,HSS.out.1.loop _ HL.out.1 HL.out.2.1,HSS.out.2.2.2.1,by rw [HSS.out.2.2.2.2];exact hkk⟩
     ·have hbq:((m1:Int)==k)=false:=by simpa using hkk
      gi_wp2_with (gi_at_builtin;refine wpListIn_runZ rfl _ _ _ rfl rfl rfl hr9 ?_)
      exact ⟨HSS.out.1.lp,⟨HSS.out.2.1.trans (kq_loop HSS.out.1.lp _),by rw [HRR.out];exact HSS.out.2.2.1⟩,HSS.out.1.loop _ HL.out.1 HL.out.2.1,by rw [HSS.out.2.2.2.2];have:=HLK.out;omega⟩
    rintro e W' (⟨he,h1,h2⟩ | ⟨he,cc,h1,h2⟩)
    ·exact ⟨h1,.inl ⟨he,h2⟩⟩
    ·exact ⟨h1,.inr ⟨he,h2⟩⟩
   have hgo:=seq2_any n np nt ng (p,h) hops x7 x8 x5 p1 p2 p3 c1 c2 c3 wv X (HCC.out hC) hJW (by rw [HA.out];exact hY) HNN.out.1 HNN.out.2.1 HNN.out.2.2 ⟨q0,by simp;omega⟩ (keepZ xb HM.out) (keepZ xb HM8.out) (keepZ xb HM5.out) (HNK.out.below xb) (HWL.out.below xb)
   rw [HA.out] at hgo
   refine (callsIn_wide.2 hgo).mono ?_
   rintro e W ⟨hv,hq⟩
   have hq9:∃ (r:Loop) (o:List WY),r.state≠.busy∧(r.pending=none∨r.pending=some (.exit 0))∧SMJ w b9 b7 D l S k r o W∧o=A.take k.toNat:=by
    rcases hq with ⟨hq,hlt⟩ | ⟨r,o,h1,h2,h3,h4,h5⟩
    ·exact ⟨R,A,(fun e=>by rw [rs] at e;cases e),.inl rp,hq,(List.take_of_length_le (by omega)).symm⟩
    ·exact ⟨r,o,(fun e=>by rw [h1] at e;cases e),.inr h2,h3,pre_take2 h4 (by omega)⟩
   clear hq hgo hY hJW q0 x1 x2 xb
   obtain ⟨r,o,h1,h2,h3,h4⟩:=hq9
   obtain ⟨q,c,d9,dd,V,hV⟩:=HFIN.out r o W h3 h4
   refine ⟨hv,r,h3.lp,h1,h2,?_⟩
   obtain ⟨V9,hV9⟩:∃ V,W.putObj l (.loop { r with state:=.exhausted })=V:=⟨_,rfl⟩
   rw [hV9] at d9 dd hV ⊢
   have HDD:=hideL dd
   have HVV:=hideL hV
   clear hV9 dd hV h1 h2 h3 h4
   gi_wp2_with fail
   refine ⟨by simp,.inl ⟨_,_,rfl,run_takeDeferred HDD.out,?_⟩⟩
   refine ⟨_,results_tmp rfl _ _ _,?_⟩
   show SMQ n (p,h) hops k w (.returned (.slice q o.length c)) _
   exact HSM.out _ _ ⟨q,c,V,HVV.out⟩
  ·obtain rfl:=hn hC
   have hsn:=seq_nil1 #[]
   clear hy hn hD hl hS
   gi_wp2_with fail
   refine range_by1 (id:=0) rfl (by omega) (gf:=47) (lb:=#[]) rfl trivial (enters_of Tryz.func47 (by kernel_rfl) rfl) (fun _ _ h=>wpIn_exit h) ?_
   intro fn hfn
   simp only [HDS.out.1,HDS.out.2.1]
   generalize hR:recOf fn _ _ _ _ _=R
   have rs:R.state=.ready:=by rw [←hR];rfl
   have rp:R.pending=none:=by rw [←hR];rfl
   have rf:R.fn=fn:=by rw [←hR];rfl
   have rq:R.params=#[24]:=by rw [←hR];rfl
   obtain ⟨X,hX⟩:∃ X,(W2.alloc (.deferred (some []))).alloc (.loop R)=X:=⟨_,rfl⟩
   have xz:(W2.alloc (.deferred (some []))).heap.size=l:=by rw [←HDS.out.2.1,←HDS.out.1];exact Array.size_push _
   have xb:Below W2.heap.size W2 X:=by rw [←hX];exact belAZ (belAZ (Below.refl _ _) _) _
   have x1:X.heap[D]?=some (.deferred (some [])):=by rw [←hX,←HDS.out.1];exact keepZ (belAZ (Below.refl _ _) _) (alloc_getZ _ _)
   have x2:X.heap[l]?=some (.loop R):=by rw [←hX,←xz];exact alloc_getZ _ _
   have xs:S≤X.heap.size:=by have:=lt_getZ x2;have:=HDS.out.2.2;omega
   have q0:SMJ w b9 b7 D l S k R [] X:=⟨⟨none,0,[],rfl,keepZ xb HW2.out.2.1,World.ownsRow_nil _ _ _ _,fun x hx=>by simp at hx⟩,keepZ xb HW2.out.1,x1,x2,bel0Z HW2.out.2.2.1 xb,xs⟩
   have HL:Hid (w.heap.size≤l∧l < S∧D < S∧b9 < S∧b7 < S∧w.heap.size≤b9∧w.heap.size≤S∧w.heap.size≤D∧b9≠D∧b9≠l):=by
    obtain ⟨h1,h2,h3⟩:=HDS.out
    obtain ⟨-,-,h4,h5,h6,h7⟩:=HW2.out
    have:=h4.size
    exact ⟨by omega,by omega,by omega,by omega,by omega,by omega,by omega,by omega,by omega,by omega⟩
   rw [hX]
   clear hX xz
   have HFIN:Hid (∀ (r:Loop) (o:List WY) (W:World),SMJ w b9 b7 D l S k r o W→o=A.take k.toNat→∃ (q:Option Addr) (c:Nat),(W.putObj l (.loop { r with state:=.exhausted })).cell? ⟨b9,0,none⟩=some (.slice q o.length c)∧(W.putObj l (.loop { r with state:=.exhausted })).heap[D]?=some (.deferred (some []))∧∃ V:List (WY×PV),V.map Prod.fst=A.take k.toNat∧Ending.returned (.slice q o.length c)=.returned (.slice q V.length c)∧RowL 3 paC ((W.putObj l (.loop { r with state:=.exhausted })).putObj D (.deferred none)) q V∧(∀ x∈V,PL ((W.putObj l (.loop { r with state:=.exhausted })).putObj D (.deferred none)) x)∧Below w.heap.size w ((W.putObj l (.loop { r with state:=.exhausted })).putObj D (.deferred none))):=by
    intro r o W hq ho
    have q2:=hq.loop { r with state:=.exhausted } HL.out.1 HL.out.2.1
    obtain ⟨⟨q,c,V,v1,v2,v3,v4⟩,kb,df,lp,be,sz⟩:=q2
    have hlen:o.length=V.length:=by rw [←v1,List.length_map]
    refine ⟨q,c,(cellsZ v2).1 0,df,V,by rw [v1,ho],by rw [hlen],?_,fun x hx=>(v4 x hx).kp (fun b cs fr hb=>put_otherZ hb (fun e=>by rw [e,df] at hb;cases hb)),be.grown (grownBy_putObj' _ D _) be.size (fun x e=>by cases e;exact HL.out.2.2.2.2.2.2.2.1)⟩
    exact own_rowL paC_len (World.ownsRow.kept v3 (grownBy_putObj' _ _ _) (.inr (fun e=>by have:=(World.ownsRow.lt v3 _ e).1;have:=HL.out.2.2.1;omega))) hlen.symm
   refine (callsIn_wide.2 (seq1_any l X)).mono ?_
   rintro e W ⟨hv,rfl⟩
   have hq9:∃ (r:Loop) (o:List WY),r.state≠.busy∧(r.pending=none∨r.pending=some (.exit 0))∧SMJ w b9 b7 D l S k r o W∧o=A.take k.toNat:=⟨R,[],(fun e=>by rw [rs] at e;cases e),.inl rp,q0,by rw [HNO.out hC];simp⟩
   clear q0 x1 x2 xb
   obtain ⟨r,o,h1,h2,h3,h4⟩:=hq9
   obtain ⟨q,c,d9,dd,V,hV⟩:=HFIN.out r o W h3 h4
   refine ⟨hv,r,h3.lp,h1,h2,?_⟩
   obtain ⟨V9,hV9⟩:∃ V,W.putObj l (.loop { r with state:=.exhausted })=V:=⟨_,rfl⟩
   rw [hV9] at d9 dd hV ⊢
   have HDD:=hideL dd
   have HVV:=hideL hV
   clear hV9 dd hV h1 h2 h3 h4
   gi_wp2_with fail
   refine ⟨by simp,.inl ⟨_,_,rfl,run_takeDeferred HDD.out,?_⟩⟩
   refine ⟨_,results_tmp rfl _ _ _,?_⟩
   show SMQ n (p,h) hops k w (.returned (.slice q o.length c)) _
   exact HSM.out _ _ ⟨q,c,V,HVV.out⟩
end Go.Proofs.YtbplhianpelmfaaGreatDoor.Nt
