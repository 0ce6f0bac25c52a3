import Derived.Test.YtciffggmobblpaaGreatDoorXBB
namespace Go.Proofs.YtciffggmobblpaaGreatDoor.Nt
open Go.RowKit Go.Shelf
theorem res_nets (tmps:Array Value) (W:World) (b b3:Nat) (x0:Int) (p1 p2 p3:Option Addr) (n1 d1 n2 d2 n3 d3:Nat) (y0:Int) (q1 q2 q3:Option Addr) (m1 e1 m2 e2 m3 e3:Nat) (h:tmps[2]?.getD undef=.pointer (some ⟨b,0,none⟩)) (h3:tmps[3]?.getD undef=.pointer (some ⟨b3,0,none⟩)) (hb:W.heap[b]?=some (.cells #[.int .i64 x0,.slice p1 n1 d1,.slice p2 n2 d2,.slice p3 n3 d3] 26 (0,0))) (hb3:W.heap[b3]?=some (.cells #[.int .i64 y0,.slice q1 m1 e1,.slice q2 m2 e2,.slice q3 m3 e3] 26 (0,0))) :
  (results Tryz.f14 tmps).run Tryz.prog W=.ok (.tuple #[.agg #[.int .i64 x0,.slice p1 n1 d1,.slice p2 n2 d2,.slice p3 n3 d3],.agg #[.int .i64 y0,.slice q1 m1 e1,.slice q2 m2 e2,.slice q3 m3 e3]]) W:=by
 have h1:=(cellsZ hb).1
 have c0:=h1 0
 have c1:=h1 1
 have c2:=h1 2
 have c3:=h1 3
 have h9:=(cellsZ hb3).1
 have f0:=h9 0
 have f1:=h9 1
 have f2:=h9 2
 have f3:=h9 3
 simp at c0 c1 c2 c3 f0 f1 f2 f3
 simp [results,h,h3,c0,c1,c2,c3,f0,f1,f2,f3,go_sem]
theorem ne_ty {W:World} {a b:Nat} {c1 c2:Array Value} {T1 T2:TypeId} {f1 f2:Nat×Nat} (h1:W.heap[a]?=some (.cells c1 T1 f1)) (h2:W.heap[b]?=some (.cells c2 T2 f2)) (hT:T1≠T2):a≠b:=fun e=>by
 subst e
 rw [h1] at h2
 injection h2 with h2
 injection h2 with _ e2 _
 exact hT e2
def KT (W W':World):Prop:=∀ (b:Nat) (T:TypeId) (cur:Array Value),(T≠26∧T≠36∧T≠37∧T≠43)→W.heap[b]?=some (.cells cur T (0,0))→W'.heap[b]?=some (.cells cur T (0,0))
theorem kt_set {W:World} {b a:Nat} {v:Value} {cs:Array Value} {T:TypeId} (h:W.heap[b]?=some (.cells cs T (0,0))) (hT:T=26∨T=36∨T=37∨T=43):KT W (W.setCell ⟨b,a,none⟩ v):=fun b9 T9 cur hne h9=>by
 rw [far1 _ _ _ _ _ (ne_ty h9 h (fun e=>by
  rcases hT with h1 | h1 | h1 | h1
  ·exact hne.1 (e.trans h1)
  ·exact hne.2.1 (e.trans h1)
  ·exact hne.2.2.1 (e.trans h1)
  ·exact hne.2.2.2 (e.trans h1)))]
 exact h9
theorem KT.trans {W W' W'':World} (h:KT W W') (h':KT W' W''):KT W W'':=fun b T cur hT h9=>h' b T cur hT (h b T cur hT h9)
theorem KT.of {W W':World} (h:Below W.heap.size W W'):KT W W':=fun _ _ _ _ h9=>keepZ h h9
theorem ERQ.kt {W W':World} {g:Nat} {L:List NE} (h:ERQ W g L) (hk:KT W W'):ERQ W' g L:=by
 obtain ⟨cs,a,b,c⟩:=h
 refine ⟨cs,hk _ _ _ (by decide) a,fun i x hx=>?_,c⟩
 obtain ⟨gi,gc,go,hb,a0,a1,a2,a3,a4,d1,d2,d3⟩:=b i x hx
 exact ⟨gi,gc,go,hb,a0,a1,a2,a3,a4,hk _ _ _ (by decide) d1,hk _ _ _ (by decide) d2,hk _ _ _ (by decide) d3⟩
theorem GRQ.kt {W W':World} {g:Nat} {L:List NG} (h:GRQ W g L) (hk:KT W W'):GRQ W' g L:=by
 obtain ⟨cs,g1,g2,a,b,c,d,e,f⟩:=h
 refine ⟨cs,g1,g2,hk _ _ _ (by decide) a,fun i x hx=>?_,c,hk _ _ _ (by decide) d,e,hk _ _ _ (by decide) f⟩
 obtain ⟨gc,hb,a0,a1,d1⟩:=b i x hx
 exact ⟨gc,hb,a0,a1,hk _ _ _ (by decide) d1⟩
theorem REM.kt {W W':World} {x:NE} {r:RE} (h:REM W x r) (hk:KT W W'):REM W' x r:=by
 obtain ⟨a1,a2,a3,a4,a5,a6,a7,a8,gi,gc,go,b1,b2,b3,d1,d2,d3⟩:=h
 exact ⟨a1,a2,a3,a4,a5,a6,a7,a8,gi,gc,go,b1,b2,b3,hk _ _ _ (by decide) d1,hk _ _ _ (by decide) d2,hk _ _ _ (by decide) d3⟩
theorem RGM.kt {W W':World} {x:NG} {r:RG} (h:RGM W x r) (hk:KT W W'):RGM W' x r:=by
 obtain ⟨a1,a2,a3,gc,b1,d1⟩:=h
 exact ⟨a1,a2,a3,gc,b1,hk _ _ _ (by decide) d1⟩
theorem PF.keep {W W':World} {g:Nat} {L:List NP} (h:PF W g L) (e:W'.heap[g]?=W.heap[g]?):PF W' g L:=by
 obtain ⟨cs,a,b⟩:=h
 exact ⟨cs,e.trans a,b⟩
theorem TF.keep {W W':World} {g:Nat} {L:List (List NE)} (h:TF W g L) (hk:KT W W') (e:W'.heap[g]?=W.heap[g]?):TF W' g L:=by
 obtain ⟨cs,a,b,gm,c,d⟩:=h
 exact ⟨cs,e.trans a,fun i t ht=>by
  obtain ⟨gt,e1,e2⟩:=b i t ht
  exact ⟨gt,e1,e2.kt hk⟩,gm,c,hk _ _ _ (by decide) d⟩
theorem GF.keep {W W':World} {g:Nat} {L:List (List NG)} (h:GF W g L) (hk:KT W W') (e:W'.heap[g]?=W.heap[g]?):GF W' g L:=by
 obtain ⟨cs,a,b,gm,gs,c,d,f⟩:=h
 exact ⟨cs,e.trans a,fun i t ht=>by
  obtain ⟨gt,e1,e2⟩:=b i t ht
  exact ⟨gt,e1,e2.kt hk⟩,gm,gs,c,hk _ _ _ (by decide) d,hk _ _ _ (by decide) f⟩
def RY (w W:World) (B b2 b3 b4:Nat) (N M:Array Value):Prop:=W.heap[B]?=some (.cells N 26 (0,0))∧W.heap[b2]?=some (.cells #[.int .i64 0,.slice none 0 0,.slice none 0 0,.slice none 0 0] 26 (0,0))∧W.heap[b3]?=some (.cells #[.int .i64 0,.slice none 0 0,.slice none 0 0,.slice none 0 0] 26 (0,0))∧W.heap[b4]?=some (.cells M 26 (0,0))∧Below B w W∧b4 < W.heap.size
theorem RY.set4 {w W:World} {B b2 b3 b4:Nat} {N M:Array Value} (h:RY w W B b2 b3 b4 N M) (hb:B < b2∧b2 < b3∧b3 < b4) (i:Nat) (v:Value):RY w (W.setCell ⟨b4,i,none⟩ v) B b2 b3 b4 N (M.setIfInBounds i v):=by
 obtain ⟨k1,k2,k3,k4,k5,k6⟩:=h
 refine ⟨?_,?_,?_,set_getZ v k4,k5.setCell (by show B≤b4;omega) _,by simpa using k6⟩
 ·rw [far1 _ _ _ _ _ (by omega)];exact k1
 ·rw [far1 _ _ _ _ _ (by omega)];exact k2
 ·rw [far1 _ _ _ _ _ (by omega)];exact k3
theorem RY.far {w W:World} {B b2 b3 b4 g:Nat} {N M:Array Value} (h:RY w W B b2 b3 b4 N M) (hb:B < b2∧b2 < b3∧b3 < b4) (hg:b4 < g) (i:Nat) (v:Value):RY w (W.setCell ⟨g,i,none⟩ v) B b2 b3 b4 N M:=by
 obtain ⟨k1,k2,k3,k4,k5,k6⟩:=h
 refine ⟨?_,?_,?_,?_,k5.setCell (by show B≤g;omega) _,by simpa using k6⟩
 ·rw [far1 _ _ _ _ _ (by omega)];exact k1
 ·rw [far1 _ _ _ _ _ (by omega)];exact k2
 ·rw [far1 _ _ _ _ _ (by omega)];exact k3
 ·rw [far1 _ _ _ _ _ (by omega)];exact k4
theorem RY.below {w W W':World} {B b2 b3 b4:Nat} {N M:Array Value} (h:RY w W B b2 b3 b4 N M) (hb:Below W.heap.size W W'):RY w W' B b2 b3 b4 N M:=by
 obtain ⟨k1,k2,k3,k4,k5,k6⟩:=h
 have hB:=lt_getZ k1
 exact ⟨keepZ hb k1,keepZ hb k2,keepZ hb k3,keepZ hb k4,k5.trans (hb.mono (by omega)),Nat.lt_of_lt_of_le k6 hb.size⟩
def RPk (W:World) (g m:Nat) (L:List NP) (k:Nat) (cs:Array Value):Prop:=W.heap[g]?=some (.cells cs 36 (0,0))∧cs.size=m*4∧∀ (i:Nat) (x:NP),i < k→L[i]?=some x→∀ (j:Nat) (v:Value),(npC x)[j]?=some v→cs[i*4+j]?=some v
theorem put4f (W:World) (B a b:Nat) (v0 v1 v2 v3:Value) (h:b≠B):((((W.setCell ⟨B,a,none⟩ v0).setCell ⟨B,a+1,none⟩ v1).setCell ⟨B,a+2,none⟩ v2).setCell ⟨B,a+3,none⟩ v3).heap[b]?=W.heap[b]?:=by rw [far1 _ _ _ _ _ h,far1 _ _ _ _ _ h,far1 _ _ _ _ _ h,far1 _ _ _ _ _ h]
theorem RPk.put {W:World} {g m k j:Nat} {L:List NP} {cs:Array Value} (h:RPk W g m L k cs) (hkj:k≤j) (hj:j < m) (v0 v1 v2 v3:Value):∃ cs9,RPk ((((W.setCell ⟨g,j*4,none⟩ v0).setCell ⟨g,j*4+1,none⟩ v1).setCell ⟨g,j*4+2,none⟩ v2).setCell ⟨g,j*4+3,none⟩ v3) g m L k cs9∧cs9[j*4]?=some v0∧cs9[j*4+1]?=some v1∧cs9[j*4+2]?=some v2∧cs9[j*4+3]?=some v3:=by
 obtain ⟨h1,h2,h3⟩:=h
 refine ⟨((((cs.setIfInBounds (j*4) v0).setIfInBounds (j*4+1) v1).setIfInBounds (j*4+2) v2).setIfInBounds (j*4+3) v3),⟨set_getZ v3 (set_getZ v2 (set_getZ v1 (set_getZ v0 h1))),by simpa using h2,fun i x hi hx j9 v hv=>?_⟩,?_,?_,?_,?_⟩
 ·have h4:j9 < 4:=by have:=(List.getElem?_eq_some_iff.1 hv).1;simpa [npC] using this
  rw [sA_ne (by omega),sA_ne (by omega),sA_ne (by omega),sA_ne (by omega)]
  exact h3 i x hi hx j9 v hv
 ·rw [sA_ne (by omega),sA_ne (by omega),sA_ne (by omega),sA_eq (by omega)]
 ·rw [sA_ne (by omega),sA_ne (by omega),sA_eq (by simp;omega)]
 ·rw [sA_ne (by omega),sA_eq (by simp;omega)]
 ·rw [sA_eq (by simp;omega)]
def SP (w W:World) (B b2 b3 b4:Nat) (N M:Array Value) (g m:Nat) (L:List NP) (k:Nat) (cs:Array Value):Prop:=RY w W B b2 b3 b4 N M∧RPk W g m L k cs∧b4 < g
theorem SP.step {w W:World} {B b2 b3 b4 g m k k9:Nat} {N M cs:Array Value} {L:List NP} {x:NP} (h:SP w W B b2 b3 b4 N M g m L k cs) (hb:B < b2∧b2 < b3∧b3 < b4) (hx:L[k]?=some x) (hk:k < m) (hk9:k+1=k9):∃ cs9,SP w ((((W.setCell ⟨g,k*4,none⟩ (.string ⟨x.nm.toArray⟩)).setCell ⟨g,k*4+1,none⟩ (.int .i64 x.bx)).setCell ⟨g,k*4+2,none⟩ (.bool x.inn)).setCell ⟨g,k*4+3,none⟩ (.int .i64 x.lk)) B b2 b3 b4 N M g m L k9 cs9:=by
 subst hk9
 obtain ⟨h1,h2,h3⟩:=h
 obtain ⟨cs9,⟨a1,a2,a3⟩,e0,e1,e2,e3⟩:=h2.put (Nat.le_refl k) hk (.string ⟨x.nm.toArray⟩) (.int .i64 x.bx) (.bool x.inn) (.int .i64 x.lk)
 refine ⟨cs9,(((h1.far hb h3 _ _).far hb h3 _ _).far hb h3 _ _).far hb h3 _ _,⟨a1,a2,fun i y hi hy j v hv=>?_⟩,h3⟩
 rcases Nat.lt_or_ge i k with h9 | h9
 ·exact a3 i y h9 hy j v hv
 ·obtain rfl:i=k:=by omega
  rw [hx] at hy
  obtain rfl:=Option.some.inj hy
  match j,hv with
  | 0,hv=>obtain rfl:=Option.some.inj hv;exact e0
  | 1,hv=>obtain rfl:=Option.some.inj hv;exact e1
  | 2,hv=>obtain rfl:=Option.some.inj hv;exact e2
  | 3,hv=>obtain rfl:=Option.some.inj hv;exact e3
  | n+4,hv=>simp [npC] at hv
theorem SP.mark {w W:World} {B b2 b3 b4 g m k:Nat} {N M cs:Array Value} {L:List NP} (h:SP w W B b2 b3 b4 N M g m L k cs) (hb:B < b2∧b2 < b3∧b3 < b4) (hn:L.length=k) (hm:k+1=m) (v1 v2 v3:Value):RY w ((((W.setCell ⟨g,k*4,none⟩ (.string ⟨#[98,101,104,105,110,100,32,116,104,101,32,101,110,100]⟩)).setCell ⟨g,k*4+1,none⟩ v1).setCell ⟨g,k*4+2,none⟩ v2).setCell ⟨g,k*4+3,none⟩ v3) B b2 b3 b4 N M∧PF ((((W.setCell ⟨g,k*4,none⟩ (.string ⟨#[98,101,104,105,110,100,32,116,104,101,32,101,110,100]⟩)).setCell ⟨g,k*4+1,none⟩ v1).setCell ⟨g,k*4+2,none⟩ v2).setCell ⟨g,k*4+3,none⟩ v3) g L:=by
 obtain ⟨h1,h2,h3⟩:=h
 obtain ⟨cs9,⟨a1,a2,a3⟩,e0,-⟩:=h2.put (Nat.le_refl k) (by omega) (.string ⟨#[98,101,104,105,110,100,32,116,104,101,32,101,110,100]⟩) v1 v2 v3
 refine ⟨(((h1.far hb h3 _ _).far hb h3 _ _).far hb h3 _ _).far hb h3 _ _,cs9,a1,fun i x hx=>a3 i x ?_ hx,by rw [hn];exact e0⟩
 have:=(List.getElem?_eq_some_iff.1 hx).1
 omega
def RTk (W:World) (g m:Nat) (L:List (List NE)) (k:Nat) (cs:Array Value):Prop:=W.heap[g]?=some (.cells cs 37 (0,0))∧cs.size=m∧∀ (i:Nat) (t:List NE),i < k→L[i]?=some t→∃ gt,cs[i]?=some (.slice (some ⟨gt,0,none⟩) t.length (t.length+2))∧ERQ W gt t
def ST (w W:World) (B b2 b3 b4:Nat) (N M:Array Value) (gP:Nat) (P:List NP) (g m:Nat) (L:List (List NE)) (k:Nat) (cs:Array Value):Prop:=RY w W B b2 b3 b4 N M∧PF W gP P∧RTk W g m L k cs∧b4 < g
theorem ST.step {w W W5:World} {B b2 b3 b4 gP g m k k9 gt a1 a2:Nat} {N M cs:Array Value} {P:List NP} {L:List (List NE)} {t:List NE} (h:ST w W B b2 b3 b4 N M gP P g m L k cs) (hb:B < b2∧b2 < b3∧b3 < b4) (h5:Below W.heap.size W W5) (hE:ERQ W5 gt t) (ht:L[k]?=some t) (hk:k < m) (hk9:k+1=k9) (h1:t.length=a1) (h2:a1+2=a2):∃ cs9,ST w (W5.setCell ⟨g,k,none⟩ (.slice (some ⟨gt,0,none⟩) a1 a2)) B b2 b3 b4 N M gP P g m L k9 cs9:=by
 subst hk9 h1 h2
 obtain ⟨r1,r2,⟨t1,t2,t3⟩,r4⟩:=h
 have u1:=keepZ h5 t1
 have kt:KT W (W5.setCell ⟨g,k,none⟩ (.slice (some ⟨gt,0,none⟩) t.length (t.length+2))):=(KT.of h5).trans (kt_set u1 (.inr (.inr (.inl rfl))))
 refine ⟨cs.setIfInBounds k (.slice (some ⟨gt,0,none⟩) t.length (t.length+2)),(r1.below h5).far hb r4 _ _,?_,⟨set_getZ _ u1,by simpa using t2,fun i y hi hy=>?_⟩,r4⟩
 ·obtain ⟨c9,p1,p2⟩:=r2
  exact ⟨c9,(far1 _ _ _ _ _ (ne_ty (keepZ h5 p1) u1 (by decide))).trans (keepZ h5 p1),p2⟩
 ·rcases Nat.lt_or_ge i k with h9 | h9
  ·obtain ⟨gy,y1,y2⟩:=t3 i y h9 hy
   exact ⟨gy,(sA_ne (by omega)).trans y1,y2.kt kt⟩
  ·obtain rfl:i=k:=by omega
   rw [ht] at hy
   obtain rfl:=Option.some.inj hy
   exact ⟨gt,sA_eq (by omega),hE.kt (kt_set u1 (.inr (.inr (.inl rfl))))⟩
theorem ST.mark {w W W5:World} {B b2 b3 b4 gP g m k R1:Nat} {N M cs:Array Value} {P:List NP} {L:List (List NE)} (h:ST w W B b2 b3 b4 N M gP P g m L k cs) (hb:B < b2∧b2 < b3∧b3 < b4) (h5:Below W.heap.size W W5) (hE:W5.heap[R1]?=some (.cells #[.string ⟨#[98,101,104,105,110,100,32,116,104,101,32,101,110,100]⟩,.slice none 0 0,.slice none 0 0,.string ⟨#[]⟩,.slice none 0 0] 41 (0,0))) (hn:L.length=k) (hm:k+1=m):RY w (W5.setCell ⟨g,k,none⟩ (.slice (some ⟨R1,0,none⟩) 1 1)) B b2 b3 b4 N M∧PF (W5.setCell ⟨g,k,none⟩ (.slice (some ⟨R1,0,none⟩) 1 1)) gP P∧TF (W5.setCell ⟨g,k,none⟩ (.slice (some ⟨R1,0,none⟩) 1 1)) g L:=by
 obtain ⟨r1,r2,⟨t1,t2,t3⟩,r4⟩:=h
 have u1:=keepZ h5 t1
 have kt:KT W (W5.setCell ⟨g,k,none⟩ (.slice (some ⟨R1,0,none⟩) 1 1)):=(KT.of h5).trans (kt_set u1 (.inr (.inr (.inl rfl))))
 refine ⟨(r1.below h5).far hb r4 _ _,?_,cs.setIfInBounds k (.slice (some ⟨R1,0,none⟩) 1 1),set_getZ _ u1,fun i y hy=>?_,R1,by rw [hn];exact sA_eq (by omega),kt_set u1 (.inr (.inr (.inl rfl))) _ _ _ (by decide) hE⟩
 ·obtain ⟨c9,p1,p2⟩:=r2
  exact ⟨c9,(far1 _ _ _ _ _ (ne_ty (keepZ h5 p1) u1 (by decide))).trans (keepZ h5 p1),p2⟩
 ·have:=(List.getElem?_eq_some_iff.1 hy).1
  obtain ⟨gy,y1,y2⟩:=t3 i y (by omega) hy
  exact ⟨gy,(sA_ne (by omega)).trans y1,y2.kt kt⟩
def RGk (W:World) (g m:Nat) (L:List (List NG)) (k:Nat) (cs:Array Value):Prop:=W.heap[g]?=some (.cells cs 43 (0,0))∧cs.size=m∧∀ (i:Nat) (t:List NG),i < k→L[i]?=some t→∃ gt,cs[i]?=some (.slice (some ⟨gt,0,none⟩) t.length (t.length+2))∧GRQ W gt t
def SG (w W:World) (B b2 b3 b4:Nat) (N M:Array Value) (gP:Nat) (P:List NP) (gT:Nat) (T:List (List NE)) (g m:Nat) (L:List (List NG)) (k:Nat) (cs:Array Value):Prop:=RY w W B b2 b3 b4 N M∧PF W gP P∧TF W gT T∧RGk W g m L k cs∧b4 < g
theorem SG.step {w W W5:World} {B b2 b3 b4 gP gT g m k k9 gt a1 a2:Nat} {N M cs:Array Value} {P:List NP} {T:List (List NE)} {L:List (List NG)} {t:List NG} (h:SG w W B b2 b3 b4 N M gP P gT T g m L k cs) (hb:B < b2∧b2 < b3∧b3 < b4) (h5:Below W.heap.size W W5) (hE:GRQ W5 gt t) (ht:L[k]?=some t) (hk:k < m) (hk9:k+1=k9) (h1:t.length=a1) (h2:a1+2=a2):∃ cs9,SG w (W5.setCell ⟨g,k,none⟩ (.slice (some ⟨gt,0,none⟩) a1 a2)) B b2 b3 b4 N M gP P gT T g m L k9 cs9:=by
 subst hk9 h1 h2
 obtain ⟨r1,r2,r3,⟨t1,t2,t3⟩,r4⟩:=h
 have u1:=keepZ h5 t1
 have kt:KT W (W5.setCell ⟨g,k,none⟩ (.slice (some ⟨gt,0,none⟩) t.length (t.length+2))):=(KT.of h5).trans (kt_set u1 (.inr (.inr (.inr rfl))))
 refine ⟨cs.setIfInBounds k (.slice (some ⟨gt,0,none⟩) t.length (t.length+2)),(r1.below h5).far hb r4 _ _,?_,?_,⟨set_getZ _ u1,by simpa using t2,fun i y hi hy=>?_⟩,r4⟩
 ·obtain ⟨c9,p1,p2⟩:=r2
  exact ⟨c9,(far1 _ _ _ _ _ (ne_ty (keepZ h5 p1) u1 (by decide))).trans (keepZ h5 p1),p2⟩
 ·obtain ⟨c9,p1,p2⟩:=r3
  exact TF.keep (W:=W) ⟨c9,p1,p2⟩ kt ((far1 _ _ _ _ _ (ne_ty (keepZ h5 p1) u1 (by decide))).trans ((keepZ h5 p1).trans p1.symm))
 ·rcases Nat.lt_or_ge i k with h9 | h9
  ·obtain ⟨gy,y1,y2⟩:=t3 i y h9 hy
   exact ⟨gy,(sA_ne (by omega)).trans y1,y2.kt kt⟩
  ·obtain rfl:i=k:=by omega
   rw [ht] at hy
   obtain rfl:=Option.some.inj hy
   exact ⟨gt,sA_eq (by omega),hE.kt (kt_set u1 (.inr (.inr (.inr rfl))))⟩
theorem SG.mark {w W W5:World} {B b2 b3 b4 gP gT g m k R1 R2:Nat} {N M cs:Array Value} {P:List NP} {T:List (List NE)} {L:List (List NG)} (h:SG w W B b2 b3 b4 N M gP P gT T g m L k cs) (hb:B < b2∧b2 < b3∧b3 < b4) (h5:Below W.heap.size W W5) (hE:W5.heap[R2]?=some (.cells #[.bool false,.slice (some ⟨R1,0,none⟩) 1 1] 81 (0,0))) (hE1:W5.heap[R1]?=some (.cells #[.string ⟨#[98,101,104,105,110,100,32,116,104,101,32,101,110,100]⟩] 9 (0,0))) (hn:L.length=k) (hm:k+1=m):RY w (W5.setCell ⟨g,k,none⟩ (.slice (some ⟨R2,0,none⟩) 1 1)) B b2 b3 b4 N M∧PF (W5.setCell ⟨g,k,none⟩ (.slice (some ⟨R2,0,none⟩) 1 1)) gP P∧TF (W5.setCell ⟨g,k,none⟩ (.slice (some ⟨R2,0,none⟩) 1 1)) gT T∧GF (W5.setCell ⟨g,k,none⟩ (.slice (some ⟨R2,0,none⟩) 1 1)) g L:=by
 obtain ⟨r1,r2,r3,⟨t1,t2,t3⟩,r4⟩:=h
 have u1:=keepZ h5 t1
 have kt:KT W (W5.setCell ⟨g,k,none⟩ (.slice (some ⟨R2,0,none⟩) 1 1)):=(KT.of h5).trans (kt_set u1 (.inr (.inr (.inr rfl))))
 refine ⟨(r1.below h5).far hb r4 _ _,?_,?_,cs.setIfInBounds k (.slice (some ⟨R2,0,none⟩) 1 1),set_getZ _ u1,fun i y hy=>?_,R2,R1,by rw [hn];exact sA_eq (by omega),kt_set u1 (.inr (.inr (.inr rfl))) _ _ _ (by decide) hE,kt_set u1 (.inr (.inr (.inr rfl))) _ _ _ (by decide) hE1⟩
 ·obtain ⟨c9,p1,p2⟩:=r2
  exact ⟨c9,(far1 _ _ _ _ _ (ne_ty (keepZ h5 p1) u1 (by decide))).trans (keepZ h5 p1),p2⟩
 ·obtain ⟨c9,p1,p2⟩:=r3
  exact TF.keep (W:=W) ⟨c9,p1,p2⟩ kt ((far1 _ _ _ _ _ (ne_ty (keepZ h5 p1) u1 (by decide))).trans ((keepZ h5 p1).trans p1.symm))
 ·have:=(List.getElem?_eq_some_iff.1 hy).1
  obtain ⟨gy,y1,y2⟩:=t3 i y (by omega) hy
  exact ⟨gy,(sA_ne (by omega)).trans y1,y2.kt kt⟩
def mkP (K:Nat):Array Value:=madeCells (Value.cells (.agg #[.string ⟨#[]⟩,.int .i64 0,.bool false,.int .i64 0])) (K*4)
def mkT (K:Nat):Array Value:=madeCells (Value.cells (.slice none 0 0)) K
theorem make_ports (K:Nat) (hK:K*40≤281474976710656) (w:World):(Instr.makeSlice 22 (.int .i64 (K:Int)) (.int .i64 (K:Int))).run Tryz.prog w=.ok (.slice (some ⟨w.heap.size,0,none⟩) K K) (w.alloc (.cells (mkP K) 36)):=by
 obtain ⟨i0,hi,hz0,hz1,hz2⟩:=info_parts info_port
 have h:=run_make (P:=Tryz.prog) w 22 36 i0 _ Tryz.underlying22 hi hz0 .i64 .i64 (K:Int) (K:Int) (by omega) (Int.le_refl _) (by rw [hz2];omega) (by omega)
 rw [Int.toNat_natCast,hz1] at h
 exact h
theorem make_tabs (K:Nat) (hK:K*24≤281474976710656) (w:World):(Instr.makeSlice 23 (.int .i64 (K:Int)) (.int .i64 (K:Int))).run Tryz.prog w=.ok (.slice (some ⟨w.heap.size,0,none⟩) K K) (w.alloc (.cells (mkT K) 37)):=by
 obtain ⟨i0,hi,hz0,hz1,hz2⟩:=info_parts info_tab
 have h:=run_make (P:=Tryz.prog) w 23 37 i0 _ Tryz.underlying23 hi hz0 .i64 .i64 (K:Int) (K:Int) (by omega) (Int.le_refl _) (by rw [hz2];omega) (by omega)
 rw [Int.toNat_natCast,hz1,Nat.mul_one] at h
 exact h
theorem make_gds (K:Nat) (hK:K*24≤281474976710656) (w:World):(Instr.makeSlice 24 (.int .i64 (K:Int)) (.int .i64 (K:Int))).run Tryz.prog w=.ok (.slice (some ⟨w.heap.size,0,none⟩) K K) (w.alloc (.cells (mkT K) 43)):=by
 obtain ⟨i0,hi,hz0,hz1,hz2⟩:=info_parts info_gds
 have h:=run_make (P:=Tryz.prog) w 24 43 i0 _ Tryz.underlying24 hi hz0 .i64 .i64 (K:Int) (K:Int) (by omega) (Int.le_refl _) (by rw [hz2];omega) (by omega)
 rw [Int.toNat_natCast,hz1,Nat.mul_one] at h
 exact h
theorem RY.made {w W:World} {B b2 b3 b4 i:Nat} {N M:Array Value} (h:RY w W B b2 b3 b4 N M) (hb:B < b2∧b2 < b3∧b3 < b4) (T:TypeId) (cs:Array Value) (v:Value):RY w ((W.alloc (.cells cs T)).setCell ⟨b4,i,none⟩ v) B b2 b3 b4 N (M.setIfInBounds i v)∧((W.alloc (.cells cs T)).setCell ⟨b4,i,none⟩ v).heap[W.heap.size]?=some (.cells cs T (0,0))∧(∀ (b:Nat) (o:Obj),b≠b4→W.heap[b]?=some o→((W.alloc (.cells cs T)).setCell ⟨b4,i,none⟩ v).heap[b]?=some o):=by
 have b1:Below W.heap.size W (W.alloc (.cells cs T)):=belAZ (Below.refl _ _) _
 have h6:=h.2.2.2.2.2
 refine ⟨(h.below b1).set4 hb i v,?_,fun b o hne ho=>?_⟩
 ·rw [far1 _ _ _ _ _ (by omega)];exact alloc_getZ _ _
 ·rw [far1 _ _ _ _ _ hne];exact keepZ b1 ho
end Go.Proofs.YtciffggmobblpaaGreatDoor.Nt
