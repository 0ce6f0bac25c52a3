import Derived.RangeFuncNested
import Derived.RangeFuncBound
import Derived.RangeFuncCalls
import Derived.RangeFuncLeaves
import Derived.RangeFuncBox
import Derived.Shelf.Abstract
import Derived.Shelf.RegionOpen
import Derived.WalkKit
import Derived.OwnWalkIn
import Derived.TacticsInMore
import Derived.LoopNIn
import Derived.LoopIn
import Derived.Maps.AppendAt
import Derived.Test.YtecgjlpmmailjaaGreatDoorXAE
import Derived.Test.YtecgjlpmmailjaaGreatDoorXAL
import Derived.RegionIn
import Derived.Maps.OwnIn
import Derived.Defers
import Derived.Recover
import Derived.Laws.Pointers
import Derived.Test.YtecgjlpmmailjaaGreatDoorXAC
import Derived.Deep.RegionHeld3
namespace Go.Proofs.YtecgjlpmmailjaaGreatDoor
open Go.RowKit Go.Shelf

section
variable {F : Fence} {m : Nat} {P : Program}

/-- one round of the loop whose record lies at l: behind the body the record is still there, busy; what holds once it is put back -/
def bodyEnd (l : Nat) (r : Loop) (In : World → Prop) (Out : Code → World → Prop) : Exit → Act → World → Prop
  | .normal, _, W => W.heap[l]? = some (.loop { r with state := .busy }) ∧ In (W.putObj l (.loop r))
  | .exit id, _, W => W.heap[l]? = some (.loop { r with state := .busy }) ∧ Out (.exit id) (W.putObj l (.loop { r with state := .done, pending := some (.exit id) }))
  | .ret, _, W => W.heap[l]? = some (.loop { r with state := .busy }) ∧ Out .ret (W.putObj l (.loop { r with state := .done, pending := some .ret }))
  | _, _, _ => False

theorem round_by {l : Nat} {r : Loop} {W : World} {args : Array Value} {In : World → Prop} {Out : Code → World → Prop} (hF : F.fn r.fn) (hl : W.heap[l]? = some (.loop r)) (hr : r.state = .ready) (hp : r.pending = none) (hs : args.size = r.params.size)
    (a1 : Act) (has : ∀ K : Act → World → Prop, K a1 W → r.assign.wpIn (F.inRound l) m P (Exit.then K (fun _ _ _ => False)) { tmps := (r.params.zip args).foldl (fun tmps (t, a) => tmps.setIfInBounds t a) r.tmps, defers := [] } W)
    (hb : r.body.wpIn (F.inRound l) m P (bodyEnd l r In Out) a1 (W.putObj l (.loop { r with state := .busy }))) :
    YieldAt F m P l args W fun e W' => (e = .returned (.bool true) ∧ In W') ∨ (e = .returned (.bool false) ∧ ∃ c, Out c W') := by
  refine ⟨_, _, _, _, run_yield hl hs, roundIn_of_wpIn hF (has _ ⟨_, run_beginRound hl hr, wpIn_mono hb ?_⟩)⟩
  intro e a2 W2 h
  cases e with
  | normal =>
    have q := run_endRound (P := P) none h.1
    have e1 : ({ ({ r with state := .busy } : Loop) with state := if (none : Option Code).isNone = true then .ready else .done, pending := none } : Loop) = r := by
      cases r; simp_all
    rw [e1] at q
    exact ⟨_, _, q, .inl ⟨rfl, h.2⟩⟩
  | exit id => exact ⟨_, _, run_endRound (P := P) (some (.exit id)) h.1, .inr ⟨rfl, _, h.2⟩⟩
  | ret => exact ⟨_, _, run_endRound (P := P) (some .ret) h.1, .inr ⟨rfl, _, h.2⟩⟩
  | goto t => exact h.elim
  | panic c => exact h.elim
  | outgrown => exact h.elim

/-- the record that a loop lays -/
def recOf (fn : FuncId) (tmps : Array Value) (ps : Array Tmp) (assign body : Code) (D : Nat) : Loop := { state := .ready, pending := none, fn, tmps, params := ps, assign, body, defers := D }

/-- a loop over a function, not in a round: the iterator's call, on the record that is laid; what is pending behind it -/
theorem range_by {n : Nat} {g : Operand} {ps : Array Tmp} {assign body : Code} {Q : Exit → Act → World → Prop} {a : Act} {w : World}
    (hro : F.round = none) (h1 : 1 ≤ n) {gf : Nat} {lb : Array Value} (hg : a.eval g = .func (.func gf) #[] lb) (hFg : F.fn gf) (eg : ∀ args w, (callFunc gf args).run P w = .ok (.enter gf args) w)
    (h : ∀ fn, F.fn fn → CallsIn F (n - 1) P gf (#[.func (.yield (w.heap.size + 1)) #[] #[]] ++ lb) ((w.alloc (.deferred (some []))).alloc (.loop (recOf fn a.tmps ps assign body w.heap.size)))
      fun e W => (∃ v, e = .returned v) ∧ ∃ r, W.heap[w.heap.size + 1]? = some (.loop r) ∧ r.state ≠ .busy ∧
        ((r.pending = none ∧ Q .normal { a with defers := { target := .collected w.heap.size, args := #[] } :: a.defers } (W.putObj (w.heap.size + 1) (.loop { r with state := .exhausted }))) ∨
         ∃ c, r.pending = some c ∧ c.wpIn F n P Q { a with defers := { target := .collected w.heap.size, args := #[] } :: a.defers } (W.putObj (w.heap.size + 1) (.loop { r with state := .exhausted })))) :
    (Code.rangeFunc g ps assign body).wpIn F n P Q a w := by
  refine wpIn_rangeFunc (fun fn hfn => ?_)
  rw [hro]
  have hd : (resolve a.eval (rangeCall g (w.heap.size + 1)) 0).run P ((w.alloc (.deferred (some []))).alloc (.loop (recOf fn a.tmps ps assign body w.heap.size))) = .ok { target := .fn (.func gf) lb, args := #[.func (.yield (w.heap.size + 1)) #[] #[]] } ((w.alloc (.deferred (some []))).alloc (.loop (recOf fn a.tmps ps assign body w.heap.size))) := by
    simp only [resolve, hg]
    simp [go_sem]
  refine ⟨_, _, _, _, _, gf, _, _, run_enterLoop_outer fn a.tmps ps assign body, hd, ?_, ?_, fun _ => h1, (h fn hfn).mono ?_⟩
  · intro f' hf'
    simp [Target.leads] at hf'
    subst hf'
    exact hFg
  · simp [invoke, go_sem, eg]
  · rintro e W ⟨⟨v, rfl⟩, r, hr, hb, hq⟩
    refine ⟨_, _, run_endLoop (P := P) hr hb, ?_⟩
    rcases hq with ⟨hp, hq⟩ | ⟨c, hp, hq⟩
    · rw [hp] at hq ⊢; exact hq
    · rw [hp] at hq ⊢; exact hq

/-- a loop over a function in a round of another -/
theorem range_in {n : Nat} {g : Operand} {ps : Array Tmp} {assign body : Code} {Q : Exit → Act → World → Prop} {a : Act} {w : World} {l0 : Nat} {r0 : Loop}
    (hro : F.round = some l0) (hr0 : w.heap[l0]? = some (.loop r0)) (h1 : 1 ≤ n) {gf : Nat} {lb : Array Value} (hg : a.eval g = .func (.func gf) #[] lb) (hFg : F.fn gf) (eg : ∀ args w, (callFunc gf args).run P w = .ok (.enter gf args) w)
    (h : ∀ fn, F.fn fn → CallsIn F (n - 1) P gf (#[.func (.yield w.heap.size) #[] #[]] ++ lb) (w.alloc (.loop (recOf fn a.tmps ps assign body r0.defers)))
      fun e W => (∃ v, e = .returned v) ∧ ∃ r, W.heap[w.heap.size]? = some (.loop r) ∧ r.state ≠ .busy ∧
        ((r.pending = none ∧ Q .normal a (W.putObj w.heap.size (.loop { r with state := .exhausted }))) ∨
         ∃ c, r.pending = some c ∧ c.wpIn F n P Q a (W.putObj w.heap.size (.loop { r with state := .exhausted })))) :
    (Code.rangeFunc g ps assign body).wpIn F n P Q a w := by
  refine wpIn_rangeFunc (fun fn hfn => ?_)
  rw [hro]
  have hd : (resolve a.eval (rangeCall g w.heap.size) 0).run P (w.alloc (.loop (recOf fn a.tmps ps assign body r0.defers))) = .ok { target := .fn (.func gf) lb, args := #[.func (.yield w.heap.size) #[] #[]] } (w.alloc (.loop (recOf fn a.tmps ps assign body r0.defers))) := by
    simp only [resolve, hg]
    simp [go_sem]
  refine ⟨_, _, _, _, _, gf, _, _, run_enterLoop_inner hr0 fn a.tmps ps assign body, hd, ?_, ?_, fun _ => h1, (h fn hfn).mono ?_⟩
  · intro f' hf'
    simp [Target.leads] at hf'
    subst hf'
    exact hFg
  · simp [invoke, go_sem, eg]
  · rintro e W ⟨⟨v, rfl⟩, r, hr, hb, hq⟩
    refine ⟨_, _, run_endLoop (P := P) hr hb, ?_⟩
    rcases hq with ⟨hp, hq⟩ | ⟨c, hp, hq⟩
    · rw [hp] at hq ⊢; exact hq
    · rw [hp] at hq ⊢; exact hq
end
end Go.Proofs.YtecgjlpmmailjaaGreatDoor
namespace Go.Proofs.YtecgjlpmmailjaaGreatDoor
open Go.RowKit Go.Shelf
section
variable {F : Fence} {P : Program}
/-- a loop over a function, not in a round; the function may panic -/
theorem range_byP {n : Nat} {g : Operand} {ps : Array Tmp} {assign body : Code} {Q : Exit → Act → World → Prop} {a : Act} {w : World}
    (hro : F.round = none) (h1 : 1 ≤ n) {gf : Nat} {lb : Array Value} (hg : a.eval g = .func (.func gf) #[] lb) (hFg : F.fn gf) (eg : ∀ args w, (callFunc gf args).run P w = .ok (.enter gf args) w)
    (h : ∀ fn, F.fn fn → CallsIn F (n - 1) P gf (#[.func (.yield (w.heap.size + 1)) #[] #[]] ++ lb) ((w.alloc (.deferred (some []))).alloc (.loop (recOf fn a.tmps ps assign body w.heap.size)))
      fun e W => ((∃ v, e = .returned v) ∧ ∃ r, W.heap[w.heap.size + 1]? = some (.loop r) ∧ r.state ≠ .busy ∧
        ((r.pending = none ∧ Q .normal { a with defers := { target := .collected w.heap.size, args := #[] } :: a.defers } (W.putObj (w.heap.size + 1) (.loop { r with state := .exhausted }))) ∨
         ∃ c, r.pending = some c ∧ c.wpIn F n P Q { a with defers := { target := .collected w.heap.size, args := #[] } :: a.defers } (W.putObj (w.heap.size + 1) (.loop { r with state := .exhausted })))) ∨
        ∃ ch, e = .panicked ch ∧ Q (.panic ch) { a with defers := { target := .collected w.heap.size, args := #[] } :: a.defers } W) :
    (Code.rangeFunc g ps assign body).wpIn F n P Q a w := by
  refine wpIn_rangeFunc (fun fn hfn => ?_)
  rw [hro]
  have hd : (resolve a.eval (rangeCall g (w.heap.size + 1)) 0).run P ((w.alloc (.deferred (some []))).alloc (.loop (recOf fn a.tmps ps assign body w.heap.size))) = .ok { target := .fn (.func gf) lb, args := #[.func (.yield (w.heap.size + 1)) #[] #[]] } ((w.alloc (.deferred (some []))).alloc (.loop (recOf fn a.tmps ps assign body w.heap.size))) := by
    simp only [resolve, hg]
    simp [go_sem]
  refine ⟨_, _, _, _, _, gf, _, _, run_enterLoop_outer fn a.tmps ps assign body, hd, ?_, ?_, fun _ => h1, (h fn hfn).mono ?_⟩
  · intro f' hf'
    simp [Target.leads] at hf'
    subst hf'
    exact hFg
  · simp [invoke, go_sem, eg]
  · rintro e W (⟨⟨v, rfl⟩, r, hr, hb, hq⟩ | ⟨ch, rfl, hq⟩)
    · refine ⟨_, _, run_endLoop (P := P) hr hb, ?_⟩
      rcases hq with ⟨hp, hq⟩ | ⟨c, hp, hq⟩
      · rw [hp] at hq ⊢; exact hq
      · rw [hp] at hq ⊢; exact hq
    · exact hq
end
/-- what is not one block lies on where that block is put anew -/
theorem put_otherE {W : World} {b c : Nat} {o o' : Obj} (h : W.heap[c]? = some o) (hne : c ≠ b) : (W.putObj b o').heap[c]? = some o := (World.putObj_heap_other hne).trans h
theorem set_grE (X : World) (b k : Nat) (u : Value) : X.grownBy (X.setCell ⟨b, k, none⟩ u) (some b) := ⟨rfl, rfl, rfl, by simp, fun j _ hj => heap_setCell_other X ⟨b, k, none⟩ j u (fun e => hj (by simp [e]))⟩
theorem set_oneE {W : World} {b T : Nat} {m : Nat × Nat} {x : Value} (v : Value) (h : W.heap[b]? = some (.cells #[x] T m)) : (W.setCell ⟨b, 0, none⟩ v).heap[b]? = some (.cells #[v] T m) := by
  simp only [World.setCell, Array.getElem?_modify, if_pos, h, Option.map_some]
  simp
theorem cell_ofE {W : World} {b : Nat} {v : Value} {t : TypeId} {m : Nat × Nat} (h : W.heap[b]? = some (.cells #[v] t m)) : W.cell? ⟨b, 0, none⟩ = some v := by
  unfold World.cell?; rw [h]; simp
theorem froz_ofE {W : World} {b : Nat} {v : Value} {t : TypeId} (h : W.heap[b]? = some (.cells #[v] t (0, 0))) : W.frozen? ⟨b, 0, none⟩ = false := by
  simp [World.frozen?, h]
theorem plain_any (b : Int) (p : Option Addr) (n cp : Nat) (lim : Int) (w : World) : Calls Tryz.prog 22 #[.agg #[.int .i64 b, .slice p n cp, .bool false], .int .i64 lim] w fun e w' => e = .returned (.func (.func 34) #[] #[.pointer (some ⟨w.heap.size, 0, none⟩), .pointer (some ⟨w.heap.size + 1, 0, none⟩)]) ∧ w' = (w.alloc (.cells #[.int .i64 b, .slice p n cp, .bool false] 28)).alloc (.cells #[.int .i64 lim] 3) := by
  go_enter Tryz.func22, Tryz.ntmps22
  go_wp2
  go_ret
  exact ⟨rfl, rfl⟩
/-- what lies there while the cubes are gathered -/
structure XS (w : World) (S : Nat) (R : Loop) (out : List (List UInt8)) (r : Option Nat) (W : World) : Prop where
  bx : ∃ v, W.heap[S]? = some (.cells #[v] 32 (0, 0)) ∧ W.ownsRow (S + 1 + 1 + 1 + 1 + 1) 58 9 v out.length (ces out) ∧ v.ownBlock = r
  a3 : W.heap[S + 1 + 1 + 1]? = some (.deferred (some []))
  a4 : W.heap[S + 1 + 1 + 1 + 1]? = some (.loop R)
  be : Below S w W
  sz : w.heap.size = S
def XX (S k : Nat) : Prop := k = S ∨ k = S + 1 + 1 + 1 + 1
theorem XS.below {w : World} {S : Nat} {R : Loop} {out : List (List UInt8)} {r : Option Nat} {W W' : World} (h : XS w S R out r W) (hb : Below W.heap.size W W') : XS w S R out r W' := by
  obtain ⟨⟨v, h1, h2, h3⟩, a3, a4, be, sz⟩ := h
  refine ⟨⟨v, keepblk3 hb h1, own_belQ h2 hb, h3⟩, keepblk3 hb a3, keepblk3 hb a4, ?_, sz⟩
  rw [← sz] at be ⊢
  exact bel0 be hb
theorem XS.jy (w : World) (S : Nat) (R : Loop) : JY (XX S) (S + 1 + 1 + 1 + 1 + 1) (XS w S R) where
  below := fun _ _ _ _ h hb => h.below hb
  set := fun o r W b j v h hb hr => by
    obtain ⟨⟨u, h1, h2, h3⟩, a3, a4, be, sz⟩ := h
    have hk : ∀ k, k < S + 1 + 1 + 1 + 1 + 1 → (W.setCell ⟨b, j, none⟩ v).heap[k]? = W.heap[k]? := fun k hk => Below.heap_setCell _ _ _ _ (by show k ≠ b; omega)
    refine ⟨⟨u, (hk _ (by omega)).trans h1, h2.kept (set_grE _ _ _ _) (.inr (fun e => hr (by rw [← h3]; exact e.symm))), h3⟩, (hk _ (by omega)).trans a3, (hk _ (by omega)).trans a4, be.setCell (p := ⟨b, j, none⟩) (by show S ≤ b; omega) _, sz⟩
  low := fun k hk => by rcases hk with rfl | rfl <;> omega
  size := fun _ _ _ h => lt_of_get3 h.a4
  row := fun o r W k h hr => by
    obtain ⟨⟨u, h1, h2, h3⟩, -⟩ := h
    exact (h2.lt k (by rw [h3]; exact hr)).2
end Go.Proofs.YtecgjlpmmailjaaGreatDoor
namespace Go.Proofs.YtecgjlpmmailjaaGreatDoor
open Go.RowKit Go.Shelf
section
variable {F : Fence} {m : Nat} {P : Program}
/-- one round, where taking the value makes memory -/
theorem round_byA {l : Nat} {r : Loop} {W : World} {args : Array Value} {In : World → Prop} {Out : Code → World → Prop} (hF : F.fn r.fn) (hl : W.heap[l]? = some (.loop r)) (hr : r.state = .ready) (hp : r.pending = none) (hs : args.size = r.params.size)
    (a1 : Act) (W1 : World) (hl1 : W1.heap[l]? = some (.loop r)) (has : ∀ K : Act → World → Prop, K a1 W1 → r.assign.wpIn (F.inRound l) m P (Exit.then K (fun _ _ _ => False)) { tmps := (r.params.zip args).foldl (fun tmps (t, a) => tmps.setIfInBounds t a) r.tmps, defers := [] } W)
    (hb : r.body.wpIn (F.inRound l) m P (bodyEnd l r In Out) a1 (W1.putObj l (.loop { r with state := .busy }))) :
    YieldAt F m P l args W fun e W' => (e = .returned (.bool true) ∧ In W') ∨ (e = .returned (.bool false) ∧ ∃ c, Out c W') := by
  refine ⟨_, _, _, _, run_yield hl hs, roundIn_of_wpIn hF (has _ ⟨_, run_beginRound hl1 hr, wpIn_mono hb ?_⟩)⟩
  intro e a2 W2 h
  cases e with
  | normal =>
    have q := run_endRound (P := P) none h.1
    have e1 : ({ ({ r with state := .busy } : Loop) with state := if (none : Option Code).isNone = true then .ready else .done, pending := none } : Loop) = r := by
      cases r; simp_all
    rw [e1] at q
    exact ⟨_, _, q, .inl ⟨rfl, h.2⟩⟩
  | exit id => exact ⟨_, _, run_endRound (P := P) (some (.exit id)) h.1, .inr ⟨rfl, _, h.2⟩⟩
  | ret => exact ⟨_, _, run_endRound (P := P) (some .ret) h.1, .inr ⟨rfl, _, h.2⟩⟩
  | goto t => exact h.elim
  | panic c => exact h.elim
  | outgrown => exact h.elim
end
theorem XS.loop {w : World} {S : Nat} {R : Loop} {out : List (List UInt8)} {r : Option Nat} {W : World} (h : XS w S R out r W) (R' : Loop) : XS w S R' out r (W.putObj (S + 1 + 1 + 1 + 1) (.loop R')) := by
  obtain ⟨⟨v, h1, h2, h3⟩, a3, a4, be, sz⟩ := h
  have hn : S ≤ W.heap.size := by have := lt_of_get3 a4; omega
  refine ⟨⟨v, put_otherE h1 (by omega), h2.kept (grownBy_putObj' W _ _) (.inr (fun e => by have := (h2.lt _ e).1; omega)), h3⟩, put_otherE a3 (by omega), World.putObj_heap_same (lt_of_get3 a4), be.grown (grownBy_putObj' W _ _) hn (fun x e => by cases e; omega), sz⟩
theorem XS_start (w : World) (S : Nat) (o1 o2 : Obj) (R : Loop) (hS : w.heap.size = S) : XS w S R [] none (((((w.alloc (.cells #[.slice none 0 0] 32 (0, 0))).alloc o1).alloc o2).alloc (.deferred (some []))).alloc (.loop R)) := by
  subst hS
  obtain ⟨w1, e1⟩ : ∃ w1, w.alloc (.cells #[.slice none 0 0] 32 (0, 0)) = w1 := ⟨_, rfl⟩
  have z1 : w1.heap.size = w.heap.size + 1 := by rw [← e1]; simp
  have g1 : w1.heap[w.heap.size]? = some (.cells #[.slice none 0 0] 32 (0, 0)) := by rw [← e1]; exact alloc_get _ _
  have b1 : Below w.heap.size w w1 := by rw [← e1]; exact belA (Below.refl _ _) _
  obtain ⟨w2, e2⟩ : ∃ w2, w1.alloc o1 = w2 := ⟨_, rfl⟩
  have z2 : w2.heap.size = w.heap.size + 1 + 1 := by rw [← e2]; simp [z1]
  obtain ⟨w3, e3⟩ : ∃ w3, w2.alloc o2 = w3 := ⟨_, rfl⟩
  have z3 : w3.heap.size = w.heap.size + 1 + 1 + 1 := by rw [← e3]; simp [z2]
  obtain ⟨w4, e4⟩ : ∃ w4, w3.alloc (.deferred (some [])) = w4 := ⟨_, rfl⟩
  have z4 : w4.heap.size = w.heap.size + 1 + 1 + 1 + 1 := by rw [← e4]; simp [z3]
  have g4 : w4.heap[w.heap.size + 1 + 1 + 1]? = some (.deferred (some [])) := by rw [← e4, ← z3]; exact alloc_get _ _
  obtain ⟨w5, e5⟩ : ∃ w5, w4.alloc (.loop R) = w5 := ⟨_, rfl⟩
  have g5 : w5.heap[w.heap.size + 1 + 1 + 1 + 1]? = some (.loop R) := by rw [← e5, ← z4]; exact alloc_get _ _
  rw [e1, e2, e3, e4, e5]
  refine ⟨⟨_, ?_, World.ownsRow_nil _ _ _ _, rfl⟩, ?_, g5, ?_, rfl⟩
  · rw [← e5, ← e4, ← e3, ← e2]
    exact allocblk3 (allocblk3 (allocblk3 (allocblk3 g1 _) _) _) _
  · rw [← e5]
    exact allocblk3 g4 _
  · rw [← e5, ← e4, ← e3, ← e2]
    exact belA (belA (belA (belA b1 _) _) _) _
theorem info_cubeE : (Tryz.prog.info? 58).map (fun i => (i.zero, i.size, i.bytes)) = some (some (.agg #[.int .i64 0, .int .u64 0, .int .u64 0, .int .u64 0, .int .u64 0, .int .u64 0, .int .u64 0, .int .u64 0, .int .u64 0]), 9, 72) := by kernel_rfl
theorem done_beE {w W : World} {S : Nat} (hS : w.heap.size = S) (h : Below S w W) (k : Nat) (hk : S ≤ k) : Below w.heap.size w (W.putObj k (.deferred none)) := by
  subst hS
  exact h.grown (grownBy_putObj' W k _) h.size (fun x e => by cases e; exact hk)
theorem TRC.ofW {w W : World} {X : Nat → Prop} {p : Option Addr} {Z : List ZT} (h : TRC w (fun _ => False) none p Z) (hb : Below w.heap.size w W) (hx : ∀ k, X k → w.heap.size ≤ k) : TRC W X none p Z := fun i z hz => by
  obtain ⟨g, o0, e, c, -, -, h3, h4⟩ := h i z hz
  have hl : g < w.heap.size := World.block_lt_of_cell? w _ c.1
  refine ⟨g, o0, e, c.same (hb.block g hl), fun hg => by have := hx _ hg; omega, by simp, fun j t ht => ?_, h4⟩
  obtain ⟨g2, o2, e2, c2, -, -⟩ := h3 j t ht
  have hl2 : g2 < w.heap.size := World.block_lt_of_cell? w _ c2.1
  exact ⟨g2, o2, e2, c2.same (hb.block g2 hl2), fun hg => by have := hx _ hg; omega, by simp⟩
attribute [local go_sem] Oper.semAt_some
set_option maxRecDepth 100000 in
set_option maxHeartbeats 16000000 in
theorem expand1_any
    (hin : ∀ (b : Int) (p : Option Addr) (n cp : Nat) (w : World), Calls Tryz.prog 25 #[.agg #[.int .i64 b, .slice p n cp, .bool false]] w fun e w' => e = .returned (.agg #[.int .i64 b, .slice p n cp, .bool false]) ∧ Below w.heap.size w w')
    (b : Int) (Z : List ZT) (n : Nat) (p : Option Addr) (cp c1 c2 Mx : Nat) (w : World) (hZ : Z.length = n) (hn : n ≤ 128) (hMx : Mx ≤ 2048)
    (d1 : w.heap[c1]? = some (.cells #[.int .i64 b, .slice p n cp, .bool false] 28 (0, 0))) (d2 : w.heap[c2]? = some (.cells #[.int .i64 (Mx : Int)] 3 (0, 0))) (ht : TRC w (fun _ => False) none p Z) (hg : ∀ z ∈ Z, good z.c = true ∧ gdW z.c.length z.L ∧ z.L.length ≤ 128) :
    Calls Tryz.prog 21 #[.pointer (some ⟨c1, 0, none⟩), .pointer (some ⟨c2, 0, none⟩)] w fun e w' => Below w.heap.size w w' ∧ ((∃ R v, exE splT Mx [] (Z.map ctZ) = some R ∧ e = .returned v ∧ w'.ownsRow w.heap.size 58 9 v R.length (ces R)) ∨ (exE splT Mx [] (Z.map ctZ) = none ∧ e = .panicked [{ v := .iface 81 (.agg #[]), recovered := false }])) := by
  obtain ⟨i0, hi, hz0, hz1, hz2⟩ := info_parts info_cubeE
  have hc1 : ∀ o, (w.alloc o).cell? ⟨c1, 0, none⟩ = some (.int .i64 b) ∧ (w.alloc o).cell? ⟨c1, 1, none⟩ = some (.slice p n cp) ∧ (w.alloc o).cell? ⟨c1, 2, none⟩ = some (.bool false) := fun o => by
    have := (cells_block (allocblk3 d1 o)).1
    exact ⟨this 0, this 1, this 2⟩
  have hcc1 : ∀ j, (w.alloc (.cells #[.slice none 0 0] 32)).cell? ⟨c1, j, none⟩ = (#[.int .i64 b, .slice p n cp, .bool false] : Array Value)[j]? := (cells_block (allocblk3 d1 _)).1
  have hcc2 : (w.alloc (.cells #[.slice none 0 0] 32)).cell? ⟨c2, 0, none⟩ = some (.int .i64 (Mx : Int)) := (cells_block (allocblk3 d2 _)).1 0
  clear hc1
  refine (callsIn_wide (n := 4)).1 ?_
  refine callsIn_of_wp_marks Tryz.func21 rfl trivial ?_ rfl
  simp only [Tryz.ntmps21, List.size_toArray, List.length_cons, List.length_nil, Nat.reduceAdd, Nat.reduceSub, Array.replicate_succ, Array.replicate_zero, List.push_toArray, List.append_toArray, List.nil_append, List.cons_append]
  gi_wp2_with (refine ⟨trivial, ?_⟩; gi_at_call 22; refine (callsIn_wide.2 (plain_any b p n cp (Mx : Int) _)).mono ?_; rintro e w' ⟨rfl, rfl⟩)
  clear hcc1 hcc2
  refine range_byP rfl (by omega) (gf := 34) (lb := #[.pointer (some ⟨w.heap.size + 1, 0, none⟩), .pointer (some ⟨w.heap.size + 1 + 1, 0, none⟩)]) rfl trivial (enters_of Tryz.func34 (by kernel_rfl) rfl) ?_
  intro fn hfn
  obtain ⟨S, hS⟩ : ∃ S, w.heap.size = S := ⟨_, rfl⟩
  have Hs : Hid (w.heap.size = S) := hS
  simp only [World.size_alloc, hS]
  generalize hR : recOf fn _ _ _ _ _ = R
  have rs : R.state = .ready := by rw [← hR]; rfl
  have rp : R.pending = none := by rw [← hR]; rfl
  have rf : R.fn = fn := by rw [← hR]; rfl
  have rq : R.params = #[8] := by rw [← hR]; rfl
  have q0 := XS_start w S (.cells #[.int .i64 b, .slice p n cp, .bool false] 28) (.cells #[.int .i64 (Mx : Int)] 3) R hS
  obtain ⟨W0, hW0⟩ : ∃ W0, (((((w.alloc (.cells #[.slice none 0 0] 32)).alloc (.cells #[.int .i64 b, .slice p n cp, .bool false] 28)).alloc (.cells #[.int .i64 (Mx : Int)] 3)).alloc (.deferred (some []))).alloc (.loop R)) = W0 := ⟨_, rfl⟩
  rw [hW0] at q0
  have HB : ∀ nb, YLD (flT (Z.map ctZ)) (XX S) (XS w S R) (fun _ => False) (S + 1 + 1 + 1 + 1) 2 nb := by
    intro nb o r W x q hol gx hx _
    have HX : Hid (good x = true ∧ x.length = nb) := ⟨gx, hx⟩
    clear gx hx
    obtain ⟨W1, hW1⟩ : ∃ W1, W.alloc (.cells #[.int .i64 (x.length : Int), .int .u64 (FW x 0 : Int), .int .u64 (FW x 1 : Int), .int .u64 (FW x 2 : Int), .int .u64 (FW x 3 : Int), .int .u64 (OW x 0 : Int), .int .u64 (OW x 1 : Int), .int .u64 (OW x 2 : Int), .int .u64 (OW x 3 : Int)] 58 (0, 0)) = W1 := ⟨_, rfl⟩
    have hB1 : Below W.heap.size W W1 := by rw [← hW1]; exact belA (Below.refl _ _) _
    have hg1 : W1.heap[W.heap.size]? = some (.cells #[.int .i64 (x.length : Int), .int .u64 (FW x 0 : Int), .int .u64 (FW x 1 : Int), .int .u64 (FW x 2 : Int), .int .u64 (FW x 3 : Int), .int .u64 (OW x 0 : Int), .int .u64 (OW x 1 : Int), .int .u64 (OW x 2 : Int), .int .u64 (OW x 3 : Int)] 58 (0, 0)) := by rw [← hW1]; exact alloc_get _ _
    have q1 := q.below hB1
    have qb := q1.loop { R with state := .busy }
    refine (round_byA (F := Fence.wide) (m := 2) (In := fun W' => ∃ r', YK (XX S) r W r' W' ∧ XS w S R (o ++ [x]) r' W') (Out := fun _ _ => False) (by rw [rf]; exact hfn) q.a4 rs rp (by rw [rq]; rfl) ?a1 W1 q1.a4 ?has ?hb).mono ?_
    case has =>
      intro K hK
      rw [congrArg Loop.assign hR.symm, rq, congrArg Loop.tmps hR.symm]
      simp only [recOf]
      gi_wp2
      exact hK
    case hb =>
      have hlW : S + 1 + 1 + 1 + 1 < W.heap.size := lt_of_get3 q.a4
      have hgb : (W1.putObj (S + 1 + 1 + 1 + 1) (.loop { R with state := .busy })).heap[W.heap.size]? = some (.cells #[.int .i64 (x.length : Int), .int .u64 (FW x 0 : Int), .int .u64 (FW x 1 : Int), .int .u64 (FW x 2 : Int), .int .u64 (FW x 3 : Int), .int .u64 (OW x 0 : Int), .int .u64 (OW x 1 : Int), .int .u64 (OW x 2 : Int), .int .u64 (OW x 3 : Int)] 58 (0, 0)) := put_otherE hg1 (by omega)
      have hyb : YK (XX S) r W r (W1.putObj (S + 1 + 1 + 1 + 1) (.loop { R with state := .busy })) := ⟨by simp; exact hB1.size, fun k hk hx hr => ⟨(World.putObj_heap_other (fun e => hx (.inr e))).trans (hB1.block k hk), hr⟩⟩
      obtain ⟨V, hV⟩ : ∃ V, W1.putObj (S + 1 + 1 + 1 + 1) (.loop { R with state := .busy }) = V := ⟨_, rfl⟩
      rw [hV] at qb hgb hyb ⊢
      rw [congrArg Loop.body hR.symm]
      simp only [recOf]
      clear hV
      obtain ⟨⟨v, e1, ow, e2⟩, k3, k4, be, sz⟩ := qb
      obtain ⟨pv, cv, rfl⟩ := shapeQ1 ow
      have c3 := cell_ofE e1
      have d3 := (cells_block hgb).1
      have hsV := lt_of_get3 k4
      have HQ : Hid (V.heap[S]? = some (.cells #[.slice pv o.length cv] 32 (0, 0)) ∧ V.heap[S + 1 + 1 + 1 + 1]? = some (.loop { R with state := .busy }) ∧ V.heap[S + 1 + 1 + 1]? = some (.deferred (some [])) ∧ Below S w V ∧ YK (XX S) r W r V) := ⟨e1, k4, k3, be, hyb⟩
      clear e1 k4 k3 be hyb
      gi_wp2_with (gi_at_builtin; refine wpListIn_append_own_at _ rfl _ _ 32 rfl (S + 1 + 1 + 1 + 1 + 1) 58 i0 _ 9 72 Tryz.underlying32 hi hz0 hz1 hz2 rfl (by decide) _ _ _ rfl (ow.alloc _) ⟨V.heap.size, 0, none⟩ 1 1 (ce9 x) rfl rfl (World.news_of_block (cs := #[.int .i64 (x.length : Int), .int .u64 (FW x 0 : Int), .int .u64 (FW x 1 : Int), .int .u64 (FW x 2 : Int), .int .u64 (FW x 3 : Int), .int .u64 (OW x 0 : Int), .int .u64 (OW x 1 : Int), .int .u64 (OW x 2 : Int), .int .u64 (OW x 3 : Int)]) (t := 58) (fr := (0, 0)) (alloc_get _ _)) (by simp [ce9, Value.oneCell']) (by unfold maxLen; omega) (by omega) (by simp; omega) ?_; intro v4 w4 o4 g4 _ hob; obtain ⟨p4, c4, rfl⟩ := shapeQ1 o4; have ge : ∀ k, Value.ownBlock _ = some k → S + 1 + 1 + 1 + 1 < k := (fun k e => by have := (ow.lt k e).1; omega); have kb : w4.heap[S]? = some (.cells #[.slice pv o.length cv] 32 (0, 0)) := ((g4.block S (by simp; omega) (fun e => by have := ge _ e.symm; omega)).trans (allocblk3 HQ.out.1 _)); have e3 := cell_ofE kb; have h3 := froz_ofE kb)
      obtain ⟨f1, f2, f3, f4, f5⟩ := HQ.out
      have hne : ∀ k, k < S + 1 + 1 + 1 + 1 + 1 → w4.heap[k]? = V.heap[k]? := fun k hk => (g4.block k (by simp; omega) (fun e => by have := ge _ e.symm; omega)).trans (Below.heap_alloc _ _ _ (by omega))
      have hsz4 : V.heap.size ≤ w4.heap.size := by have := g4.size; simp at this; omega
      have o5 := o4.kept (set_grE w4 S 0 (.slice p4 (o.length + 1) c4)) (.inr (fun e => by have := (o4.lt _ e).1; omega))
      have qx : XS w S { R with state := .busy } (o ++ [x]) (Value.ownBlock (.slice p4 (o.length + 1) c4)) (w4.setCell ⟨S, 0, none⟩ (.slice p4 (o.length + 1) c4)) := by
        refine ⟨⟨_, set_oneE _ kb, ?_, rfl⟩, (Below.heap_setCell _ _ _ _ (by show S + 1 + 1 + 1 ≠ S; omega)).trans ((hne _ (by omega)).trans f3), (Below.heap_setCell _ _ _ _ (by show S + 1 + 1 + 1 + 1 ≠ S; omega)).trans ((hne _ (by omega)).trans f2), ?_, sz⟩
        · rw [ces_snoc, List.length_append]
          exact o5
        · exact ((f4.alloc (by omega) _).grown g4 (by simp; omega) (fun k e => by have := ge k e; omega)).setCell (p := ⟨S, 0, none⟩) (by show S ≤ S; omega) _
      refine ⟨qx.a4, _, ⟨?_, fun k hk hx hr => ?_⟩, qx.loop R⟩
      · have h1 := f5.1
        simp
        omega
      · obtain ⟨y1, -⟩ := f5.2 k hk hx hr
        have hkV : k < V.heap.size := Nat.lt_of_lt_of_le hk f5.1
        refine ⟨?_, fun e => ?_⟩
        · refine (World.putObj_heap_other (fun e => hx (.inr e))).trans ((Below.heap_setCell _ _ _ _ (fun e => hx (.inl e))).trans ((g4.block k (by simp; omega) (fun e => hr ?_)).trans ((Below.heap_alloc _ _ _ hkV).trans y1)))
          rw [← e2]; exact e
        · rcases hob with h1 | h1
          · have h1' : Value.ownBlock (.slice p4 (o.length + 1) c4) = Value.ownBlock (.slice pv o.length cv) := h1
            rw [h1', e2] at e; exact hr e
          · rw [h1] at e
            injection e with e
            simp at e
            omega
    rintro e W' (⟨he, r', h1, h2⟩ | ⟨he, c, h⟩)
    · exact ⟨r', h1, .inl ⟨he, h2⟩⟩
    · exact h.elim
  have z1 : W0.heap[S + 1]? = some (.cells #[.int .i64 b, .slice p n cp, .bool false] 28 (0, 0)) := by
    rw [← hW0]
    refine allocblk3 (allocblk3 (allocblk3 ?_ _) _) _
    rw [← hS]
    exact alw_1 _ _ _
  have z2 : W0.heap[S + 1 + 1]? = some (.cells #[.int .i64 (Mx : Int)] 3 (0, 0)) := by
    rw [← hW0]
    refine allocblk3 (allocblk3 ?_ _) _
    have := alloc_get ((w.alloc (.cells #[.slice none 0 0] 32)).alloc (.cells #[.int .i64 b, .slice p n cp, .bool false] 28)) (.cells #[.int .i64 (Mx : Int)] 3)
    simp only [World.size_alloc, hS] at this
    exact this
  have hgo := plain1_any (XS.jy w S R) hin b Z n p cp (S + 1) (S + 1 + 1) Mx none W0 List.prefix_rfl (fun _ _ => HB _) hZ hn (by omega) (.inl hMx) q0 z1 z2 (by rintro (h | h) <;> omega) (by simp) (ht.ofW (by have := q0.be; rw [← hS] at this; exact this) (by rintro k (h | h) <;> omega)) hg
  rw [hW0]
  refine (callsIn_wide.2 hgo).mono ?_
  rintro e W (⟨v, r', R', rfl, hx, q⟩ | ⟨v, rfl, hf⟩ | ⟨rfl, hx, o', r', q⟩)
  · refine .inl ⟨⟨v, rfl⟩, R, q.a4, (fun e => by rw [rs] at e; cases e), .inl ⟨rp, ?_⟩⟩
    have q2 := q.loop { R with state := .exhausted }
    obtain ⟨V, hV⟩ : ∃ V, W.putObj (S + 1 + 1 + 1 + 1) (.loop { R with state := .exhausted }) = V := ⟨_, rfl⟩
    rw [hV] at q2 ⊢
    clear hV
    obtain ⟨⟨v2, e1, ow, e2⟩, k3, k4, be, sz⟩ := q2
    obtain ⟨pv, cv, rfl⟩ := shapeQ1 ow
    have c3 := cell_ofE e1
    have HQ : Hid (V.heap[S + 1 + 1 + 1]? = some (.deferred (some [])) ∧ Below S w V ∧ exE splT Mx [] (Z.map ctZ) = some R' ∧ V.ownsRow (S + 1 + 1 + 1 + 1 + 1) 58 9 (.slice pv R'.length cv) R'.length (ces R')) := ⟨k3, be, hx, ow⟩
    clear e1 ow e2 k3 k4 be hx q
    gi_wp2
    refine ⟨by simp, .inl ⟨_, _, rfl, run_takeDeferred HQ.out.1, ?_⟩⟩
    refine ⟨_, results_tmp rfl _ _ _, done_beE Hs.out HQ.out.2.1 _ (by omega), .inl ⟨R', _, HQ.out.2.2.1, rfl, ?_⟩⟩
    have := Hs.out
    exact own_base (HQ.out.2.2.2.kept (grownBy_putObj' _ _ _) (.inr (fun e => by have := (HQ.out.2.2.2.lt _ e).1; omega))) (by omega)
  · exact hf.elim
  · refine .inr ⟨_, rfl, ?_⟩
    refine ⟨by simp, .inl ⟨_, _, rfl, run_takeDeferred q.a3, ?_⟩⟩
    exact ⟨done_beE Hs.out q.be _ (by omega), .inr ⟨hx, rfl⟩⟩
end Go.Proofs.YtecgjlpmmailjaaGreatDoor
namespace Go.Proofs.YtecgjlpmmailjaaGreatDoor
open Go.RowKit Go.Shelf
set_option maxRecDepth 100000 in
theorem eq_overE (w : World) : (binOp BinOp.eql 20 (.iface 81 (.agg #[])) (.iface 81 (.agg #[]))).run Tryz.prog w = .ok (.bool true) w := by
  first | rfl | kernel_rfl | simp [go_sem]
set_option maxRecDepth 100000 in
theorem caughtC (b : Nat) (x : Int) (older : List PanicEntry) (w : World) (hc : w.cell? ⟨b, 0, none⟩ = some (.int .i64 x)) (hz : w.frozen? ⟨b, 0, none⟩ = false) :
    CallsD Tryz.prog 33 #[.pointer (some ⟨b, 0, none⟩)] (.panicking ({ v := .iface 81 (.agg #[]), recovered := false } :: older)) w fun e u' w' =>
      e = .returned (.tuple #[]) ∧ u' = .panicking ({ v := .iface 81 (.agg #[]), recovered := true } :: older) ∧ w' = w.setCell ⟨b, 0, none⟩ (.int .i64 3) := by
  refine callsD_of_wpS Tryz.func33 rfl fun c₀ cs hu => ?_
  apply wpS_seq
  apply wpS_region
  simp [wpOpsS, go_sem, recoverD, hu, Tryz.ntmps33, Exit.thenS]
  refine wpS_of_wp ?_
  have hE := eq_overE
  go_wp2_with fail
  simp [bodyPostS, results, Tryz.results33]
theorem idleC (b : Nat) (w : World) :
    CallsD Tryz.prog 33 #[.pointer (some ⟨b, 0, none⟩)] .returning w fun e u' w' => e = .returned (.tuple #[]) ∧ u' = .returning ∧ w' = w := by
  refine callsD_of_wpS Tryz.func33 rfl fun c₀ cs hu => ?_
  apply wpS_seq
  apply wpS_region
  simp [wpOpsS, go_sem, recoverD, hu, Tryz.ntmps33, Exit.thenS]
  refine wpS_of_wp ?_
  go_wp2_with fail
  cases c₀
  simp_all [bodyPostS, results, Tryz.results33]
set_option maxRecDepth 100000 in
set_option maxHeartbeats 4000000 in
theorem giveC (R : List (List UInt8)) (ok : Bool) (c1 c2 : Nat) (w : World) (HO : ∀ W, Below w.heap.size w W → Calls Tryz.prog 21 #[.pointer (some ⟨c1, 0, none⟩), .pointer (some ⟨c2, 0, none⟩)] W fun e w' => Below W.heap.size W w' ∧ ((ok = true ∧ ∃ v, e = .returned v ∧ w'.ownsRow W.heap.size 58 9 v R.length (ces R)) ∨ (ok = false ∧ e = .panicked [{ v := .iface 81 (.agg #[]), recovered := false }]))) :
    Calls Tryz.prog 20 #[.func (.func 21) #[] #[.pointer (some ⟨c1, 0, none⟩), .pointer (some ⟨c2, 0, none⟩)]] w fun e w' => ∃ v, e = .returned (.tuple #[v, .int .i64 (if ok = true then 0 else 3)]) ∧ w'.ownsRow w.heap.size 58 9 v (if ok = true then R else []).length (ces (if ok = true then R else [])) ∧ Below w.heap.size w w' := by
  have hmf : ∀ (fn : Fn) (first cap : Array Value) (w : World), (Instr.makeFunc fn first cap).run Tryz.prog w = .ok (.func fn first cap) w := fun _ _ _ _ => rfl
  obtain ⟨w2, hw2⟩ : ∃ w2, w.alloc (.cells #[.int .i64 0] 29 (0, 0)) = w2 := ⟨_, rfl⟩
  have hE : w2.heap[w.heap.size]? = some (.cells #[.int .i64 0] 29 (0, 0)) := by rw [← hw2]; exact alloc_get _ _
  have hB2 : Below w.heap.size w w2 := by rw [← hw2]; exact belA (Below.refl _ _) _
  have HO2 := HO w2 hB2
  have HA : Hid (w2.heap[w.heap.size]? = some (.cells #[.int .i64 0] 29 (0, 0)) ∧ Below w.heap.size w w2) := ⟨hE, hB2⟩
  clear hE hB2 HO
  cases ok with
  | true =>
    have HO3 : Hid (Calls Tryz.prog 21 #[.pointer (some ⟨c1, 0, none⟩), .pointer (some ⟨c2, 0, none⟩)] w2 fun e w' => ∃ v, e = .returned v ∧ w'.ownsRow w2.heap.size 58 9 v R.length (ces R) ∧ Below w2.heap.size w2 w') := by
      refine HO2.mono ?_
      rintro e w' ⟨h1, ⟨-, v, rfl, h2⟩ | ⟨h2, -⟩⟩
      · exact ⟨v, rfl, h2, h1⟩
      · cases h2
    clear HO2
    simp only [if_true]
    go_enter_defers Tryz.func20, Tryz.ntmps20
    go_wp2_with fail
    refine HO3.out.mono ?_
    rintro e W1 ⟨v, rfl, o8, hb1⟩
    obtain ⟨p8, c8, rfl⟩ := shapeQ1 o8
    clear HO3 hw2
    obtain ⟨hcE, hfE⟩ := cells_block (keepblk3 hb1 HA.out.1)
    go_wp2_with fail
    obtain ⟨X, hX⟩ : ∃ X, W1.setCell ⟨w.heap.size, 0, none⟩ (.int .i64 0) = X := ⟨_, rfl⟩
    have hXE : X.heap[w.heap.size]? = some (.cells #[.int .i64 0] 29 (0, 0)) := by
      rw [← hX]
      exact set_oneE _ (keepblk3 hb1 HA.out.1)
    have hXB : Below w.heap.size w X := by
      rw [← hX]
      exact (bel0 HA.out.2 hb1).setCell (Nat.le_refl _) _
    have l2 := lt_of_get3 HA.out.1
    have hXO : X.ownsRow w.heap.size 58 9 (.slice p8 R.length c8) R.length (ces R) := by
      rw [← hX]
      exact own_base (o8.kept (set_grE _ w.heap.size 0 _) (.inr (fun e => by have := (o8.lt _ e).1; omega))) (by omega)
    have HXX : Hid (X.ownsRow w.heap.size 58 9 (.slice p8 R.length c8) R.length (ces R) ∧ Below w.heap.size w X) := ⟨hXO, hXB⟩
    rw [hX]
    clear o8 hcE hfE hX hXO hXB
    refine leaves_cons (f := 33) (args := #[.pointer (some ⟨w.heap.size, 0, none⟩)]) (by simp) (by simp [go_sem]) ?_
    refine (idleC w.heap.size _).mono ?_
    rintro e u' w'' ⟨rfl, rfl, rfl⟩
    have cE := (cells_block hXE).1
    simp [Leaves, settle, results, Tryz.results20, go_sem, cE]
    exact HXX.out
  | false =>
    have HO3 : Hid (Calls Tryz.prog 21 #[.pointer (some ⟨c1, 0, none⟩), .pointer (some ⟨c2, 0, none⟩)] w2 fun e w' => e = .panicked [{ v := .iface 81 (.agg #[]), recovered := false }] ∧ Below w2.heap.size w2 w') := by
      refine HO2.mono ?_
      rintro e w' ⟨h1, ⟨h2, -⟩ | ⟨-, rfl⟩⟩
      · cases h2
      · exact ⟨rfl, h1⟩
    clear HO2
    simp only [Bool.false_eq_true, if_false]
    go_enter_defers Tryz.func20, Tryz.ntmps20
    go_wp2_with fail
    refine HO3.out.mono ?_
    rintro e W1 ⟨rfl, hb1⟩
    clear HO3 hw2
    have hEE := keepblk3 hb1 HA.out.1
    obtain ⟨hcE, hfE⟩ := cells_block hEE
    refine leaves_cons (f := 33) (args := #[.pointer (some ⟨w.heap.size, 0, none⟩)]) (by simp) (by simp [go_sem]) ?_
    refine (caughtC w.heap.size 0 [] W1 (hcE 0) (hfE 0)).mono ?_
    rintro e u' w'' ⟨rfl, rfl, rfl⟩
    have hX0 : (W1.setCell ⟨w.heap.size, 0, none⟩ (.int .i64 3)).heap[w.heap.size]? = some (.cells #[.int .i64 3] 29 (0, 0)) := set_oneE _ hEE
    have hXB : Below w.heap.size w (W1.setCell ⟨w.heap.size, 0, none⟩ (.int .i64 3)) := (bel0 HA.out.2 hb1).setCell (Nat.le_refl _) _
    have cE := (cells_block hX0).1
    have HXX : Hid ((W1.setCell ⟨w.heap.size, 0, none⟩ (.int .i64 3)).ownsRow w.heap.size 58 9 (.slice none 0 0) 0 [] ∧ Below w.heap.size w (W1.setCell ⟨w.heap.size, 0, none⟩ (.int .i64 3))) := ⟨World.ownsRow_nil _ _ _ _, hXB⟩
    clear hcE hfE hXB
    simp [Leaves, settle, results, Tryz.results20, go_sem, cE]
    exact HXX.out
def rfE (b lim : Int) : Int := if b = 0 then 11 else if lim < 0 ∨ 2048 < lim then 1 else 0
set_option maxRecDepth 100000 in
theorem refusal_any (b lim : Int) (p : Option Addr) (n cp : Nat) (w : World) : Calls Tryz.prog 19 #[.agg #[.int .i64 b, .slice p n cp, .bool false], .int .i64 lim] w fun e w' => e = .returned (.int .i64 (rfE b lim)) ∧ Below w.heap.size w w' := by
  obtain ⟨w2, hw2⟩ : ∃ w2, w.alloc (.cells #[.int .i64 b, .slice p n cp, .bool false] 28 (0, 0)) = w2 := ⟨_, rfl⟩
  have h0 : w2.heap[w.heap.size]? = some (.cells #[.int .i64 b, .slice p n cp, .bool false] 28 (0, 0)) := by rw [← hw2]; exact alloc_get _ _
  have hB : Below w.heap.size w w2 := by rw [← hw2]; exact belA (Below.refl _ _) _
  obtain ⟨hc, -⟩ := cells_block h0
  have HB : Hid (Below w.heap.size w w2) := hB
  clear h0 hB
  by_cases hb : b = 0
  · have HE : Hid (rfE b lim = 11) := by unfold Hid rfE; rw [if_pos hb]
    subst hb
    go_enter Tryz.func19, Tryz.ntmps19
    go_wp2_with fail
    go_ret
    rw [HE.out]
    exact ⟨rfl, HB.out⟩
  have e0 : (b == 0) = false := by simpa using hb
  by_cases hl0 : lim < 0
  · have HE : Hid (rfE b lim = 1) := by unfold Hid rfE; rw [if_neg hb, if_pos (.inl hl0)]
    clear hb
    go_enter Tryz.func19, Tryz.ntmps19
    go_wp2_with fail
    go_ret
    rw [HE.out]
    exact ⟨rfl, HB.out⟩
  by_cases hl1 : lim > 2048
  · have HE : Hid (rfE b lim = 1) := by unfold Hid rfE; rw [if_neg hb, if_pos (.inr hl1)]
    clear hb
    go_enter Tryz.func19, Tryz.ntmps19
    go_wp2_with fail
    go_ret
    rw [HE.out]
    exact ⟨rfl, HB.out⟩
  · have HE : Hid (rfE b lim = 0) := by unfold Hid rfE; rw [if_neg hb, if_neg (by omega)]
    clear hb
    go_enter Tryz.func19, Tryz.ntmps19
    go_wp2_with fail
    go_ret
    rw [HE.out]
    exact ⟨rfl, HB.out⟩
end Go.Proofs.YtecgjlpmmailjaaGreatDoor
namespace Go.Proofs.YtecgjlpmmailjaaGreatDoor
open Go.RowKit
end Go.Proofs.YtecgjlpmmailjaaGreatDoor
namespace Go.Proofs.YtecgjlpmmailjaaGreatDoor
open Go.RowKit

/-- place k of a lies in place k of b -/
def inK (a b : List UInt8) (k : Nat) : Bool := match a[k]?, b[k]? with | some x, some y => y == 120 || x == y | _, _ => true
theorem wiB_eq (a b : List UInt8) : wiB a b = (fitB a b && allTo (inK a b) a.length) := rfl

theorem wi_refl (a : List UInt8) (h : a ≠ []) : wiB a a = true := by
  rw [wiB_eq, Bool.and_eq_true, allTo_iff]
  refine ⟨?_, ?_⟩
  · cases a with
    | nil => exact absurd rfl h
    | cons x l => simp [fitB]
  · intro k hk
    simp [inK, List.getElem?_eq_getElem hk]

theorem fit_of {a b : List UInt8} (h : a ≠ []) (hl : a.length = b.length) : fitB a b = true := by
  cases a with
  | nil => exact absurd rfl h
  | cons x l => simp [fitB]; simpa using hl

theorem wi_anti (a b : List UInt8) (ha : a ≠ []) (hb : b ≠ []) (hl : a.length = b.length) (ga : good a = true) (gb : good b = true) : (wiB a b && wiB b a) = (a == b) := by
  rw [wiB_eq, wiB_eq, fit_of ha hl, fit_of hb hl.symm, Bool.true_and, Bool.true_and, Bool.eq_iff_iff, Bool.and_eq_true, allTo_iff, allTo_iff, beq_iff_eq]
  constructor
  · rintro ⟨h1, h2⟩
    apply List.ext_getElem hl
    intro k k1 k2
    have e1 := h1 k k1
    have e2 := h2 k k2
    have ta := good_tri ga k k1
    have tb := good_tri gb k k2
    simp only [inK, List.getElem?_eq_getElem k1, List.getElem?_eq_getElem k2] at e1 e2
    generalize a[k] = x at *
    generalize b[k] = y at *
    simp [tri] at ta tb
    rcases ta with (rfl | rfl) | rfl <;> rcases tb with (rfl | rfl) | rfl <;> simp_all
  · rintro rfl
    refine ⟨fun k hk => ?_, fun k hk => ?_⟩ <;> simp [inK, List.getElem?_eq_getElem hk]

theorem mt_nil (a b : List UInt8) (h : agB a b = false) : mtT a b = [] := by unfold mtT; rw [h]; rfl
theorem mt_yes (a b : List UInt8) (h : agB a b = true) : mtT a b = meetT a b := by unfold mtT; rw [if_pos h]

theorem wi_meet (a b d : List UInt8) (ha : a ≠ []) (hd : d ≠ []) (hl : a.length = b.length) (hl2 : a.length = d.length) (ga : good a = true) (gb : good b = true) (gd : good d = true) :
    (wiB d a && wiB d b) = (agB a b && wiB d (mtT a b)) := by
  cases hag : agB a b
  · rw [Bool.false_and, Bool.eq_false_iff]
    intro h
    rw [Bool.and_eq_true, wiB_eq, wiB_eq, Bool.and_eq_true, Bool.and_eq_true, allTo_iff, allTo_iff] at h
    have : agB a b = true := by
      unfold agB
      rw [fit_of ha hl, Bool.true_and, allTo_iff]
      intro k hk
      have e1 := h.1.2 k (by omega)
      have e2 := h.2.2 k (by omega)
      have kb : k < b.length := by omega
      have kd : k < d.length := by omega
      have ta := good_tri ga k hk
      have tb := good_tri gb k kb
      have td := good_tri gd k kd
      simp only [inK, cfl, fx, on, List.getElem?_eq_getElem hk, List.getElem?_eq_getElem kb, List.getElem?_eq_getElem kd] at e1 e2 ⊢
      generalize a[k] = x at *
      generalize b[k] = y at *
      generalize d[k] = z at *
      simp [tri] at ta tb td
      rcases ta with (rfl | rfl) | rfl <;> rcases tb with (rfl | rfl) | rfl <;> rcases td with (rfl | rfl) | rfl <;> simp_all
    rw [hag] at this
    cases this
  · rw [Bool.true_and, mt_yes a b hag]
    have hm := meetT_len a b hl
    rw [wiB_eq, wiB_eq, wiB_eq, fit_of hd (by omega), fit_of hd (by omega), fit_of hd (by omega), Bool.true_and, Bool.true_and, Bool.true_and, Bool.eq_iff_iff, Bool.and_eq_true, allTo_iff, allTo_iff, allTo_iff]
    have key : ∀ k, k < d.length → ((inK d a k = true ∧ inK d b k = true) ↔ inK d (meetT a b) k = true) := by
      intro k kd
      have ka : k < a.length := by omega
      have kb : k < b.length := by omega
      have hc := agB_cfl hag k
      have ta := good_tri ga k ka
      have tb := good_tri gb k kb
      have td := good_tri gd k kd
      simp only [inK, cfl, fx, on, meetT_get a b hl k ka, List.getElem?_eq_getElem ka, List.getElem?_eq_getElem kb, List.getElem?_eq_getElem kd] at hc ⊢
      generalize a[k] = x at *
      generalize b[k] = y at *
      generalize d[k] = z at *
      simp [tri] at ta tb td
      rcases ta with (rfl | rfl) | rfl <;> rcases tb with (rfl | rfl) | rfl <;> rcases td with (rfl | rfl) | rfl <;> simp_all
    constructor
    · rintro ⟨h1, h2⟩ k hk
      exact (key k hk).1 ⟨h1 k hk, h2 k hk⟩
    · intro h
      exact ⟨fun k hk => ((key k hk).2 (h k hk)).1, fun k hk => ((key k hk).2 (h k hk)).2⟩

theorem text_xx (w : World) : Calls Tryz.prog 23 #[cubeV (allT 2)] w fun e w' => e = .returned (.string ⟨#[120, 120]⟩) ∧ Below w.heap.size w w' :=
  text_any (allT 2) w (good_allT 2)

end Go.Proofs.YtecgjlpmmailjaaGreatDoor
