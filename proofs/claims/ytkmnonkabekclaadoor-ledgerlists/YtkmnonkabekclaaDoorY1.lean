import Derived.RangeFuncNested
import Derived.RangeFuncBound
import Derived.RangeFuncCalls
import Derived.RangeFuncLeaves
import Derived.RangeFuncBox
import Derived.Shelf.Abstract
import Derived.Shelf.RegionOpen
import Derived.WalkKit
import Derived.OwnWalkIn
import Derived.TacticsInMore
import Derived.LoopNIn
import Derived.LoopIn
import Derived.Maps.AppendAt
import Derived.Maps.OwnIn
import Derived.RegionIn
import Derived.Test.YtkmnonkabekclaaDoorUA
namespace Go.Proofs.YtkmnonkabekclaaDoor
open Go.RowKit Go.Shelf

section
variable {F : Fence} {m : Nat} {P : Program}

/-- one round of the loop whose record lies at l: behind the body the record is still there, busy; what holds once it is put back -/
def bodyEnd (l : Nat) (r : Loop) (In : World → Prop) (Out : Code → World → Prop) : Exit → Act → World → Prop
  | .normal, _, W => W.heap[l]? = some (.loop { r with state := .busy }) ∧ In (W.putObj l (.loop r))
  | .exit id, _, W => W.heap[l]? = some (.loop { r with state := .busy }) ∧ Out (.exit id) (W.putObj l (.loop { r with state := .done, pending := some (.exit id) }))
  | .ret, _, W => W.heap[l]? = some (.loop { r with state := .busy }) ∧ Out .ret (W.putObj l (.loop { r with state := .done, pending := some .ret }))
  | _, _, _ => False

theorem round_by {l : Nat} {r : Loop} {W : World} {args : Array Value} {In : World → Prop} {Out : Code → World → Prop} (hF : F.fn r.fn) (hl : W.heap[l]? = some (.loop r)) (hr : r.state = .ready) (hp : r.pending = none) (hs : args.size = r.params.size)
    (a1 : Act) (has : ∀ K : Act → World → Prop, K a1 W → r.assign.wpIn (F.inRound l) m P (Exit.then K (fun _ _ _ => False)) { tmps := (r.params.zip args).foldl (fun tmps (t, a) => tmps.setIfInBounds t a) r.tmps, defers := [] } W)
    (hb : r.body.wpIn (F.inRound l) m P (bodyEnd l r In Out) a1 (W.putObj l (.loop { r with state := .busy }))) :
    YieldAt F m P l args W fun e W' => (e = .returned (.bool true) ∧ In W') ∨ (e = .returned (.bool false) ∧ ∃ c, Out c W') := by
  refine ⟨_, _, _, _, run_yield hl hs, roundIn_of_wpIn hF (has _ ⟨_, run_beginRound hl hr, wpIn_mono hb ?_⟩)⟩
  intro e a2 W2 h
  cases e with
  | normal =>
    have q := run_endRound (P := P) none h.1
    have e1 : ({ ({ r with state := .busy } : Loop) with state := if (none : Option Code).isNone = true then .ready else .done, pending := none } : Loop) = r := by
      cases r; simp_all
    rw [e1] at q
    exact ⟨_, _, q, .inl ⟨rfl, h.2⟩⟩
  | exit id => exact ⟨_, _, run_endRound (P := P) (some (.exit id)) h.1, .inr ⟨rfl, _, h.2⟩⟩
  | ret => exact ⟨_, _, run_endRound (P := P) (some .ret) h.1, .inr ⟨rfl, _, h.2⟩⟩
  | goto t => exact h.elim
  | panic c => exact h.elim
  | outgrown => exact h.elim

/-- the record that a loop lays -/
def recOf (fn : FuncId) (tmps : Array Value) (ps : Array Tmp) (assign body : Code) (D : Nat) : Loop := { state := .ready, pending := none, fn, tmps, params := ps, assign, body, defers := D }

/-- a loop over a function, not in a round: the iterator's call, on the record that is laid; what is pending behind it -/
theorem range_by {n : Nat} {g : Operand} {ps : Array Tmp} {assign body : Code} {Q : Exit → Act → World → Prop} {a : Act} {w : World}
    (hro : F.round = none) (h1 : 1 ≤ n) {gf : Nat} {lb : Array Value} (hg : a.eval g = .func (.func gf) #[] lb) (hFg : F.fn gf) (eg : ∀ args w, (callFunc gf args).run P w = .ok (.enter gf args) w)
    (h : ∀ fn, F.fn fn → CallsIn F (n - 1) P gf (#[.func (.yield (w.heap.size + 1)) #[] #[]] ++ lb) ((w.alloc (.deferred (some []))).alloc (.loop (recOf fn a.tmps ps assign body w.heap.size)))
      fun e W => (∃ v, e = .returned v) ∧ ∃ r, W.heap[w.heap.size + 1]? = some (.loop r) ∧ r.state ≠ .busy ∧
        ((r.pending = none ∧ Q .normal { a with defers := { target := .collected w.heap.size, args := #[] } :: a.defers } (W.putObj (w.heap.size + 1) (.loop { r with state := .exhausted }))) ∨
         ∃ c, r.pending = some c ∧ c.wpIn F n P Q { a with defers := { target := .collected w.heap.size, args := #[] } :: a.defers } (W.putObj (w.heap.size + 1) (.loop { r with state := .exhausted })))) :
    (Code.rangeFunc g ps assign body).wpIn F n P Q a w := by
  refine wpIn_rangeFunc (fun fn hfn => ?_)
  rw [hro]
  have hd : (resolve a.eval (rangeCall g (w.heap.size + 1)) 0).run P ((w.alloc (.deferred (some []))).alloc (.loop (recOf fn a.tmps ps assign body w.heap.size))) = .ok { target := .fn (.func gf) lb, args := #[.func (.yield (w.heap.size + 1)) #[] #[]] } ((w.alloc (.deferred (some []))).alloc (.loop (recOf fn a.tmps ps assign body w.heap.size))) := by
    simp only [resolve, hg]
    simp [go_sem]
  refine ⟨_, _, _, _, _, gf, _, _, run_enterLoop_outer fn a.tmps ps assign body, hd, ?_, ?_, fun _ => h1, (h fn hfn).mono ?_⟩
  · intro f' hf'
    simp [Target.leads] at hf'
    subst hf'
    exact hFg
  · simp [invoke, go_sem, eg]
  · rintro e W ⟨⟨v, rfl⟩, r, hr, hb, hq⟩
    refine ⟨_, _, run_endLoop (P := P) hr hb, ?_⟩
    rcases hq with ⟨hp, hq⟩ | ⟨c, hp, hq⟩
    · rw [hp] at hq ⊢; exact hq
    · rw [hp] at hq ⊢; exact hq

/-- a loop over a function in a round of another -/
theorem range_in {n : Nat} {g : Operand} {ps : Array Tmp} {assign body : Code} {Q : Exit → Act → World → Prop} {a : Act} {w : World} {l0 : Nat} {r0 : Loop}
    (hro : F.round = some l0) (hr0 : w.heap[l0]? = some (.loop r0)) (h1 : 1 ≤ n) {gf : Nat} {lb : Array Value} (hg : a.eval g = .func (.func gf) #[] lb) (hFg : F.fn gf) (eg : ∀ args w, (callFunc gf args).run P w = .ok (.enter gf args) w)
    (h : ∀ fn, F.fn fn → CallsIn F (n - 1) P gf (#[.func (.yield w.heap.size) #[] #[]] ++ lb) (w.alloc (.loop (recOf fn a.tmps ps assign body r0.defers)))
      fun e W => (∃ v, e = .returned v) ∧ ∃ r, W.heap[w.heap.size]? = some (.loop r) ∧ r.state ≠ .busy ∧
        ((r.pending = none ∧ Q .normal a (W.putObj w.heap.size (.loop { r with state := .exhausted }))) ∨
         ∃ c, r.pending = some c ∧ c.wpIn F n P Q a (W.putObj w.heap.size (.loop { r with state := .exhausted })))) :
    (Code.rangeFunc g ps assign body).wpIn F n P Q a w := by
  refine wpIn_rangeFunc (fun fn hfn => ?_)
  rw [hro]
  have hd : (resolve a.eval (rangeCall g w.heap.size) 0).run P (w.alloc (.loop (recOf fn a.tmps ps assign body r0.defers))) = .ok { target := .fn (.func gf) lb, args := #[.func (.yield w.heap.size) #[] #[]] } (w.alloc (.loop (recOf fn a.tmps ps assign body r0.defers))) := by
    simp only [resolve, hg]
    simp [go_sem]
  refine ⟨_, _, _, _, _, gf, _, _, run_enterLoop_inner hr0 fn a.tmps ps assign body, hd, ?_, ?_, fun _ => h1, (h fn hfn).mono ?_⟩
  · intro f' hf'
    simp [Target.leads] at hf'
    subst hf'
    exact hFg
  · simp [invoke, go_sem, eg]
  · rintro e W ⟨⟨v, rfl⟩, r, hr, hb, hq⟩
    refine ⟨_, _, run_endLoop (P := P) hr hb, ?_⟩
    rcases hq with ⟨hp, hq⟩ | ⟨c, hp, hq⟩
    · rw [hp] at hq ⊢; exact hq
    · rw [hp] at hq ⊢; exact hq
/-- one round, where taking the value makes memory -/
theorem round_byA {l : Nat} {r : Loop} {W : World} {args : Array Value} {In : World → Prop} {Out : Code → World → Prop} (hF : F.fn r.fn) (hl : W.heap[l]? = some (.loop r)) (hr : r.state = .ready) (hp : r.pending = none) (hs : args.size = r.params.size)
    (a1 : Act) (W1 : World) (hl1 : W1.heap[l]? = some (.loop r)) (has : ∀ K : Act → World → Prop, K a1 W1 → r.assign.wpIn (F.inRound l) m P (Exit.then K (fun _ _ _ => False)) { tmps := (r.params.zip args).foldl (fun tmps (t, a) => tmps.setIfInBounds t a) r.tmps, defers := [] } W)
    (hb : r.body.wpIn (F.inRound l) m P (bodyEnd l r In Out) a1 (W1.putObj l (.loop { r with state := .busy }))) :
    YieldAt F m P l args W fun e W' => (e = .returned (.bool true) ∧ In W') ∨ (e = .returned (.bool false) ∧ ∃ c, Out c W') := by
  refine ⟨_, _, _, _, run_yield hl hs, roundIn_of_wpIn hF (has _ ⟨_, run_beginRound hl1 hr, wpIn_mono hb ?_⟩)⟩
  intro e a2 W2 h
  cases e with
  | normal =>
    have q := run_endRound (P := P) none h.1
    have e1 : ({ ({ r with state := .busy } : Loop) with state := if (none : Option Code).isNone = true then .ready else .done, pending := none } : Loop) = r := by
      cases r; simp_all
    rw [e1] at q
    exact ⟨_, _, q, .inl ⟨rfl, h.2⟩⟩
  | exit id => exact ⟨_, _, run_endRound (P := P) (some (.exit id)) h.1, .inr ⟨rfl, _, h.2⟩⟩
  | ret => exact ⟨_, _, run_endRound (P := P) (some .ret) h.1, .inr ⟨rfl, _, h.2⟩⟩
  | goto t => exact h.elim
  | panic c => exact h.elim
  | outgrown => exact h.elim
end
end Go.Proofs.YtkmnonkabekclaaDoor
