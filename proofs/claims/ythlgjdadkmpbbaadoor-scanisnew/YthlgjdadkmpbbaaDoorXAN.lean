import Derived.Test.YthlgjdadkmpbbaaDoorXAL
import Derived.Test.YthlgjdadkmpbbaaDoorXAM
import Derived.Deep.RegionHeldLaw
import Derived.RangeFuncNested
import Derived.RangeFuncBound
import Derived.RangeFuncCalls
import Derived.RangeFuncLeaves
import Derived.RangeFuncBox
import Derived.Shelf.Abstract
import Derived.Shelf.RegionOpen
import Derived.WalkKit
import Derived.OwnWalkIn
import Derived.TacticsInMore
import Derived.LoopNIn
import Derived.LoopIn
import Derived.Maps.AppendAt
import Derived.Test.YthlgjdadkmpbbaaDoorXAA
namespace Go.Proofs.YthlgjdadkmpbbaaDoor
open Go.RowKit Go.Shelf
/-- how many bytes the sign has with which a text begins -/
def sgn (r : List UInt8) : Nat := ((signsL.find? (fun s => Lib.hasPrefix r s)).map List.length).getD 0
theorem hasP_any (r s : List UInt8) (w : World) : Calls Tryd.prog 13 #[.string ⟨r.toArray⟩, .string ⟨s.toArray⟩] w fun e w' => e = .returned (.bool (Lib.hasPrefix r s)) ∧ w' = w := Any.strings_HasPrefix Tryd.l99 ⟨r.toArray⟩ ⟨s.toArray⟩ w
set_option maxRecDepth 100000 in
theorem idx_sign (k : Nat) (z : List UInt8) (h : signsL[k]? = some z) (W : World) : Sem.run Tryd.prog (Instr.index 54 (.agg signsC) (.int .i64 (k : Int))) W = .ok (.string ⟨z.toArray⟩) W := by
  match k, h with
  | 0, h => obtain rfl := Option.some.inj h; rfl
  | 1, h => obtain rfl := Option.some.inj h; rfl
  | 2, h => obtain rfl := Option.some.inj h; rfl
  | 3, h => obtain rfl := Option.some.inj h; rfl
  | 4, h => obtain rfl := Option.some.inj h; rfl
  | 5, h => obtain rfl := Option.some.inj h; rfl
  | 6, h => obtain rfl := Option.some.inj h; rfl
  | 7, h => obtain rfl := Option.some.inj h; rfl
  | 8, h => obtain rfl := Option.some.inj h; rfl
  | 9, h => obtain rfl := Option.some.inj h; rfl
  | 10, h => obtain rfl := Option.some.inj h; rfl
  | 11, h => obtain rfl := Option.some.inj h; rfl
  | 12, h => obtain rfl := Option.some.inj h; rfl
  | 13, h => obtain rfl := Option.some.inj h; rfl
  | 14, h => obtain rfl := Option.some.inj h; rfl
  | 15, h => obtain rfl := Option.some.inj h; rfl
  | k + 16, h => simp at h
theorem find_at {α : Type} (p : α → Bool) : ∀ (L : List α) (k : Nat) (z : α), L[k]? = some z → p z = true → (∀ j y, j < k → L[j]? = some y → p y = false) → L.find? p = some z
  | [], k, z, h, _, _ => by simp at h
  | a :: L, 0, z, h, hz, _ => by
    simp at h
    subst h
    simp [hz]
  | a :: L, k + 1, z, h, hz, hn => by
    have h0 : p a = false := hn 0 a (by omega) rfl
    rw [List.find?_cons, h0]
    exact find_at p L k z (by simpa using h) hz (fun j y hj hy => hn (j + 1) y (by omega) (by simpa using hy))
theorem find_no {α : Type} (p : α → Bool) (L : List α) (h : ∀ j y, j < L.length → L[j]? = some y → p y = false) : L.find? p = none := by
  rw [List.find?_eq_none]
  intro x hx
  obtain ⟨j, hj, e⟩ := List.mem_iff_getElem.1 hx
  have := h j x hj (by rw [List.getElem?_eq_getElem hj, e])
  simp [this]
set_option maxRecDepth 100000 in
set_option maxHeartbeats 1000000 in
theorem signAt_any (r : List UInt8) (w : World) (hg : SG w) : Calls Tryd.prog 19 #[.string ⟨r.toArray⟩] w fun e w' => e = .returned (.int .i64 (sgn r : Int)) ∧ w' = w := by
  have c0 : w.cell? ⟨0, 0, none⟩ = some (.string ⟨#[33, 61]⟩) := hg.cell 0
  have c1 : w.cell? ⟨0, 1, none⟩ = some (.string ⟨#[60, 61]⟩) := hg.cell 1
  have c2 : w.cell? ⟨0, 2, none⟩ = some (.string ⟨#[62, 61]⟩) := hg.cell 2
  have c3 : w.cell? ⟨0, 3, none⟩ = some (.string ⟨#[46, 46]⟩) := hg.cell 3
  have c4 : w.cell? ⟨0, 4, none⟩ = some (.string ⟨#[45, 62]⟩) := hg.cell 4
  have c5 : w.cell? ⟨0, 5, none⟩ = some (.string ⟨#[40]⟩) := hg.cell 5
  have c6 : w.cell? ⟨0, 6, none⟩ = some (.string ⟨#[41]⟩) := hg.cell 6
  have c7 : w.cell? ⟨0, 7, none⟩ = some (.string ⟨#[33]⟩) := hg.cell 7
  have c8 : w.cell? ⟨0, 8, none⟩ = some (.string ⟨#[61]⟩) := hg.cell 8
  have c9 : w.cell? ⟨0, 9, none⟩ = some (.string ⟨#[60]⟩) := hg.cell 9
  have c10 : w.cell? ⟨0, 10, none⟩ = some (.string ⟨#[62]⟩) := hg.cell 10
  have c11 : w.cell? ⟨0, 11, none⟩ = some (.string ⟨#[38]⟩) := hg.cell 11
  have c12 : w.cell? ⟨0, 12, none⟩ = some (.string ⟨#[124]⟩) := hg.cell 12
  have c13 : w.cell? ⟨0, 13, none⟩ = some (.string ⟨#[44]⟩) := hg.cell 13
  have c14 : w.cell? ⟨0, 14, none⟩ = some (.string ⟨#[58]⟩) := hg.cell 14
  have c15 : w.cell? ⟨0, 15, none⟩ = some (.string ⟨#[47]⟩) := hg.cell 15
  clear hg
  go_enter Tryd.func19, Tryd.ntmps19
  go_wp2_with fail
  go_loop [6] (fun vk => ∃ k : Nat, vk = .int .i64 k ∧ k ≤ 16 ∧ (∀ (j : Nat) (z : List UInt8), j < k → signsL[j]? = some z → Lib.hasPrefix r z = false)) (fun vk => 16 - (intOf vk).toNat)
  case atStart => exact ⟨0, rfl, by omega, fun j z hj => by omega⟩
  case round =>
    clear c0 c1 c2 c3 c4 c5 c6 c7 c8 c9 c10 c11 c12 c13 c14 c15
    obtain ⟨k, rfl, hk, hno⟩ := hrel
    by_cases hk5 : k < 16
    · have hk5' : (k : Int) < 16 := by omega
      obtain ⟨z, hz⟩ : ∃ z, signsL[k]? = some z := ⟨_, List.getElem?_eq_getElem hk5⟩
      have hx := fun W => idx_sign k z hz W
      have HP := fun W => hasP_any r z W
      have HN : Hid (∀ (j : Nat) (z : List UInt8), j < k → signsL[j]? = some z → Lib.hasPrefix r z = false) := hno
      have HZ : Hid (signsL[k]? = some z) := hz
      obtain ⟨q, hq⟩ : ∃ q, Lib.hasPrefix r z = q := ⟨_, rfl⟩
      rw [hq] at HP
      have HQ : Hid (Lib.hasPrefix r z = q) := hq
      have hzl : z.length ≤ 2 := by
        have hzz := hz
        match k, hzz with
        | 0, h => obtain rfl := Option.some.inj h; decide
        | 1, h => obtain rfl := Option.some.inj h; decide
        | 2, h => obtain rfl := Option.some.inj h; decide
        | 3, h => obtain rfl := Option.some.inj h; decide
        | 4, h => obtain rfl := Option.some.inj h; decide
        | 5, h => obtain rfl := Option.some.inj h; decide
        | 6, h => obtain rfl := Option.some.inj h; decide
        | 7, h => obtain rfl := Option.some.inj h; decide
        | 8, h => obtain rfl := Option.some.inj h; decide
        | 9, h => obtain rfl := Option.some.inj h; decide
        | 10, h => obtain rfl := Option.some.inj h; decide
        | 11, h => obtain rfl := Option.some.inj h; decide
        | 12, h => obtain rfl := Option.some.inj h; decide
        | 13, h => obtain rfl := Option.some.inj h; decide
        | 14, h => obtain rfl := Option.some.inj h; decide
        | 15, h => obtain rfl := Option.some.inj h; decide
        | k + 16, h => simp at h
      clear hno hz hq
      cases q with
      | true =>
        have HS : Hid (sgn r = z.length) := by
          unfold Hid sgn
          rw [find_at _ _ k z HZ.out HQ.out HN.out]
          rfl
        go_wp2_with fail
        refine (HP _).mono ?_
        rintro e w1 ⟨rfl, rfl⟩
        go_wp2_with fail
        go_ret
        exact ⟨by rw [HS.out]; rfl, rfl⟩
      | false =>
        go_wp2_with fail
        refine (HP _).mono ?_
        rintro e w1 ⟨rfl, rfl⟩
        go_wp2_with fail
        go_round
        case rel =>
          refine ⟨k + 1, by go_num, by omega, fun j y hj hy => ?_⟩
          rcases Nat.lt_or_ge j k with h | h
          · exact HN.out j y h hy
          · obtain rfl : j = k := by omega
            rw [HZ.out] at hy
            obtain rfl := Option.some.inj hy
            exact HQ.out
        case measure => simp [intOf]; omega
    · have hk5' : ¬ (k : Int) < 16 := by omega
      have HS : Hid (sgn r = 0) := by
        unfold Hid sgn
        rw [find_no _ _ (fun j y hj hy => hno j y (by have : j < 16 := hj; omega) hy)]
        rfl
      clear hno
      go_wp2_with fail
      go_ret
      exact ⟨by rw [HS.out]; rfl, rfl⟩
end Go.Proofs.YthlgjdadkmpbbaaDoor
namespace Go.Proofs.YthlgjdadkmpbbaaDoor
open Go.RowKit Go.Shelf

section
variable {F : Fence} {m : Nat} {P : Program}

/-- one round of the loop whose record lies at l: behind the body the record is still there, busy; what holds once it is put back -/
def bodyEnd (l : Nat) (r : Loop) (In : World → Prop) (Out : Code → World → Prop) : Exit → Act → World → Prop
  | .normal, _, W => W.heap[l]? = some (.loop { r with state := .busy }) ∧ In (W.putObj l (.loop r))
  | .exit id, _, W => W.heap[l]? = some (.loop { r with state := .busy }) ∧ Out (.exit id) (W.putObj l (.loop { r with state := .done, pending := some (.exit id) }))
  | .ret, _, W => W.heap[l]? = some (.loop { r with state := .busy }) ∧ Out .ret (W.putObj l (.loop { r with state := .done, pending := some .ret }))
  | _, _, _ => False

theorem round_by {l : Nat} {r : Loop} {W : World} {args : Array Value} {In : World → Prop} {Out : Code → World → Prop} (hF : F.fn r.fn) (hl : W.heap[l]? = some (.loop r)) (hr : r.state = .ready) (hp : r.pending = none) (hs : args.size = r.params.size)
    (a1 : Act) (has : ∀ K : Act → World → Prop, K a1 W → r.assign.wpIn (F.inRound l) m P (Exit.then K (fun _ _ _ => False)) { tmps := (r.params.zip args).foldl (fun tmps (t, a) => tmps.setIfInBounds t a) r.tmps, defers := [] } W)
    (hb : r.body.wpIn (F.inRound l) m P (bodyEnd l r In Out) a1 (W.putObj l (.loop { r with state := .busy }))) :
    YieldAt F m P l args W fun e W' => (e = .returned (.bool true) ∧ In W') ∨ (e = .returned (.bool false) ∧ ∃ c, Out c W') := by
  refine ⟨_, _, _, _, run_yield hl hs, roundIn_of_wpIn hF (has _ ⟨_, run_beginRound hl hr, wpIn_mono hb ?_⟩)⟩
  intro e a2 W2 h
  cases e with
  | normal =>
    have q := run_endRound (P := P) none h.1
    have e1 : ({ ({ r with state := .busy } : Loop) with state := if (none : Option Code).isNone = true then .ready else .done, pending := none } : Loop) = r := by
      cases r; simp_all
    rw [e1] at q
    exact ⟨_, _, q, .inl ⟨rfl, h.2⟩⟩
  | exit id => exact ⟨_, _, run_endRound (P := P) (some (.exit id)) h.1, .inr ⟨rfl, _, h.2⟩⟩
  | ret => exact ⟨_, _, run_endRound (P := P) (some .ret) h.1, .inr ⟨rfl, _, h.2⟩⟩
  | goto t => exact h.elim
  | panic c => exact h.elim
  | outgrown => exact h.elim

/-- the record that a loop lays -/
def recOf (fn : FuncId) (tmps : Array Value) (ps : Array Tmp) (assign body : Code) (D : Nat) : Loop := { state := .ready, pending := none, fn, tmps, params := ps, assign, body, defers := D }

/-- a loop over a function, not in a round: the iterator's call, on the record that is laid; what is pending behind it -/
theorem range_by {n : Nat} {g : Operand} {ps : Array Tmp} {assign body : Code} {Q : Exit → Act → World → Prop} {a : Act} {w : World}
    (hro : F.round = none) (h1 : 1 ≤ n) {gf : Nat} {lb : Array Value} (hg : a.eval g = .func (.func gf) #[] lb) (hFg : F.fn gf) (eg : ∀ args w, (callFunc gf args).run P w = .ok (.enter gf args) w)
    (h : ∀ fn, F.fn fn → CallsIn F (n - 1) P gf (#[.func (.yield (w.heap.size + 1)) #[] #[]] ++ lb) ((w.alloc (.deferred (some []))).alloc (.loop (recOf fn a.tmps ps assign body w.heap.size)))
      fun e W => (∃ v, e = .returned v) ∧ ∃ r, W.heap[w.heap.size + 1]? = some (.loop r) ∧ r.state ≠ .busy ∧
        ((r.pending = none ∧ Q .normal { a with defers := { target := .collected w.heap.size, args := #[] } :: a.defers } (W.putObj (w.heap.size + 1) (.loop { r with state := .exhausted }))) ∨
         ∃ c, r.pending = some c ∧ c.wpIn F n P Q { a with defers := { target := .collected w.heap.size, args := #[] } :: a.defers } (W.putObj (w.heap.size + 1) (.loop { r with state := .exhausted })))) :
    (Code.rangeFunc g ps assign body).wpIn F n P Q a w := by
  refine wpIn_rangeFunc (fun fn hfn => ?_)
  rw [hro]
  have hd : (resolve a.eval (rangeCall g (w.heap.size + 1)) 0).run P ((w.alloc (.deferred (some []))).alloc (.loop (recOf fn a.tmps ps assign body w.heap.size))) = .ok { target := .fn (.func gf) lb, args := #[.func (.yield (w.heap.size + 1)) #[] #[]] } ((w.alloc (.deferred (some []))).alloc (.loop (recOf fn a.tmps ps assign body w.heap.size))) := by
    simp only [resolve, hg]
    simp [go_sem]
  refine ⟨_, _, _, _, _, gf, _, _, run_enterLoop_outer fn a.tmps ps assign body, hd, ?_, ?_, fun _ => h1, (h fn hfn).mono ?_⟩
  · intro f' hf'
    simp [Target.leads] at hf'
    subst hf'
    exact hFg
  · simp [invoke, go_sem, eg]
  · rintro e W ⟨⟨v, rfl⟩, r, hr, hb, hq⟩
    refine ⟨_, _, run_endLoop (P := P) hr hb, ?_⟩
    rcases hq with ⟨hp, hq⟩ | ⟨c, hp, hq⟩
    · rw [hp] at hq ⊢; exact hq
    · rw [hp] at hq ⊢; exact hq

end
end Go.Proofs.YthlgjdadkmpbbaaDoor
