import Derived.Test.YtclgjdhobdncjaaDoorC7
namespace Go.Proofs.YtclgjdhobdncjaaDoor
open Go.RowKit Go.Shelf
theorem hex2 (l : List UInt8) (i : Nat) : (i + 3 < l.length ∧ ∃ a b, hexD (l.getD (i + 2) 0) = some a ∧ hexD (l.getD (i + 3) 0) = some b ∧ hexRun 2 (l.drop (i + 2)) 0 = (2, 16 * a + b)) ∨ ((hexRun 2 (l.drop (i + 2)) 0).1 ≠ 2 ∧ (i + 3 < l.length → hexD (l.getD (i + 2) 0) = none ∨ hexD (l.getD (i + 3) 0) = none)) := by
  by_cases h2 : i + 2 < l.length
  · rw [getD_drop h2, hexRun]
    cases h : hexD (l.getD (i + 2) 0) with
    | none => exact .inr ⟨(by decide : (0 : Nat) ≠ 2), fun _ => .inl rfl⟩
    | some a =>
      by_cases h3 : i + 3 < l.length
      · rw [getD_drop h3]
        cases hb : hexD (l.getD (i + 3) 0) with
        | none =>
          refine .inr ⟨?_, fun _ => .inr rfl⟩
          show (hexRun 1 (l.getD (i + 3) 0 :: l.drop (i + 3 + 1)) (16 * 0 + a)).1 + 1 ≠ 2
          rw [hexRun, hb]
          exact (by decide : (0 : Nat) + 1 ≠ 2)
        | some b =>
          refine .inl ⟨h3, a, b, rfl, rfl, ?_⟩
          show ((hexRun 1 (l.getD (i + 3) 0 :: l.drop (i + 3 + 1)) (16 * 0 + a)).1 + 1, (hexRun 1 (l.getD (i + 3) 0 :: l.drop (i + 3 + 1)) (16 * 0 + a)).2) = _
          rw [hexRun, hb]
          show ((0 : Nat) + 1 + 1, 16 * (16 * 0 + a) + b) = _
          simp
      · rw [List.drop_eq_nil_of_le (by omega)]
        refine .inr ⟨?_, fun h => absurd h h3⟩
        show (hexRun 1 [] _).1 + 1 ≠ 2
        rw [hexRun]
        exact (by decide : (0 : Nat) + 1 ≠ 2)
  · rw [List.drop_eq_nil_of_le (by omega), hexRun]
    exact .inr ⟨by decide, fun h => by omega⟩
theorem hexRun_lt (f : Nat) : ∀ (r : List UInt8) (n : Nat), (hexRun f r n).2 < (n + 1) * 16 ^ f := by
  induction f with
  | zero => intro r n; rw [hexRun]; simp
  | succ f ih =>
    intro r n
    have h0 : n < (n + 1) * 16 ^ (f + 1) := by
      have : 1 ≤ 16 ^ (f + 1) := Nat.pos_of_ne_zero (by simp)
      have := Nat.mul_le_mul_left (n + 1) this
      omega
    cases r with
    | nil => rw [hexRun]; exact h0
    | cons c r =>
      rw [hexRun]
      cases hc : hexD c with
      | none => exact h0
      | some d =>
        have hd := hexD_lt hc
        have := ih r (16 * n + d)
        show (hexRun f r (16 * n + d)).2 < _
        refine Nat.lt_of_lt_of_le this ?_
        rw [Nat.pow_succ, Nat.mul_comm (16 ^ f) 16, ← Nat.mul_assoc]
        exact Nat.mul_le_mul_right _ (by omega)
end Go.Proofs.YtclgjdhobdncjaaDoor
