import Derived.Test.YtclgjdhobdncjaaDoorU1
namespace Go.Proofs.YtclgjdhobdncjaaDoor
open Go.RowKit
/-- a loose byte stands there -/
def lo1 (l : List UInt8) (i : Nat) : Bool := decide (dc l i = (65533, 1))
set_option maxRecDepth 100000 in
set_option maxHeartbeats 4000000 in
theorem size_tab (n b0 b1 b2 b3 : Nat) (h0 : b0 < 256) (h1 : b1 < 256) (h2 : b2 < 256) (h3 : b3 < 256) :
    ((Lib.decodeN n b0 b1 b2 b3).2, decide (Lib.decodeN n b0 b1 b2 b3 = (65533, 1))) =
      if b0 < 128 then (1, false)
      else if 194 ≤ b0 ∧ b0 ≤ 223 ∧ (1 < n ∧ 128 ≤ b1 ∧ b1 ≤ 191) then (2, false)
      else if b0 = 224 ∧ (1 < n ∧ 160 ≤ b1 ∧ b1 ≤ 191) ∧ (2 < n ∧ 128 ≤ b2 ∧ b2 ≤ 191) then (3, false)
      else if b0 = 237 ∧ (1 < n ∧ 128 ≤ b1 ∧ b1 ≤ 159) ∧ (2 < n ∧ 128 ≤ b2 ∧ b2 ≤ 191) then (3, false)
      else if 225 ≤ b0 ∧ b0 ≤ 239 ∧ b0 ≠ 237 ∧ (1 < n ∧ 128 ≤ b1 ∧ b1 ≤ 191) ∧ (2 < n ∧ 128 ≤ b2 ∧ b2 ≤ 191) then (3, false)
      else if b0 = 240 ∧ (1 < n ∧ 144 ≤ b1 ∧ b1 ≤ 191) ∧ (2 < n ∧ 128 ≤ b2 ∧ b2 ≤ 191) ∧ (3 < n ∧ 128 ≤ b3 ∧ b3 ≤ 191) then (4, false)
      else if 241 ≤ b0 ∧ b0 ≤ 243 ∧ (1 < n ∧ 128 ≤ b1 ∧ b1 ≤ 191) ∧ (2 < n ∧ 128 ≤ b2 ∧ b2 ≤ 191) ∧ (3 < n ∧ 128 ≤ b3 ∧ b3 ≤ 191) then (4, false)
      else if b0 = 244 ∧ (1 < n ∧ 128 ≤ b1 ∧ b1 ≤ 143) ∧ (2 < n ∧ 128 ≤ b2 ∧ b2 ≤ 191) ∧ (3 < n ∧ 128 ≤ b3 ∧ b3 ≤ 191) then (4, false)
      else (1, true) := by
  have two : ∀ a k : Nat, k ≠ 1 → ((a, k).2, decide ((a, k) = (65533, 1))) = (k, false) := fun a k hk => by simp [hk]
  have bad : (((65533, 1) : Nat × Nat).2, decide (((65533, 1) : Nat × Nat) = (65533, 1))) = (1, true) := by simp
  have asc : ∀ a : Nat, a < 128 → ((a, 1).2, decide ((a, 1) = (65533, 1))) = (1, false) := fun a ha => by simp; omega
  rcases Lib.decodeN_shape n b0 b1 b2 b3 with ⟨a1, e⟩ | ⟨a1, a2, a3, a4, e⟩ | ⟨a1, a2, a3, a4, a5, a6, e⟩ | ⟨a1, a2, a3, a4, a5, a6, a7, e⟩ | e
  · rw [e, if_pos a1, asc _ a1]
  · rw [e, two _ _ (by decide), if_neg (by omega), if_pos (by omega)]
  · rw [e, two _ _ (by decide), if_neg (by omega), if_neg (by omega)]
    repeat' split
    all_goals first | rfl | (exfalso; omega)
  · rw [e, two _ _ (by decide), if_neg (by omega), if_neg (by omega), if_neg (by omega), if_neg (by omega), if_neg (by omega)]
    repeat' split
    all_goals first | rfl | (exfalso; omega)
  · rw [e, bad]
    have hb : ¬ b0 < 128 := fun h => by
      unfold Lib.decodeN at e
      rw [if_pos h] at e
      injection e with e1 _
      omega
    rw [if_neg hb]
    unfold Lib.decodeN at e
    rw [if_neg hb] at e
    repeat' split
    all_goals first | rfl | skip
    all_goals (exfalso; revert e; repeat' split)
    all_goals first | (intro e; injection e with e1 e2; omega) | (intro _; omega)
end Go.Proofs.YtclgjdhobdncjaaDoor
