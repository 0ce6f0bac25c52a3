import Derived.Test.YtnobpeghofoniaaGreatDoorZ2
namespace Go.Proofs.YtnobpeghofoniaaGreatDoor
open Go.RowKit
theorem wi_iff (l : List UInt8) (j lo hi : Nat) : (wi l j lo hi = true) = (j < l.length ∧ lo ≤ bt l j ∧ bt l j ≤ hi) := by simp [wi]
def sizeF (x : Nat) (x1 x2 x3 a0 d0 n0 f4 : Bool) : Nat × Bool :=
  if x < 128 then (1, false)
  else if 194 ≤ x ∧ x ≤ 223 ∧ x1 = true then (2, false)
  else if x = 224 ∧ a0 = true ∧ x2 = true then (3, false)
  else if x = 237 ∧ d0 = true ∧ x2 = true then (3, false)
  else if 225 ≤ x ∧ x ≤ 239 ∧ x ≠ 237 ∧ x1 = true ∧ x2 = true then (3, false)
  else if x = 240 ∧ n0 = true ∧ x2 = true ∧ x3 = true then (4, false)
  else if 241 ≤ x ∧ x ≤ 243 ∧ x1 = true ∧ x2 = true ∧ x3 = true then (4, false)
  else if x = 244 ∧ f4 = true ∧ x2 = true ∧ x3 = true then (4, false)
  else (1, true)
theorem size_eq (l : List UInt8) (i : Nat) : ((dc l i).2, lo1 l i) = sizeF (bt l i) (wi l (i + 1) 128 191) (wi l (i + 2) 128 191) (wi l (i + 3) 128 191) (wi l (i + 1) 160 191) (wi l (i + 1) 128 159) (wi l (i + 1) 144 191) (wi l (i + 1) 128 143) := by
  have hT := size_tab (l.length - i) (bt l i) (bt l (i + 1)) (bt l (i + 2)) (bt l (i + 3)) (bt_lt _ _) (bt_lt _ _) (bt_lt _ _) (bt_lt _ _)
  have e1 : (1 < l.length - i) = (i + 1 < l.length) := propext ⟨fun h => by omega, fun h => by omega⟩
  have e2 : (2 < l.length - i) = (i + 2 < l.length) := propext ⟨fun h => by omega, fun h => by omega⟩
  have e3 : (3 < l.length - i) = (i + 3 < l.length) := propext ⟨fun h => by omega, fun h => by omega⟩
  simp only [e1, e2, e3] at hT
  unfold sizeF
  simp only [wi_iff]
  exact hT
end Go.Proofs.YtnobpeghofoniaaGreatDoor
