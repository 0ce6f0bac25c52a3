import Derived.Test.YtdkhdkfjadalpaaDoorH1
import Derived.Test.YtdkhdkfjadalpaaDoorK0
import Derived.Laws.ShiftsVar
import Derived.Laws.ShiftsVarLaws
import Derived.Laws.BitsAllLaws
namespace Go.Proofs.YtdkhdkfjadalpaaDoor
open Go.RowKit
theorem pow_cast (b : Nat) : (2 : Int) ^ b = ((2 ^ b : Nat) : Int) := by simp
theorem w64 {x : Int} (h0 : -9223372036854775808 ≤ x) (h1 : x ≤ 9223372036854775807) : wrap64 x = x := by unfold wrap64; omega
set_option maxRecDepth 100000 in
theorem greatest_any (b : Nat) (hb : b ≤ 32) (w : World) :
    Calls Tryd.prog 14 #[.int .i64 (b : Int)] w fun e w' => e = .returned (.int .i64 ((2 ^ b - 1 : Nat) : Int)) ∧ w' = w := by
  have hp : 2 ^ b ≤ 2 ^ 32 := Nat.pow_le_pow_right (by decide) hb
  have hp0 : 0 < 2 ^ b := Nat.pow_pos (by decide)
  go_enter Tryd.func14, Tryd.ntmps14
  go_wp2_with fail
  go_ret
  refine ⟨?_, rfl⟩
  have e1 : wrap64 (2 ^ b) = ((2 ^ b : Nat) : Int) := by rw [pow_cast]; exact w64 (by omega) (by omega)
  have e2 : wrap64 (wrap64 (2 ^ b) - 1) = ((2 ^ b - 1 : Nat) : Int) := by rw [e1, w64 (by omega) (by omega)]; omega
  exact congrArg (fun z => Ending.returned (Value.int .i64 z)) e2
set_option maxRecDepth 100000 in
theorem fits_any (v : Int) (b : Nat) (hb : b ≤ 32) (w : World) :
    Calls Tryd.prog 12 #[.int .i64 v, .int .i64 (b : Int)] w fun e w' => e = .returned (.bool (decide (0 ≤ v ∧ v ≤ ((2 ^ b - 1 : Nat) : Int)))) ∧ w' = w := by
  have HG := fun W => greatest_any b hb W
  obtain ⟨g, hg⟩ : ∃ g : Nat, 2 ^ b - 1 = g := ⟨_, rfl⟩
  rw [hg] at HG ⊢
  clear hg
  by_cases h0 : 0 ≤ v
  · by_cases h1 : v ≤ (g : Int)
    · rw [decide_eq_true ⟨h0, h1⟩]
      go_enter Tryd.func12, Tryd.ntmps12
      go_wp2_with fail
      refine (HG _).mono ?_
      rintro e w1 ⟨rfl, rfl⟩
      go_wp2_with fail
      go_ret
      exact ⟨rfl, rfl⟩
    · rw [decide_eq_false (fun h => h1 h.2)]
      go_enter Tryd.func12, Tryd.ntmps12
      go_wp2_with fail
      refine (HG _).mono ?_
      rintro e w1 ⟨rfl, rfl⟩
      have hd : Hid (decide (v ≤ (g : Int)) = false) := decide_eq_false (by omega)
      go_wp2_with fail
      go_ret
      exact ⟨by first | rfl | (rw [hd.out]; rfl), rfl⟩
  · rw [decide_eq_false (fun h => h0 h.1)]
    go_enter Tryd.func12, Tryd.ntmps12
    go_wp2_with fail
    go_ret
    exact ⟨rfl, rfl⟩
end Go.Proofs.YtdkhdkfjadalpaaDoor
