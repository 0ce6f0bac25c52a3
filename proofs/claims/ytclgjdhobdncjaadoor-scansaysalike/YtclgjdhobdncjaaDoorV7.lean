import Derived.Test.YtclgjdhobdncjaaDoorK0
namespace Go.Proofs.YtclgjdhobdncjaaDoor
open Go.RowKit
def hexD (c : UInt8) : Option Nat :=
  if 48 ≤ c.toNat ∧ c.toNat ≤ 57 then some (c.toNat - 48) else if 97 ≤ c.toNat ∧ c.toNat ≤ 102 then some (c.toNat - 87) else if 65 ≤ c.toNat ∧ c.toNat ≤ 70 then some (c.toNat - 55) else none
def binD (c : UInt8) : Option Nat := if c = 48 then some 0 else if c = 49 then some 1 else none
def foldN (b : Nat) (D : UInt8 → Option Nat) : List UInt8 → Nat → Option Nat
  | [], n => some n
  | c :: r, n => match D c with
    | some d => foldN b D r (b * n + d)
    | none => none
theorem hexD_lt {c : UInt8} {d : Nat} (h : hexD c = some d) : d < 16 := by
  unfold hexD at h
  split at h
  · obtain rfl := Option.some.inj h; omega
  · split at h
    · obtain rfl := Option.some.inj h; omega
    · split at h
      · obtain rfl := Option.some.inj h; omega
      · cases h
theorem u8_sub (c : UInt8) (k : Nat) (h : k ≤ c.toNat) : IntKind.u8.wrap ((c.toNat : Int) - (k : Int)) = ((c.toNat - k : Nat) : Int) := by
  have := c.toNat_lt
  rw [IntKind.wrap_u8]
  omega
set_option maxRecDepth 100000 in
theorem refHex_any (c : UInt8) (w : World) :
    Calls Tryd.prog 32 #[.int .u8 (c.toNat : Int)] w fun e w' => e = .returned (.int .i64 (optI (hexD c))) ∧ w' = w := by
  obtain ⟨x, hx⟩ : ∃ x, c.toNat = x := ⟨_, rfl⟩
  have h256 : x < 256 := by rw [← hx]; exact c.toNat_lt
  have h48 : 48 ≤ x → IntKind.u8.wrap ((x : Int) - 48) = (x : Int) - 48 := fun h => by rw [IntKind.wrap_u8]; omega
  have h97 : 97 ≤ x → IntKind.u8.wrap ((x : Int) - 97) = (x : Int) - 97 := fun h => by rw [IntKind.wrap_u8]; omega
  have h65 : 65 ≤ x → IntKind.u8.wrap ((x : Int) - 65) = (x : Int) - 65 := fun h => by rw [IntKind.wrap_u8]; omega
  by_cases a1 : 48 ≤ x ∧ x ≤ 57
  · have hr : Hid (hexD c = some (x - 48)) := by unfold Hid hexD; rw [hx, if_pos a1]
    have e := h48 a1.1
    have j0 : ¬ (x : Int) < 48 := by omega
    have j1 : (48 : Int) ≤ (x : Int) := by omega
    have j2 : (x : Int) ≤ 57 := by omega
    clear h48 h97 h65
    rw [hx]
    go_enter Tryd.func32, Tryd.ntmps32
    go_wp2
    go_ret
    refine ⟨?_, rfl⟩
    rw [hr.out]
    simp [optI]
    try omega
  · by_cases a2 : 97 ≤ x ∧ x ≤ 102
    · have hr : Hid (hexD c = some (x - 97 + 10)) := by unfold Hid hexD; rw [hx, if_neg a1, if_pos a2]; exact congrArg some (by omega)
      have e := h97 a2.1
      have j0 : ¬ (x : Int) ≤ 57 := by omega
      have j1 : (48 : Int) ≤ (x : Int) := by omega
      have j2 : (97 : Int) ≤ (x : Int) := by omega
      have j3 : (x : Int) ≤ 102 := by omega
      clear h48 h97 h65
      rw [hx]
      go_enter Tryd.func32, Tryd.ntmps32
      go_wp2
      go_ret
      refine ⟨?_, rfl⟩
      rw [hr.out]
      simp [optI]
      try omega
    · by_cases a3 : 65 ≤ x ∧ x ≤ 70
      · have hr : Hid (hexD c = some (x - 65 + 10)) := by unfold Hid hexD; rw [hx, if_neg a1, if_neg a2, if_pos a3]; exact congrArg some (by omega)
        have e := h65 a3.1
        have j0 : ¬ (x : Int) ≤ 57 := by omega
        have j1 : (48 : Int) ≤ (x : Int) := by omega
        have j2 : ¬ (97 : Int) ≤ (x : Int) := by omega
        have j3 : (65 : Int) ≤ (x : Int) := by omega
        have j4 : (x : Int) ≤ 70 := by omega
        clear h48 h97 h65
        rw [hx]
        go_enter Tryd.func32, Tryd.ntmps32
        go_wp2
        go_ret
        refine ⟨?_, rfl⟩
        rw [hr.out]
        simp [optI]
        try omega
      · have hr : Hid (hexD c = none) := by unfold Hid hexD; rw [hx, if_neg a1, if_neg a2, if_neg a3]
        clear h48 h97 h65
        rw [hx]
        have b1 : (decide ((48 : Int) ≤ (x : Int)) && decide ((x : Int) ≤ 57)) = false := by rw [Bool.eq_false_iff]; simp; omega
        go_enter Tryd.func32, Tryd.ntmps32
        by_cases c1 : (48 : Int) ≤ (x : Int)
        · have d1 : ¬ (x : Int) ≤ 57 := by omega
          by_cases c2 : (97 : Int) ≤ (x : Int)
          · have d2 : ¬ (x : Int) ≤ 102 := by omega
            have c3 : (65 : Int) ≤ (x : Int) := by omega
            have d3 : ¬ (x : Int) ≤ 70 := by omega
            go_wp2
            go_ret
            exact ⟨by rw [hr.out]; rfl, rfl⟩
          · by_cases c3 : (65 : Int) ≤ (x : Int)
            · have d3 : ¬ (x : Int) ≤ 70 := by omega
              go_wp2
              go_ret
              exact ⟨by rw [hr.out]; rfl, rfl⟩
            · go_wp2
              go_ret
              exact ⟨by rw [hr.out]; rfl, rfl⟩
        · have c2 : ¬ (97 : Int) ≤ (x : Int) := by omega
          have c3 : ¬ (65 : Int) ≤ (x : Int) := by omega
          go_wp2
          go_ret
          exact ⟨by rw [hr.out]; rfl, rfl⟩
end Go.Proofs.YtclgjdhobdncjaaDoor
