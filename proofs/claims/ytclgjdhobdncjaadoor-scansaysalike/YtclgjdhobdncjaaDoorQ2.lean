import Derived.Test.YtclgjdhobdncjaaDoorQ1
import Derived.Test.YtclgjdhobdncjaaDoorC5
import Derived.Deep.QuietTactic
namespace Go.Proofs.YtclgjdhobdncjaaDoor
open Go.RowKit
/-- a byte, told by its number -/
def looS (x : Nat) : List UInt8 := [92, 120, hx (x / 16), hx (x % 16)]
theorem hx_slice8 (d : Nat) (hd : d < 16) (W : World) : Sem.run Tryd.prog (Instr.slice 9 (Value.string { data := #[48, 49, 50, 51, 52, 53, 54, 55, 56, 57, 97, 98, 99, 100, 101, 102] }) (some (.int .u8 (d : Int))) (some (.int .u8 ((d : Int) + 1))) none) W = .ok (.string ⟨#[hx d]⟩) W := by
  rw [run_slice_string _ _ _ _ _ _ _ Tryd.underlying9 (by omega) (by omega) (by show _ ≤ (16 : Int); omega)]
  have h2 : ((d : Int) + 1).toNat = d + 1 := by omega
  have h3 : ((d : Int)).toNat = d := by omega
  rw [h2, h3]
  exact congrArg (fun x => Result.ok (Value.string x) W) (hx_ext d hd)
set_option maxRecDepth 100000 in
theorem refLoose_any (x : Nat) (hx2 : x < 256) (w : World) :
    Calls Tryd.prog 13 #[.int .u8 (x : Int)] w fun e w' => e = .returned (.string ⟨(looS x).toArray⟩) ∧ Below w.heap.size w w' := by
  have hs1 := hx_slice8 (x / 16) (by omega)
  have hs2 := hx_slice8 (x % 16) (by omega)
  obtain ⟨a, ha⟩ : ∃ a, x / 16 = a := ⟨_, rfl⟩
  obtain ⟨b, hb⟩ : ∃ b, x % 16 = b := ⟨_, rfl⟩
  rw [ha] at hs1
  rw [hb] at hs2
  have e1 : (x : Int) / 16 = (a : Int) := by omega
  have e2 : (x : Int) % 16 = (b : Int) := by omega
  have l1 : a < 16 := by omega
  have l2 : b < 16 := by omega
  have hL : Hid (looS x = [92, 120, hx a, hx b]) := by unfold Hid looS; rw [ha, hb]
  clear ha hb
  go_enter Tryd.func13, Tryd.ntmps13
  go_wp2_with fail
  go_quiet (fail)
  go_wp2_with fail
  go_ret
  exact ⟨by rw [hL.out]; rfl, bel_drewN _ (Below.refl _ _)⟩
/-- characters that are not seen -/
def unsN (n : Nat) : Bool := decide ((128 ≤ n ∧ n ≤ 159) ∨ (8203 ≤ n ∧ n ≤ 8207) ∨ (8232 ≤ n ∧ n ≤ 8238) ∨ n = 65279)
set_option maxRecDepth 100000 in
theorem refUnseen_any (n : Nat) (w : World) :
    Calls Tryd.prog 23 #[.int .i64 (n : Int)] w fun e w' => e = .returned (.bool (unsN n)) ∧ Below w.heap.size w w' := by
  by_cases g0 : n ≤ 127
  · have hr : Hid (unsN n = false) := by unfold Hid unsN; exact decide_eq_false (by omega)
    rw [hr.out]
    have f0 : (¬ (128 : Int) ≤ (n : Int)) := by omega
    have f1 : (¬ (8203 : Int) ≤ (n : Int)) := by omega
    have f2 : (¬ (8232 : Int) ≤ (n : Int)) := by omega
    have f3 : ((n : Int) ≤ 159) := by omega
    have f4 : ((n : Int) ≤ 8207) := by omega
    have f5 : ((n : Int) ≤ 8238) := by omega
    have fe : ((n : Int) == 65279) = false := by rw [beq_eq_false_iff_ne]; omega
    go_enter Tryd.func23, Tryd.ntmps23
    go_wp2_with fail
    try (go_quiet (fail); go_wp2_with fail)
    go_ret
    exact ⟨rfl, by first | exact Below.refl _ _ | exact bel_drewN _ (Below.refl _ _)⟩
  by_cases g1 : n ≤ 159
  · have hr : Hid (unsN n = true) := by unfold Hid unsN; exact decide_eq_true (by omega)
    rw [hr.out]
    have f0 : ((128 : Int) ≤ (n : Int)) := by omega
    have f1 : (¬ (8203 : Int) ≤ (n : Int)) := by omega
    have f2 : (¬ (8232 : Int) ≤ (n : Int)) := by omega
    have f3 : ((n : Int) ≤ 159) := by omega
    have f4 : ((n : Int) ≤ 8207) := by omega
    have f5 : ((n : Int) ≤ 8238) := by omega
    have fe : ((n : Int) == 65279) = false := by rw [beq_eq_false_iff_ne]; omega
    go_enter Tryd.func23, Tryd.ntmps23
    go_wp2_with fail
    try (go_quiet (fail); go_wp2_with fail)
    go_ret
    exact ⟨rfl, by first | exact Below.refl _ _ | exact bel_drewN _ (Below.refl _ _)⟩
  by_cases g2 : n ≤ 8202
  · have hr : Hid (unsN n = false) := by unfold Hid unsN; exact decide_eq_false (by omega)
    rw [hr.out]
    have f0 : ((128 : Int) ≤ (n : Int)) := by omega
    have f1 : (¬ (8203 : Int) ≤ (n : Int)) := by omega
    have f2 : (¬ (8232 : Int) ≤ (n : Int)) := by omega
    have f3 : (¬ (n : Int) ≤ 159) := by omega
    have f4 : ((n : Int) ≤ 8207) := by omega
    have f5 : ((n : Int) ≤ 8238) := by omega
    have fe : ((n : Int) == 65279) = false := by rw [beq_eq_false_iff_ne]; omega
    go_enter Tryd.func23, Tryd.ntmps23
    go_wp2_with fail
    try (go_quiet (fail); go_wp2_with fail)
    go_ret
    exact ⟨rfl, by first | exact Below.refl _ _ | exact bel_drewN _ (Below.refl _ _)⟩
  by_cases g3 : n ≤ 8207
  · have hr : Hid (unsN n = true) := by unfold Hid unsN; exact decide_eq_true (by omega)
    rw [hr.out]
    have f0 : ((128 : Int) ≤ (n : Int)) := by omega
    have f1 : ((8203 : Int) ≤ (n : Int)) := by omega
    have f2 : (¬ (8232 : Int) ≤ (n : Int)) := by omega
    have f3 : (¬ (n : Int) ≤ 159) := by omega
    have f4 : ((n : Int) ≤ 8207) := by omega
    have f5 : ((n : Int) ≤ 8238) := by omega
    have fe : ((n : Int) == 65279) = false := by rw [beq_eq_false_iff_ne]; omega
    go_enter Tryd.func23, Tryd.ntmps23
    go_wp2_with fail
    try (go_quiet (fail); go_wp2_with fail)
    go_ret
    exact ⟨rfl, by first | exact Below.refl _ _ | exact bel_drewN _ (Below.refl _ _)⟩
  by_cases g4 : n ≤ 8231
  · have hr : Hid (unsN n = false) := by unfold Hid unsN; exact decide_eq_false (by omega)
    rw [hr.out]
    have f0 : ((128 : Int) ≤ (n : Int)) := by omega
    have f1 : ((8203 : Int) ≤ (n : Int)) := by omega
    have f2 : (¬ (8232 : Int) ≤ (n : Int)) := by omega
    have f3 : (¬ (n : Int) ≤ 159) := by omega
    have f4 : (¬ (n : Int) ≤ 8207) := by omega
    have f5 : ((n : Int) ≤ 8238) := by omega
    have fe : ((n : Int) == 65279) = false := by rw [beq_eq_false_iff_ne]; omega
    go_enter Tryd.func23, Tryd.ntmps23
    go_wp2_with fail
    try (go_quiet (fail); go_wp2_with fail)
    go_ret
    exact ⟨rfl, by first | exact Below.refl _ _ | exact bel_drewN _ (Below.refl _ _)⟩
  by_cases g5 : n ≤ 8238
  · have hr : Hid (unsN n = true) := by unfold Hid unsN; exact decide_eq_true (by omega)
    rw [hr.out]
    have f0 : ((128 : Int) ≤ (n : Int)) := by omega
    have f1 : ((8203 : Int) ≤ (n : Int)) := by omega
    have f2 : ((8232 : Int) ≤ (n : Int)) := by omega
    have f3 : (¬ (n : Int) ≤ 159) := by omega
    have f4 : (¬ (n : Int) ≤ 8207) := by omega
    have f5 : ((n : Int) ≤ 8238) := by omega
    have fe : ((n : Int) == 65279) = false := by rw [beq_eq_false_iff_ne]; omega
    go_enter Tryd.func23, Tryd.ntmps23
    go_wp2_with fail
    try (go_quiet (fail); go_wp2_with fail)
    go_ret
    exact ⟨rfl, by first | exact Below.refl _ _ | exact bel_drewN _ (Below.refl _ _)⟩
  by_cases g6 : n ≤ 65278
  · have hr : Hid (unsN n = false) := by unfold Hid unsN; exact decide_eq_false (by omega)
    rw [hr.out]
    have f0 : ((128 : Int) ≤ (n : Int)) := by omega
    have f1 : ((8203 : Int) ≤ (n : Int)) := by omega
    have f2 : ((8232 : Int) ≤ (n : Int)) := by omega
    have f3 : (¬ (n : Int) ≤ 159) := by omega
    have f4 : (¬ (n : Int) ≤ 8207) := by omega
    have f5 : (¬ (n : Int) ≤ 8238) := by omega
    have fe : ((n : Int) == 65279) = false := by rw [beq_eq_false_iff_ne]; omega
    go_enter Tryd.func23, Tryd.ntmps23
    go_wp2_with fail
    try (go_quiet (fail); go_wp2_with fail)
    go_ret
    exact ⟨rfl, by first | exact Below.refl _ _ | exact bel_drewN _ (Below.refl _ _)⟩
  by_cases g7 : n ≤ 65279
  · have hr : Hid (unsN n = true) := by unfold Hid unsN; exact decide_eq_true (by omega)
    rw [hr.out]
    have f0 : ((128 : Int) ≤ (n : Int)) := by omega
    have f1 : ((8203 : Int) ≤ (n : Int)) := by omega
    have f2 : ((8232 : Int) ≤ (n : Int)) := by omega
    have f3 : (¬ (n : Int) ≤ 159) := by omega
    have f4 : (¬ (n : Int) ≤ 8207) := by omega
    have f5 : (¬ (n : Int) ≤ 8238) := by omega
    obtain rfl : n = 65279 := by omega
    go_enter Tryd.func23, Tryd.ntmps23
    go_wp2_with fail
    try (go_quiet (fail); go_wp2_with fail)
    go_ret
    exact ⟨rfl, by first | exact Below.refl _ _ | exact bel_drewN _ (Below.refl _ _)⟩
  have hr : Hid (unsN n = false) := by unfold Hid unsN; exact decide_eq_false (by omega)
  rw [hr.out]
  have f0 : ((128 : Int) ≤ (n : Int)) := by omega
  have f1 : ((8203 : Int) ≤ (n : Int)) := by omega
  have f2 : ((8232 : Int) ≤ (n : Int)) := by omega
  have f3 : (¬ (n : Int) ≤ 159) := by omega
  have f4 : (¬ (n : Int) ≤ 8207) := by omega
  have f5 : (¬ (n : Int) ≤ 8238) := by omega
  have fe : ((n : Int) == 65279) = false := by rw [beq_eq_false_iff_ne]; omega
  go_enter Tryd.func23, Tryd.ntmps23
  go_wp2_with fail
  try (go_quiet (fail); go_wp2_with fail)
  go_ret
  exact ⟨rfl, by first | exact Below.refl _ _ | exact bel_drewN _ (Below.refl _ _)⟩
/-- the number of a character by its bytes -/
def codI (s : List UInt8) : Nat → Int
  | 0 => ((s.getD 0 0).toNat : Int) - (if s.length = 2 then 192 else if s.length = 3 then 224 else if s.length = 4 then 240 else 0)
  | j + 1 => 64 * codI s j + ((s.getD (j + 1) 0).toNat : Int) - 128
theorem codI_le (s : List UInt8) (j : Nat) (hj : j ≤ 3) : -1000000000 ≤ codI s j ∧ codI s j ≤ 1000000000 := by
  have b : ∀ i, ((s.getD i 0).toNat : Int) < 256 := fun i => by have := (s.getD i 0).toNat_lt; omega
  have b0 := b 0
  have b1 := b 1
  have b2 := b 2
  have b3 := b 3
  have h0 : -240 ≤ codI s 0 ∧ codI s 0 < 256 := by
    simp only [codI]
    by_cases h2 : s.length = 2
    · rw [if_pos h2]; omega
    · rw [if_neg h2]
      by_cases h3 : s.length = 3
      · rw [if_pos h3]; omega
      · rw [if_neg h3]
        by_cases h4 : s.length = 4
        · rw [if_pos h4]; omega
        · rw [if_neg h4]; omega
  have e1 : codI s 1 = 64 * codI s 0 + ((s.getD 1 0).toNat : Int) - 128 := rfl
  have e2 : codI s 2 = 64 * codI s 1 + ((s.getD 2 0).toNat : Int) - 128 := rfl
  have e3 : codI s 3 = 64 * codI s 2 + ((s.getD 3 0).toNat : Int) - 128 := rfl
  match j, hj with
  | 0, _ => omega
  | 1, _ => omega
  | 2, _ => omega
  | 3, _ => omega
set_option maxRecDepth 100000 in
set_option maxHeartbeats 1000000 in
theorem refCode_any (s : List UInt8) (w : World) (h1 : 1 ≤ s.length) (h4 : s.length ≤ 4) :
    Calls Tryd.prog 22 #[.string ⟨s.toArray⟩] w fun e w' => e = .returned (.int .i64 (codI s (s.length - 1))) ∧ Below w.heap.size w w' := by
  obtain ⟨c0, hc0, hl0⟩ := byte_get s 0 h1
  have g0 : s.getD 0 0 = c0 := getD_of hl0
  have z0 : codI s 0 = (c0.toNat : Int) - (if s.length = 2 then 192 else if s.length = 3 then 224 else if s.length = 4 then 240 else 0) := by rw [codI, g0]
  have hle := fun j hj => codI_le s j hj
  obtain ⟨C, hC⟩ : ∃ C, codI s (s.length - 1) = C := ⟨_, rfl⟩
  rw [hC]
  have HC : Hid (codI s (s.length - 1) = C) := hC
  have i0 : (0 : Int) < (s.length : Int) := by omega
  have hc256 := c0.toNat_lt
  clear hC
  by_cases k1 : s.length = 1
  · rw [if_neg (by omega), if_neg (by omega), if_neg (by omega)] at z0
    have q2 : ((s.length : Int) == 2) = false := by rw [beq_eq_false_iff_ne]; omega
    have q3 : ((s.length : Int) == 3) = false := by rw [beq_eq_false_iff_ne]; omega
    have q4 : ((s.length : Int) == 4) = false := by rw [beq_eq_false_iff_ne]; omega
    have Z0 : Hid (codI s 0 = _) := z0
    clear z0
    have K : Hid (s.length = 1) := k1
    clear k1
    go_enter Tryd.func22, Tryd.ntmps22
    go_wp2_with fail
    go_loop [3, 4] (fun vn vi => ∃ j : Nat, vn = .int .i64 (codI s j) ∧ vi = .int .i64 ((j + 1 : Nat) : Int) ∧ j + 1 ≤ s.length) (fun _ vi => s.length - (intOf vi).toNat)
    case atStart => exact ⟨0, by first | (rw [Z0.out]; done) | (rw [Z0.out]; go_num), by go_num, h1⟩
    case round =>
      obtain ⟨j, rfl, rfl, hj⟩ := hrel
      by_cases hlt : j + 1 < s.length
      · have j1 : ((j + 1 : Nat) : Int) < (s.length : Int) := by omega
        have j0 : (0 : Int) ≤ ((j + 1 : Nat) : Int) := by omega
        obtain ⟨c, hc, hlc⟩ := byte_get s (j + 1) hlt
        have gc : s.getD (j + 1) 0 = c := getD_of hlc
        have hn := hle j (by omega)
        have hcc := c.toNat_lt
        have hnext : Hid (codI s (j + 1) = 64 * codI s j + (c.toNat : Int) - 128) := by unfold Hid; rw [codI, gc]
        obtain ⟨N, hN⟩ : ∃ N, codI s j = N := ⟨_, rfl⟩
        have HN : Hid (codI s j = N) := hN
        rw [hN] at hn ⊢
        clear hN gc hle hc0
        have e1 : IntKind.i64.wrap (64 * N) = 64 * N := by rw [IntKind.wrap_i64]; omega
        have e2 : IntKind.i64.wrap (64 * N + (c.toNat : Int)) = 64 * N + (c.toNat : Int) := by rw [IntKind.wrap_i64]; omega
        have e3 : IntKind.i64.wrap (64 * N + (c.toNat : Int) - 128) = 64 * N + (c.toNat : Int) - 128 := by rw [IntKind.wrap_i64]; omega
        go_wp2_with fail
        go_round
        case rel => exact ⟨j + 1, by rw [hnext.out, HN.out], by go_num, by omega⟩
        case measure => simp [intOf]; omega
      · have j1 : ¬ ((j + 1 : Nat) : Int) < (s.length : Int) := by omega
        have hjj : Hid (s.length - 1 = j) := by unfold Hid; omega
        go_wp2_with fail
        go_ret
        exact ⟨by rw [← HC.out, hjj.out]; rfl, Below.refl _ _⟩
  by_cases k2 : s.length = 2
  · rw [if_pos k2] at z0
    have q2 : ((s.length : Int) == 2) = true := by rw [beq_iff_eq]; omega
    have Z0 : Hid (codI s 0 = _) := z0
    clear z0
    have K : Hid (s.length = 2) := k2
    clear k1 k2
    go_enter Tryd.func22, Tryd.ntmps22
    go_wp2_with fail
    go_loop [3, 4] (fun vn vi => ∃ j : Nat, vn = .int .i64 (codI s j) ∧ vi = .int .i64 ((j + 1 : Nat) : Int) ∧ j + 1 ≤ s.length) (fun _ vi => s.length - (intOf vi).toNat)
    case atStart => exact ⟨0, by first | (rw [Z0.out]; done) | (rw [Z0.out]; go_num), by go_num, h1⟩
    case round =>
      obtain ⟨j, rfl, rfl, hj⟩ := hrel
      by_cases hlt : j + 1 < s.length
      · have j1 : ((j + 1 : Nat) : Int) < (s.length : Int) := by omega
        have j0 : (0 : Int) ≤ ((j + 1 : Nat) : Int) := by omega
        obtain ⟨c, hc, hlc⟩ := byte_get s (j + 1) hlt
        have gc : s.getD (j + 1) 0 = c := getD_of hlc
        have hn := hle j (by omega)
        have hcc := c.toNat_lt
        have hnext : Hid (codI s (j + 1) = 64 * codI s j + (c.toNat : Int) - 128) := by unfold Hid; rw [codI, gc]
        obtain ⟨N, hN⟩ : ∃ N, codI s j = N := ⟨_, rfl⟩
        have HN : Hid (codI s j = N) := hN
        rw [hN] at hn ⊢
        clear hN gc hle hc0
        have e1 : IntKind.i64.wrap (64 * N) = 64 * N := by rw [IntKind.wrap_i64]; omega
        have e2 : IntKind.i64.wrap (64 * N + (c.toNat : Int)) = 64 * N + (c.toNat : Int) := by rw [IntKind.wrap_i64]; omega
        have e3 : IntKind.i64.wrap (64 * N + (c.toNat : Int) - 128) = 64 * N + (c.toNat : Int) - 128 := by rw [IntKind.wrap_i64]; omega
        go_wp2_with fail
        go_round
        case rel => exact ⟨j + 1, by rw [hnext.out, HN.out], by go_num, by omega⟩
        case measure => simp [intOf]; omega
      · have j1 : ¬ ((j + 1 : Nat) : Int) < (s.length : Int) := by omega
        have hjj : Hid (s.length - 1 = j) := by unfold Hid; omega
        go_wp2_with fail
        go_ret
        exact ⟨by rw [← HC.out, hjj.out]; rfl, Below.refl _ _⟩
  by_cases k3 : s.length = 3
  · rw [if_neg (by omega), if_pos k3] at z0
    have q2 : ((s.length : Int) == 2) = false := by rw [beq_eq_false_iff_ne]; omega
    have q3 : ((s.length : Int) == 3) = true := by rw [beq_iff_eq]; omega
    have Z0 : Hid (codI s 0 = _) := z0
    clear z0
    have K : Hid (s.length = 3) := k3
    clear k1 k2 k3
    go_enter Tryd.func22, Tryd.ntmps22
    go_wp2_with fail
    go_loop [3, 4] (fun vn vi => ∃ j : Nat, vn = .int .i64 (codI s j) ∧ vi = .int .i64 ((j + 1 : Nat) : Int) ∧ j + 1 ≤ s.length) (fun _ vi => s.length - (intOf vi).toNat)
    case atStart => exact ⟨0, by first | (rw [Z0.out]; done) | (rw [Z0.out]; go_num), by go_num, h1⟩
    case round =>
      obtain ⟨j, rfl, rfl, hj⟩ := hrel
      by_cases hlt : j + 1 < s.length
      · have j1 : ((j + 1 : Nat) : Int) < (s.length : Int) := by omega
        have j0 : (0 : Int) ≤ ((j + 1 : Nat) : Int) := by omega
        obtain ⟨c, hc, hlc⟩ := byte_get s (j + 1) hlt
        have gc : s.getD (j + 1) 0 = c := getD_of hlc
        have hn := hle j (by omega)
        have hcc := c.toNat_lt
        have hnext : Hid (codI s (j + 1) = 64 * codI s j + (c.toNat : Int) - 128) := by unfold Hid; rw [codI, gc]
        obtain ⟨N, hN⟩ : ∃ N, codI s j = N := ⟨_, rfl⟩
        have HN : Hid (codI s j = N) := hN
        rw [hN] at hn ⊢
        clear hN gc hle hc0
        have e1 : IntKind.i64.wrap (64 * N) = 64 * N := by rw [IntKind.wrap_i64]; omega
        have e2 : IntKind.i64.wrap (64 * N + (c.toNat : Int)) = 64 * N + (c.toNat : Int) := by rw [IntKind.wrap_i64]; omega
        have e3 : IntKind.i64.wrap (64 * N + (c.toNat : Int) - 128) = 64 * N + (c.toNat : Int) - 128 := by rw [IntKind.wrap_i64]; omega
        go_wp2_with fail
        go_round
        case rel => exact ⟨j + 1, by rw [hnext.out, HN.out], by go_num, by omega⟩
        case measure => simp [intOf]; omega
      · have j1 : ¬ ((j + 1 : Nat) : Int) < (s.length : Int) := by omega
        have hjj : Hid (s.length - 1 = j) := by unfold Hid; omega
        go_wp2_with fail
        go_ret
        exact ⟨by rw [← HC.out, hjj.out]; rfl, Below.refl _ _⟩
  have k4 : s.length = 4 := by omega
  rw [if_neg (by omega), if_neg (by omega), if_pos k4] at z0
  have q2 : ((s.length : Int) == 2) = false := by rw [beq_eq_false_iff_ne]; omega
  have q3 : ((s.length : Int) == 3) = false := by rw [beq_eq_false_iff_ne]; omega
  have q4 : ((s.length : Int) == 4) = true := by rw [beq_iff_eq]; omega
  have Z0 : Hid (codI s 0 = _) := z0
  clear z0
  have K : Hid (s.length = 4) := k4
  clear k1 k2 k3 k4
  go_enter Tryd.func22, Tryd.ntmps22
  go_wp2_with fail
  go_loop [3, 4] (fun vn vi => ∃ j : Nat, vn = .int .i64 (codI s j) ∧ vi = .int .i64 ((j + 1 : Nat) : Int) ∧ j + 1 ≤ s.length) (fun _ vi => s.length - (intOf vi).toNat)
  case atStart => exact ⟨0, by first | (rw [Z0.out]; done) | (rw [Z0.out]; go_num), by go_num, h1⟩
  case round =>
    obtain ⟨j, rfl, rfl, hj⟩ := hrel
    by_cases hlt : j + 1 < s.length
    · have j1 : ((j + 1 : Nat) : Int) < (s.length : Int) := by omega
      have j0 : (0 : Int) ≤ ((j + 1 : Nat) : Int) := by omega
      obtain ⟨c, hc, hlc⟩ := byte_get s (j + 1) hlt
      have gc : s.getD (j + 1) 0 = c := getD_of hlc
      have hn := hle j (by omega)
      have hcc := c.toNat_lt
      have hnext : Hid (codI s (j + 1) = 64 * codI s j + (c.toNat : Int) - 128) := by unfold Hid; rw [codI, gc]
      obtain ⟨N, hN⟩ : ∃ N, codI s j = N := ⟨_, rfl⟩
      have HN : Hid (codI s j = N) := hN
      rw [hN] at hn ⊢
      clear hN gc hle hc0
      have e1 : IntKind.i64.wrap (64 * N) = 64 * N := by rw [IntKind.wrap_i64]; omega
      have e2 : IntKind.i64.wrap (64 * N + (c.toNat : Int)) = 64 * N + (c.toNat : Int) := by rw [IntKind.wrap_i64]; omega
      have e3 : IntKind.i64.wrap (64 * N + (c.toNat : Int) - 128) = 64 * N + (c.toNat : Int) - 128 := by rw [IntKind.wrap_i64]; omega
      go_wp2_with fail
      go_round
      case rel => exact ⟨j + 1, by rw [hnext.out, HN.out], by go_num, by omega⟩
      case measure => simp [intOf]; omega
    · have j1 : ¬ ((j + 1 : Nat) : Int) < (s.length : Int) := by omega
      have hjj : Hid (s.length - 1 = j) := by unfold Hid; omega
      go_wp2_with fail
      go_ret
      exact ⟨by rw [← HC.out, hjj.out]; rfl, Below.refl _ _⟩
end Go.Proofs.YtclgjdhobdncjaaDoor
