import Derived.Test.YtfcdaljhbeogeaaBA
namespace Go.Proofs.Ytfcdaljhbeogeaa
open Go.RowKit
def rv (r : IRt) : Value := .agg #[.int .i64 r.1, .int .i64 r.2.1, .int .i64 r.2.2.1, .int .i64 r.2.2.2]
set_option maxRecDepth 100000 in
theorem bfits_any (b : Nat) (v : Int) (w : World) (hb : b ≤ 32) : Calls Try.prog 40 #[.int .i64 (b : Int), .int .i64 v] w fun e w' => e = .returned (.bool (decide (0 ≤ v ∧ v < ((2 ^ b : Nat) : Int)))) ∧ w' = w := by
  have hp2 : 2 ^ b ≤ 2 ^ 32 := Nat.pow_le_pow_right (by decide) hb
  have hp0 : 0 < 2 ^ b := Nat.pow_pos (by decide)
  have ep : IntKind.i64.wrap ((2 : Int) ^ b) = ((2 ^ b : Nat) : Int) := by rw [pow_cast, IntKind.wrap_i64]; omega
  obtain ⟨P, hP⟩ : ∃ P : Nat, 2 ^ b = P := ⟨_, rfl⟩
  rw [hP] at ep hp2 ⊢
  have s0 : (0 : Int) ≤ (b : Int) := by omega
  have s1 : (b : Int) < 64 := by omega
  clear hP hp2 hp0
  by_cases h0 : 0 ≤ v
  · by_cases h1 : v < (P : Int)
    · rw [decide_eq_true ⟨h0, h1⟩]
      go_enter Try.func40, Try.ntmps40
      go_wp2_with fail
      go_ret
      exact ⟨rfl, rfl⟩
    · rw [decide_eq_false (fun h => h1 h.2)]
      go_enter Try.func40, Try.ntmps40
      go_wp2_with fail
      go_ret
      exact ⟨rfl, rfl⟩
  · rw [decide_eq_false (fun h => h0 h.1)]
    go_enter Try.func40, Try.ntmps40
    go_wp2_with fail
    go_ret
    exact ⟨rfl, rfl⟩
set_option maxRecDepth 100000 in
theorem bsize_any (b len : Nat) (kd vl ou : Int) (w : World) (hb : b ≤ 32) (hl : len ≤ b) : Calls Try.prog 57 #[.int .i64 (b : Int), .agg #[.int .i64 kd, .int .i64 vl, .int .i64 (len : Int), .int .i64 ou]] w fun e w' => e = .returned (.int .i64 ((2 ^ (b - len) : Nat) : Int)) ∧ Below w.heap.size w w' := by
  have hp2 : 2 ^ (b - len) ≤ 2 ^ 32 := Nat.pow_le_pow_right (by decide) (by omega)
  have hp0 : 0 < 2 ^ (b - len) := Nat.pow_pos (by decide)
  have ep : IntKind.i64.wrap ((2 : Int) ^ (b - len)) = ((2 ^ (b - len) : Nat) : Int) := by rw [pow_cast, IntKind.wrap_i64]; omega
  have e5 : IntKind.i64.wrap ((b : Int) - (len : Int)) = ((b - len : Nat) : Int) := by rw [IntKind.wrap_i64]; omega
  obtain ⟨k, hk⟩ : ∃ k : Nat, b - len = k := ⟨_, rfl⟩
  clear hp0
  rw [hk] at ep hp2 e5 ⊢
  obtain ⟨P, hP⟩ : ∃ P : Nat, 2 ^ k = P := ⟨_, rfl⟩
  rw [hP] at ep hp2 ⊢
  have s0 : (0 : Int) ≤ (k : Int) := by omega
  have s1 : (k : Int) < 64 := by omega
  clear hP hp2 hk
  go_enter Try.func57, Try.ntmps57
  go_wp2_with fail
  go_ret
  exact ⟨rfl, (Below.refl _ _).alloc (Nat.le_refl _) _⟩
set_option maxRecDepth 100000 in
set_option maxHeartbeats 1000000 in
theorem bmay_any (b : Nat) (r : IRt) (w : World) (hb : b ≤ 32) : Calls Try.prog 50 #[.int .i64 (b : Int), rv r] w fun e w' => e = .returned (.bool (rmay b r)) ∧ Below w.heap.size w w' := by
  obtain ⟨kd, vl, ln, ou⟩ := r
  obtain ⟨R, hR⟩ : ∃ R, rmay b (kd, vl, ln, ou) = R := ⟨_, rfl⟩
  rw [hR]
  unfold rmay at hR
  simp only at hR
  have HF : Hid (∀ W : World, Calls Try.prog 40 #[.int .i64 (b : Int), .int .i64 vl] W fun e w' => e = .returned (.bool (decide (0 ≤ vl ∧ vl < ((2 ^ b : Nat) : Int)))) ∧ w' = W) := fun W => bfits_any b vl W hb
  show Calls Try.prog 50 #[.int .i64 (b : Int), .agg #[.int .i64 kd, .int .i64 vl, .int .i64 ln, .int .i64 ou]] w _
  obtain ⟨O, hO⟩ : ∃ O : Obj, Obj.cells #[.int .i64 kd, .int .i64 vl, .int .i64 ln, .int .i64 ou] 59 = O := ⟨_, rfl⟩
  have hB0 : Below w.heap.size w (w.alloc O) := (Below.refl _ _).alloc (Nat.le_refl _) _
  have hbx : (w.alloc O).heap[w.heap.size]? = some (.cells #[.int .i64 kd, .int .i64 vl, .int .i64 ln, .int .i64 ou] 59) := by rw [hO]; exact alloc_get _ _
  obtain ⟨w0, hw0⟩ : ∃ w0, w.alloc O = w0 := ⟨_, rfl⟩
  rw [hw0] at hB0 hbx
  have HX : Hid (∀ W : World, Below w0.heap.size w0 W → W.cell? ⟨w.heap.size, 0, none⟩ = some (.int .i64 kd) ∧ W.cell? ⟨w.heap.size, 1, none⟩ = some (.int .i64 vl) ∧ W.cell? ⟨w.heap.size, 2, none⟩ = some (.int .i64 ln) ∧ W.cell? ⟨w.heap.size, 3, none⟩ = some (.int .i64 ou)) := fun W hW => ⟨cell_of_row _ _ 0 _ _ _ (keepblk hW hbx), cell_of_row _ _ 1 _ _ _ (keepblk hW hbx), cell_of_row _ _ 2 _ _ _ (keepblk hW hbx), cell_of_row _ _ 3 _ _ _ (keepblk hW hbx)⟩
  obtain ⟨x0, x1, x2, x3⟩ := HX.out _ (Below.refl _ _)
  clear hbx
  by_cases a1 : kd < 1
  · obtain rfl : R = false := by rw [← hR]; exact decide_eq_false (fun h => by omega)
    clear hR
    go_enter Try.func50, Try.ntmps50
    go_wp2_with fail
    go_ret
    exact ⟨rfl, hB0⟩
  by_cases a2 : (3 : Int) < kd
  · obtain rfl : R = false := by rw [← hR]; exact decide_eq_false (fun h => by omega)
    clear hR
    go_enter Try.func50, Try.ntmps50
    go_wp2_with fail
    go_ret
    exact ⟨rfl, hB0⟩
  by_cases a3 : ln < 0
  · obtain rfl : R = false := by rw [← hR]; exact decide_eq_false (fun h => by omega)
    clear hR
    go_enter Try.func50, Try.ntmps50
    go_wp2_with fail
    go_ret
    exact ⟨rfl, hB0⟩
  by_cases a4 : (b : Int) < ln
  · obtain rfl : R = false := by rw [← hR]; exact decide_eq_false (fun h => by omega)
    clear hR
    go_enter Try.func50, Try.ntmps50
    go_wp2_with fail
    go_ret
    exact ⟨rfl, hB0⟩
  obtain ⟨len, rfl⟩ : ∃ z : Nat, ln = z := ⟨ln.toNat, by omega⟩
  have hl : len ≤ b := by omega
  have HS0 := fun W => bsize_any b len kd vl ou W hb hl
  have hsp : 0 < 2 ^ (b - len) := Nat.pow_pos (by decide)
  rw [Int.toNat_natCast] at hR
  obtain ⟨Z, hZ⟩ : ∃ Z, 2 ^ (b - len) = Z := ⟨_, rfl⟩
  simp only [hZ] at HS0
  rw [hZ] at hR hsp
  have HS : Hid (∀ W : World, Calls Try.prog 57 #[.int .i64 (b : Int), .agg #[.int .i64 kd, .int .i64 vl, .int .i64 (len : Int), .int .i64 ou]] W fun e w' => e = .returned (.int .i64 (Z : Int)) ∧ Below W.heap.size W w') := HS0
  clear HS0 hZ
  by_cases c1 : 0 ≤ vl ∧ vl < ((2 ^ b : Nat) : Int)
  · rw [decide_eq_true c1] at HF
    obtain ⟨va, rfl⟩ : ∃ z : Nat, vl = z := ⟨vl.toNat, by omega⟩
    rw [Int.toNat_natCast] at hR
    have z0 : ¬ (Z : Int) = 0 := by omega
    have z4 : ¬ Z = 0 := by omega
    have z1 : ((Z : Int) == 0) = false := beq_eq_false_iff_ne.2 z0
    have z2 : ((Z : Int) == -1) = false := beq_eq_false_iff_ne.2 (by omega)
    have z3 : ¬ (Z : Int) = -1 := by omega
    have r0 : (va : Int).tmod (Z : Int) = ((va % Z : Nat) : Int) := by rw [Int.tmod_eq_emod_of_nonneg (by omega)]; rfl
    have r1 : IntKind.i64.wrap ((va % Z : Nat) : Int) = ((va % Z : Nat) : Int) := by
      have h1 := Nat.mod_le va Z
      have h2 : 2 ^ b ≤ 2 ^ 32 := Nat.pow_le_pow_right (by decide) hb
      rw [IntKind.wrap_i64]
      omega
    obtain ⟨q, hq⟩ : ∃ q, va % Z = q := ⟨_, rfl⟩
    rw [hq] at r0 r1 hR
    by_cases c2 : q = 0
    · have y1 : ((q : Int) == 0) = true := by rw [c2]; rfl
      by_cases c3 : 0 ≤ ou
      · by_cases c4 : ou < 48
        · obtain rfl : R = true := by rw [← hR]; exact decide_eq_true ⟨by omega, by omega, by omega, by omega, c3, c4, c1.1, c1.2, c2⟩
          clear hR hq c1 c2
          go_enter Try.func50, Try.ntmps50
          go_wp2_with fail
          refine quiet_lit3 (C := fun W => Below w0.heap.size w0 W) (by kernel_rfl) (by kernel_rfl) (show Below _ _ _ from (Below.refl _ _).drew) ?_
          go_big_quiet_want
          go_big_quiet_op
          go_big_quiet_on
          go_big_quiet_want
          refine ⟨.pointer (some ⟨w.heap.size, 1, none⟩), fun W hW => ?_, ?_⟩
          · go_simp
          go_big_quiet_on
          simp only [Act.put, List.setIfInBounds_toArray, List.set_cons_zero, List.set_cons_succ]
          go_big_quiet_want
          refine ⟨.int .i64 (va : Int), fun W hW => ?_, ?_⟩
          · obtain ⟨x0, x1, x2, x3⟩ := HX.out W hW
            go_simp
          go_big_quiet_on
          simp only [Act.put, List.setIfInBounds_toArray, List.set_cons_zero, List.set_cons_succ]
          go_big_quiet_want
          refine ⟨.bool true, fun W hW => ?_, ?_⟩
          · go_simp
            refine (HF.out W).mono ?_
            rintro e w7 ⟨rfl, rfl⟩
            exact ⟨rfl, hW⟩
          go_big_quiet_on
          simp only [Act.put, List.setIfInBounds_toArray, List.set_cons_zero, List.set_cons_succ]
          go_big_quiet_want
          go_big_quiet_op
          go_big_quiet_on
          go_big_quiet_want
          refine ⟨.pointer (some ⟨w.heap.size, 1, none⟩), fun W hW => ?_, ?_⟩
          · go_simp
          go_big_quiet_on
          simp only [Act.put, List.setIfInBounds_toArray, List.set_cons_zero, List.set_cons_succ]
          go_big_quiet_want
          refine ⟨.int .i64 (va : Int), fun W hW => ?_, ?_⟩
          · obtain ⟨x0, x1, x2, x3⟩ := HX.out W hW
            go_simp
          go_big_quiet_on
          simp only [Act.put, List.setIfInBounds_toArray, List.set_cons_zero, List.set_cons_succ]
          go_big_quiet_want
          go_big_quiet_op
          go_big_quiet_on
          go_big_quiet_want
          refine ⟨.agg #[.int .i64 kd, .int .i64 (va : Int), .int .i64 (len : Int), .int .i64 ou], fun W hW => ?_, ?_⟩
          · obtain ⟨x0, x1, x2, x3⟩ := HX.out W hW
            go_simp
          go_big_quiet_on
          simp only [Act.put, List.setIfInBounds_toArray, List.set_cons_zero, List.set_cons_succ]
          go_big_quiet_want
          refine ⟨.int .i64 (Z : Int), fun W hW => ?_, ?_⟩
          · go_simp
            refine (HS.out W).mono ?_
            rintro e w7 ⟨rfl, hb⟩
            exact ⟨rfl, bel0 hW hb⟩
          go_big_quiet_on
          simp only [Act.put, List.setIfInBounds_toArray, List.set_cons_zero, List.set_cons_succ]
          go_big_quiet_want
          refine ⟨.int .i64 (q : Int), fun W hW => ?_, ?_⟩
          · go_simp
          go_big_quiet_on
          simp only [Act.put, List.setIfInBounds_toArray, List.set_cons_zero, List.set_cons_succ]
          go_big_quiet_want
          refine ⟨.bool true, fun W hW => ?_, ?_⟩
          · go_simp
          go_big_quiet_on
          simp only [Act.put, List.setIfInBounds_toArray, List.set_cons_zero, List.set_cons_succ]
          go_big_quiet_want
          refine ⟨.bool true, fun W hW => ?_, ?_⟩
          · go_simp
          go_big_quiet_on
          simp only [Act.put, List.setIfInBounds_toArray, List.set_cons_zero, List.set_cons_succ]
          go_big_quiet_want
          go_big_quiet_op
          go_big_quiet_on
          go_big_quiet_want
          refine ⟨.pointer (some ⟨w.heap.size, 3, none⟩), fun W hW => ?_, ?_⟩
          · go_simp
          go_big_quiet_on
          simp only [Act.put, List.setIfInBounds_toArray, List.set_cons_zero, List.set_cons_succ]
          go_big_quiet_want
          refine ⟨.int .i64 ou, fun W hW => ?_, ?_⟩
          · obtain ⟨x0, x1, x2, x3⟩ := HX.out W hW
            go_simp
          go_big_quiet_on
          simp only [Act.put, List.setIfInBounds_toArray, List.set_cons_zero, List.set_cons_succ]
          go_big_quiet_want
          refine ⟨.bool true, fun W hW => ?_, ?_⟩
          · go_simp
          go_big_quiet_on
          simp only [Act.put, List.setIfInBounds_toArray, List.set_cons_zero, List.set_cons_succ]
          go_big_quiet_want
          refine ⟨.bool true, fun W hW => ?_, ?_⟩
          · go_simp
          go_big_quiet_on
          simp only [Act.put, List.setIfInBounds_toArray, List.set_cons_zero, List.set_cons_succ]
          go_big_quiet_want
          go_big_quiet_op
          go_big_quiet_on
          go_big_quiet_want
          refine ⟨.pointer (some ⟨w.heap.size, 3, none⟩), fun W hW => ?_, ?_⟩
          · go_simp
          go_big_quiet_on
          simp only [Act.put, List.setIfInBounds_toArray, List.set_cons_zero, List.set_cons_succ]
          go_big_quiet_want
          refine ⟨.int .i64 ou, fun W hW => ?_, ?_⟩
          · obtain ⟨x0, x1, x2, x3⟩ := HX.out W hW
            go_simp
          go_big_quiet_on
          simp only [Act.put, List.setIfInBounds_toArray, List.set_cons_zero, List.set_cons_succ]
          go_big_quiet_want
          refine ⟨.bool true, fun W hW => ?_, ?_⟩
          · go_simp
          go_big_quiet_on
          simp only [Act.put, List.setIfInBounds_toArray, List.set_cons_zero, List.set_cons_succ]
          go_big_quiet_want
          refine ⟨.bool true, fun W hW => ?_, ?_⟩
          · go_simp
          go_big_quiet_on
          simp only [Act.put, List.setIfInBounds_toArray, List.set_cons_zero, List.set_cons_succ]
          go_big_quiet_want
          go_big_quiet_op
          go_big_quiet_on
          refine wpQuiet_nil ?_
          intro W hW
          go_wp2_with fail
          go_ret
          exact ⟨rfl, bel0 hB0 hW⟩
        · obtain rfl : R = false := by rw [← hR]; exact decide_eq_false (fun h => by omega)
          clear hR hq c1 c2
          go_enter Try.func50, Try.ntmps50
          go_wp2_with fail
          refine quiet_lit3 (C := fun W => Below w0.heap.size w0 W) (by kernel_rfl) (by kernel_rfl) (show Below _ _ _ from (Below.refl _ _).drew) ?_
          go_big_quiet_want
          go_big_quiet_op
          go_big_quiet_on
          go_big_quiet_want
          refine ⟨.pointer (some ⟨w.heap.size, 1, none⟩), fun W hW => ?_, ?_⟩
          · go_simp
          go_big_quiet_on
          simp only [Act.put, List.setIfInBounds_toArray, List.set_cons_zero, List.set_cons_succ]
          go_big_quiet_want
          refine ⟨.int .i64 (va : Int), fun W hW => ?_, ?_⟩
          · obtain ⟨x0, x1, x2, x3⟩ := HX.out W hW
            go_simp
          go_big_quiet_on
          simp only [Act.put, List.setIfInBounds_toArray, List.set_cons_zero, List.set_cons_succ]
          go_big_quiet_want
          refine ⟨.bool true, fun W hW => ?_, ?_⟩
          · go_simp
            refine (HF.out W).mono ?_
            rintro e w7 ⟨rfl, rfl⟩
            exact ⟨rfl, hW⟩
          go_big_quiet_on
          simp only [Act.put, List.setIfInBounds_toArray, List.set_cons_zero, List.set_cons_succ]
          go_big_quiet_want
          go_big_quiet_op
          go_big_quiet_on
          go_big_quiet_want
          refine ⟨.pointer (some ⟨w.heap.size, 1, none⟩), fun W hW => ?_, ?_⟩
          · go_simp
          go_big_quiet_on
          simp only [Act.put, List.setIfInBounds_toArray, List.set_cons_zero, List.set_cons_succ]
          go_big_quiet_want
          refine ⟨.int .i64 (va : Int), fun W hW => ?_, ?_⟩
          · obtain ⟨x0, x1, x2, x3⟩ := HX.out W hW
            go_simp
          go_big_quiet_on
          simp only [Act.put, List.setIfInBounds_toArray, List.set_cons_zero, List.set_cons_succ]
          go_big_quiet_want
          go_big_quiet_op
          go_big_quiet_on
          go_big_quiet_want
          refine ⟨.agg #[.int .i64 kd, .int .i64 (va : Int), .int .i64 (len : Int), .int .i64 ou], fun W hW => ?_, ?_⟩
          · obtain ⟨x0, x1, x2, x3⟩ := HX.out W hW
            go_simp
          go_big_quiet_on
          simp only [Act.put, List.setIfInBounds_toArray, List.set_cons_zero, List.set_cons_succ]
          go_big_quiet_want
          refine ⟨.int .i64 (Z : Int), fun W hW => ?_, ?_⟩
          · go_simp
            refine (HS.out W).mono ?_
            rintro e w7 ⟨rfl, hb⟩
            exact ⟨rfl, bel0 hW hb⟩
          go_big_quiet_on
          simp only [Act.put, List.setIfInBounds_toArray, List.set_cons_zero, List.set_cons_succ]
          go_big_quiet_want
          refine ⟨.int .i64 (q : Int), fun W hW => ?_, ?_⟩
          · go_simp
          go_big_quiet_on
          simp only [Act.put, List.setIfInBounds_toArray, List.set_cons_zero, List.set_cons_succ]
          go_big_quiet_want
          refine ⟨.bool true, fun W hW => ?_, ?_⟩
          · go_simp
          go_big_quiet_on
          simp only [Act.put, List.setIfInBounds_toArray, List.set_cons_zero, List.set_cons_succ]
          go_big_quiet_want
          refine ⟨.bool true, fun W hW => ?_, ?_⟩
          · go_simp
          go_big_quiet_on
          simp only [Act.put, List.setIfInBounds_toArray, List.set_cons_zero, List.set_cons_succ]
          go_big_quiet_want
          go_big_quiet_op
          go_big_quiet_on
          go_big_quiet_want
          refine ⟨.pointer (some ⟨w.heap.size, 3, none⟩), fun W hW => ?_, ?_⟩
          · go_simp
          go_big_quiet_on
          simp only [Act.put, List.setIfInBounds_toArray, List.set_cons_zero, List.set_cons_succ]
          go_big_quiet_want
          refine ⟨.int .i64 ou, fun W hW => ?_, ?_⟩
          · obtain ⟨x0, x1, x2, x3⟩ := HX.out W hW
            go_simp
          go_big_quiet_on
          simp only [Act.put, List.setIfInBounds_toArray, List.set_cons_zero, List.set_cons_succ]
          go_big_quiet_want
          refine ⟨.bool true, fun W hW => ?_, ?_⟩
          · go_simp
          go_big_quiet_on
          simp only [Act.put, List.setIfInBounds_toArray, List.set_cons_zero, List.set_cons_succ]
          go_big_quiet_want
          refine ⟨.bool true, fun W hW => ?_, ?_⟩
          · go_simp
          go_big_quiet_on
          simp only [Act.put, List.setIfInBounds_toArray, List.set_cons_zero, List.set_cons_succ]
          go_big_quiet_want
          go_big_quiet_op
          go_big_quiet_on
          go_big_quiet_want
          refine ⟨.pointer (some ⟨w.heap.size, 3, none⟩), fun W hW => ?_, ?_⟩
          · go_simp
          go_big_quiet_on
          simp only [Act.put, List.setIfInBounds_toArray, List.set_cons_zero, List.set_cons_succ]
          go_big_quiet_want
          refine ⟨.int .i64 ou, fun W hW => ?_, ?_⟩
          · obtain ⟨x0, x1, x2, x3⟩ := HX.out W hW
            go_simp
          go_big_quiet_on
          simp only [Act.put, List.setIfInBounds_toArray, List.set_cons_zero, List.set_cons_succ]
          go_big_quiet_want
          refine ⟨.bool false, fun W hW => ?_, ?_⟩
          · go_simp
          go_big_quiet_on
          simp only [Act.put, List.setIfInBounds_toArray, List.set_cons_zero, List.set_cons_succ]
          go_big_quiet_want
          refine ⟨.bool false, fun W hW => ?_, ?_⟩
          · go_simp
          go_big_quiet_on
          simp only [Act.put, List.setIfInBounds_toArray, List.set_cons_zero, List.set_cons_succ]
          go_big_quiet_want
          go_big_quiet_op
          go_big_quiet_on
          refine wpQuiet_nil ?_
          intro W hW
          go_wp2_with fail
          go_ret
          exact ⟨rfl, bel0 hB0 hW⟩
      · obtain rfl : R = false := by rw [← hR]; exact decide_eq_false (fun h => by omega)
        clear hR hq c1 c2
        go_enter Try.func50, Try.ntmps50
        go_wp2_with fail
        refine quiet_lit3 (C := fun W => Below w0.heap.size w0 W) (by kernel_rfl) (by kernel_rfl) (show Below _ _ _ from (Below.refl _ _).drew) ?_
        go_big_quiet_want
        go_big_quiet_op
        go_big_quiet_on
        go_big_quiet_want
        refine ⟨.pointer (some ⟨w.heap.size, 1, none⟩), fun W hW => ?_, ?_⟩
        · go_simp
        go_big_quiet_on
        simp only [Act.put, List.setIfInBounds_toArray, List.set_cons_zero, List.set_cons_succ]
        go_big_quiet_want
        refine ⟨.int .i64 (va : Int), fun W hW => ?_, ?_⟩
        · obtain ⟨x0, x1, x2, x3⟩ := HX.out W hW
          go_simp
        go_big_quiet_on
        simp only [Act.put, List.setIfInBounds_toArray, List.set_cons_zero, List.set_cons_succ]
        go_big_quiet_want
        refine ⟨.bool true, fun W hW => ?_, ?_⟩
        · go_simp
          refine (HF.out W).mono ?_
          rintro e w7 ⟨rfl, rfl⟩
          exact ⟨rfl, hW⟩
        go_big_quiet_on
        simp only [Act.put, List.setIfInBounds_toArray, List.set_cons_zero, List.set_cons_succ]
        go_big_quiet_want
        go_big_quiet_op
        go_big_quiet_on
        go_big_quiet_want
        refine ⟨.pointer (some ⟨w.heap.size, 1, none⟩), fun W hW => ?_, ?_⟩
        · go_simp
        go_big_quiet_on
        simp only [Act.put, List.setIfInBounds_toArray, List.set_cons_zero, List.set_cons_succ]
        go_big_quiet_want
        refine ⟨.int .i64 (va : Int), fun W hW => ?_, ?_⟩
        · obtain ⟨x0, x1, x2, x3⟩ := HX.out W hW
          go_simp
        go_big_quiet_on
        simp only [Act.put, List.setIfInBounds_toArray, List.set_cons_zero, List.set_cons_succ]
        go_big_quiet_want
        go_big_quiet_op
        go_big_quiet_on
        go_big_quiet_want
        refine ⟨.agg #[.int .i64 kd, .int .i64 (va : Int), .int .i64 (len : Int), .int .i64 ou], fun W hW => ?_, ?_⟩
        · obtain ⟨x0, x1, x2, x3⟩ := HX.out W hW
          go_simp
        go_big_quiet_on
        simp only [Act.put, List.setIfInBounds_toArray, List.set_cons_zero, List.set_cons_succ]
        go_big_quiet_want
        refine ⟨.int .i64 (Z : Int), fun W hW => ?_, ?_⟩
        · go_simp
          refine (HS.out W).mono ?_
          rintro e w7 ⟨rfl, hb⟩
          exact ⟨rfl, bel0 hW hb⟩
        go_big_quiet_on
        simp only [Act.put, List.setIfInBounds_toArray, List.set_cons_zero, List.set_cons_succ]
        go_big_quiet_want
        refine ⟨.int .i64 (q : Int), fun W hW => ?_, ?_⟩
        · go_simp
        go_big_quiet_on
        simp only [Act.put, List.setIfInBounds_toArray, List.set_cons_zero, List.set_cons_succ]
        go_big_quiet_want
        refine ⟨.bool true, fun W hW => ?_, ?_⟩
        · go_simp
        go_big_quiet_on
        simp only [Act.put, List.setIfInBounds_toArray, List.set_cons_zero, List.set_cons_succ]
        go_big_quiet_want
        refine ⟨.bool true, fun W hW => ?_, ?_⟩
        · go_simp
        go_big_quiet_on
        simp only [Act.put, List.setIfInBounds_toArray, List.set_cons_zero, List.set_cons_succ]
        go_big_quiet_want
        go_big_quiet_op
        go_big_quiet_on
        go_big_quiet_want
        refine ⟨.pointer (some ⟨w.heap.size, 3, none⟩), fun W hW => ?_, ?_⟩
        · go_simp
        go_big_quiet_on
        simp only [Act.put, List.setIfInBounds_toArray, List.set_cons_zero, List.set_cons_succ]
        go_big_quiet_want
        refine ⟨.int .i64 ou, fun W hW => ?_, ?_⟩
        · obtain ⟨x0, x1, x2, x3⟩ := HX.out W hW
          go_simp
        go_big_quiet_on
        simp only [Act.put, List.setIfInBounds_toArray, List.set_cons_zero, List.set_cons_succ]
        go_big_quiet_want
        refine ⟨.bool false, fun W hW => ?_, ?_⟩
        · go_simp
        go_big_quiet_on
        simp only [Act.put, List.setIfInBounds_toArray, List.set_cons_zero, List.set_cons_succ]
        go_big_quiet_want
        refine ⟨.bool false, fun W hW => ?_, ?_⟩
        · go_simp
        go_big_quiet_on
        simp only [Act.put, List.setIfInBounds_toArray, List.set_cons_zero, List.set_cons_succ]
        go_big_quiet_want
        go_big_quiet_op
        go_big_quiet_on
        go_big_quiet_skip
        go_big_quiet_skip
        go_big_quiet_skip
        go_big_quiet_want
        refine ⟨.bool false, fun W hW => ?_, ?_⟩
        · go_simp
        go_big_quiet_on
        simp only [Act.put, List.setIfInBounds_toArray, List.set_cons_zero, List.set_cons_succ]
        go_big_quiet_want
        go_big_quiet_op
        go_big_quiet_on
        refine wpQuiet_nil ?_
        intro W hW
        go_wp2_with fail
        go_ret
        exact ⟨rfl, bel0 hB0 hW⟩
    · have y1 : ((q : Int) == 0) = false := beq_eq_false_iff_ne.2 (by omega)
      obtain rfl : R = false := by rw [← hR]; exact decide_eq_false (fun h => by omega)
      clear hR hq c1
      go_enter Try.func50, Try.ntmps50
      go_wp2_with fail
      refine quiet_lit3 (C := fun W => Below w0.heap.size w0 W) (by kernel_rfl) (by kernel_rfl) (show Below _ _ _ from (Below.refl _ _).drew) ?_
      go_big_quiet_want
      go_big_quiet_op
      go_big_quiet_on
      go_big_quiet_want
      refine ⟨.pointer (some ⟨w.heap.size, 1, none⟩), fun W hW => ?_, ?_⟩
      · go_simp
      go_big_quiet_on
      simp only [Act.put, List.setIfInBounds_toArray, List.set_cons_zero, List.set_cons_succ]
      go_big_quiet_want
      refine ⟨.int .i64 (va : Int), fun W hW => ?_, ?_⟩
      · obtain ⟨x0, x1, x2, x3⟩ := HX.out W hW
        go_simp
      go_big_quiet_on
      simp only [Act.put, List.setIfInBounds_toArray, List.set_cons_zero, List.set_cons_succ]
      go_big_quiet_want
      refine ⟨.bool true, fun W hW => ?_, ?_⟩
      · go_simp
        refine (HF.out W).mono ?_
        rintro e w7 ⟨rfl, rfl⟩
        exact ⟨rfl, hW⟩
      go_big_quiet_on
      simp only [Act.put, List.setIfInBounds_toArray, List.set_cons_zero, List.set_cons_succ]
      go_big_quiet_want
      go_big_quiet_op
      go_big_quiet_on
      go_big_quiet_want
      refine ⟨.pointer (some ⟨w.heap.size, 1, none⟩), fun W hW => ?_, ?_⟩
      · go_simp
      go_big_quiet_on
      simp only [Act.put, List.setIfInBounds_toArray, List.set_cons_zero, List.set_cons_succ]
      go_big_quiet_want
      refine ⟨.int .i64 (va : Int), fun W hW => ?_, ?_⟩
      · obtain ⟨x0, x1, x2, x3⟩ := HX.out W hW
        go_simp
      go_big_quiet_on
      simp only [Act.put, List.setIfInBounds_toArray, List.set_cons_zero, List.set_cons_succ]
      go_big_quiet_want
      go_big_quiet_op
      go_big_quiet_on
      go_big_quiet_want
      refine ⟨.agg #[.int .i64 kd, .int .i64 (va : Int), .int .i64 (len : Int), .int .i64 ou], fun W hW => ?_, ?_⟩
      · obtain ⟨x0, x1, x2, x3⟩ := HX.out W hW
        go_simp
      go_big_quiet_on
      simp only [Act.put, List.setIfInBounds_toArray, List.set_cons_zero, List.set_cons_succ]
      go_big_quiet_want
      refine ⟨.int .i64 (Z : Int), fun W hW => ?_, ?_⟩
      · go_simp
        refine (HS.out W).mono ?_
        rintro e w7 ⟨rfl, hb⟩
        exact ⟨rfl, bel0 hW hb⟩
      go_big_quiet_on
      simp only [Act.put, List.setIfInBounds_toArray, List.set_cons_zero, List.set_cons_succ]
      go_big_quiet_want
      refine ⟨.int .i64 (q : Int), fun W hW => ?_, ?_⟩
      · go_simp
      go_big_quiet_on
      simp only [Act.put, List.setIfInBounds_toArray, List.set_cons_zero, List.set_cons_succ]
      go_big_quiet_want
      refine ⟨.bool false, fun W hW => ?_, ?_⟩
      · go_simp
      go_big_quiet_on
      simp only [Act.put, List.setIfInBounds_toArray, List.set_cons_zero, List.set_cons_succ]
      go_big_quiet_want
      refine ⟨.bool false, fun W hW => ?_, ?_⟩
      · go_simp
      go_big_quiet_on
      simp only [Act.put, List.setIfInBounds_toArray, List.set_cons_zero, List.set_cons_succ]
      go_big_quiet_want
      go_big_quiet_op
      go_big_quiet_on
      go_big_quiet_skip
      go_big_quiet_skip
      go_big_quiet_skip
      go_big_quiet_want
      refine ⟨.bool false, fun W hW => ?_, ?_⟩
      · go_simp
      go_big_quiet_on
      simp only [Act.put, List.setIfInBounds_toArray, List.set_cons_zero, List.set_cons_succ]
      go_big_quiet_want
      go_big_quiet_op
      go_big_quiet_on
      go_big_quiet_skip
      go_big_quiet_skip
      go_big_quiet_skip
      go_big_quiet_want
      refine ⟨.bool false, fun W hW => ?_, ?_⟩
      · go_simp
      go_big_quiet_on
      simp only [Act.put, List.setIfInBounds_toArray, List.set_cons_zero, List.set_cons_succ]
      go_big_quiet_want
      go_big_quiet_op
      go_big_quiet_on
      refine wpQuiet_nil ?_
      intro W hW
      go_wp2_with fail
      go_ret
      exact ⟨rfl, bel0 hB0 hW⟩
  · rw [decide_eq_false c1] at HF
    obtain rfl : R = false := by rw [← hR]; exact decide_eq_false (fun h => c1 ⟨h.2.2.2.2.2.2.1, h.2.2.2.2.2.2.2.1⟩)
    clear hR c1
    go_enter Try.func50, Try.ntmps50
    go_wp2_with fail
    refine quiet_lit3 (C := fun W => Below w0.heap.size w0 W) (by kernel_rfl) (by kernel_rfl) (show Below _ _ _ from (Below.refl _ _).drew) ?_
    go_big_quiet_want
    go_big_quiet_op
    go_big_quiet_on
    go_big_quiet_want
    refine ⟨.pointer (some ⟨w.heap.size, 1, none⟩), fun W hW => ?_, ?_⟩
    · go_simp
    go_big_quiet_on
    simp only [Act.put, List.setIfInBounds_toArray, List.set_cons_zero, List.set_cons_succ]
    go_big_quiet_want
    refine ⟨.int .i64 vl, fun W hW => ?_, ?_⟩
    · obtain ⟨x0, x1, x2, x3⟩ := HX.out W hW
      go_simp
    go_big_quiet_on
    simp only [Act.put, List.setIfInBounds_toArray, List.set_cons_zero, List.set_cons_succ]
    go_big_quiet_want
    refine ⟨.bool false, fun W hW => ?_, ?_⟩
    · go_simp
      refine (HF.out W).mono ?_
      rintro e w7 ⟨rfl, rfl⟩
      exact ⟨rfl, hW⟩
    go_big_quiet_on
    simp only [Act.put, List.setIfInBounds_toArray, List.set_cons_zero, List.set_cons_succ]
    go_big_quiet_want
    go_big_quiet_op
    go_big_quiet_on
    go_big_quiet_skip
    go_big_quiet_skip
    go_big_quiet_skip
    go_big_quiet_skip
    go_big_quiet_skip
    go_big_quiet_skip
    go_big_quiet_skip
    go_big_quiet_want
    refine ⟨.bool false, fun W hW => ?_, ?_⟩
    · go_simp
    go_big_quiet_on
    simp only [Act.put, List.setIfInBounds_toArray, List.set_cons_zero, List.set_cons_succ]
    go_big_quiet_want
    go_big_quiet_op
    go_big_quiet_on
    go_big_quiet_skip
    go_big_quiet_skip
    go_big_quiet_skip
    go_big_quiet_want
    refine ⟨.bool false, fun W hW => ?_, ?_⟩
    · go_simp
    go_big_quiet_on
    simp only [Act.put, List.setIfInBounds_toArray, List.set_cons_zero, List.set_cons_succ]
    go_big_quiet_want
    go_big_quiet_op
    go_big_quiet_on
    go_big_quiet_skip
    go_big_quiet_skip
    go_big_quiet_skip
    go_big_quiet_want
    refine ⟨.bool false, fun W hW => ?_, ?_⟩
    · go_simp
    go_big_quiet_on
    simp only [Act.put, List.setIfInBounds_toArray, List.set_cons_zero, List.set_cons_succ]
    go_big_quiet_want
    go_big_quiet_op
    go_big_quiet_on
    refine wpQuiet_nil ?_
    intro W hW
    go_wp2_with fail
    go_ret
    exact ⟨rfl, bel0 hB0 hW⟩
end Go.Proofs.Ytfcdaljhbeogeaa
