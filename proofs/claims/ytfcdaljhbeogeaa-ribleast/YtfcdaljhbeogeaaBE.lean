import Derived.Test.YtfcdaljhbeogeaaBC
namespace Go.Proofs.Ytfcdaljhbeogeaa
open Go.RowKit
theorem rdiv_cast (v k : Nat) : (v : Int) / 2 ^ k = ((v / 2 ^ k : Nat) : Int) := by rw [pow_cast]; simp
set_option maxRecDepth 100000 in
set_option maxHeartbeats 1000000 in
theorem qmay_any (b : Nat) (r : IRt) (w : World) (hb : b ≤ 32) : Calls Try.prog 53 #[.int .i64 (b : Int), rv r] w fun e w' => e = .returned (.bool (rmay b r)) ∧ Below w.heap.size w w' := by
  obtain ⟨kd, vl, ln, ou⟩ := r
  obtain ⟨R, hR⟩ : ∃ R, rmay b (kd, vl, ln, ou) = R := ⟨_, rfl⟩
  rw [hR]
  unfold rmay at hR
  simp only at hR
  have hp2 : 2 ^ b ≤ 2 ^ 32 := Nat.pow_le_pow_right (by decide) hb
  have hp0 : 0 < 2 ^ b := Nat.pow_pos (by decide)
  have ep : IntKind.i64.wrap ((2 : Int) ^ b) = ((2 ^ b : Nat) : Int) := by rw [pow_cast, IntKind.wrap_i64]; omega
  have s0 : (0 : Int) ≤ (b : Int) := by omega
  have s1 : (b : Int) < 64 := by omega
  show Calls Try.prog 53 #[.int .i64 (b : Int), .agg #[.int .i64 kd, .int .i64 vl, .int .i64 ln, .int .i64 ou]] w _
  obtain ⟨O, hO⟩ : ∃ O : Obj, Obj.cells #[.int .i64 kd, .int .i64 vl, .int .i64 ln, .int .i64 ou] 59 = O := ⟨_, rfl⟩
  have hB0 : Below w.heap.size w (w.alloc O) := (Below.refl _ _).alloc (Nat.le_refl _) _
  have hbx : (w.alloc O).heap[w.heap.size]? = some (.cells #[.int .i64 kd, .int .i64 vl, .int .i64 ln, .int .i64 ou] 59) := by rw [hO]; exact alloc_get _ _
  obtain ⟨w0, hw0⟩ : ∃ w0, w.alloc O = w0 := ⟨_, rfl⟩
  rw [hw0] at hB0 hbx
  have HX : Hid (∀ W : World, Below w0.heap.size w0 W → W.cell? ⟨w.heap.size, 0, none⟩ = some (.int .i64 kd) ∧ W.cell? ⟨w.heap.size, 1, none⟩ = some (.int .i64 vl) ∧ W.cell? ⟨w.heap.size, 2, none⟩ = some (.int .i64 ln) ∧ W.cell? ⟨w.heap.size, 3, none⟩ = some (.int .i64 ou)) := fun W hW => ⟨cell_of_row _ _ 0 _ _ _ (keepblk hW hbx), cell_of_row _ _ 1 _ _ _ (keepblk hW hbx), cell_of_row _ _ 2 _ _ _ (keepblk hW hbx), cell_of_row _ _ 3 _ _ _ (keepblk hW hbx)⟩
  obtain ⟨x0, x1, x2, x3⟩ := HX.out _ (Below.refl _ _)
  clear hbx
  by_cases n1 : kd < 1
  · obtain rfl : R = false := by rw [← hR]; exact decide_eq_false (fun h => by omega)
    clear hR hp0 hp2
    go_enter Try.func53, Try.ntmps53
    go_wp2_with fail
    go_ret
    exact ⟨rfl, hB0⟩
  by_cases n2 : (3 : Int) < kd
  · obtain rfl : R = false := by rw [← hR]; exact decide_eq_false (fun h => by omega)
    clear hR hp0 hp2
    go_enter Try.func53, Try.ntmps53
    go_wp2_with fail
    go_ret
    exact ⟨rfl, hB0⟩
  by_cases n3 : ln < 0
  · obtain rfl : R = false := by rw [← hR]; exact decide_eq_false (fun h => by omega)
    clear hR hp0 hp2
    go_enter Try.func53, Try.ntmps53
    go_wp2_with fail
    go_ret
    exact ⟨rfl, hB0⟩
  by_cases n4 : (b : Int) < ln
  · obtain rfl : R = false := by rw [← hR]; exact decide_eq_false (fun h => by omega)
    clear hR hp0 hp2
    go_enter Try.func53, Try.ntmps53
    go_wp2_with fail
    go_ret
    exact ⟨rfl, hB0⟩
  by_cases n5 : ou < 0
  · obtain rfl : R = false := by rw [← hR]; exact decide_eq_false (fun h => by omega)
    clear hR hp0 hp2
    go_enter Try.func53, Try.ntmps53
    go_wp2_with fail
    go_ret
    exact ⟨rfl, hB0⟩
  by_cases n6 : ou < 48
  · obtain ⟨len, rfl⟩ : ∃ z : Nat, ln = z := ⟨ln.toNat, by omega⟩
    have hl : len ≤ b := by omega
    rw [Int.toNat_natCast] at hR
    by_cases c1 : vl < 0
    · obtain rfl : R = false := by rw [← hR]; exact decide_eq_false (fun h => by omega)
      clear hR hp0 hp2
      go_enter Try.func53, Try.ntmps53
      go_wp2_with fail
      refine quiet_lit3 (C := fun W => Below w0.heap.size w0 W) (by kernel_rfl) (by kernel_rfl) (show Below _ _ _ from (Below.refl _ _).drew) ?_
      go_big_quiet_want
      refine ⟨.pointer (some ⟨w.heap.size, 1, none⟩), fun W hW => ?_, ?_⟩
      · go_simp
      go_big_quiet_on
      simp only [Act.put, List.setIfInBounds_toArray, List.set_cons_zero, List.set_cons_succ]
      go_big_quiet_want
      refine ⟨.int .i64 vl, fun W hW => ?_, ?_⟩
      · obtain ⟨x0, x1, x2, x3⟩ := HX.out W hW
        go_simp
      go_big_quiet_on
      simp only [Act.put, List.setIfInBounds_toArray, List.set_cons_zero, List.set_cons_succ]
      go_big_quiet_want
      refine ⟨.bool true, fun W hW => ?_, ?_⟩
      · go_simp
      go_big_quiet_on
      simp only [Act.put, List.setIfInBounds_toArray, List.set_cons_zero, List.set_cons_succ]
      go_big_quiet_want
      go_big_quiet_op
      go_big_quiet_on
      go_big_quiet_skip
      go_big_quiet_skip
      go_big_quiet_skip
      go_big_quiet_skip
      go_big_quiet_skip
      go_big_quiet_want
      refine ⟨.bool true, fun W hW => ?_, ?_⟩
      · go_simp
      go_big_quiet_on
      simp only [Act.put, List.setIfInBounds_toArray, List.set_cons_zero, List.set_cons_succ]
      refine wpQuiet_nil ?_
      intro W hW
      go_wp2_with fail
      go_ret
      exact ⟨rfl, bel0 hB0 hW⟩
    by_cases c2 : vl < ((2 ^ b : Nat) : Int)
    · obtain ⟨va, rfl⟩ : ∃ z : Nat, vl = z := ⟨vl.toNat, by omega⟩
      rw [Int.toNat_natCast] at hR
      have hsp : 0 < 2 ^ (b - len) := Nat.pow_pos (by decide)
      have hs2 : 2 ^ (b - len) ≤ 2 ^ 32 := Nat.pow_le_pow_right (by decide) (by omega)
      have e5 : IntKind.i64.wrap ((b : Int) - (len : Int)) = ((b - len : Nat) : Int) := by rw [IntKind.wrap_i64]; omega
      have e6 : IntKind.i64.wrap ((2 : Int) ^ (b - len)) = ((2 ^ (b - len) : Nat) : Int) := by rw [pow_cast, IntKind.wrap_i64]; omega
      obtain ⟨k, hk⟩ : ∃ k, b - len = k := ⟨_, rfl⟩
      rw [hk] at hR hsp hs2 e5 e6
      have s2 : (0 : Int) ≤ (k : Int) := by omega
      have s3 : (k : Int) < 64 := by omega
      obtain ⟨Z, hZ⟩ : ∃ Z, 2 ^ k = Z := ⟨_, rfl⟩
      rw [hZ] at hR hsp hs2 e6
      obtain ⟨PP, hPP⟩ : ∃ PP, 2 ^ b = PP := ⟨_, rfl⟩
      rw [hPP] at ep c2 hR hp2 hp0
      have z0 : ¬ (Z : Int) = 0 := by omega
      have z4 : ¬ Z = 0 := by omega
      have z1 : ((Z : Int) == 0) = false := beq_eq_false_iff_ne.2 z0
      have z2 : ((Z : Int) == -1) = false := beq_eq_false_iff_ne.2 (by omega)
      have z3 : ¬ (Z : Int) = -1 := by omega
      have hle := Nat.mod_le va Z
      have r0 : (va : Int).tmod (Z : Int) = ((va % Z : Nat) : Int) := by rw [Int.tmod_eq_emod_of_nonneg (by omega)]; rfl
      have r1 : IntKind.i64.wrap ((va % Z : Nat) : Int) = ((va % Z : Nat) : Int) := by rw [IntKind.wrap_i64]; omega
      have c3 : ¬ (PP : Int) ≤ (va : Int) := by omega
      have c0 : ¬ (va : Int) < 0 := by omega
      have c4 : va < PP := by omega
      obtain ⟨q, hq⟩ : ∃ q, va % Z = q := ⟨_, rfl⟩
      rw [hq] at r0 r1 hR hle
      by_cases d : q = 0
      · obtain rfl : R = true := by rw [← hR]; exact decide_eq_true ⟨by omega, by omega, by omega, by omega, by omega, n6, by omega, c2, d⟩
        have y1 : ((q : Int) == 0) = true := by rw [d]; rfl
        clear hR hq d hle hPP hZ hk hp0 hp2 hsp hs2
        go_enter Try.func53, Try.ntmps53
        go_wp2_with fail
        refine quiet_lit3 (C := fun W => Below w0.heap.size w0 W) (by kernel_rfl) (by kernel_rfl) (show Below _ _ _ from (Below.refl _ _).drew) ?_
        go_big_quiet_want
        refine ⟨.pointer (some ⟨w.heap.size, 1, none⟩), fun W hW => ?_, ?_⟩
        · go_simp
        go_big_quiet_on
        simp only [Act.put, List.setIfInBounds_toArray, List.set_cons_zero, List.set_cons_succ]
        go_big_quiet_want
        refine ⟨.int .i64 (va : Int), fun W hW => ?_, ?_⟩
        · obtain ⟨x0, x1, x2, x3⟩ := HX.out W hW
          go_simp
        go_big_quiet_on
        simp only [Act.put, List.setIfInBounds_toArray, List.set_cons_zero, List.set_cons_succ]
        go_big_quiet_want
        refine ⟨.bool false, fun W hW => ?_, ?_⟩
        · go_simp
        go_big_quiet_on
        simp only [Act.put, List.setIfInBounds_toArray, List.set_cons_zero, List.set_cons_succ]
        go_big_quiet_want
        go_big_quiet_op
        go_big_quiet_on
        go_big_quiet_want
        refine ⟨.pointer (some ⟨w.heap.size, 1, none⟩), fun W hW => ?_, ?_⟩
        · go_simp
        go_big_quiet_on
        simp only [Act.put, List.setIfInBounds_toArray, List.set_cons_zero, List.set_cons_succ]
        go_big_quiet_want
        refine ⟨.int .i64 (va : Int), fun W hW => ?_, ?_⟩
        · obtain ⟨x0, x1, x2, x3⟩ := HX.out W hW
          go_simp
        go_big_quiet_on
        simp only [Act.put, List.setIfInBounds_toArray, List.set_cons_zero, List.set_cons_succ]
        go_big_quiet_want
        go_big_quiet_op
        go_big_quiet_on
        go_big_quiet_want
        refine ⟨.int .i64 (PP : Int), fun W hW => ?_, ?_⟩
        · go_simp
        go_big_quiet_on
        simp only [Act.put, List.setIfInBounds_toArray, List.set_cons_zero, List.set_cons_succ]
        go_big_quiet_want
        refine ⟨.bool false, fun W hW => ?_, ?_⟩
        · go_simp
        go_big_quiet_on
        simp only [Act.put, List.setIfInBounds_toArray, List.set_cons_zero, List.set_cons_succ]
        go_big_quiet_want
        refine ⟨.bool false, fun W hW => ?_, ?_⟩
        · go_simp
        go_big_quiet_on
        simp only [Act.put, List.setIfInBounds_toArray, List.set_cons_zero, List.set_cons_succ]
        refine wpQuiet_nil ?_
        intro W hW
        go_wp2_with fail
        refine quiet_lit3 (C := fun W2 => Below W.heap.size W W2) (by kernel_rfl) (by kernel_rfl) (show Below _ _ _ from (Below.refl _ _).drew) ?_
        go_big_quiet_want
        refine ⟨.pointer (some ⟨w.heap.size, 1, none⟩), fun W2 hW2 => ?_, ?_⟩
        · go_simp
        go_big_quiet_on
        simp only [Act.put, List.setIfInBounds_toArray, List.set_cons_zero, List.set_cons_succ]
        go_big_quiet_want
        refine ⟨.int .i64 (va : Int), fun W2 hW2 => ?_, ?_⟩
        · obtain ⟨x0, x1, x2, x3⟩ := HX.out W2 (bel0 hW hW2)
          go_simp
        go_big_quiet_on
        simp only [Act.put, List.setIfInBounds_toArray, List.set_cons_zero, List.set_cons_succ]
        go_big_quiet_want
        go_big_quiet_op
        go_big_quiet_on
        go_big_quiet_want
        refine ⟨.pointer (some ⟨w.heap.size, 2, none⟩), fun W2 hW2 => ?_, ?_⟩
        · go_simp
        go_big_quiet_on
        simp only [Act.put, List.setIfInBounds_toArray, List.set_cons_zero, List.set_cons_succ]
        go_big_quiet_want
        refine ⟨.int .i64 (len : Int), fun W2 hW2 => ?_, ?_⟩
        · obtain ⟨x0, x1, x2, x3⟩ := HX.out W2 (bel0 hW hW2)
          go_simp
        go_big_quiet_on
        simp only [Act.put, List.setIfInBounds_toArray, List.set_cons_zero, List.set_cons_succ]
        go_big_quiet_want
        refine ⟨.int .i64 (k : Int), fun W2 hW2 => ?_, ?_⟩
        · go_simp
        go_big_quiet_on
        simp only [Act.put, List.setIfInBounds_toArray, List.set_cons_zero, List.set_cons_succ]
        go_big_quiet_want
        refine ⟨.int .i64 (Z : Int), fun W2 hW2 => ?_, ?_⟩
        · go_simp
        go_big_quiet_on
        simp only [Act.put, List.setIfInBounds_toArray, List.set_cons_zero, List.set_cons_succ]
        go_big_quiet_want
        refine ⟨.int .i64 (q : Int), fun W2 hW2 => ?_, ?_⟩
        · go_simp
        go_big_quiet_on
        simp only [Act.put, List.setIfInBounds_toArray, List.set_cons_zero, List.set_cons_succ]
        go_big_quiet_want
        refine ⟨.bool true, fun W2 hW2 => ?_, ?_⟩
        · go_simp
        go_big_quiet_on
        simp only [Act.put, List.setIfInBounds_toArray, List.set_cons_zero, List.set_cons_succ]
        go_big_quiet_want
        go_big_quiet_op
        go_big_quiet_on
        refine wpQuiet_nil ?_
        intro W2 hW2
        go_wp2_with fail
        go_ret
        exact ⟨rfl, bel0 hB0 (bel0 hW hW2)⟩
      · obtain rfl : R = false := by rw [← hR]; exact decide_eq_false (fun h => by omega)
        have y1 : ((q : Int) == 0) = false := beq_eq_false_iff_ne.2 (by omega)
        clear hR hq d hle hPP hZ hk hp0 hp2 hsp hs2
        go_enter Try.func53, Try.ntmps53
        go_wp2_with fail
        refine quiet_lit3 (C := fun W => Below w0.heap.size w0 W) (by kernel_rfl) (by kernel_rfl) (show Below _ _ _ from (Below.refl _ _).drew) ?_
        go_big_quiet_want
        refine ⟨.pointer (some ⟨w.heap.size, 1, none⟩), fun W hW => ?_, ?_⟩
        · go_simp
        go_big_quiet_on
        simp only [Act.put, List.setIfInBounds_toArray, List.set_cons_zero, List.set_cons_succ]
        go_big_quiet_want
        refine ⟨.int .i64 (va : Int), fun W hW => ?_, ?_⟩
        · obtain ⟨x0, x1, x2, x3⟩ := HX.out W hW
          go_simp
        go_big_quiet_on
        simp only [Act.put, List.setIfInBounds_toArray, List.set_cons_zero, List.set_cons_succ]
        go_big_quiet_want
        refine ⟨.bool false, fun W hW => ?_, ?_⟩
        · go_simp
        go_big_quiet_on
        simp only [Act.put, List.setIfInBounds_toArray, List.set_cons_zero, List.set_cons_succ]
        go_big_quiet_want
        go_big_quiet_op
        go_big_quiet_on
        go_big_quiet_want
        refine ⟨.pointer (some ⟨w.heap.size, 1, none⟩), fun W hW => ?_, ?_⟩
        · go_simp
        go_big_quiet_on
        simp only [Act.put, List.setIfInBounds_toArray, List.set_cons_zero, List.set_cons_succ]
        go_big_quiet_want
        refine ⟨.int .i64 (va : Int), fun W hW => ?_, ?_⟩
        · obtain ⟨x0, x1, x2, x3⟩ := HX.out W hW
          go_simp
        go_big_quiet_on
        simp only [Act.put, List.setIfInBounds_toArray, List.set_cons_zero, List.set_cons_succ]
        go_big_quiet_want
        go_big_quiet_op
        go_big_quiet_on
        go_big_quiet_want
        refine ⟨.int .i64 (PP : Int), fun W hW => ?_, ?_⟩
        · go_simp
        go_big_quiet_on
        simp only [Act.put, List.setIfInBounds_toArray, List.set_cons_zero, List.set_cons_succ]
        go_big_quiet_want
        refine ⟨.bool false, fun W hW => ?_, ?_⟩
        · go_simp
        go_big_quiet_on
        simp only [Act.put, List.setIfInBounds_toArray, List.set_cons_zero, List.set_cons_succ]
        go_big_quiet_want
        refine ⟨.bool false, fun W hW => ?_, ?_⟩
        · go_simp
        go_big_quiet_on
        simp only [Act.put, List.setIfInBounds_toArray, List.set_cons_zero, List.set_cons_succ]
        refine wpQuiet_nil ?_
        intro W hW
        go_wp2_with fail
        refine quiet_lit3 (C := fun W2 => Below W.heap.size W W2) (by kernel_rfl) (by kernel_rfl) (show Below _ _ _ from (Below.refl _ _).drew) ?_
        go_big_quiet_want
        refine ⟨.pointer (some ⟨w.heap.size, 1, none⟩), fun W2 hW2 => ?_, ?_⟩
        · go_simp
        go_big_quiet_on
        simp only [Act.put, List.setIfInBounds_toArray, List.set_cons_zero, List.set_cons_succ]
        go_big_quiet_want
        refine ⟨.int .i64 (va : Int), fun W2 hW2 => ?_, ?_⟩
        · obtain ⟨x0, x1, x2, x3⟩ := HX.out W2 (bel0 hW hW2)
          go_simp
        go_big_quiet_on
        simp only [Act.put, List.setIfInBounds_toArray, List.set_cons_zero, List.set_cons_succ]
        go_big_quiet_want
        go_big_quiet_op
        go_big_quiet_on
        go_big_quiet_want
        refine ⟨.pointer (some ⟨w.heap.size, 2, none⟩), fun W2 hW2 => ?_, ?_⟩
        · go_simp
        go_big_quiet_on
        simp only [Act.put, List.setIfInBounds_toArray, List.set_cons_zero, List.set_cons_succ]
        go_big_quiet_want
        refine ⟨.int .i64 (len : Int), fun W2 hW2 => ?_, ?_⟩
        · obtain ⟨x0, x1, x2, x3⟩ := HX.out W2 (bel0 hW hW2)
          go_simp
        go_big_quiet_on
        simp only [Act.put, List.setIfInBounds_toArray, List.set_cons_zero, List.set_cons_succ]
        go_big_quiet_want
        refine ⟨.int .i64 (k : Int), fun W2 hW2 => ?_, ?_⟩
        · go_simp
        go_big_quiet_on
        simp only [Act.put, List.setIfInBounds_toArray, List.set_cons_zero, List.set_cons_succ]
        go_big_quiet_want
        refine ⟨.int .i64 (Z : Int), fun W2 hW2 => ?_, ?_⟩
        · go_simp
        go_big_quiet_on
        simp only [Act.put, List.setIfInBounds_toArray, List.set_cons_zero, List.set_cons_succ]
        go_big_quiet_want
        refine ⟨.int .i64 (q : Int), fun W2 hW2 => ?_, ?_⟩
        · go_simp
        go_big_quiet_on
        simp only [Act.put, List.setIfInBounds_toArray, List.set_cons_zero, List.set_cons_succ]
        go_big_quiet_want
        refine ⟨.bool false, fun W2 hW2 => ?_, ?_⟩
        · go_simp
        go_big_quiet_on
        simp only [Act.put, List.setIfInBounds_toArray, List.set_cons_zero, List.set_cons_succ]
        go_big_quiet_want
        go_big_quiet_op
        go_big_quiet_on
        refine wpQuiet_nil ?_
        intro W2 hW2
        go_wp2_with fail
        go_ret
        exact ⟨rfl, bel0 hB0 (bel0 hW hW2)⟩
    · obtain rfl : R = false := by rw [← hR]; exact decide_eq_false (fun h => by omega)
      have c3 : ((2 ^ b : Nat) : Int) ≤ vl := by omega
      obtain ⟨PP, hPP⟩ : ∃ PP, 2 ^ b = PP := ⟨_, rfl⟩
      rw [hPP] at ep c3
      clear hR hp0 hp2 hPP c2
      go_enter Try.func53, Try.ntmps53
      go_wp2_with fail
      refine quiet_lit3 (C := fun W => Below w0.heap.size w0 W) (by kernel_rfl) (by kernel_rfl) (show Below _ _ _ from (Below.refl _ _).drew) ?_
      go_big_quiet_want
      refine ⟨.pointer (some ⟨w.heap.size, 1, none⟩), fun W hW => ?_, ?_⟩
      · go_simp
      go_big_quiet_on
      simp only [Act.put, List.setIfInBounds_toArray, List.set_cons_zero, List.set_cons_succ]
      go_big_quiet_want
      refine ⟨.int .i64 vl, fun W hW => ?_, ?_⟩
      · obtain ⟨x0, x1, x2, x3⟩ := HX.out W hW
        go_simp
      go_big_quiet_on
      simp only [Act.put, List.setIfInBounds_toArray, List.set_cons_zero, List.set_cons_succ]
      go_big_quiet_want
      refine ⟨.bool false, fun W hW => ?_, ?_⟩
      · go_simp
      go_big_quiet_on
      simp only [Act.put, List.setIfInBounds_toArray, List.set_cons_zero, List.set_cons_succ]
      go_big_quiet_want
      go_big_quiet_op
      go_big_quiet_on
      go_big_quiet_want
      refine ⟨.pointer (some ⟨w.heap.size, 1, none⟩), fun W hW => ?_, ?_⟩
      · go_simp
      go_big_quiet_on
      simp only [Act.put, List.setIfInBounds_toArray, List.set_cons_zero, List.set_cons_succ]
      go_big_quiet_want
      refine ⟨.int .i64 vl, fun W hW => ?_, ?_⟩
      · obtain ⟨x0, x1, x2, x3⟩ := HX.out W hW
        go_simp
      go_big_quiet_on
      simp only [Act.put, List.setIfInBounds_toArray, List.set_cons_zero, List.set_cons_succ]
      go_big_quiet_want
      go_big_quiet_op
      go_big_quiet_on
      go_big_quiet_want
      refine ⟨.int .i64 (PP : Int), fun W hW => ?_, ?_⟩
      · go_simp
      go_big_quiet_on
      simp only [Act.put, List.setIfInBounds_toArray, List.set_cons_zero, List.set_cons_succ]
      go_big_quiet_want
      refine ⟨.bool true, fun W hW => ?_, ?_⟩
      · go_simp
      go_big_quiet_on
      simp only [Act.put, List.setIfInBounds_toArray, List.set_cons_zero, List.set_cons_succ]
      go_big_quiet_want
      refine ⟨.bool true, fun W hW => ?_, ?_⟩
      · go_simp
      go_big_quiet_on
      simp only [Act.put, List.setIfInBounds_toArray, List.set_cons_zero, List.set_cons_succ]
      refine wpQuiet_nil ?_
      intro W hW
      go_wp2_with fail
      go_ret
      exact ⟨rfl, bel0 hB0 hW⟩
  · obtain rfl : R = false := by rw [← hR]; exact decide_eq_false (fun h => by omega)
    have n7 : (48 : Int) ≤ ou := by omega
    clear hR hp0 hp2
    go_enter Try.func53, Try.ntmps53
    go_wp2_with fail
    go_ret
    exact ⟨rfl, hB0⟩
end Go.Proofs.Ytfcdaljhbeogeaa
