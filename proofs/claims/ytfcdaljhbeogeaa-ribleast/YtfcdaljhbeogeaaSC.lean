import Derived.Test.YtfcdaljhbeogeaaSB
namespace Go.Proofs.Ytfcdaljhbeogeaa
open Go.RowKit
set_option maxRecDepth 100000 in
set_option maxHeartbeats 1000000 in
theorem lhas_any (b : Nat) (r : IRt) (v : Nat) (w : World) (hb : b ≤ 32) (hm : rmay b r = true) : Calls Try.prog 42 #[.int .i64 (b : Int), rv r, .int .i64 (v : Int)] w fun e w' => e = .returned (.bool (rhas b r v)) ∧ Below w.heap.size w w' := by
  obtain ⟨kd, vl, ln, ou⟩ := r
  unfold rmay at hm
  simp only [decide_eq_true_eq] at hm
  obtain ⟨-, -, m3, m4, -, -, m7, m8, m9⟩ := hm
  obtain ⟨len, rfl⟩ : ∃ z : Nat, ln = z := ⟨ln.toNat, by omega⟩
  obtain ⟨va, rfl⟩ : ∃ z : Nat, vl = z := ⟨vl.toNat, by omega⟩
  have hl : len ≤ b := by omega
  obtain ⟨R, hR⟩ : ∃ R, rhas b (kd, (va : Int), (len : Int), ou) v = R := ⟨_, rfl⟩
  rw [hR]
  have hRd : ∀ k X Y : Nat, b - len = k → v / 2 ^ k = X → va / 2 ^ k = Y → decide (X = Y) = R := fun k X Y h1 h2 h3 => by subst h1 h2 h3; exact hR
  have e5 : IntKind.i64.wrap ((b : Int) - (len : Int)) = ((b - len : Nat) : Int) := by rw [IntKind.wrap_i64]; omega
  have dv := rdiv_cast v (b - len)
  have da := rdiv_cast va (b - len)
  obtain ⟨k, hk⟩ : ∃ k, b - len = k := ⟨_, rfl⟩
  rw [hk] at e5 dv da
  have s0 : (0 : Int) ≤ (k : Int) := by omega
  have s1 : (k : Int) < 64 := by omega
  have s2 : (k : Int) < 63 := by omega
  obtain ⟨X, hX⟩ : ∃ X, v / 2 ^ k = X := ⟨_, rfl⟩
  obtain ⟨Y, hY⟩ : ∃ Y, va / 2 ^ k = Y := ⟨_, rfl⟩
  rw [hX] at dv
  rw [hY] at da
  replace hR := hRd k X Y hk hX hY
  clear hRd hk hX hY m3 m4 m7 m8 m9
  show Calls Try.prog 42 #[.int .i64 (b : Int), .agg #[.int .i64 kd, .int .i64 (va : Int), .int .i64 (len : Int), .int .i64 ou], .int .i64 (v : Int)] w _
  obtain ⟨O, hO⟩ : ∃ O : Obj, Obj.cells #[.int .i64 kd, .int .i64 (va : Int), .int .i64 (len : Int), .int .i64 ou] 59 = O := ⟨_, rfl⟩
  have hB0 : Below w.heap.size w (w.alloc O) := (Below.refl _ _).alloc (Nat.le_refl _) _
  have hbx : (w.alloc O).heap[w.heap.size]? = some (.cells #[.int .i64 kd, .int .i64 (va : Int), .int .i64 (len : Int), .int .i64 ou] 59) := by rw [hO]; exact alloc_get _ _
  obtain ⟨w0, hw0⟩ : ∃ w0, w.alloc O = w0 := ⟨_, rfl⟩
  rw [hw0] at hB0 hbx
  have HX : Hid (∀ W : World, Below w0.heap.size w0 W → W.cell? ⟨w.heap.size, 0, none⟩ = some (.int .i64 kd) ∧ W.cell? ⟨w.heap.size, 1, none⟩ = some (.int .i64 (va : Int)) ∧ W.cell? ⟨w.heap.size, 2, none⟩ = some (.int .i64 (len : Int)) ∧ W.cell? ⟨w.heap.size, 3, none⟩ = some (.int .i64 ou)) := fun W hW => ⟨cell_of_row _ _ 0 _ _ _ (keepblk hW hbx), cell_of_row _ _ 1 _ _ _ (keepblk hW hbx), cell_of_row _ _ 2 _ _ _ (keepblk hW hbx), cell_of_row _ _ 3 _ _ _ (keepblk hW hbx)⟩
  obtain ⟨x0, x1, x2, x3⟩ := HX.out _ (Below.refl _ _)
  clear hbx
  by_cases e : X = Y
  · obtain rfl : R = true := by rw [← hR]; exact decide_eq_true e
    have e1 : ((X : Int) == (Y : Int)) = true := by rw [e]; exact beq_self_eq_true _
    clear hR e
    go_enter Try.func42, Try.ntmps42
    go_wp2_with fail
    refine quiet_lit3 (C := fun W => Below w0.heap.size w0 W) (by kernel_rfl) (by kernel_rfl) (show Below _ _ _ from (Below.refl _ _).drew) ?_
    go_big_quiet_want
    go_big_quiet_op
    go_big_quiet_on
    go_big_quiet_want
    refine ⟨.bool true, fun W hW => ?_, ?_⟩
    · go_simp
    go_big_quiet_on
    simp only [Act.put, List.setIfInBounds_toArray, List.set_cons_zero, List.set_cons_succ]
    go_big_quiet_want
    go_big_quiet_op
    go_big_quiet_on
    go_big_quiet_want
    go_big_quiet_op
    go_big_quiet_on
    go_big_quiet_want
    refine ⟨.bool true, fun W hW => ?_, ?_⟩
    · go_simp
    go_big_quiet_on
    simp only [Act.put, List.setIfInBounds_toArray, List.set_cons_zero, List.set_cons_succ]
    go_big_quiet_want
    refine ⟨.bool true, fun W hW => ?_, ?_⟩
    · go_simp
    go_big_quiet_on
    simp only [Act.put, List.setIfInBounds_toArray, List.set_cons_zero, List.set_cons_succ]
    go_big_quiet_want
    go_big_quiet_op
    go_big_quiet_on
    go_big_quiet_want
    go_big_quiet_op
    go_big_quiet_on
    go_big_quiet_want
    go_big_quiet_op
    go_big_quiet_on
    go_big_quiet_want
    refine ⟨.int .i64 (X : Int), fun W hW => ?_, ?_⟩
    · go_simp
    go_big_quiet_on
    simp only [Act.put, List.setIfInBounds_toArray, List.set_cons_zero, List.set_cons_succ]
    go_big_quiet_want
    refine ⟨.pointer (some ⟨w.heap.size, 1, none⟩), fun W hW => ?_, ?_⟩
    · go_simp
    go_big_quiet_on
    simp only [Act.put, List.setIfInBounds_toArray, List.set_cons_zero, List.set_cons_succ]
    go_big_quiet_want
    refine ⟨.int .i64 (va : Int), fun W hW => ?_, ?_⟩
    · obtain ⟨x0, x1, x2, x3⟩ := HX.out W hW
      go_simp
    go_big_quiet_on
    simp only [Act.put, List.setIfInBounds_toArray, List.set_cons_zero, List.set_cons_succ]
    go_big_quiet_want
    go_big_quiet_op
    go_big_quiet_on
    go_big_quiet_want
    refine ⟨.int .i64 (Y : Int), fun W hW => ?_, ?_⟩
    · go_simp
    go_big_quiet_on
    simp only [Act.put, List.setIfInBounds_toArray, List.set_cons_zero, List.set_cons_succ]
    go_big_quiet_want
    refine ⟨.bool true, fun W hW => ?_, ?_⟩
    · go_simp
    go_big_quiet_on
    simp only [Act.put, List.setIfInBounds_toArray, List.set_cons_zero, List.set_cons_succ]
    go_big_quiet_want
    refine ⟨.bool true, fun W hW => ?_, ?_⟩
    · go_simp
    go_big_quiet_on
    simp only [Act.put, List.setIfInBounds_toArray, List.set_cons_zero, List.set_cons_succ]
    go_big_quiet_want
    go_big_quiet_op
    go_big_quiet_on
    refine wpQuiet_nil ?_
    intro W hW
    go_wp2_with fail
    go_ret
    exact ⟨rfl, bel0 hB0 hW⟩
  · obtain rfl : R = false := by rw [← hR]; exact decide_eq_false e
    have e1 : ((X : Int) == (Y : Int)) = false := beq_eq_false_iff_ne.2 (by omega)
    clear hR
    go_enter Try.func42, Try.ntmps42
    go_wp2_with fail
    refine quiet_lit3 (C := fun W => Below w0.heap.size w0 W) (by kernel_rfl) (by kernel_rfl) (show Below _ _ _ from (Below.refl _ _).drew) ?_
    go_big_quiet_want
    go_big_quiet_op
    go_big_quiet_on
    go_big_quiet_want
    refine ⟨.bool true, fun W hW => ?_, ?_⟩
    · go_simp
    go_big_quiet_on
    simp only [Act.put, List.setIfInBounds_toArray, List.set_cons_zero, List.set_cons_succ]
    go_big_quiet_want
    go_big_quiet_op
    go_big_quiet_on
    go_big_quiet_want
    go_big_quiet_op
    go_big_quiet_on
    go_big_quiet_want
    refine ⟨.bool true, fun W hW => ?_, ?_⟩
    · go_simp
    go_big_quiet_on
    simp only [Act.put, List.setIfInBounds_toArray, List.set_cons_zero, List.set_cons_succ]
    go_big_quiet_want
    refine ⟨.bool true, fun W hW => ?_, ?_⟩
    · go_simp
    go_big_quiet_on
    simp only [Act.put, List.setIfInBounds_toArray, List.set_cons_zero, List.set_cons_succ]
    go_big_quiet_want
    go_big_quiet_op
    go_big_quiet_on
    go_big_quiet_want
    go_big_quiet_op
    go_big_quiet_on
    go_big_quiet_want
    go_big_quiet_op
    go_big_quiet_on
    go_big_quiet_want
    refine ⟨.int .i64 (X : Int), fun W hW => ?_, ?_⟩
    · go_simp
    go_big_quiet_on
    simp only [Act.put, List.setIfInBounds_toArray, List.set_cons_zero, List.set_cons_succ]
    go_big_quiet_want
    refine ⟨.pointer (some ⟨w.heap.size, 1, none⟩), fun W hW => ?_, ?_⟩
    · go_simp
    go_big_quiet_on
    simp only [Act.put, List.setIfInBounds_toArray, List.set_cons_zero, List.set_cons_succ]
    go_big_quiet_want
    refine ⟨.int .i64 (va : Int), fun W hW => ?_, ?_⟩
    · obtain ⟨x0, x1, x2, x3⟩ := HX.out W hW
      go_simp
    go_big_quiet_on
    simp only [Act.put, List.setIfInBounds_toArray, List.set_cons_zero, List.set_cons_succ]
    go_big_quiet_want
    go_big_quiet_op
    go_big_quiet_on
    go_big_quiet_want
    refine ⟨.int .i64 (Y : Int), fun W hW => ?_, ?_⟩
    · go_simp
    go_big_quiet_on
    simp only [Act.put, List.setIfInBounds_toArray, List.set_cons_zero, List.set_cons_succ]
    go_big_quiet_want
    refine ⟨.bool false, fun W hW => ?_, ?_⟩
    · go_simp
    go_big_quiet_on
    simp only [Act.put, List.setIfInBounds_toArray, List.set_cons_zero, List.set_cons_succ]
    go_big_quiet_want
    refine ⟨.bool false, fun W hW => ?_, ?_⟩
    · go_simp
    go_big_quiet_on
    simp only [Act.put, List.setIfInBounds_toArray, List.set_cons_zero, List.set_cons_succ]
    go_big_quiet_want
    go_big_quiet_op
    go_big_quiet_on
    refine wpQuiet_nil ?_
    intro W hW
    go_wp2_with fail
    go_ret
    exact ⟨rfl, bel0 hB0 hW⟩
end Go.Proofs.Ytfcdaljhbeogeaa
