import Derived.Test.YtfcdaljhbeogeaaBB
namespace Go.Proofs.Ytfcdaljhbeogeaa
open Go.RowKit
def cmp3 (a b : Int) : Int := if a < b then -1 else if b < a then 1 else 0
def or4 (a b c d : Int) : Int := if a ≠ 0 then a else if b ≠ 0 then b else if c ≠ 0 then c else d
set_option maxRecDepth 100000 in
theorem bnan_any (a : Int) (w : World) : Calls Try.prog 65 #[.int .i64 a] w fun e w' => e = .returned (.bool false) ∧ w' = w := by
  have e1 : (a == a) = true := beq_self_eq_true a
  go_enter Try.func65, Try.ntmps65
  go_wp2_with fail
  go_ret
  exact ⟨rfl, rfl⟩
set_option maxRecDepth 100000 in
theorem bcmp_any (a b : Int) (w : World) : Calls Try.prog 62 #[.int .i64 a, .int .i64 b] w fun e w' => e = .returned (.int .i64 (cmp3 a b)) ∧ w' = w := by
  have H1 := fun W => bnan_any a W
  have H2 := fun W => bnan_any b W
  unfold cmp3
  by_cases c1 : a < b
  · rw [if_pos c1]
    go_enter Try.func62, Try.ntmps62
    go_wp2_with fail
    refine (H1 _).mono ?_
    rintro e W1 ⟨rfl, rfl⟩
    go_wp2_with fail
    refine (H2 _).mono ?_
    rintro e W2 ⟨rfl, rfl⟩
    go_wp2_with fail
    go_ret
    exact ⟨rfl, rfl⟩
  · rw [if_neg c1]
    by_cases c2 : b < a
    · rw [if_pos c2]
      go_enter Try.func62, Try.ntmps62
      go_wp2_with fail
      refine (H1 _).mono ?_
      rintro e W1 ⟨rfl, rfl⟩
      go_wp2_with fail
      refine (H2 _).mono ?_
      rintro e W2 ⟨rfl, rfl⟩
      go_wp2_with fail
      go_ret
      exact ⟨rfl, rfl⟩
    · rw [if_neg c2]
      go_enter Try.func62, Try.ntmps62
      go_wp2_with fail
      refine (H1 _).mono ?_
      rintro e W1 ⟨rfl, rfl⟩
      go_wp2_with fail
      refine (H2 _).mono ?_
      rintro e W2 ⟨rfl, rfl⟩
      go_wp2_with fail
      go_ret
      exact ⟨rfl, rfl⟩
set_option maxRecDepth 100000 in
set_option maxHeartbeats 1000000 in
theorem bor_any (g : Nat) (a b c d : Int) (w : World) (h0 : w.cell? ⟨g, 0, none⟩ = some (.int .i64 a)) (h1 : w.cell? ⟨g, 1, none⟩ = some (.int .i64 b)) (h2 : w.cell? ⟨g, 2, none⟩ = some (.int .i64 c)) (h3 : w.cell? ⟨g, 3, none⟩ = some (.int .i64 d)) :
    Calls Try.prog 61 #[.slice (some ⟨g, 0, none⟩) 4 4] w fun e w' => e = .returned (.int .i64 (or4 a b c d)) ∧ w' = w := by
  obtain ⟨R, hR⟩ : ∃ R, or4 a b c d = R := ⟨_, rfl⟩
  rw [hR]
  unfold or4 at hR
  have HR : Hid ((if a ≠ 0 then a else if b ≠ 0 then b else if c ≠ 0 then c else d) = R) := hR
  clear hR
  go_enter Try.func61, Try.ntmps61
  go_wp2_with fail
  go_loopw [8] (fun vi wr => ∃ i : Nat, vi = .int .i64 i ∧ i ≤ 4 ∧ Hid ((0 < i → a = 0) ∧ (1 < i → b = 0) ∧ (2 < i → c = 0) ∧ (3 < i → d = 0)) ∧ wr = w) (fun vi _ => 4 - (intOf vi).toNat)
  case atStart => exact ⟨0, rfl, by omega, ⟨fun h => by omega, fun h => by omega, fun h => by omega, fun h => by omega⟩, rfl⟩
  case round =>
    obtain ⟨i, rfl, hi, hz, rfl⟩ := hrel
    rcases (show i = 0 ∨ i = 1 ∨ i = 2 ∨ i = 3 ∨ i = 4 by omega) with rfl | rfl | rfl | rfl | rfl
    · by_cases e : a ≠ 0
      · obtain ⟨z0, z1, z2, z3⟩ := hz.out
        have hr := HR.out
        rw [if_pos e] at hr
        subst hr
        have e1 : (a == 0) = false := beq_eq_false_iff_ne.2 e
        clear HR hz z0 z1 z2 z3
        go_wp2_with fail
        go_ret
        exact ⟨rfl, rfl⟩
      · obtain ⟨z0, z1, z2, z3⟩ := hz.out
        have e0 : a = 0 := Classical.not_not.1 e
        have e1 : (a == 0) = true := beq_iff_eq.2 e0
        have HZ : Hid ((0 < 1 → a = 0) ∧ (1 < 1 → b = 0) ∧ (2 < 1 → c = 0) ∧ (3 < 1 → d = 0)) := ⟨fun h => by first | exact e0 | exact z0 (by omega) | omega, fun h => by first | exact e0 | exact z1 (by omega) | omega, fun h => by first | exact e0 | exact z2 (by omega) | omega, fun h => by first | exact e0 | exact z3 (by omega) | omega⟩
        clear HR hz z0 z1 z2 z3 e e0
        go_wp2_with fail
        go_roundw
        case rel => exact ⟨1, by go_num, by omega, HZ, by first | rfl | trivial⟩
        case measure => simp [intOf]
    · by_cases e : b ≠ 0
      · obtain ⟨z0, z1, z2, z3⟩ := hz.out
        have hr := HR.out
        rw [if_neg (fun h => h (z0 (by omega))), if_pos e] at hr
        subst hr
        have e1 : (b == 0) = false := beq_eq_false_iff_ne.2 e
        clear HR hz z0 z1 z2 z3
        go_wp2_with fail
        go_ret
        exact ⟨rfl, rfl⟩
      · obtain ⟨z0, z1, z2, z3⟩ := hz.out
        have e0 : b = 0 := Classical.not_not.1 e
        have e1 : (b == 0) = true := beq_iff_eq.2 e0
        have HZ : Hid ((0 < 2 → a = 0) ∧ (1 < 2 → b = 0) ∧ (2 < 2 → c = 0) ∧ (3 < 2 → d = 0)) := ⟨fun h => by first | exact e0 | exact z0 (by omega) | omega, fun h => by first | exact e0 | exact z1 (by omega) | omega, fun h => by first | exact e0 | exact z2 (by omega) | omega, fun h => by first | exact e0 | exact z3 (by omega) | omega⟩
        clear HR hz z0 z1 z2 z3 e e0
        go_wp2_with fail
        go_roundw
        case rel => exact ⟨2, by go_num, by omega, HZ, by first | rfl | trivial⟩
        case measure => simp [intOf]
    · by_cases e : c ≠ 0
      · obtain ⟨z0, z1, z2, z3⟩ := hz.out
        have hr := HR.out
        rw [if_neg (fun h => h (z0 (by omega))), if_neg (fun h => h (z1 (by omega))), if_pos e] at hr
        subst hr
        have e1 : (c == 0) = false := beq_eq_false_iff_ne.2 e
        clear HR hz z0 z1 z2 z3
        go_wp2_with fail
        go_ret
        exact ⟨rfl, rfl⟩
      · obtain ⟨z0, z1, z2, z3⟩ := hz.out
        have e0 : c = 0 := Classical.not_not.1 e
        have e1 : (c == 0) = true := beq_iff_eq.2 e0
        have HZ : Hid ((0 < 3 → a = 0) ∧ (1 < 3 → b = 0) ∧ (2 < 3 → c = 0) ∧ (3 < 3 → d = 0)) := ⟨fun h => by first | exact e0 | exact z0 (by omega) | omega, fun h => by first | exact e0 | exact z1 (by omega) | omega, fun h => by first | exact e0 | exact z2 (by omega) | omega, fun h => by first | exact e0 | exact z3 (by omega) | omega⟩
        clear HR hz z0 z1 z2 z3 e e0
        go_wp2_with fail
        go_roundw
        case rel => exact ⟨3, by go_num, by omega, HZ, by first | rfl | trivial⟩
        case measure => simp [intOf]
    · by_cases e : d ≠ 0
      · obtain ⟨z0, z1, z2, z3⟩ := hz.out
        have hr := HR.out
        rw [if_neg (fun h => h (z0 (by omega))), if_neg (fun h => h (z1 (by omega))), if_neg (fun h => h (z2 (by omega)))] at hr
        subst hr
        have e1 : (d == 0) = false := beq_eq_false_iff_ne.2 e
        clear HR hz z0 z1 z2 z3
        go_wp2_with fail
        go_ret
        exact ⟨rfl, rfl⟩
      · obtain ⟨z0, z1, z2, z3⟩ := hz.out
        have e0 : d = 0 := Classical.not_not.1 e
        have e1 : (d == 0) = true := beq_iff_eq.2 e0
        have HZ : Hid ((0 < 4 → a = 0) ∧ (1 < 4 → b = 0) ∧ (2 < 4 → c = 0) ∧ (3 < 4 → d = 0)) := ⟨fun h => by first | exact e0 | exact z0 (by omega) | omega, fun h => by first | exact e0 | exact z1 (by omega) | omega, fun h => by first | exact e0 | exact z2 (by omega) | omega, fun h => by first | exact e0 | exact z3 (by omega) | omega⟩
        clear HR hz z0 z1 z2 z3 e e0
        go_wp2_with fail
        go_roundw
        case rel => exact ⟨4, by go_num, by omega, HZ, by first | rfl | trivial⟩
        case measure => simp [intOf]
    · obtain ⟨z0, z1, z2, z3⟩ := hz.out
      have hr := HR.out
      rw [if_neg (fun h => h (z0 (by omega))), if_neg (fun h => h (z1 (by omega))), if_neg (fun h => h (z2 (by omega))), z3 (by omega)] at hr
      subst hr
      clear HR hz z0 z1 z2 z3
      go_wp2_with fail
      go_ret
      exact ⟨rfl, rfl⟩
set_option maxRecDepth 100000 in
set_option maxHeartbeats 1000000 in
theorem bhas_any (b : Nat) (r : IRt) (v : Nat) (w : World) (hb : b ≤ 32) (hm : rmay b r = true) (hv : v < 2 ^ b) : Calls Try.prog 55 #[.int .i64 (b : Int), rv r, .int .i64 (v : Int)] w fun e w' => e = .returned (.bool (rhas b r v)) ∧ Below w.heap.size w w' := by
  obtain ⟨kd, vl, ln, ou⟩ := r
  unfold rmay at hm
  simp only [decide_eq_true_eq] at hm
  obtain ⟨-, -, m3, m4, -, -, m7, m8, m9⟩ := hm
  obtain ⟨len, rfl⟩ : ∃ z : Nat, ln = z := ⟨ln.toNat, by omega⟩
  obtain ⟨va, rfl⟩ : ∃ z : Nat, vl = z := ⟨vl.toNat, by omega⟩
  have hl : len ≤ b := by omega
  have h2 : 2 ^ b ≤ 2 ^ 32 := Nat.pow_le_pow_right (by decide) hb
  have HS0 := fun W => bsize_any b len kd va ou W hb hl
  have hsp : 0 < 2 ^ (b - len) := Nat.pow_pos (by decide)
  obtain ⟨R, hR⟩ : ∃ R, rhas b (kd, (va : Int), (len : Int), ou) v = R := ⟨_, rfl⟩
  rw [hR]
  have hRd : ∀ Z : Nat, 2 ^ (b - len) = Z → decide (v / Z = va / Z) = R := fun Z h => by subst h; exact hR
  simp only [Int.toNat_natCast] at m9
  obtain ⟨Z, hZ⟩ : ∃ Z, 2 ^ (b - len) = Z := ⟨_, rfl⟩
  simp only [hZ] at HS0
  replace hR := hRd Z hZ
  clear hRd
  rw [hZ] at hsp m9
  have hval := has_val (v := v) m9
  have HS : Hid (∀ W : World, Calls Try.prog 57 #[.int .i64 (b : Int), .agg #[.int .i64 kd, .int .i64 (va : Int), .int .i64 (len : Int), .int .i64 ou]] W fun e w' => e = .returned (.int .i64 (Z : Int)) ∧ Below W.heap.size W w') := HS0
  have hle := Nat.mod_le v Z
  have z0 : ¬ (Z : Int) = 0 := by omega
  have z4 : ¬ Z = 0 := by omega
  have z1 : ((Z : Int) == 0) = false := beq_eq_false_iff_ne.2 z0
  have z2 : ((Z : Int) == -1) = false := beq_eq_false_iff_ne.2 (by omega)
  have z3 : ¬ (Z : Int) = -1 := by omega
  have r0 : (v : Int).tmod (Z : Int) = ((v % Z : Nat) : Int) := by rw [Int.tmod_eq_emod_of_nonneg (by omega)]; rfl
  have r1 : IntKind.i64.wrap ((v % Z : Nat) : Int) = ((v % Z : Nat) : Int) := by rw [IntKind.wrap_i64]; omega
  have r2 : IntKind.i64.wrap ((v : Int) - ((v % Z : Nat) : Int)) = ((v - v % Z : Nat) : Int) := by rw [IntKind.wrap_i64]; omega
  obtain ⟨q, hq⟩ : ∃ q, v % Z = q := ⟨_, rfl⟩
  rw [hq] at r0 r1 r2 hval
  obtain ⟨d, hd⟩ : ∃ d, v - q = d := ⟨_, rfl⟩
  rw [hd] at r2 hval
  show Calls Try.prog 55 #[.int .i64 (b : Int), .agg #[.int .i64 kd, .int .i64 (va : Int), .int .i64 (len : Int), .int .i64 ou], .int .i64 (v : Int)] w _
  obtain ⟨O, hO⟩ : ∃ O : Obj, Obj.cells #[.int .i64 kd, .int .i64 (va : Int), .int .i64 (len : Int), .int .i64 ou] 59 = O := ⟨_, rfl⟩
  have hB0 : Below w.heap.size w (w.alloc O) := (Below.refl _ _).alloc (Nat.le_refl _) _
  have hbx : (w.alloc O).heap[w.heap.size]? = some (.cells #[.int .i64 kd, .int .i64 (va : Int), .int .i64 (len : Int), .int .i64 ou] 59) := by rw [hO]; exact alloc_get _ _
  obtain ⟨w0, hw0⟩ : ∃ w0, w.alloc O = w0 := ⟨_, rfl⟩
  rw [hw0] at hB0 hbx
  have HX : Hid (∀ W : World, Below w0.heap.size w0 W → W.cell? ⟨w.heap.size, 0, none⟩ = some (.int .i64 kd) ∧ W.cell? ⟨w.heap.size, 1, none⟩ = some (.int .i64 (va : Int)) ∧ W.cell? ⟨w.heap.size, 2, none⟩ = some (.int .i64 (len : Int)) ∧ W.cell? ⟨w.heap.size, 3, none⟩ = some (.int .i64 ou)) := fun W hW => ⟨cell_of_row _ _ 0 _ _ _ (keepblk hW hbx), cell_of_row _ _ 1 _ _ _ (keepblk hW hbx), cell_of_row _ _ 2 _ _ _ (keepblk hW hbx), cell_of_row _ _ 3 _ _ _ (keepblk hW hbx)⟩
  clear hbx HS0 hZ hsp hle m3 m4 m7 m8 m9 hq hd hv h2
  by_cases e : d = va
  · obtain rfl : R = true := by rw [← hR]; exact decide_eq_true (hval.1 e)
    have e1 : ((d : Int) == (va : Int)) = true := by rw [e]; exact beq_self_eq_true _
    clear hR hval e
    go_enter Try.func55, Try.ntmps55
    go_wp2_with fail
    refine quiet_lit3 (C := fun W => Below w0.heap.size w0 W) (by kernel_rfl) (by kernel_rfl) (show Below _ _ _ from (Below.refl _ _).drew) ?_
    go_big_quiet_want
    go_big_quiet_op
    go_big_quiet_on
    go_big_quiet_want
    go_big_quiet_op
    go_big_quiet_on
    go_big_quiet_want
    go_big_quiet_op
    go_big_quiet_on
    go_big_quiet_want
    refine ⟨.agg #[.int .i64 kd, .int .i64 (va : Int), .int .i64 (len : Int), .int .i64 ou], fun W hW => ?_, ?_⟩
    · obtain ⟨x0, x1, x2, x3⟩ := HX.out W hW
      go_simp
    go_big_quiet_on
    simp only [Act.put, List.setIfInBounds_toArray, List.set_cons_zero, List.set_cons_succ]
    go_big_quiet_want
    refine ⟨.int .i64 (Z : Int), fun W hW => ?_, ?_⟩
    · go_simp
      refine (HS.out W).mono ?_
      rintro e w7 ⟨rfl, hb⟩
      exact ⟨rfl, bel0 hW hb⟩
    go_big_quiet_on
    simp only [Act.put, List.setIfInBounds_toArray, List.set_cons_zero, List.set_cons_succ]
    go_big_quiet_want
    refine ⟨.int .i64 (q : Int), fun W hW => ?_, ?_⟩
    · go_simp
    go_big_quiet_on
    simp only [Act.put, List.setIfInBounds_toArray, List.set_cons_zero, List.set_cons_succ]
    go_big_quiet_want
    refine ⟨.int .i64 (d : Int), fun W hW => ?_, ?_⟩
    · go_simp
    go_big_quiet_on
    simp only [Act.put, List.setIfInBounds_toArray, List.set_cons_zero, List.set_cons_succ]
    go_big_quiet_want
    refine ⟨.pointer (some ⟨w.heap.size, 1, none⟩), fun W hW => ?_, ?_⟩
    · go_simp
    go_big_quiet_on
    simp only [Act.put, List.setIfInBounds_toArray, List.set_cons_zero, List.set_cons_succ]
    go_big_quiet_want
    refine ⟨.int .i64 (va : Int), fun W hW => ?_, ?_⟩
    · obtain ⟨x0, x1, x2, x3⟩ := HX.out W hW
      go_simp
    go_big_quiet_on
    simp only [Act.put, List.setIfInBounds_toArray, List.set_cons_zero, List.set_cons_succ]
    go_big_quiet_want
    refine ⟨.bool true, fun W hW => ?_, ?_⟩
    · go_simp
    go_big_quiet_on
    simp only [Act.put, List.setIfInBounds_toArray, List.set_cons_zero, List.set_cons_succ]
    go_big_quiet_want
    go_big_quiet_op
    go_big_quiet_on
    refine wpQuiet_nil ?_
    intro W hW
    go_wp2_with fail
    go_ret
    exact ⟨rfl, bel0 hB0 hW⟩
  · obtain rfl : R = false := by rw [← hR]; exact decide_eq_false (fun h => e (hval.2 h))
    have e1 : ((d : Int) == (va : Int)) = false := beq_eq_false_iff_ne.2 (by omega)
    clear hR hval e
    go_enter Try.func55, Try.ntmps55
    go_wp2_with fail
    refine quiet_lit3 (C := fun W => Below w0.heap.size w0 W) (by kernel_rfl) (by kernel_rfl) (show Below _ _ _ from (Below.refl _ _).drew) ?_
    go_big_quiet_want
    go_big_quiet_op
    go_big_quiet_on
    go_big_quiet_want
    go_big_quiet_op
    go_big_quiet_on
    go_big_quiet_want
    go_big_quiet_op
    go_big_quiet_on
    go_big_quiet_want
    refine ⟨.agg #[.int .i64 kd, .int .i64 (va : Int), .int .i64 (len : Int), .int .i64 ou], fun W hW => ?_, ?_⟩
    · obtain ⟨x0, x1, x2, x3⟩ := HX.out W hW
      go_simp
    go_big_quiet_on
    simp only [Act.put, List.setIfInBounds_toArray, List.set_cons_zero, List.set_cons_succ]
    go_big_quiet_want
    refine ⟨.int .i64 (Z : Int), fun W hW => ?_, ?_⟩
    · go_simp
      refine (HS.out W).mono ?_
      rintro e w7 ⟨rfl, hb⟩
      exact ⟨rfl, bel0 hW hb⟩
    go_big_quiet_on
    simp only [Act.put, List.setIfInBounds_toArray, List.set_cons_zero, List.set_cons_succ]
    go_big_quiet_want
    refine ⟨.int .i64 (q : Int), fun W hW => ?_, ?_⟩
    · go_simp
    go_big_quiet_on
    simp only [Act.put, List.setIfInBounds_toArray, List.set_cons_zero, List.set_cons_succ]
    go_big_quiet_want
    refine ⟨.int .i64 (d : Int), fun W hW => ?_, ?_⟩
    · go_simp
    go_big_quiet_on
    simp only [Act.put, List.setIfInBounds_toArray, List.set_cons_zero, List.set_cons_succ]
    go_big_quiet_want
    refine ⟨.pointer (some ⟨w.heap.size, 1, none⟩), fun W hW => ?_, ?_⟩
    · go_simp
    go_big_quiet_on
    simp only [Act.put, List.setIfInBounds_toArray, List.set_cons_zero, List.set_cons_succ]
    go_big_quiet_want
    refine ⟨.int .i64 (va : Int), fun W hW => ?_, ?_⟩
    · obtain ⟨x0, x1, x2, x3⟩ := HX.out W hW
      go_simp
    go_big_quiet_on
    simp only [Act.put, List.setIfInBounds_toArray, List.set_cons_zero, List.set_cons_succ]
    go_big_quiet_want
    refine ⟨.bool false, fun W hW => ?_, ?_⟩
    · go_simp
    go_big_quiet_on
    simp only [Act.put, List.setIfInBounds_toArray, List.set_cons_zero, List.set_cons_succ]
    go_big_quiet_want
    go_big_quiet_op
    go_big_quiet_on
    refine wpQuiet_nil ?_
    intro W hW
    go_wp2_with fail
    go_ret
    exact ⟨rfl, bel0 hB0 hW⟩
end Go.Proofs.Ytfcdaljhbeogeaa
