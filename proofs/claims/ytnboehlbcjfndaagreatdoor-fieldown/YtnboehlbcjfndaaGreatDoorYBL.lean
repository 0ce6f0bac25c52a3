import Derived.Test.YtnboehlbcjfndaaGreatDoorYBK
namespace Go.Proofs.YtnboehlbcjfndaaGreatDoor
open Go.RowKit Go.Shelf
structure TS where
  f : List UInt8
  op : Int
  form : Int
  lo : Int
  hi : Int
  len : Int
  pat : List UInt8
def TS.v (t : TS) : Value := .agg #[.string ⟨t.f.toArray⟩, .int .i64 t.op, .int .i64 t.form, .int .i64 t.lo, .int .i64 t.hi, .int .i64 t.len, .string ⟨t.pat.toArray⟩]
def tstB (t : TS) : Bool := decide (1 ≤ t.op ∧ t.op ≤ 6 ∧ 1 ≤ t.form ∧ t.form ≤ 4 ∧ (2 < t.op → t.form = 1) ∧ (t.form = 4 → t.lo = 0) ∧ (t.form ≠ 3 → t.hi = 0) ∧ (t.form ≠ 2 → t.len = 0) ∧ (t.form ≠ 4 → t.pat = []))
def usesC : Array Value := #[.bool false, .bool false, .bool false, .bool false, .bool true, .bool false, .bool false, .bool false, .bool true, .bool false, .bool true, .bool false, .bool true, .bool true, .bool false, .bool false, .bool false, .bool false, .bool false, .bool true]
def US (w : World) : Prop := ∃ t fr, w.heap[0]? = some (.cells usesC t fr)
theorem US.below {w W : World} (h : US w) (hb : Below w.heap.size w W) : US W := by
  obtain ⟨t, fr, h⟩ := h
  exact ⟨t, fr, (hb.block _ (lt_of_get h)).trans h⟩
theorem US.cell {w : World} (h : US w) (j : Nat) : w.cell? ⟨0, j, none⟩ = usesC[j]? := by
  obtain ⟨t, fr, h⟩ := h
  exact cell_of_row w _ j _ _ _ h
set_option maxRecDepth 100000 in
set_option maxHeartbeats 2000000 in
theorem isTest_any (t : TS) (w : World) (hu : US w) : Calls Tryz.prog 51 #[t.v] w fun e w' => e = .returned (.bool (tstB t)) ∧ Below w.heap.size w w' := by
  obtain ⟨f, op, form, lo, hi, len, pat⟩ := t
  obtain ⟨q, hq⟩ : ∃ q, tstB ⟨f, op, form, lo, hi, len, pat⟩ = q := ⟨_, rfl⟩
  have HQ : Hid (tstB ⟨f, op, form, lo, hi, len, pat⟩ = q) := hq
  rw [hq]
  clear hq
  show Calls Tryz.prog 51 #[.agg #[.string ⟨f.toArray⟩, .int .i64 op, .int .i64 form, .int .i64 lo, .int .i64 hi, .int .i64 len, .string ⟨pat.toArray⟩]] w _
  obtain ⟨O, hO⟩ : ∃ O : Obj, Obj.cells #[.string ⟨f.toArray⟩, .int .i64 op, .int .i64 form, .int .i64 lo, .int .i64 hi, .int .i64 len, .string ⟨pat.toArray⟩] 27 = O := ⟨_, rfl⟩
  have hB1 : Below w.heap.size w (w.alloc O) := (Below.refl _ _).alloc (Nat.le_refl _) _
  have HU : Hid (∀ j, (w.alloc O).cell? ⟨0, j, none⟩ = usesC[j]?) := fun j => (hu.below hB1).cell j
  have HB : Hid (∀ O2, Below w.heap.size w ((w.alloc O).alloc O2)) := fun O2 => hB1.alloc hB1.size O2
  have hbx : (w.alloc O).heap[w.heap.size]? = some (.cells #[.string ⟨f.toArray⟩, .int .i64 op, .int .i64 form, .int .i64 lo, .int .i64 hi, .int .i64 len, .string ⟨pat.toArray⟩] 27) := by rw [hO]; exact alloc_get _ _
  have t1 : (w.alloc O).cell? ⟨w.heap.size, 1, none⟩ = some (.int .i64 op) := cell_of_row _ _ 1 _ _ _ hbx
  have t2 : (w.alloc O).cell? ⟨w.heap.size, 2, none⟩ = some (.int .i64 form) := cell_of_row _ _ 2 _ _ _ hbx
  have t3 : (w.alloc O).cell? ⟨w.heap.size, 3, none⟩ = some (.int .i64 lo) := cell_of_row _ _ 3 _ _ _ hbx
  have t4 : (w.alloc O).cell? ⟨w.heap.size, 4, none⟩ = some (.int .i64 hi) := cell_of_row _ _ 4 _ _ _ hbx
  have t5 : (w.alloc O).cell? ⟨w.heap.size, 5, none⟩ = some (.int .i64 len) := cell_of_row _ _ 5 _ _ _ hbx
  have t6 : (w.alloc O).cell? ⟨w.heap.size, 6, none⟩ = some (.string ⟨pat.toArray⟩) := cell_of_row _ _ 6 _ _ _ hbx
  clear hu hbx
  by_cases a1 : op < 1
  · have hr : Hid (q = false) := by
      unfold Hid
      rw [← HQ.out]
      unfold tstB
      rw [decide_eq_false_iff_not]
      dsimp only
      rintro ⟨z1, z2, z3, z4, z5, z6, z7, z8, z9⟩
      first | omega | exact absurd (z9 (by omega)) (fun e => by omega) | exact absurd (z7 (by omega)) (by omega) | exact absurd (z8 (by omega)) (by omega) | exact absurd (z5 (by omega)) (by omega)
    go_enter Tryz.func51, Tryz.ntmps51
    go_wp2_with fail
    go_ret
    exact ⟨by rw [hr.out]; rfl, by first | exact Below.refl _ _ | exact (Below.refl _ _).alloc (Nat.le_refl _) _ | exact ((Below.refl _ _).alloc (Nat.le_refl _) _).alloc (by simp) _ | exact HB.out _ | exact hB1⟩
  by_cases a2 : 6 < op
  · have hr : Hid (q = false) := by
      unfold Hid
      rw [← HQ.out]
      unfold tstB
      rw [decide_eq_false_iff_not]
      dsimp only
      rintro ⟨z1, z2, z3, z4, z5, z6, z7, z8, z9⟩
      first | omega | exact absurd (z9 (by omega)) (fun e => by omega) | exact absurd (z7 (by omega)) (by omega) | exact absurd (z8 (by omega)) (by omega) | exact absurd (z5 (by omega)) (by omega)
    go_enter Tryz.func51, Tryz.ntmps51
    go_wp2_with fail
    go_ret
    exact ⟨by rw [hr.out]; rfl, by first | exact Below.refl _ _ | exact (Below.refl _ _).alloc (Nat.le_refl _) _ | exact ((Below.refl _ _).alloc (Nat.le_refl _) _).alloc (by simp) _ | exact HB.out _ | exact hB1⟩
  by_cases a3 : form < 1
  · have hr : Hid (q = false) := by
      unfold Hid
      rw [← HQ.out]
      unfold tstB
      rw [decide_eq_false_iff_not]
      dsimp only
      rintro ⟨z1, z2, z3, z4, z5, z6, z7, z8, z9⟩
      first | omega | exact absurd (z9 (by omega)) (fun e => by omega) | exact absurd (z7 (by omega)) (by omega) | exact absurd (z8 (by omega)) (by omega) | exact absurd (z5 (by omega)) (by omega)
    go_enter Tryz.func51, Tryz.ntmps51
    go_wp2_with fail
    go_ret
    exact ⟨by rw [hr.out]; rfl, by first | exact Below.refl _ _ | exact (Below.refl _ _).alloc (Nat.le_refl _) _ | exact ((Below.refl _ _).alloc (Nat.le_refl _) _).alloc (by simp) _ | exact HB.out _ | exact hB1⟩
  by_cases a4 : 4 < form
  · have hr : Hid (q = false) := by
      unfold Hid
      rw [← HQ.out]
      unfold tstB
      rw [decide_eq_false_iff_not]
      dsimp only
      rintro ⟨z1, z2, z3, z4, z5, z6, z7, z8, z9⟩
      first | omega | exact absurd (z9 (by omega)) (fun e => by omega) | exact absurd (z7 (by omega)) (by omega) | exact absurd (z8 (by omega)) (by omega) | exact absurd (z5 (by omega)) (by omega)
    go_enter Tryz.func51, Tryz.ntmps51
    go_wp2_with fail
    go_ret
    exact ⟨by rw [hr.out]; rfl, by first | exact Below.refl _ _ | exact (Below.refl _ _).alloc (Nat.le_refl _) _ | exact ((Below.refl _ _).alloc (Nat.le_refl _) _).alloc (by simp) _ | exact HB.out _ | exact hB1⟩
  have b1 : (form == 1) = decide (form = 1) := rfl
  by_cases a5 : 2 < op ∧ ¬ form = 1
  · obtain ⟨a5, a6⟩ := a5
    have c1 : (op != 1) = true := by rw [bne_iff_ne]; omega
    have c2 : (op != 2) = true := by rw [bne_iff_ne]; omega
    have c3 : (form != 1) = true := by rw [bne_iff_ne]; exact a6
    have hr : Hid (q = false) := by
      unfold Hid
      rw [← HQ.out]
      unfold tstB
      rw [decide_eq_false_iff_not]
      dsimp only
      rintro ⟨z1, z2, z3, z4, z5, z6, z7, z8, z9⟩
      first | omega | exact absurd (z9 (by omega)) (fun e => by omega) | exact absurd (z7 (by omega)) (by omega) | exact absurd (z8 (by omega)) (by omega) | exact absurd (z5 (by omega)) (by omega)
    go_enter Tryz.func51, Tryz.ntmps51
    go_wp2_with fail
    go_ret
    exact ⟨by rw [hr.out]; rfl, by first | exact Below.refl _ _ | exact (Below.refl _ _).alloc (Nat.le_refl _) _ | exact ((Below.refl _ _).alloc (Nat.le_refl _) _).alloc (by simp) _ | exact HB.out _ | exact hB1⟩
  rcases (show op = 1 ∨ op = 2 ∨ (2 < op ∧ form = 1) by omega) with e1 | e1 | ⟨e1, e2⟩
  · subst e1
    clear a1 a2 a5
    rcases (show form = 1 ∨ form = 2 ∨ form = 3 ∨ form = 4 by omega) with e2 | e2 | e2 | e2
    · subst e2
      clear a3 a4
      have u0 : (w.alloc O).cell? ⟨0, 4, none⟩ = some (.bool true) := HU.out 4
      have u1 : (w.alloc O).cell? ⟨0, 5, none⟩ = some (.bool false) := HU.out 5
      have u2 : (w.alloc O).cell? ⟨0, 6, none⟩ = some (.bool false) := HU.out 6
      have u3 : (w.alloc O).cell? ⟨0, 7, none⟩ = some (.bool false) := HU.out 7
      clear HU
      by_cases zhi : ¬ hi = 0
      · have yhi : (hi == 0) = false := by rw [beq_eq_false_iff_ne]; exact zhi
        have hr : Hid (q = false) := by
          unfold Hid
          rw [← HQ.out]
          unfold tstB
          rw [decide_eq_false_iff_not]
          dsimp only
          rintro ⟨z1, z2, z3, z4, z5, z6, z7, z8, z9⟩
          first | omega | exact absurd (z9 (by omega)) (fun e => by omega) | exact absurd (z7 (by omega)) (by omega) | exact absurd (z8 (by omega)) (by omega) | exact absurd (z5 (by omega)) (by omega)
        go_enter Tryz.func51, Tryz.ntmps51
        go_wp2_with fail
        go_ret
        exact ⟨by rw [hr.out]; rfl, by first | exact Below.refl _ _ | exact (Below.refl _ _).alloc (Nat.le_refl _) _ | exact ((Below.refl _ _).alloc (Nat.le_refl _) _).alloc (by simp) _ | exact HB.out _ | exact hB1⟩
      replace zhi := Classical.not_not.1 zhi
      subst zhi
      by_cases zlen : ¬ len = 0
      · have ylen : (len == 0) = false := by rw [beq_eq_false_iff_ne]; exact zlen
        have hr : Hid (q = false) := by
          unfold Hid
          rw [← HQ.out]
          unfold tstB
          rw [decide_eq_false_iff_not]
          dsimp only
          rintro ⟨z1, z2, z3, z4, z5, z6, z7, z8, z9⟩
          first | omega | exact absurd (z9 (by omega)) (fun e => by omega) | exact absurd (z7 (by omega)) (by omega) | exact absurd (z8 (by omega)) (by omega) | exact absurd (z5 (by omega)) (by omega)
        go_enter Tryz.func51, Tryz.ntmps51
        go_wp2_with fail
        go_ret
        exact ⟨by rw [hr.out]; rfl, by first | exact Below.refl _ _ | exact (Below.refl _ _).alloc (Nat.le_refl _) _ | exact ((Below.refl _ _).alloc (Nat.le_refl _) _).alloc (by simp) _ | exact HB.out _ | exact hB1⟩
      replace zlen := Classical.not_not.1 zlen
      subst zlen
      by_cases zp : ¬ pat = []
      · have pne : (pat == []) = false := by rw [beq_eq_false_iff_ne]; exact zp
        have hr : Hid (q = false) := by
          unfold Hid
          rw [← HQ.out]
          unfold tstB
          rw [decide_eq_false_iff_not]
          dsimp only
          rintro ⟨z1, z2, z3, z4, z5, z6, z7, z8, z9⟩
          first | omega | exact absurd (z9 (by omega)) zp | exact absurd (z7 (by omega)) (by omega) | exact absurd (z8 (by omega)) (by omega) | exact absurd (z5 (by omega)) (by omega)
        go_enter Tryz.func51, Tryz.ntmps51
        go_wp2_with fail
        go_ret
        exact ⟨by rw [hr.out]; rfl, by first | exact Below.refl _ _ | exact (Below.refl _ _).alloc (Nat.le_refl _) _ | exact ((Below.refl _ _).alloc (Nat.le_refl _) _).alloc (by simp) _ | exact HB.out _ | exact hB1⟩
      replace zp := Classical.not_not.1 zp
      subst zp
      have hr : Hid (q = true) := by
        unfold Hid
        rw [← HQ.out]
        unfold tstB
        rw [decide_eq_true_eq]
        dsimp only
        refine ⟨by omega, by omega, by omega, by omega, fun h => by omega, fun h => by omega, fun h => by omega, fun h => by omega, fun h => ?_⟩
        first | exact rfl | omega
      go_enter Tryz.func51, Tryz.ntmps51
      go_wp2_with fail
      go_ret
      exact ⟨by rw [hr.out]; rfl, by first | exact Below.refl _ _ | exact (Below.refl _ _).alloc (Nat.le_refl _) _ | exact ((Below.refl _ _).alloc (Nat.le_refl _) _).alloc (by simp) _ | exact HB.out _ | exact hB1⟩
    · subst e2
      clear a3 a4
      have u0 : (w.alloc O).cell? ⟨0, 8, none⟩ = some (.bool true) := HU.out 8
      have u1 : (w.alloc O).cell? ⟨0, 9, none⟩ = some (.bool false) := HU.out 9
      have u2 : (w.alloc O).cell? ⟨0, 10, none⟩ = some (.bool true) := HU.out 10
      have u3 : (w.alloc O).cell? ⟨0, 11, none⟩ = some (.bool false) := HU.out 11
      clear HU
      by_cases zhi : ¬ hi = 0
      · have yhi : (hi == 0) = false := by rw [beq_eq_false_iff_ne]; exact zhi
        have hr : Hid (q = false) := by
          unfold Hid
          rw [← HQ.out]
          unfold tstB
          rw [decide_eq_false_iff_not]
          dsimp only
          rintro ⟨z1, z2, z3, z4, z5, z6, z7, z8, z9⟩
          first | omega | exact absurd (z9 (by omega)) (fun e => by omega) | exact absurd (z7 (by omega)) (by omega) | exact absurd (z8 (by omega)) (by omega) | exact absurd (z5 (by omega)) (by omega)
        go_enter Tryz.func51, Tryz.ntmps51
        go_wp2_with fail
        go_ret
        exact ⟨by rw [hr.out]; rfl, by first | exact Below.refl _ _ | exact (Below.refl _ _).alloc (Nat.le_refl _) _ | exact ((Below.refl _ _).alloc (Nat.le_refl _) _).alloc (by simp) _ | exact HB.out _ | exact hB1⟩
      replace zhi := Classical.not_not.1 zhi
      subst zhi
      by_cases zp : ¬ pat = []
      · have pne : (pat == []) = false := by rw [beq_eq_false_iff_ne]; exact zp
        have hr : Hid (q = false) := by
          unfold Hid
          rw [← HQ.out]
          unfold tstB
          rw [decide_eq_false_iff_not]
          dsimp only
          rintro ⟨z1, z2, z3, z4, z5, z6, z7, z8, z9⟩
          first | omega | exact absurd (z9 (by omega)) zp | exact absurd (z7 (by omega)) (by omega) | exact absurd (z8 (by omega)) (by omega) | exact absurd (z5 (by omega)) (by omega)
        go_enter Tryz.func51, Tryz.ntmps51
        go_wp2_with fail
        go_ret
        exact ⟨by rw [hr.out]; rfl, by first | exact Below.refl _ _ | exact (Below.refl _ _).alloc (Nat.le_refl _) _ | exact ((Below.refl _ _).alloc (Nat.le_refl _) _).alloc (by simp) _ | exact HB.out _ | exact hB1⟩
      replace zp := Classical.not_not.1 zp
      subst zp
      have hr : Hid (q = true) := by
        unfold Hid
        rw [← HQ.out]
        unfold tstB
        rw [decide_eq_true_eq]
        dsimp only
        refine ⟨by omega, by omega, by omega, by omega, fun h => by omega, fun h => by omega, fun h => by omega, fun h => by omega, fun h => ?_⟩
        first | exact rfl | omega
      go_enter Tryz.func51, Tryz.ntmps51
      go_wp2_with fail
      go_ret
      exact ⟨by rw [hr.out]; rfl, by first | exact Below.refl _ _ | exact (Below.refl _ _).alloc (Nat.le_refl _) _ | exact ((Below.refl _ _).alloc (Nat.le_refl _) _).alloc (by simp) _ | exact HB.out _ | exact hB1⟩
    · subst e2
      clear a3 a4
      have u0 : (w.alloc O).cell? ⟨0, 12, none⟩ = some (.bool true) := HU.out 12
      have u1 : (w.alloc O).cell? ⟨0, 13, none⟩ = some (.bool true) := HU.out 13
      have u2 : (w.alloc O).cell? ⟨0, 14, none⟩ = some (.bool false) := HU.out 14
      have u3 : (w.alloc O).cell? ⟨0, 15, none⟩ = some (.bool false) := HU.out 15
      clear HU
      by_cases zlen : ¬ len = 0
      · have ylen : (len == 0) = false := by rw [beq_eq_false_iff_ne]; exact zlen
        have hr : Hid (q = false) := by
          unfold Hid
          rw [← HQ.out]
          unfold tstB
          rw [decide_eq_false_iff_not]
          dsimp only
          rintro ⟨z1, z2, z3, z4, z5, z6, z7, z8, z9⟩
          first | omega | exact absurd (z9 (by omega)) (fun e => by omega) | exact absurd (z7 (by omega)) (by omega) | exact absurd (z8 (by omega)) (by omega) | exact absurd (z5 (by omega)) (by omega)
        go_enter Tryz.func51, Tryz.ntmps51
        go_wp2_with fail
        go_ret
        exact ⟨by rw [hr.out]; rfl, by first | exact Below.refl _ _ | exact (Below.refl _ _).alloc (Nat.le_refl _) _ | exact ((Below.refl _ _).alloc (Nat.le_refl _) _).alloc (by simp) _ | exact HB.out _ | exact hB1⟩
      replace zlen := Classical.not_not.1 zlen
      subst zlen
      by_cases zp : ¬ pat = []
      · have pne : (pat == []) = false := by rw [beq_eq_false_iff_ne]; exact zp
        have hr : Hid (q = false) := by
          unfold Hid
          rw [← HQ.out]
          unfold tstB
          rw [decide_eq_false_iff_not]
          dsimp only
          rintro ⟨z1, z2, z3, z4, z5, z6, z7, z8, z9⟩
          first | omega | exact absurd (z9 (by omega)) zp | exact absurd (z7 (by omega)) (by omega) | exact absurd (z8 (by omega)) (by omega) | exact absurd (z5 (by omega)) (by omega)
        go_enter Tryz.func51, Tryz.ntmps51
        go_wp2_with fail
        go_ret
        exact ⟨by rw [hr.out]; rfl, by first | exact Below.refl _ _ | exact (Below.refl _ _).alloc (Nat.le_refl _) _ | exact ((Below.refl _ _).alloc (Nat.le_refl _) _).alloc (by simp) _ | exact HB.out _ | exact hB1⟩
      replace zp := Classical.not_not.1 zp
      subst zp
      have hr : Hid (q = true) := by
        unfold Hid
        rw [← HQ.out]
        unfold tstB
        rw [decide_eq_true_eq]
        dsimp only
        refine ⟨by omega, by omega, by omega, by omega, fun h => by omega, fun h => by omega, fun h => by omega, fun h => by omega, fun h => ?_⟩
        first | exact rfl | omega
      go_enter Tryz.func51, Tryz.ntmps51
      go_wp2_with fail
      go_ret
      exact ⟨by rw [hr.out]; rfl, by first | exact Below.refl _ _ | exact (Below.refl _ _).alloc (Nat.le_refl _) _ | exact ((Below.refl _ _).alloc (Nat.le_refl _) _).alloc (by simp) _ | exact HB.out _ | exact hB1⟩
    · subst e2
      clear a3 a4
      have u0 : (w.alloc O).cell? ⟨0, 16, none⟩ = some (.bool false) := HU.out 16
      have u1 : (w.alloc O).cell? ⟨0, 17, none⟩ = some (.bool false) := HU.out 17
      have u2 : (w.alloc O).cell? ⟨0, 18, none⟩ = some (.bool false) := HU.out 18
      have u3 : (w.alloc O).cell? ⟨0, 19, none⟩ = some (.bool true) := HU.out 19
      clear HU
      by_cases zlo : ¬ lo = 0
      · have ylo : (lo == 0) = false := by rw [beq_eq_false_iff_ne]; exact zlo
        have hr : Hid (q = false) := by
          unfold Hid
          rw [← HQ.out]
          unfold tstB
          rw [decide_eq_false_iff_not]
          dsimp only
          rintro ⟨z1, z2, z3, z4, z5, z6, z7, z8, z9⟩
          first | omega | exact absurd (z9 (by omega)) (fun e => by omega) | exact absurd (z7 (by omega)) (by omega) | exact absurd (z8 (by omega)) (by omega) | exact absurd (z5 (by omega)) (by omega)
        go_enter Tryz.func51, Tryz.ntmps51
        go_wp2_with fail
        go_ret
        exact ⟨by rw [hr.out]; rfl, by first | exact Below.refl _ _ | exact (Below.refl _ _).alloc (Nat.le_refl _) _ | exact ((Below.refl _ _).alloc (Nat.le_refl _) _).alloc (by simp) _ | exact HB.out _ | exact hB1⟩
      replace zlo := Classical.not_not.1 zlo
      subst zlo
      by_cases zhi : ¬ hi = 0
      · have yhi : (hi == 0) = false := by rw [beq_eq_false_iff_ne]; exact zhi
        have hr : Hid (q = false) := by
          unfold Hid
          rw [← HQ.out]
          unfold tstB
          rw [decide_eq_false_iff_not]
          dsimp only
          rintro ⟨z1, z2, z3, z4, z5, z6, z7, z8, z9⟩
          first | omega | exact absurd (z9 (by omega)) (fun e => by omega) | exact absurd (z7 (by omega)) (by omega) | exact absurd (z8 (by omega)) (by omega) | exact absurd (z5 (by omega)) (by omega)
        go_enter Tryz.func51, Tryz.ntmps51
        go_wp2_with fail
        go_ret
        exact ⟨by rw [hr.out]; rfl, by first | exact Below.refl _ _ | exact (Below.refl _ _).alloc (Nat.le_refl _) _ | exact ((Below.refl _ _).alloc (Nat.le_refl _) _).alloc (by simp) _ | exact HB.out _ | exact hB1⟩
      replace zhi := Classical.not_not.1 zhi
      subst zhi
      by_cases zlen : ¬ len = 0
      · have ylen : (len == 0) = false := by rw [beq_eq_false_iff_ne]; exact zlen
        have hr : Hid (q = false) := by
          unfold Hid
          rw [← HQ.out]
          unfold tstB
          rw [decide_eq_false_iff_not]
          dsimp only
          rintro ⟨z1, z2, z3, z4, z5, z6, z7, z8, z9⟩
          first | omega | exact absurd (z9 (by omega)) (fun e => by omega) | exact absurd (z7 (by omega)) (by omega) | exact absurd (z8 (by omega)) (by omega) | exact absurd (z5 (by omega)) (by omega)
        go_enter Tryz.func51, Tryz.ntmps51
        go_wp2_with fail
        go_ret
        exact ⟨by rw [hr.out]; rfl, by first | exact Below.refl _ _ | exact (Below.refl _ _).alloc (Nat.le_refl _) _ | exact ((Below.refl _ _).alloc (Nat.le_refl _) _).alloc (by simp) _ | exact HB.out _ | exact hB1⟩
      replace zlen := Classical.not_not.1 zlen
      subst zlen
      have hr : Hid (q = true) := by
        unfold Hid
        rw [← HQ.out]
        unfold tstB
        rw [decide_eq_true_eq]
        dsimp only
        refine ⟨by omega, by omega, by omega, by omega, fun h => by omega, fun h => by omega, fun h => by omega, fun h => by omega, fun h => ?_⟩
        first | exact rfl | omega
      go_enter Tryz.func51, Tryz.ntmps51
      go_wp2_with fail
      go_ret
      exact ⟨by rw [hr.out]; rfl, by first | exact Below.refl _ _ | exact (Below.refl _ _).alloc (Nat.le_refl _) _ | exact ((Below.refl _ _).alloc (Nat.le_refl _) _).alloc (by simp) _ | exact HB.out _ | exact hB1⟩
  · subst e1
    clear a1 a2 a5
    rcases (show form = 1 ∨ form = 2 ∨ form = 3 ∨ form = 4 by omega) with e2 | e2 | e2 | e2
    · subst e2
      clear a3 a4
      have u0 : (w.alloc O).cell? ⟨0, 4, none⟩ = some (.bool true) := HU.out 4
      have u1 : (w.alloc O).cell? ⟨0, 5, none⟩ = some (.bool false) := HU.out 5
      have u2 : (w.alloc O).cell? ⟨0, 6, none⟩ = some (.bool false) := HU.out 6
      have u3 : (w.alloc O).cell? ⟨0, 7, none⟩ = some (.bool false) := HU.out 7
      clear HU
      by_cases zhi : ¬ hi = 0
      · have yhi : (hi == 0) = false := by rw [beq_eq_false_iff_ne]; exact zhi
        have hr : Hid (q = false) := by
          unfold Hid
          rw [← HQ.out]
          unfold tstB
          rw [decide_eq_false_iff_not]
          dsimp only
          rintro ⟨z1, z2, z3, z4, z5, z6, z7, z8, z9⟩
          first | omega | exact absurd (z9 (by omega)) (fun e => by omega) | exact absurd (z7 (by omega)) (by omega) | exact absurd (z8 (by omega)) (by omega) | exact absurd (z5 (by omega)) (by omega)
        go_enter Tryz.func51, Tryz.ntmps51
        go_wp2_with fail
        go_ret
        exact ⟨by rw [hr.out]; rfl, by first | exact Below.refl _ _ | exact (Below.refl _ _).alloc (Nat.le_refl _) _ | exact ((Below.refl _ _).alloc (Nat.le_refl _) _).alloc (by simp) _ | exact HB.out _ | exact hB1⟩
      replace zhi := Classical.not_not.1 zhi
      subst zhi
      by_cases zlen : ¬ len = 0
      · have ylen : (len == 0) = false := by rw [beq_eq_false_iff_ne]; exact zlen
        have hr : Hid (q = false) := by
          unfold Hid
          rw [← HQ.out]
          unfold tstB
          rw [decide_eq_false_iff_not]
          dsimp only
          rintro ⟨z1, z2, z3, z4, z5, z6, z7, z8, z9⟩
          first | omega | exact absurd (z9 (by omega)) (fun e => by omega) | exact absurd (z7 (by omega)) (by omega) | exact absurd (z8 (by omega)) (by omega) | exact absurd (z5 (by omega)) (by omega)
        go_enter Tryz.func51, Tryz.ntmps51
        go_wp2_with fail
        go_ret
        exact ⟨by rw [hr.out]; rfl, by first | exact Below.refl _ _ | exact (Below.refl _ _).alloc (Nat.le_refl _) _ | exact ((Below.refl _ _).alloc (Nat.le_refl _) _).alloc (by simp) _ | exact HB.out _ | exact hB1⟩
      replace zlen := Classical.not_not.1 zlen
      subst zlen
      by_cases zp : ¬ pat = []
      · have pne : (pat == []) = false := by rw [beq_eq_false_iff_ne]; exact zp
        have hr : Hid (q = false) := by
          unfold Hid
          rw [← HQ.out]
          unfold tstB
          rw [decide_eq_false_iff_not]
          dsimp only
          rintro ⟨z1, z2, z3, z4, z5, z6, z7, z8, z9⟩
          first | omega | exact absurd (z9 (by omega)) zp | exact absurd (z7 (by omega)) (by omega) | exact absurd (z8 (by omega)) (by omega) | exact absurd (z5 (by omega)) (by omega)
        go_enter Tryz.func51, Tryz.ntmps51
        go_wp2_with fail
        go_ret
        exact ⟨by rw [hr.out]; rfl, by first | exact Below.refl _ _ | exact (Below.refl _ _).alloc (Nat.le_refl _) _ | exact ((Below.refl _ _).alloc (Nat.le_refl _) _).alloc (by simp) _ | exact HB.out _ | exact hB1⟩
      replace zp := Classical.not_not.1 zp
      subst zp
      have hr : Hid (q = true) := by
        unfold Hid
        rw [← HQ.out]
        unfold tstB
        rw [decide_eq_true_eq]
        dsimp only
        refine ⟨by omega, by omega, by omega, by omega, fun h => by omega, fun h => by omega, fun h => by omega, fun h => by omega, fun h => ?_⟩
        first | exact rfl | omega
      go_enter Tryz.func51, Tryz.ntmps51
      go_wp2_with fail
      go_ret
      exact ⟨by rw [hr.out]; rfl, by first | exact Below.refl _ _ | exact (Below.refl _ _).alloc (Nat.le_refl _) _ | exact ((Below.refl _ _).alloc (Nat.le_refl _) _).alloc (by simp) _ | exact HB.out _ | exact hB1⟩
    · subst e2
      clear a3 a4
      have u0 : (w.alloc O).cell? ⟨0, 8, none⟩ = some (.bool true) := HU.out 8
      have u1 : (w.alloc O).cell? ⟨0, 9, none⟩ = some (.bool false) := HU.out 9
      have u2 : (w.alloc O).cell? ⟨0, 10, none⟩ = some (.bool true) := HU.out 10
      have u3 : (w.alloc O).cell? ⟨0, 11, none⟩ = some (.bool false) := HU.out 11
      clear HU
      by_cases zhi : ¬ hi = 0
      · have yhi : (hi == 0) = false := by rw [beq_eq_false_iff_ne]; exact zhi
        have hr : Hid (q = false) := by
          unfold Hid
          rw [← HQ.out]
          unfold tstB
          rw [decide_eq_false_iff_not]
          dsimp only
          rintro ⟨z1, z2, z3, z4, z5, z6, z7, z8, z9⟩
          first | omega | exact absurd (z9 (by omega)) (fun e => by omega) | exact absurd (z7 (by omega)) (by omega) | exact absurd (z8 (by omega)) (by omega) | exact absurd (z5 (by omega)) (by omega)
        go_enter Tryz.func51, Tryz.ntmps51
        go_wp2_with fail
        go_ret
        exact ⟨by rw [hr.out]; rfl, by first | exact Below.refl _ _ | exact (Below.refl _ _).alloc (Nat.le_refl _) _ | exact ((Below.refl _ _).alloc (Nat.le_refl _) _).alloc (by simp) _ | exact HB.out _ | exact hB1⟩
      replace zhi := Classical.not_not.1 zhi
      subst zhi
      by_cases zp : ¬ pat = []
      · have pne : (pat == []) = false := by rw [beq_eq_false_iff_ne]; exact zp
        have hr : Hid (q = false) := by
          unfold Hid
          rw [← HQ.out]
          unfold tstB
          rw [decide_eq_false_iff_not]
          dsimp only
          rintro ⟨z1, z2, z3, z4, z5, z6, z7, z8, z9⟩
          first | omega | exact absurd (z9 (by omega)) zp | exact absurd (z7 (by omega)) (by omega) | exact absurd (z8 (by omega)) (by omega) | exact absurd (z5 (by omega)) (by omega)
        go_enter Tryz.func51, Tryz.ntmps51
        go_wp2_with fail
        go_ret
        exact ⟨by rw [hr.out]; rfl, by first | exact Below.refl _ _ | exact (Below.refl _ _).alloc (Nat.le_refl _) _ | exact ((Below.refl _ _).alloc (Nat.le_refl _) _).alloc (by simp) _ | exact HB.out _ | exact hB1⟩
      replace zp := Classical.not_not.1 zp
      subst zp
      have hr : Hid (q = true) := by
        unfold Hid
        rw [← HQ.out]
        unfold tstB
        rw [decide_eq_true_eq]
        dsimp only
        refine ⟨by omega, by omega, by omega, by omega, fun h => by omega, fun h => by omega, fun h => by omega, fun h => by omega, fun h => ?_⟩
        first | exact rfl | omega
      go_enter Tryz.func51, Tryz.ntmps51
      go_wp2_with fail
      go_ret
      exact ⟨by rw [hr.out]; rfl, by first | exact Below.refl _ _ | exact (Below.refl _ _).alloc (Nat.le_refl _) _ | exact ((Below.refl _ _).alloc (Nat.le_refl _) _).alloc (by simp) _ | exact HB.out _ | exact hB1⟩
    · subst e2
      clear a3 a4
      have u0 : (w.alloc O).cell? ⟨0, 12, none⟩ = some (.bool true) := HU.out 12
      have u1 : (w.alloc O).cell? ⟨0, 13, none⟩ = some (.bool true) := HU.out 13
      have u2 : (w.alloc O).cell? ⟨0, 14, none⟩ = some (.bool false) := HU.out 14
      have u3 : (w.alloc O).cell? ⟨0, 15, none⟩ = some (.bool false) := HU.out 15
      clear HU
      by_cases zlen : ¬ len = 0
      · have ylen : (len == 0) = false := by rw [beq_eq_false_iff_ne]; exact zlen
        have hr : Hid (q = false) := by
          unfold Hid
          rw [← HQ.out]
          unfold tstB
          rw [decide_eq_false_iff_not]
          dsimp only
          rintro ⟨z1, z2, z3, z4, z5, z6, z7, z8, z9⟩
          first | omega | exact absurd (z9 (by omega)) (fun e => by omega) | exact absurd (z7 (by omega)) (by omega) | exact absurd (z8 (by omega)) (by omega) | exact absurd (z5 (by omega)) (by omega)
        go_enter Tryz.func51, Tryz.ntmps51
        go_wp2_with fail
        go_ret
        exact ⟨by rw [hr.out]; rfl, by first | exact Below.refl _ _ | exact (Below.refl _ _).alloc (Nat.le_refl _) _ | exact ((Below.refl _ _).alloc (Nat.le_refl _) _).alloc (by simp) _ | exact HB.out _ | exact hB1⟩
      replace zlen := Classical.not_not.1 zlen
      subst zlen
      by_cases zp : ¬ pat = []
      · have pne : (pat == []) = false := by rw [beq_eq_false_iff_ne]; exact zp
        have hr : Hid (q = false) := by
          unfold Hid
          rw [← HQ.out]
          unfold tstB
          rw [decide_eq_false_iff_not]
          dsimp only
          rintro ⟨z1, z2, z3, z4, z5, z6, z7, z8, z9⟩
          first | omega | exact absurd (z9 (by omega)) zp | exact absurd (z7 (by omega)) (by omega) | exact absurd (z8 (by omega)) (by omega) | exact absurd (z5 (by omega)) (by omega)
        go_enter Tryz.func51, Tryz.ntmps51
        go_wp2_with fail
        go_ret
        exact ⟨by rw [hr.out]; rfl, by first | exact Below.refl _ _ | exact (Below.refl _ _).alloc (Nat.le_refl _) _ | exact ((Below.refl _ _).alloc (Nat.le_refl _) _).alloc (by simp) _ | exact HB.out _ | exact hB1⟩
      replace zp := Classical.not_not.1 zp
      subst zp
      have hr : Hid (q = true) := by
        unfold Hid
        rw [← HQ.out]
        unfold tstB
        rw [decide_eq_true_eq]
        dsimp only
        refine ⟨by omega, by omega, by omega, by omega, fun h => by omega, fun h => by omega, fun h => by omega, fun h => by omega, fun h => ?_⟩
        first | exact rfl | omega
      go_enter Tryz.func51, Tryz.ntmps51
      go_wp2_with fail
      go_ret
      exact ⟨by rw [hr.out]; rfl, by first | exact Below.refl _ _ | exact (Below.refl _ _).alloc (Nat.le_refl _) _ | exact ((Below.refl _ _).alloc (Nat.le_refl _) _).alloc (by simp) _ | exact HB.out _ | exact hB1⟩
    · subst e2
      clear a3 a4
      have u0 : (w.alloc O).cell? ⟨0, 16, none⟩ = some (.bool false) := HU.out 16
      have u1 : (w.alloc O).cell? ⟨0, 17, none⟩ = some (.bool false) := HU.out 17
      have u2 : (w.alloc O).cell? ⟨0, 18, none⟩ = some (.bool false) := HU.out 18
      have u3 : (w.alloc O).cell? ⟨0, 19, none⟩ = some (.bool true) := HU.out 19
      clear HU
      by_cases zlo : ¬ lo = 0
      · have ylo : (lo == 0) = false := by rw [beq_eq_false_iff_ne]; exact zlo
        have hr : Hid (q = false) := by
          unfold Hid
          rw [← HQ.out]
          unfold tstB
          rw [decide_eq_false_iff_not]
          dsimp only
          rintro ⟨z1, z2, z3, z4, z5, z6, z7, z8, z9⟩
          first | omega | exact absurd (z9 (by omega)) (fun e => by omega) | exact absurd (z7 (by omega)) (by omega) | exact absurd (z8 (by omega)) (by omega) | exact absurd (z5 (by omega)) (by omega)
        go_enter Tryz.func51, Tryz.ntmps51
        go_wp2_with fail
        go_ret
        exact ⟨by rw [hr.out]; rfl, by first | exact Below.refl _ _ | exact (Below.refl _ _).alloc (Nat.le_refl _) _ | exact ((Below.refl _ _).alloc (Nat.le_refl _) _).alloc (by simp) _ | exact HB.out _ | exact hB1⟩
      replace zlo := Classical.not_not.1 zlo
      subst zlo
      by_cases zhi : ¬ hi = 0
      · have yhi : (hi == 0) = false := by rw [beq_eq_false_iff_ne]; exact zhi
        have hr : Hid (q = false) := by
          unfold Hid
          rw [← HQ.out]
          unfold tstB
          rw [decide_eq_false_iff_not]
          dsimp only
          rintro ⟨z1, z2, z3, z4, z5, z6, z7, z8, z9⟩
          first | omega | exact absurd (z9 (by omega)) (fun e => by omega) | exact absurd (z7 (by omega)) (by omega) | exact absurd (z8 (by omega)) (by omega) | exact absurd (z5 (by omega)) (by omega)
        go_enter Tryz.func51, Tryz.ntmps51
        go_wp2_with fail
        go_ret
        exact ⟨by rw [hr.out]; rfl, by first | exact Below.refl _ _ | exact (Below.refl _ _).alloc (Nat.le_refl _) _ | exact ((Below.refl _ _).alloc (Nat.le_refl _) _).alloc (by simp) _ | exact HB.out _ | exact hB1⟩
      replace zhi := Classical.not_not.1 zhi
      subst zhi
      by_cases zlen : ¬ len = 0
      · have ylen : (len == 0) = false := by rw [beq_eq_false_iff_ne]; exact zlen
        have hr : Hid (q = false) := by
          unfold Hid
          rw [← HQ.out]
          unfold tstB
          rw [decide_eq_false_iff_not]
          dsimp only
          rintro ⟨z1, z2, z3, z4, z5, z6, z7, z8, z9⟩
          first | omega | exact absurd (z9 (by omega)) (fun e => by omega) | exact absurd (z7 (by omega)) (by omega) | exact absurd (z8 (by omega)) (by omega) | exact absurd (z5 (by omega)) (by omega)
        go_enter Tryz.func51, Tryz.ntmps51
        go_wp2_with fail
        go_ret
        exact ⟨by rw [hr.out]; rfl, by first | exact Below.refl _ _ | exact (Below.refl _ _).alloc (Nat.le_refl _) _ | exact ((Below.refl _ _).alloc (Nat.le_refl _) _).alloc (by simp) _ | exact HB.out _ | exact hB1⟩
      replace zlen := Classical.not_not.1 zlen
      subst zlen
      have hr : Hid (q = true) := by
        unfold Hid
        rw [← HQ.out]
        unfold tstB
        rw [decide_eq_true_eq]
        dsimp only
        refine ⟨by omega, by omega, by omega, by omega, fun h => by omega, fun h => by omega, fun h => by omega, fun h => by omega, fun h => ?_⟩
        first | exact rfl | omega
      go_enter Tryz.func51, Tryz.ntmps51
      go_wp2_with fail
      go_ret
      exact ⟨by rw [hr.out]; rfl, by first | exact Below.refl _ _ | exact (Below.refl _ _).alloc (Nat.le_refl _) _ | exact ((Below.refl _ _).alloc (Nat.le_refl _) _).alloc (by simp) _ | exact HB.out _ | exact hB1⟩
  · have c1 : (op != 1) = true := by rw [bne_iff_ne]; omega
    have c2 : (op != 2) = true := by rw [bne_iff_ne]; omega
    have e1' : ¬ op ≤ 2 := by omega
    rcases (show form = 1 by omega) with e2
    subst e2
    have u0 : (w.alloc O).cell? ⟨0, 4, none⟩ = some (.bool true) := HU.out 4
    have u1 : (w.alloc O).cell? ⟨0, 5, none⟩ = some (.bool false) := HU.out 5
    have u2 : (w.alloc O).cell? ⟨0, 6, none⟩ = some (.bool false) := HU.out 6
    have u3 : (w.alloc O).cell? ⟨0, 7, none⟩ = some (.bool false) := HU.out 7
    clear HU
    by_cases zhi : ¬ hi = 0
    · have yhi : (hi == 0) = false := by rw [beq_eq_false_iff_ne]; exact zhi
      have hr : Hid (q = false) := by
        unfold Hid
        rw [← HQ.out]
        unfold tstB
        rw [decide_eq_false_iff_not]
        dsimp only
        rintro ⟨z1, z2, z3, z4, z5, z6, z7, z8, z9⟩
        first | omega | exact absurd (z9 (by omega)) (fun e => by omega) | exact absurd (z7 (by omega)) (by omega) | exact absurd (z8 (by omega)) (by omega) | exact absurd (z5 (by omega)) (by omega)
      go_enter Tryz.func51, Tryz.ntmps51
      go_wp2_with fail
      go_ret
      exact ⟨by rw [hr.out]; rfl, by first | exact Below.refl _ _ | exact (Below.refl _ _).alloc (Nat.le_refl _) _ | exact ((Below.refl _ _).alloc (Nat.le_refl _) _).alloc (by simp) _ | exact HB.out _ | exact hB1⟩
    replace zhi := Classical.not_not.1 zhi
    subst zhi
    by_cases zlen : ¬ len = 0
    · have ylen : (len == 0) = false := by rw [beq_eq_false_iff_ne]; exact zlen
      have hr : Hid (q = false) := by
        unfold Hid
        rw [← HQ.out]
        unfold tstB
        rw [decide_eq_false_iff_not]
        dsimp only
        rintro ⟨z1, z2, z3, z4, z5, z6, z7, z8, z9⟩
        first | omega | exact absurd (z9 (by omega)) (fun e => by omega) | exact absurd (z7 (by omega)) (by omega) | exact absurd (z8 (by omega)) (by omega) | exact absurd (z5 (by omega)) (by omega)
      go_enter Tryz.func51, Tryz.ntmps51
      go_wp2_with fail
      go_ret
      exact ⟨by rw [hr.out]; rfl, by first | exact Below.refl _ _ | exact (Below.refl _ _).alloc (Nat.le_refl _) _ | exact ((Below.refl _ _).alloc (Nat.le_refl _) _).alloc (by simp) _ | exact HB.out _ | exact hB1⟩
    replace zlen := Classical.not_not.1 zlen
    subst zlen
    by_cases zp : ¬ pat = []
    · have pne : (pat == []) = false := by rw [beq_eq_false_iff_ne]; exact zp
      have hr : Hid (q = false) := by
        unfold Hid
        rw [← HQ.out]
        unfold tstB
        rw [decide_eq_false_iff_not]
        dsimp only
        rintro ⟨z1, z2, z3, z4, z5, z6, z7, z8, z9⟩
        first | omega | exact absurd (z9 (by omega)) zp | exact absurd (z7 (by omega)) (by omega) | exact absurd (z8 (by omega)) (by omega) | exact absurd (z5 (by omega)) (by omega)
      go_enter Tryz.func51, Tryz.ntmps51
      go_wp2_with fail
      go_ret
      exact ⟨by rw [hr.out]; rfl, by first | exact Below.refl _ _ | exact (Below.refl _ _).alloc (Nat.le_refl _) _ | exact ((Below.refl _ _).alloc (Nat.le_refl _) _).alloc (by simp) _ | exact HB.out _ | exact hB1⟩
    replace zp := Classical.not_not.1 zp
    subst zp
    have hr : Hid (q = true) := by
      unfold Hid
      rw [← HQ.out]
      unfold tstB
      rw [decide_eq_true_eq]
      dsimp only
      refine ⟨by omega, by omega, by omega, by omega, fun h => by omega, fun h => by omega, fun h => by omega, fun h => by omega, fun h => ?_⟩
      first | exact rfl | omega
    go_enter Tryz.func51, Tryz.ntmps51
    go_wp2_with fail
    go_ret
    exact ⟨by rw [hr.out]; rfl, by first | exact Below.refl _ _ | exact (Below.refl _ _).alloc (Nat.le_refl _) _ | exact ((Below.refl _ _).alloc (Nat.le_refl _) _).alloc (by simp) _ | exact HB.out _ | exact hB1⟩
end Go.Proofs.YtnboehlbcjfndaaGreatDoor
