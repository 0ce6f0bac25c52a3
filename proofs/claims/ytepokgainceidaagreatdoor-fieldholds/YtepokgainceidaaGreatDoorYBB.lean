import Derived.Test.YtepokgainceidaaGreatDoorYBA
import Derived.Test.YtepokgainceidaaGreatDoorYAX
import Derived.ChangeKeysEq
import Derived.Test.YtepokgainceidaaGreatDoorYAW
namespace Go.Proofs.YtepokgainceidaaGreatDoor
open Go.RowKit Go.Shelf
theorem and_mod (x k : Nat) (hx : x < 9223372036854775808) (hk : k ≤ 32) : bits .and .i64 (x : Int) ((2 ^ k - 1 : Nat) : Int) = ((x % 2 ^ k : Nat) : Int) := by
  have hp : 2 ^ k ≤ 2 ^ 32 := Nat.pow_le_pow_right (by decide) hk
  have h1 : (BitVec.ofInt 64 (x : Int)).toNat = x := by
    rw [BitVec.ofInt_natCast, BitVec.toNat_ofNat]; exact Nat.mod_eq_of_lt (by omega)
  have h2 : (BitVec.ofInt 64 ((2 ^ k - 1 : Nat) : Int)).toNat = 2 ^ k - 1 := by
    rw [BitVec.ofInt_natCast, BitVec.toNat_ofNat]; exact Nat.mod_eq_of_lt (by omega)
  have h3 : x &&& (2 ^ k - 1) = x % 2 ^ k := Nat.and_two_pow_sub_one_eq_mod x k
  have h4 : x % 2 ^ k ≤ x := Nat.mod_le _ _
  show IntKind.i64.wrap ((BitVec.ofInt 64 (x : Int) &&& BitVec.ofInt 64 ((2 ^ k - 1 : Nat) : Int)).toNat : Int) = _
  rw [BitVec.toNat_and, h1, h2, h3, IntKind.wrap_i64]
  omega
set_option maxRecDepth 100000 in
set_option maxHeartbeats 2000000 in
theorem fault_any (b : Nat) (t : TS) (w : World) (hb1 : 1 ≤ b) (hb : b ≤ 32) (hpl : t.pat.length ≤ 281474976710656) (hu : US w) : Calls Tryz.prog 40 #[.int .i64 (b : Int), t.v] w fun e w' => e = .returned (.int .i64 (fltM b t)) ∧ Below w.heap.size w w' := by
  obtain ⟨R, hR⟩ : ∃ R, fltM b t = R := ⟨_, rfl⟩
  rw [hR]
  have HT0 : ∀ W : World, US W → Calls Tryz.prog 77 #[t.v] W fun e w' => e = .returned (.bool (tstB t)) ∧ Below W.heap.size W w' := fun W h => isTest_any t W h
  obtain ⟨f, op, form, lo, hi, len, pat⟩ := t
  simp only at hpl
  have HR : Hid (fltM b ⟨f, op, form, lo, hi, len, pat⟩ = R) := hR
  clear hR
  show Calls Tryz.prog 40 #[.int .i64 (b : Int), .agg #[.string ⟨f.toArray⟩, .int .i64 op, .int .i64 form, .int .i64 lo, .int .i64 hi, .int .i64 len, .string ⟨pat.toArray⟩]] w _
  obtain ⟨O, hO⟩ : ∃ O : Obj, Obj.cells #[.string ⟨f.toArray⟩, .int .i64 op, .int .i64 form, .int .i64 lo, .int .i64 hi, .int .i64 len, .string ⟨pat.toArray⟩] 24 = O := ⟨_, rfl⟩
  have hB1 : Below w.heap.size w (w.alloc O) := (Below.refl _ _).alloc (Nat.le_refl _) _
  have hbx : (w.alloc O).heap[w.heap.size]? = some (.cells #[.string ⟨f.toArray⟩, .int .i64 op, .int .i64 form, .int .i64 lo, .int .i64 hi, .int .i64 len, .string ⟨pat.toArray⟩] 24) := by rw [hO]; exact alloc_get _ _
  have HX : Hid (∀ W : World, Below (w.alloc O).heap.size (w.alloc O) W → W.cell? ⟨w.heap.size, 0, none⟩ = some (.string ⟨f.toArray⟩) ∧ W.cell? ⟨w.heap.size, 1, none⟩ = some (.int .i64 op) ∧ W.cell? ⟨w.heap.size, 2, none⟩ = some (.int .i64 form) ∧ W.cell? ⟨w.heap.size, 3, none⟩ = some (.int .i64 lo) ∧ W.cell? ⟨w.heap.size, 4, none⟩ = some (.int .i64 hi) ∧ W.cell? ⟨w.heap.size, 5, none⟩ = some (.int .i64 len) ∧ W.cell? ⟨w.heap.size, 6, none⟩ = some (.string ⟨pat.toArray⟩)) := fun W hW => ⟨cell_of_row _ _ 0 _ _ _ (keepblk hW hbx), cell_of_row _ _ 1 _ _ _ (keepblk hW hbx), cell_of_row _ _ 2 _ _ _ (keepblk hW hbx), cell_of_row _ _ 3 _ _ _ (keepblk hW hbx), cell_of_row _ _ 4 _ _ _ (keepblk hW hbx), cell_of_row _ _ 5 _ _ _ (keepblk hW hbx), cell_of_row _ _ 6 _ _ _ (keepblk hW hbx)⟩
  obtain ⟨t0, t1, t2, t3, t4, t5, t6⟩ := HX.out _ (Below.refl _ _)
  have HT : Hid (∀ W : World, Below (w.alloc O).heap.size (w.alloc O) W → Calls Tryz.prog 77 #[.agg #[.string ⟨f.toArray⟩, .int .i64 op, .int .i64 form, .int .i64 lo, .int .i64 hi, .int .i64 len, .string ⟨pat.toArray⟩]] W fun e w' => e = .returned (.bool (tstB ⟨f, op, form, lo, hi, len, pat⟩)) ∧ Below W.heap.size W w') := fun W hW => HT0 W ((hu.below hB1).below hW)
  have HF : Hid (∀ (v : Int) (W : World), Calls Tryz.prog 78 #[.int .i64 v, .int .i64 (b : Int)] W fun e w' => e = .returned (.bool (decide (0 ≤ v ∧ v ≤ ((2 ^ b - 1 : Nat) : Int)))) ∧ w' = W) := fun v W => fits_any v b hb W
  have HIC : Hid (∀ W : World, Calls Tryz.prog 51 #[.string ⟨pat.toArray⟩, .int .i64 (b : Int)] W fun e w' => e = .returned (.bool (cuB b pat)) ∧ Below W.heap.size W w') := fun W => isCube_any b pat W hb1 (by omega) hpl
  have hp : 2 ^ b ≤ 2 ^ 32 := Nat.pow_le_pow_right (by decide) hb
  have hp0 : 0 < 2 ^ b := Nat.pow_pos (by decide)
  obtain ⟨M, hM⟩ : ∃ M : Nat, 2 ^ b - 1 = M := ⟨_, rfl⟩
  have hM32 : M < 4294967296 := by omega
  have hRR := HR.out
  unfold fltM at hRR
  simp only [hM] at hRR HF
  have HRR : Hid ((if tstB ⟨f, op, form, lo, hi, len, pat⟩ = false then (47 : Int) else if ¬ (0 ≤ lo ∧ lo ≤ (M : Int) ∧ 0 ≤ hi ∧ hi ≤ (M : Int) ∧ 0 ≤ len ∧ len ≤ (b : Int)) then 42 else if form = 2 ∧ ¬ lo.toNat % 2 ^ (b - len.toNat) = 0 then 42 else if form = 3 ∧ hi < lo then 43 else if form = 4 ∧ cuB b pat = false then 44 else 0) = R) := hRR
  clear hRR HR hu HT0 hbx hp hp0 hM
  obtain ⟨tb, htb⟩ : ∃ q, tstB ⟨f, op, form, lo, hi, len, pat⟩ = q := ⟨_, rfl⟩
  rw [htb] at HRR HT
  clear htb
  cases tb with
  | false =>
    obtain rfl : 47 = R := by have := HRR.out; rw [if_pos rfl] at this; exact this
    clear HRR
    go_enter Tryz.func40, Tryz.ntmps40
    go_wp2_with fail
    try simp only [hO]
    refine (HT.out _ (by first | exact Below.refl _ _ | exact hB1)).mono ?_
    rintro e W1 ⟨rfl, hb1⟩
    obtain ⟨x0, x1, x2, x3, x4, x5, x6⟩ := HX.out W1 hb1
    go_wp2_with fail
    go_ret
    exact ⟨rfl, bel0 hB1 hb1⟩
  | true =>
    have hR2 := HRR.out
    rw [if_neg (by decide)] at hR2
    clear HRR
    by_cases a1 : ¬ (0 ≤ lo ∧ lo ≤ (M : Int))
    · rw [if_pos (fun h => a1 ⟨h.1, h.2.1⟩)] at hR2
      subst hR2
      have d1 : decide (0 ≤ lo ∧ lo ≤ (M : Int)) = false := decide_eq_false a1
      have HF1 : Hid (∀ W : World, Calls Tryz.prog 78 #[.int .i64 lo, .int .i64 (b : Int)] W fun e w' => e = .returned (.bool false) ∧ w' = W) := by have := HF.out lo; rw [d1] at this; exact this
      clear a1 d1
      go_enter Tryz.func40, Tryz.ntmps40
      go_wp2_with fail
      try simp only [hO]
      refine (HT.out _ (by first | exact Below.refl _ _ | exact hB1)).mono ?_
      rintro e W1 ⟨rfl, hb1⟩
      obtain ⟨x0, x1, x2, x3, x4, x5, x6⟩ := HX.out W1 hb1
      go_wp2_with fail
      refine (HF1.out _).mono ?_
      rintro e W2 ⟨rfl, rfl⟩
      go_wp2_with fail
      go_ret
      exact ⟨rfl, bel0 hB1 hb1⟩
    replace a1 := Classical.not_not.1 a1
    have HF1 : Hid (∀ W : World, Calls Tryz.prog 78 #[.int .i64 lo, .int .i64 (b : Int)] W fun e w' => e = .returned (.bool true) ∧ w' = W) := by have := HF.out lo; rw [decide_eq_true a1] at this; exact this
    by_cases a2 : ¬ (0 ≤ hi ∧ hi ≤ (M : Int))
    · rw [if_pos (fun h => a2 ⟨h.2.2.1, h.2.2.2.1⟩)] at hR2
      subst hR2
      have HF2 : Hid (∀ W : World, Calls Tryz.prog 78 #[.int .i64 hi, .int .i64 (b : Int)] W fun e w' => e = .returned (.bool false) ∧ w' = W) := by have := HF.out hi; rw [decide_eq_false a2] at this; exact this
      clear a1 a2
      go_enter Tryz.func40, Tryz.ntmps40
      go_wp2_with fail
      try simp only [hO]
      refine (HT.out _ (by first | exact Below.refl _ _ | exact hB1)).mono ?_
      rintro e W1 ⟨rfl, hb1⟩
      obtain ⟨x0, x1, x2, x3, x4, x5, x6⟩ := HX.out W1 hb1
      go_wp2_with fail
      refine (HF1.out _).mono ?_
      rintro e W2 ⟨rfl, rfl⟩
      go_wp2_with fail
      refine (HF2.out _).mono ?_
      rintro e W3 ⟨rfl, rfl⟩
      go_wp2_with fail
      go_ret
      exact ⟨rfl, bel0 hB1 hb1⟩
    replace a2 := Classical.not_not.1 a2
    have HF2 : Hid (∀ W : World, Calls Tryz.prog 78 #[.int .i64 hi, .int .i64 (b : Int)] W fun e w' => e = .returned (.bool true) ∧ w' = W) := by have := HF.out hi; rw [decide_eq_true a2] at this; exact this
    by_cases a3 : len < 0
    · rw [if_pos (fun h => by omega)] at hR2
      subst hR2
      go_enter Tryz.func40, Tryz.ntmps40
      go_wp2_with fail
      try simp only [hO]
      refine (HT.out _ (by first | exact Below.refl _ _ | exact hB1)).mono ?_
      rintro e W1 ⟨rfl, hb1⟩
      obtain ⟨x0, x1, x2, x3, x4, x5, x6⟩ := HX.out W1 hb1
      go_wp2_with fail
      refine (HF1.out _).mono ?_
      rintro e W2 ⟨rfl, rfl⟩
      go_wp2_with fail
      refine (HF2.out _).mono ?_
      rintro e W3 ⟨rfl, rfl⟩
      go_wp2_with fail
      go_ret
      exact ⟨rfl, bel0 hB1 hb1⟩
    by_cases a4 : (b : Int) < len
    · rw [if_pos (fun h => by omega)] at hR2
      subst hR2
      go_enter Tryz.func40, Tryz.ntmps40
      go_wp2_with fail
      try simp only [hO]
      refine (HT.out _ (by first | exact Below.refl _ _ | exact hB1)).mono ?_
      rintro e W1 ⟨rfl, hb1⟩
      obtain ⟨x0, x1, x2, x3, x4, x5, x6⟩ := HX.out W1 hb1
      go_wp2_with fail
      refine (HF1.out _).mono ?_
      rintro e W2 ⟨rfl, rfl⟩
      go_wp2_with fail
      refine (HF2.out _).mono ?_
      rintro e W3 ⟨rfl, rfl⟩
      go_wp2_with fail
      go_ret
      exact ⟨rfl, bel0 hB1 hb1⟩
    obtain ⟨lo, rfl⟩ : ∃ z : Nat, lo = z := ⟨lo.toNat, by omega⟩
    obtain ⟨len, rfl⟩ : ∃ z : Nat, len = z := ⟨len.toNat, by omega⟩
    rw [if_neg (fun h => h ⟨a1.1, a1.2, a2.1, a2.2, by omega, by omega⟩), Int.toNat_natCast, Int.toNat_natCast] at hR2
    have hlb : len ≤ b := by omega
    have s1 : IntKind.i64.wrap ((b : Int) - (len : Int)) = ((b - len : Nat) : Int) := by rw [IntKind.wrap_i64]; omega
    have s2 : wrap64 ((b : Int) - (len : Int)) = ((b - len : Nat) : Int) := by rw [w64 (by omega) (by omega)]; omega
    by_cases f2 : form = 2
    · subst f2
      have HG0 := fun W => greatest_any (b - len) (by omega) W
      have hand := and_mod lo (b - len) (by omega) (by omega)
      obtain ⟨G, hG⟩ : ∃ G : Nat, 2 ^ (b - len) - 1 = G := ⟨_, rfl⟩
      obtain ⟨m, hm⟩ : ∃ m : Nat, lo % 2 ^ (b - len) = m := ⟨_, rfl⟩
      rw [hG, hm] at hand
      rw [hm] at hR2
      simp only [hG] at HG0
      have HG : Hid (∀ W : World, Calls Tryz.prog 79 #[.int .i64 ((b - len : Nat) : Int)] W fun e w' => e = .returned (.int .i64 (G : Int)) ∧ w' = W) := HG0
      clear HG0 hG hm
      by_cases m0 : m = 0
      · rw [if_neg (fun h => h.2 m0), if_neg (fun h => by cases h.1), if_neg (fun h => by cases h.1)] at hR2
        subst hR2
        have n0 : ((m : Int) != 0) = false := by rw [m0]; rfl
        clear m0
        go_enter Tryz.func40, Tryz.ntmps40
        go_wp2_with fail
        try simp only [hO]
        refine (HT.out _ (by first | exact Below.refl _ _ | exact hB1)).mono ?_
        rintro e W1 ⟨rfl, hb1⟩
        obtain ⟨x0, x1, x2, x3, x4, x5, x6⟩ := HX.out W1 hb1
        go_wp2_with fail
        refine (HF1.out _).mono ?_
        rintro e W2 ⟨rfl, rfl⟩
        go_wp2_with fail
        refine (HF2.out _).mono ?_
        rintro e W3 ⟨rfl, rfl⟩
        go_wp2_with fail
        refine quiet_lit3 (C := fun W => Below (w.alloc O).heap.size (w.alloc O) W) (by kernel_rfl) (by kernel_rfl) (show Below _ _ _ from hb1.drew) ?_
        go_big_quiet_want
        refine ⟨.pointer (some ⟨w.heap.size, 2, none⟩), fun W hW => ?_, ?_⟩
        · go_simp
        go_big_quiet_on
        simp only [Act.put, List.setIfInBounds_toArray, List.set_cons_zero, List.set_cons_succ]
        go_big_quiet_want
        refine ⟨.int .i64 2, fun W hW => ?_, ?_⟩
        · obtain ⟨x0, x1, x2, x3, x4, x5, x6⟩ := HX.out W hW
          go_simp
        go_big_quiet_on
        simp only [Act.put, List.setIfInBounds_toArray, List.set_cons_zero, List.set_cons_succ]
        go_big_quiet_want
        refine ⟨.bool true, fun W hW => ?_, ?_⟩
        · go_simp
        go_big_quiet_on
        simp only [Act.put, List.setIfInBounds_toArray, List.set_cons_zero, List.set_cons_succ]
        go_big_quiet_want
        go_big_quiet_op
        go_big_quiet_on
        go_big_quiet_want
        refine ⟨.pointer (some ⟨w.heap.size, 3, none⟩), fun W hW => ?_, ?_⟩
        · go_simp
        go_big_quiet_on
        simp only [Act.put, List.setIfInBounds_toArray, List.set_cons_zero, List.set_cons_succ]
        go_big_quiet_want
        refine ⟨.int .i64 (lo : Int), fun W hW => ?_, ?_⟩
        · obtain ⟨x0, x1, x2, x3, x4, x5, x6⟩ := HX.out W hW
          go_simp
        go_big_quiet_on
        simp only [Act.put, List.setIfInBounds_toArray, List.set_cons_zero, List.set_cons_succ]
        go_big_quiet_want
        go_big_quiet_op
        go_big_quiet_on
        go_big_quiet_want
        refine ⟨.pointer (some ⟨w.heap.size, 5, none⟩), fun W hW => ?_, ?_⟩
        · go_simp
        go_big_quiet_on
        simp only [Act.put, List.setIfInBounds_toArray, List.set_cons_zero, List.set_cons_succ]
        go_big_quiet_want
        refine ⟨.int .i64 (len : Int), fun W hW => ?_, ?_⟩
        · obtain ⟨x0, x1, x2, x3, x4, x5, x6⟩ := HX.out W hW
          go_simp
        go_big_quiet_on
        simp only [Act.put, List.setIfInBounds_toArray, List.set_cons_zero, List.set_cons_succ]
        go_big_quiet_want
        refine ⟨.int .i64 ((b - len : Nat) : Int), fun W hW => ?_, ?_⟩
        · go_simp
        go_big_quiet_on
        simp only [Act.put, List.setIfInBounds_toArray, List.set_cons_zero, List.set_cons_succ]
        go_big_quiet_want
        refine ⟨.int .i64 (G : Int), fun W hW => ?_, ?_⟩
        · go_simp
          refine (HG.out W).mono ?_
          rintro e w7 ⟨rfl, hq⟩
          subst hq
          exact ⟨rfl, by simpa using (show Below (w.alloc O).heap.size (w.alloc O) _ from hW)⟩
        go_big_quiet_on
        simp only [Act.put, List.setIfInBounds_toArray, List.set_cons_zero, List.set_cons_succ]
        go_big_quiet_want
        refine ⟨.int .i64 (m : Int), fun W hW => ?_, ?_⟩
        · go_simp
        go_big_quiet_on
        simp only [Act.put, List.setIfInBounds_toArray, List.set_cons_zero, List.set_cons_succ]
        go_big_quiet_want
        refine ⟨.bool false, fun W hW => ?_, ?_⟩
        · go_simp
        go_big_quiet_on
        simp only [Act.put, List.setIfInBounds_toArray, List.set_cons_zero, List.set_cons_succ]
        go_big_quiet_want
        refine ⟨.bool false, fun W hW => ?_, ?_⟩
        · go_simp
        go_big_quiet_on
        simp only [Act.put, List.setIfInBounds_toArray, List.set_cons_zero, List.set_cons_succ]
        go_big_quiet_want
        go_big_quiet_op
        go_big_quiet_on
        refine wpQuiet_nil ?_
        intro W hW
        obtain ⟨x0, x1, x2, x3, x4, x5, x6⟩ := HX.out W hW
        go_wp2_with fail
        go_ret
        exact ⟨rfl, bel0 hB1 hW⟩
      · rw [if_pos ⟨rfl, m0⟩] at hR2
        subst hR2
        have n0 : ((m : Int) != 0) = true := by rw [bne_iff_ne]; omega
        clear m0
        go_enter Tryz.func40, Tryz.ntmps40
        go_wp2_with fail
        try simp only [hO]
        refine (HT.out _ (by first | exact Below.refl _ _ | exact hB1)).mono ?_
        rintro e W1 ⟨rfl, hb1⟩
        obtain ⟨x0, x1, x2, x3, x4, x5, x6⟩ := HX.out W1 hb1
        go_wp2_with fail
        refine (HF1.out _).mono ?_
        rintro e W2 ⟨rfl, rfl⟩
        go_wp2_with fail
        refine (HF2.out _).mono ?_
        rintro e W3 ⟨rfl, rfl⟩
        go_wp2_with fail
        refine quiet_lit3 (C := fun W => Below (w.alloc O).heap.size (w.alloc O) W) (by kernel_rfl) (by kernel_rfl) (show Below _ _ _ from hb1.drew) ?_
        go_big_quiet_want
        refine ⟨.pointer (some ⟨w.heap.size, 2, none⟩), fun W hW => ?_, ?_⟩
        · go_simp
        go_big_quiet_on
        simp only [Act.put, List.setIfInBounds_toArray, List.set_cons_zero, List.set_cons_succ]
        go_big_quiet_want
        refine ⟨.int .i64 2, fun W hW => ?_, ?_⟩
        · obtain ⟨x0, x1, x2, x3, x4, x5, x6⟩ := HX.out W hW
          go_simp
        go_big_quiet_on
        simp only [Act.put, List.setIfInBounds_toArray, List.set_cons_zero, List.set_cons_succ]
        go_big_quiet_want
        refine ⟨.bool true, fun W hW => ?_, ?_⟩
        · go_simp
        go_big_quiet_on
        simp only [Act.put, List.setIfInBounds_toArray, List.set_cons_zero, List.set_cons_succ]
        go_big_quiet_want
        go_big_quiet_op
        go_big_quiet_on
        go_big_quiet_want
        refine ⟨.pointer (some ⟨w.heap.size, 3, none⟩), fun W hW => ?_, ?_⟩
        · go_simp
        go_big_quiet_on
        simp only [Act.put, List.setIfInBounds_toArray, List.set_cons_zero, List.set_cons_succ]
        go_big_quiet_want
        refine ⟨.int .i64 (lo : Int), fun W hW => ?_, ?_⟩
        · obtain ⟨x0, x1, x2, x3, x4, x5, x6⟩ := HX.out W hW
          go_simp
        go_big_quiet_on
        simp only [Act.put, List.setIfInBounds_toArray, List.set_cons_zero, List.set_cons_succ]
        go_big_quiet_want
        go_big_quiet_op
        go_big_quiet_on
        go_big_quiet_want
        refine ⟨.pointer (some ⟨w.heap.size, 5, none⟩), fun W hW => ?_, ?_⟩
        · go_simp
        go_big_quiet_on
        simp only [Act.put, List.setIfInBounds_toArray, List.set_cons_zero, List.set_cons_succ]
        go_big_quiet_want
        refine ⟨.int .i64 (len : Int), fun W hW => ?_, ?_⟩
        · obtain ⟨x0, x1, x2, x3, x4, x5, x6⟩ := HX.out W hW
          go_simp
        go_big_quiet_on
        simp only [Act.put, List.setIfInBounds_toArray, List.set_cons_zero, List.set_cons_succ]
        go_big_quiet_want
        refine ⟨.int .i64 ((b - len : Nat) : Int), fun W hW => ?_, ?_⟩
        · go_simp
        go_big_quiet_on
        simp only [Act.put, List.setIfInBounds_toArray, List.set_cons_zero, List.set_cons_succ]
        go_big_quiet_want
        refine ⟨.int .i64 (G : Int), fun W hW => ?_, ?_⟩
        · go_simp
          refine (HG.out W).mono ?_
          rintro e w7 ⟨rfl, hq⟩
          subst hq
          exact ⟨rfl, by simpa using (show Below (w.alloc O).heap.size (w.alloc O) _ from hW)⟩
        go_big_quiet_on
        simp only [Act.put, List.setIfInBounds_toArray, List.set_cons_zero, List.set_cons_succ]
        go_big_quiet_want
        refine ⟨.int .i64 (m : Int), fun W hW => ?_, ?_⟩
        · go_simp
        go_big_quiet_on
        simp only [Act.put, List.setIfInBounds_toArray, List.set_cons_zero, List.set_cons_succ]
        go_big_quiet_want
        refine ⟨.bool true, fun W hW => ?_, ?_⟩
        · go_simp
        go_big_quiet_on
        simp only [Act.put, List.setIfInBounds_toArray, List.set_cons_zero, List.set_cons_succ]
        go_big_quiet_want
        refine ⟨.bool true, fun W hW => ?_, ?_⟩
        · go_simp
        go_big_quiet_on
        simp only [Act.put, List.setIfInBounds_toArray, List.set_cons_zero, List.set_cons_succ]
        go_big_quiet_want
        go_big_quiet_op
        go_big_quiet_on
        refine wpQuiet_nil ?_
        intro W hW
        obtain ⟨x0, x1, x2, x3, x4, x5, x6⟩ := HX.out W hW
        go_wp2_with fail
        go_ret
        exact ⟨rfl, bel0 hB1 hW⟩
    rw [if_neg (fun h => f2 h.1)] at hR2
    have g2 : (form == 2) = false := by rw [beq_eq_false_iff_ne]; exact f2
    by_cases f3 : form = 3
    · subst f3
      by_cases l3 : hi < (lo : Int)
      · rw [if_pos ⟨rfl, l3⟩] at hR2
        subst hR2
        go_enter Tryz.func40, Tryz.ntmps40
        go_wp2_with fail
        try simp only [hO]
        refine (HT.out _ (by first | exact Below.refl _ _ | exact hB1)).mono ?_
        rintro e W1 ⟨rfl, hb1⟩
        obtain ⟨x0, x1, x2, x3, x4, x5, x6⟩ := HX.out W1 hb1
        go_wp2_with fail
        refine (HF1.out _).mono ?_
        rintro e W2 ⟨rfl, rfl⟩
        go_wp2_with fail
        refine (HF2.out _).mono ?_
        rintro e W3 ⟨rfl, rfl⟩
        go_wp2_with fail
        refine quiet_lit3 (C := fun W => Below (w.alloc O).heap.size (w.alloc O) W) (by kernel_rfl) (by kernel_rfl) (show Below _ _ _ from hb1.drew) ?_
        go_big_quiet_want
        refine ⟨.pointer (some ⟨w.heap.size, 2, none⟩), fun W hW => ?_, ?_⟩
        · go_simp
        go_big_quiet_on
        simp only [Act.put, List.setIfInBounds_toArray, List.set_cons_zero, List.set_cons_succ]
        go_big_quiet_want
        refine ⟨.int .i64 3, fun W hW => ?_, ?_⟩
        · obtain ⟨x0, x1, x2, x3, x4, x5, x6⟩ := HX.out W hW
          go_simp
        go_big_quiet_on
        simp only [Act.put, List.setIfInBounds_toArray, List.set_cons_zero, List.set_cons_succ]
        go_big_quiet_want
        refine ⟨.bool false, fun W hW => ?_, ?_⟩
        · go_simp
        go_big_quiet_on
        simp only [Act.put, List.setIfInBounds_toArray, List.set_cons_zero, List.set_cons_succ]
        go_big_quiet_want
        go_big_quiet_op
        go_big_quiet_on
        go_big_quiet_skip
        go_big_quiet_skip
        go_big_quiet_skip
        go_big_quiet_skip
        go_big_quiet_skip
        go_big_quiet_skip
        go_big_quiet_skip
        go_big_quiet_skip
        go_big_quiet_skip
        go_big_quiet_want
        refine ⟨.bool false, fun W hW => ?_, ?_⟩
        · go_simp
        go_big_quiet_on
        simp only [Act.put, List.setIfInBounds_toArray, List.set_cons_zero, List.set_cons_succ]
        go_big_quiet_want
        go_big_quiet_op
        go_big_quiet_on
        refine wpQuiet_nil ?_
        intro W hW
        obtain ⟨x0, x1, x2, x3, x4, x5, x6⟩ := HX.out W hW
        go_wp2_with fail
        go_ret
        exact ⟨rfl, bel0 hB1 hW⟩
      · rw [if_neg (fun h => l3 h.2), if_neg (fun h => by cases h.1)] at hR2
        subst hR2
        go_enter Tryz.func40, Tryz.ntmps40
        go_wp2_with fail
        try simp only [hO]
        refine (HT.out _ (by first | exact Below.refl _ _ | exact hB1)).mono ?_
        rintro e W1 ⟨rfl, hb1⟩
        obtain ⟨x0, x1, x2, x3, x4, x5, x6⟩ := HX.out W1 hb1
        go_wp2_with fail
        refine (HF1.out _).mono ?_
        rintro e W2 ⟨rfl, rfl⟩
        go_wp2_with fail
        refine (HF2.out _).mono ?_
        rintro e W3 ⟨rfl, rfl⟩
        go_wp2_with fail
        refine quiet_lit3 (C := fun W => Below (w.alloc O).heap.size (w.alloc O) W) (by kernel_rfl) (by kernel_rfl) (show Below _ _ _ from hb1.drew) ?_
        go_big_quiet_want
        refine ⟨.pointer (some ⟨w.heap.size, 2, none⟩), fun W hW => ?_, ?_⟩
        · go_simp
        go_big_quiet_on
        simp only [Act.put, List.setIfInBounds_toArray, List.set_cons_zero, List.set_cons_succ]
        go_big_quiet_want
        refine ⟨.int .i64 3, fun W hW => ?_, ?_⟩
        · obtain ⟨x0, x1, x2, x3, x4, x5, x6⟩ := HX.out W hW
          go_simp
        go_big_quiet_on
        simp only [Act.put, List.setIfInBounds_toArray, List.set_cons_zero, List.set_cons_succ]
        go_big_quiet_want
        refine ⟨.bool false, fun W hW => ?_, ?_⟩
        · go_simp
        go_big_quiet_on
        simp only [Act.put, List.setIfInBounds_toArray, List.set_cons_zero, List.set_cons_succ]
        go_big_quiet_want
        go_big_quiet_op
        go_big_quiet_on
        go_big_quiet_skip
        go_big_quiet_skip
        go_big_quiet_skip
        go_big_quiet_skip
        go_big_quiet_skip
        go_big_quiet_skip
        go_big_quiet_skip
        go_big_quiet_skip
        go_big_quiet_skip
        go_big_quiet_want
        refine ⟨.bool false, fun W hW => ?_, ?_⟩
        · go_simp
        go_big_quiet_on
        simp only [Act.put, List.setIfInBounds_toArray, List.set_cons_zero, List.set_cons_succ]
        go_big_quiet_want
        go_big_quiet_op
        go_big_quiet_on
        refine wpQuiet_nil ?_
        intro W hW
        obtain ⟨x0, x1, x2, x3, x4, x5, x6⟩ := HX.out W hW
        go_wp2_with fail
        go_ret
        exact ⟨rfl, bel0 hB1 hW⟩
    rw [if_neg (fun h => f3 h.1)] at hR2
    have g3 : (form == 3) = false := by rw [beq_eq_false_iff_ne]; exact f3
    by_cases f4 : form = 4
    · subst f4
      obtain ⟨q, hq⟩ : ∃ q, cuB b pat = q := ⟨_, rfl⟩
      rw [hq] at hR2 HIC
      clear hq
      cases q with
      | false =>
        rw [if_pos ⟨rfl, rfl⟩] at hR2
        subst hR2
        go_enter Tryz.func40, Tryz.ntmps40
        go_wp2_with fail
        try simp only [hO]
        refine (HT.out _ (by first | exact Below.refl _ _ | exact hB1)).mono ?_
        rintro e W1 ⟨rfl, hb1⟩
        obtain ⟨x0, x1, x2, x3, x4, x5, x6⟩ := HX.out W1 hb1
        go_wp2_with fail
        refine (HF1.out _).mono ?_
        rintro e W2 ⟨rfl, rfl⟩
        go_wp2_with fail
        refine (HF2.out _).mono ?_
        rintro e W3 ⟨rfl, rfl⟩
        go_wp2_with fail
        refine quiet_lit3 (C := fun W => Below (w.alloc O).heap.size (w.alloc O) W) (by kernel_rfl) (by kernel_rfl) (show Below _ _ _ from hb1.drew) ?_
        go_big_quiet_want
        refine ⟨.pointer (some ⟨w.heap.size, 2, none⟩), fun W hW => ?_, ?_⟩
        · go_simp
        go_big_quiet_on
        simp only [Act.put, List.setIfInBounds_toArray, List.set_cons_zero, List.set_cons_succ]
        go_big_quiet_want
        refine ⟨.int .i64 4, fun W hW => ?_, ?_⟩
        · obtain ⟨x0, x1, x2, x3, x4, x5, x6⟩ := HX.out W hW
          go_simp
        go_big_quiet_on
        simp only [Act.put, List.setIfInBounds_toArray, List.set_cons_zero, List.set_cons_succ]
        go_big_quiet_want
        refine ⟨.bool false, fun W hW => ?_, ?_⟩
        · go_simp
        go_big_quiet_on
        simp only [Act.put, List.setIfInBounds_toArray, List.set_cons_zero, List.set_cons_succ]
        go_big_quiet_want
        go_big_quiet_op
        go_big_quiet_on
        go_big_quiet_skip
        go_big_quiet_skip
        go_big_quiet_skip
        go_big_quiet_skip
        go_big_quiet_skip
        go_big_quiet_skip
        go_big_quiet_skip
        go_big_quiet_skip
        go_big_quiet_skip
        go_big_quiet_want
        refine ⟨.bool false, fun W hW => ?_, ?_⟩
        · go_simp
        go_big_quiet_on
        simp only [Act.put, List.setIfInBounds_toArray, List.set_cons_zero, List.set_cons_succ]
        go_big_quiet_want
        go_big_quiet_op
        go_big_quiet_on
        refine wpQuiet_nil ?_
        intro W hW
        obtain ⟨x0, x1, x2, x3, x4, x5, x6⟩ := HX.out W hW
        go_wp2_with fail
        refine (HIC.out _).mono ?_
        rintro e W5 ⟨rfl, hb5⟩
        go_wp2_with fail
        go_ret
        exact ⟨rfl, bel0 (bel0 hB1 hW) hb5⟩
      | true =>
        rw [if_neg (fun h => by cases h.2)] at hR2
        subst hR2
        go_enter Tryz.func40, Tryz.ntmps40
        go_wp2_with fail
        try simp only [hO]
        refine (HT.out _ (by first | exact Below.refl _ _ | exact hB1)).mono ?_
        rintro e W1 ⟨rfl, hb1⟩
        obtain ⟨x0, x1, x2, x3, x4, x5, x6⟩ := HX.out W1 hb1
        go_wp2_with fail
        refine (HF1.out _).mono ?_
        rintro e W2 ⟨rfl, rfl⟩
        go_wp2_with fail
        refine (HF2.out _).mono ?_
        rintro e W3 ⟨rfl, rfl⟩
        go_wp2_with fail
        refine quiet_lit3 (C := fun W => Below (w.alloc O).heap.size (w.alloc O) W) (by kernel_rfl) (by kernel_rfl) (show Below _ _ _ from hb1.drew) ?_
        go_big_quiet_want
        refine ⟨.pointer (some ⟨w.heap.size, 2, none⟩), fun W hW => ?_, ?_⟩
        · go_simp
        go_big_quiet_on
        simp only [Act.put, List.setIfInBounds_toArray, List.set_cons_zero, List.set_cons_succ]
        go_big_quiet_want
        refine ⟨.int .i64 4, fun W hW => ?_, ?_⟩
        · obtain ⟨x0, x1, x2, x3, x4, x5, x6⟩ := HX.out W hW
          go_simp
        go_big_quiet_on
        simp only [Act.put, List.setIfInBounds_toArray, List.set_cons_zero, List.set_cons_succ]
        go_big_quiet_want
        refine ⟨.bool false, fun W hW => ?_, ?_⟩
        · go_simp
        go_big_quiet_on
        simp only [Act.put, List.setIfInBounds_toArray, List.set_cons_zero, List.set_cons_succ]
        go_big_quiet_want
        go_big_quiet_op
        go_big_quiet_on
        go_big_quiet_skip
        go_big_quiet_skip
        go_big_quiet_skip
        go_big_quiet_skip
        go_big_quiet_skip
        go_big_quiet_skip
        go_big_quiet_skip
        go_big_quiet_skip
        go_big_quiet_skip
        go_big_quiet_want
        refine ⟨.bool false, fun W hW => ?_, ?_⟩
        · go_simp
        go_big_quiet_on
        simp only [Act.put, List.setIfInBounds_toArray, List.set_cons_zero, List.set_cons_succ]
        go_big_quiet_want
        go_big_quiet_op
        go_big_quiet_on
        refine wpQuiet_nil ?_
        intro W hW
        obtain ⟨x0, x1, x2, x3, x4, x5, x6⟩ := HX.out W hW
        go_wp2_with fail
        refine (HIC.out _).mono ?_
        rintro e W5 ⟨rfl, hb5⟩
        go_wp2_with fail
        go_ret
        exact ⟨rfl, bel0 (bel0 hB1 hW) hb5⟩
    rw [if_neg (fun h => f4 h.1)] at hR2
    have g4 : (form == 4) = false := by rw [beq_eq_false_iff_ne]; exact f4
    subst hR2
    go_enter Tryz.func40, Tryz.ntmps40
    go_wp2_with fail
    try simp only [hO]
    refine (HT.out _ (by first | exact Below.refl _ _ | exact hB1)).mono ?_
    rintro e W1 ⟨rfl, hb1⟩
    obtain ⟨x0, x1, x2, x3, x4, x5, x6⟩ := HX.out W1 hb1
    go_wp2_with fail
    refine (HF1.out _).mono ?_
    rintro e W2 ⟨rfl, rfl⟩
    go_wp2_with fail
    refine (HF2.out _).mono ?_
    rintro e W3 ⟨rfl, rfl⟩
    go_wp2_with fail
    refine quiet_lit3 (C := fun W => Below (w.alloc O).heap.size (w.alloc O) W) (by kernel_rfl) (by kernel_rfl) (show Below _ _ _ from hb1.drew) ?_
    go_big_quiet_want
    refine ⟨.pointer (some ⟨w.heap.size, 2, none⟩), fun W hW => ?_, ?_⟩
    · go_simp
    go_big_quiet_on
    simp only [Act.put, List.setIfInBounds_toArray, List.set_cons_zero, List.set_cons_succ]
    go_big_quiet_want
    refine ⟨.int .i64 form, fun W hW => ?_, ?_⟩
    · obtain ⟨x0, x1, x2, x3, x4, x5, x6⟩ := HX.out W hW
      go_simp
    go_big_quiet_on
    simp only [Act.put, List.setIfInBounds_toArray, List.set_cons_zero, List.set_cons_succ]
    go_big_quiet_want
    refine ⟨.bool false, fun W hW => ?_, ?_⟩
    · go_simp
    go_big_quiet_on
    simp only [Act.put, List.setIfInBounds_toArray, List.set_cons_zero, List.set_cons_succ]
    go_big_quiet_want
    go_big_quiet_op
    go_big_quiet_on
    go_big_quiet_skip
    go_big_quiet_skip
    go_big_quiet_skip
    go_big_quiet_skip
    go_big_quiet_skip
    go_big_quiet_skip
    go_big_quiet_skip
    go_big_quiet_skip
    go_big_quiet_skip
    go_big_quiet_want
    refine ⟨.bool false, fun W hW => ?_, ?_⟩
    · go_simp
    go_big_quiet_on
    simp only [Act.put, List.setIfInBounds_toArray, List.set_cons_zero, List.set_cons_succ]
    go_big_quiet_want
    go_big_quiet_op
    go_big_quiet_on
    refine wpQuiet_nil ?_
    intro W hW
    obtain ⟨x0, x1, x2, x3, x4, x5, x6⟩ := HX.out W hW
    go_wp2_with fail
    go_ret
    exact ⟨rfl, bel0 hB1 hW⟩
end Go.Proofs.YtepokgainceidaaGreatDoor
namespace Go.Proofs.YtepokgainceidaaGreatDoor.Tn
open Go.RowKit

theorem bel1 {w w1 : World} {o : Obj} (h : Below (w.alloc o).heap.size (w.alloc o) w1) : Below w.heap.size w w1 :=
  ((Below.refl _ _).alloc (Nat.le_refl _) _).trans (h.mono (by simp))
theorem belA {w w1 : World} (h : Below w.heap.size w w1) (o : Obj) : Below w.heap.size w (w1.alloc o) := h.alloc h.size o
theorem bel0 {w w1 w2 : World} (h : Below w.heap.size w w1) (h2 : Below w1.heap.size w1 w2) : Below w.heap.size w w2 := h.trans (h2.mono h.size)
end Go.Proofs.YtepokgainceidaaGreatDoor.Tn
namespace Go.Proofs.YtepokgainceidaaGreatDoor.Tn

def allTo (p : Nat → Bool) : Nat → Bool
  | 0 => true
  | k + 1 => allTo p k && p k

theorem allTo_iff (p : Nat → Bool) (n : Nat) : allTo p n = true ↔ ∀ k, k < n → p k = true := by
  induction n with
  | zero => simp [allTo]
  | succ n ih =>
    simp only [allTo, Bool.and_eq_true, ih]
    constructor
    · rintro ⟨h1, h2⟩ k hk
      by_cases e : k = n
      · subst e; exact h2
      · exact h1 k (by omega)
    · intro h
      exact ⟨fun k hk => h k (by omega), h n (by omega)⟩

def cfl (a b : List UInt8) (k : Nat) : Bool := fx a k && fx b k && (on a k ^^ on b k)
def cw (a b : List UInt8) (w : Nat) : Bool := bits .and .u64 (bits .and .u64 (FW a w : Int) (FW b w : Int)) (bits .xor .u64 (OW a w : Int) (OW b w : Int)) != 0

theorem xor_lt {a b : Nat} (ha : a < 18446744073709551616) (hb : b < 18446744073709551616) : a ^^^ b < 18446744073709551616 := Nat.xor_lt_two_pow (n := 64) ha hb
theorem and_lt {a : Nat} (b : Nat) (ha : a < 18446744073709551616) : a &&& b < 18446744073709551616 := Nat.lt_of_le_of_lt Nat.and_le_left ha
theorem cw_false (a b : List UInt8) (w : Nat) : cw a b w = false ↔ ∀ i, i < 64 → cfl a b (64 * w + i) = false := by
  unfold cw
  rw [u64_and_nat _ _ (FW_lt _ _) (FW_lt _ _), u64_xor_nat _ _ (OW_lt _ _) (OW_lt _ _), u64_and_nat _ _ (and_lt _ (FW_lt _ _)) (xor_lt (OW_lt _ _) (OW_lt _ _))]
  have hbit : ∀ i, (FW a w &&& FW b w &&& (OW a w ^^^ OW b w)).testBit i = (decide (i < 64) && cfl a b (64 * w + i)) := by
    intro i
    rw [Nat.testBit_and, Nat.testBit_and, Nat.testBit_xor, FW_bit, FW_bit, OW_bit, OW_bit]
    unfold cfl
    by_cases hi : i < 64 <;> simp [hi]
  generalize FW a w &&& FW b w &&& (OW a w ^^^ OW b w) = x at hbit ⊢
  constructor
  · intro h i hi
    have hx : x = 0 := by
      rw [bne_eq_false_iff_eq] at h
      omega
    have := hbit i
    rw [hx] at this
    simp [hi] at this
    exact this.symm ▸ rfl
  · intro h
    have hx : x = 0 := by
      apply Nat.eq_of_testBit_eq
      intro i
      rw [hbit i, Nat.zero_testBit]
      by_cases hi : i < 64
      · rw [h i hi]; simp
      · simp [hi]
    rw [hx]; rfl

def fitB (a b : List UInt8) : Bool := !a.isEmpty && (a.length == b.length)
def agB (a b : List UInt8) : Bool := fitB a b && allTo (fun k => !cfl a b k) a.length

theorem cfl_out (a b : List UInt8) (k : Nat) (h : a.length ≤ k) : cfl a b k = false := by
  unfold cfl fx
  rw [List.getElem?_eq_none h]; simp

theorem ag_words (a b : List UInt8) (ha : good a = true) : allTo (fun k => !cfl a b k) a.length = (!cw a b 0 && !cw a b 1 && !cw a b 2 && !cw a b 3) := by
  have hl := good_len ha
  rw [Bool.eq_iff_iff, allTo_iff]
  simp only [Bool.and_eq_true, Bool.not_eq_true', cw_false]
  constructor
  · intro h
    have g : ∀ k, cfl a b k = false := by
      intro k
      by_cases hk : k < a.length
      · exact h k hk
      · exact cfl_out a b k (by omega)
    exact ⟨⟨⟨fun i _ => g _, fun i _ => g _⟩, fun i _ => g _⟩, fun i _ => g _⟩
  · rintro ⟨⟨⟨h0, h1⟩, h2⟩, h3⟩ k hk
    have hk4 : k / 64 < 4 := by omega
    have e : k = 64 * (k / 64) + k % 64 := by omega
    have hm : k % 64 < 64 := by omega
    rcases (show k / 64 = 0 ∨ k / 64 = 1 ∨ k / 64 = 2 ∨ k / 64 = 3 by omega) with q | q | q | q <;> rw [q] at e <;> rw [e]
    · exact h0 _ hm
    · exact h1 _ hm
    · exact h2 _ hm
    · exact h3 _ hm

def meetT (a b : List UInt8) : List UInt8 := List.zipWith (fun x y => if x == 120 then y else x) a b

theorem fitB_len {a b : List UInt8} (h : fitB a b = true) : a.length = b.length := by simp [fitB] at h; exact h.2
theorem agB_fit {a b : List UInt8} (h : agB a b = true) : fitB a b = true := by simp [agB] at h; exact h.1
theorem meetT_len (a b : List UInt8) (h : a.length = b.length) : (meetT a b).length = a.length := by simp [meetT]; omega
theorem meetT_get (a b : List UInt8) (h : a.length = b.length) (k : Nat) (hk : k < a.length) : (meetT a b)[k]? = some (if a[k] == 120 then b[k]'(by omega) else a[k]) := by
  unfold meetT
  rw [List.getElem?_zipWith, List.getElem?_eq_getElem hk, List.getElem?_eq_getElem (show k < b.length by omega)]

end Go.Proofs.YtepokgainceidaaGreatDoor.Tn
