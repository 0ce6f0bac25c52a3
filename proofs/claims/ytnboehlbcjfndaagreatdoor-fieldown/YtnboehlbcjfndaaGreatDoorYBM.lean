import Derived.Test.YtnboehlbcjfndaaGreatDoorYBL
import Derived.Test.YtnboehlbcjfndaaGreatDoorYAD
namespace Go.Proofs.YtnboehlbcjfndaaGreatDoor
open Go.RowKit Go.Shelf
def oneM (b : Nat) (t : TS) : List UInt8 := if t.form = 4 then t.pat else if t.form = 2 then digL b t.lo.toNat (b - t.len.toNat) else digL b t.lo.toNat 0
def fltM (b : Nat) (t : TS) : Int := if tstB t = false then 47 else if ¬ (0 ≤ t.lo ∧ t.lo ≤ ((2 ^ b - 1 : Nat) : Int) ∧ 0 ≤ t.hi ∧ t.hi ≤ ((2 ^ b - 1 : Nat) : Int) ∧ 0 ≤ t.len ∧ t.len ≤ (b : Int)) then 42 else if t.form = 2 ∧ ¬ t.lo.toNat % 2 ^ (b - t.len.toNat) = 0 then 42 else if t.form = 3 ∧ t.hi < t.lo then 43 else if t.form = 4 ∧ cuB b t.pat = false then 44 else 0
structure TOK (b : Nat) (t : TS) : Prop where
  tst : tstB t = true
  lo0 : 0 ≤ t.lo
  lo1 : t.lo ≤ ((2 ^ b - 1 : Nat) : Int)
  hi0 : 0 ≤ t.hi
  hi1 : t.hi ≤ ((2 ^ b - 1 : Nat) : Int)
  len0 : 0 ≤ t.len
  len1 : t.len ≤ (b : Int)
  pre : t.form = 2 → t.lo.toNat % 2 ^ (b - t.len.toNat) = 0
  ran : t.form = 3 → t.lo ≤ t.hi
  dig : t.form = 4 → cuB b t.pat = true
theorem flt_ok {b : Nat} {t : TS} (h : fltM b t = 0) : TOK b t := by
  unfold fltM at h
  split at h
  · cases h
  · rename_i h1
    split at h
    · cases h
    · rename_i h2
      have h2 := Classical.not_not.1 h2
      split at h
      · cases h
      · rename_i h3
        split at h
        · cases h
        · rename_i h4
          split at h
          · cases h
          · rename_i h5
            refine ⟨by simpa using h1, h2.1, h2.2.1, h2.2.2.1, h2.2.2.2.1, h2.2.2.2.2.1, h2.2.2.2.2.2, fun e => ?_, fun e => ?_, fun e => ?_⟩
            · exact Classical.byContradiction fun hn => h3 ⟨e, hn⟩
            · have : ¬ t.hi < t.lo := fun hn => h4 ⟨e, hn⟩
              omega
            · cases hc : cuB b t.pat with
              | true => rfl
              | false => exact absurd ⟨e, hc⟩ h5
set_option maxRecDepth 100000 in
set_option maxHeartbeats 1000000 in
theorem one_any (b : Nat) (t : TS) (w : World) (hb1 : 1 ≤ b) (hb : b ≤ 32) (h : TOK b t) : Calls Tryz.prog 57 #[.int .i64 (b : Int), t.v] w fun e w' => e = .returned (.string ⟨(oneM b t).toArray⟩) ∧ Below w.heap.size w w' := by
  have hp : 2 ^ b ≤ 2 ^ 32 := Nat.pow_le_pow_right (by decide) hb
  obtain ⟨k1, k2, k3, k4, k5, k6, k7, -, -, -⟩ := h
  obtain ⟨f, op, form, lo, hi, len, pat⟩ := t
  simp only at k2 k3 k4 k5 k6 k7
  obtain ⟨lo, rfl⟩ : ∃ z : Nat, lo = z := ⟨lo.toNat, by omega⟩
  obtain ⟨len, rfl⟩ : ∃ z : Nat, len = z := ⟨len.toNat, by omega⟩
  have d1 := fun W => digits_any b lo (b - len) hb1 hb (by omega) (by omega) W
  have d2 := fun W => digits_any b lo 0 hb1 hb (by omega) (by omega) W
  have e5 : ((b : Int) - (len : Int)) = ((b - len : Nat) : Int) := by omega
  have e6 : IntKind.i64.wrap ((b : Int) - (len : Int)) = ((b - len : Nat) : Int) := by rw [IntKind.wrap_i64]; omega
  have e7 : wrap64 ((b : Int) - (len : Int)) = ((b - len : Nat) : Int) := by rw [w64 (by omega) (by omega)]; omega
  obtain ⟨D1, hD1⟩ : ∃ D, digL b lo (b - len) = D := ⟨_, rfl⟩
  obtain ⟨D2, hD2⟩ : ∃ D, digL b lo 0 = D := ⟨_, rfl⟩
  simp only [hD1] at d1
  simp only [hD2] at d2
  have hM : oneM b ⟨f, op, form, lo, hi, len, pat⟩ = if form = 4 then pat else if form = 2 then D1 else D2 := by
    unfold oneM
    simp only [Int.toNat_natCast, hD1, hD2]
  rw [hM]
  show Calls Tryz.prog 57 #[.int .i64 (b : Int), .agg #[.string ⟨f.toArray⟩, .int .i64 op, .int .i64 form, .int .i64 lo, .int .i64 hi, .int .i64 len, .string ⟨pat.toArray⟩]] w _
  obtain ⟨O, hO⟩ : ∃ O : Obj, Obj.cells #[.string ⟨f.toArray⟩, .int .i64 op, .int .i64 form, .int .i64 lo, .int .i64 hi, .int .i64 len, .string ⟨pat.toArray⟩] 27 = O := ⟨_, rfl⟩
  have hB1 : Below w.heap.size w (w.alloc O) := (Below.refl _ _).alloc (Nat.le_refl _) _
  have hbx : (w.alloc O).heap[w.heap.size]? = some (.cells #[.string ⟨f.toArray⟩, .int .i64 op, .int .i64 form, .int .i64 lo, .int .i64 hi, .int .i64 len, .string ⟨pat.toArray⟩] 27) := by rw [hO]; exact alloc_get _ _
  have t0 : (w.alloc O).cell? ⟨w.heap.size, 0, none⟩ = some (.string ⟨f.toArray⟩) := cell_of_row _ _ 0 _ _ _ hbx
  have t1 : (w.alloc O).cell? ⟨w.heap.size, 1, none⟩ = some (.int .i64 op) := cell_of_row _ _ 1 _ _ _ hbx
  have t2 : (w.alloc O).cell? ⟨w.heap.size, 2, none⟩ = some (.int .i64 form) := cell_of_row _ _ 2 _ _ _ hbx
  have t3 : (w.alloc O).cell? ⟨w.heap.size, 3, none⟩ = some (.int .i64 lo) := cell_of_row _ _ 3 _ _ _ hbx
  have t4 : (w.alloc O).cell? ⟨w.heap.size, 4, none⟩ = some (.int .i64 hi) := cell_of_row _ _ 4 _ _ _ hbx
  have t5 : (w.alloc O).cell? ⟨w.heap.size, 5, none⟩ = some (.int .i64 len) := cell_of_row _ _ 5 _ _ _ hbx
  have t6 : (w.alloc O).cell? ⟨w.heap.size, 6, none⟩ = some (.string ⟨pat.toArray⟩) := cell_of_row _ _ 6 _ _ _ hbx
  clear hO hbx hM hD1 hD2 hp k1 k2 k3 k4 k5 k6 k7
  by_cases f4 : form = 4
  · rw [if_pos f4]
    subst f4
    go_enter Tryz.func57, Tryz.ntmps57
    go_wp2_with fail
    go_ret
    exact ⟨rfl, by first | exact hB1 | exact (Below.refl _ _).alloc (Nat.le_refl _) _⟩
  · rw [if_neg f4]
    have g4 : (form == 4) = false := by rw [beq_eq_false_iff_ne]; exact f4
    by_cases f2 : form = 2
    · rw [if_pos f2]
      subst f2
      go_enter Tryz.func57, Tryz.ntmps57
      go_wp2_with fail
      refine (d1 _).mono ?_
      rintro e W1 ⟨rfl, hb1⟩
      go_wp2_with fail
      go_ret
      exact ⟨rfl, bel0 (by first | exact hB1 | exact (Below.refl _ _).alloc (Nat.le_refl _) _) hb1⟩
    · rw [if_neg f2]
      have g2 : (form == 2) = false := by rw [beq_eq_false_iff_ne]; exact f2
      go_enter Tryz.func57, Tryz.ntmps57
      go_wp2_with fail
      refine (d2 _).mono ?_
      rintro e W1 ⟨rfl, hb1⟩
      go_wp2_with fail
      go_ret
      exact ⟨rfl, bel0 (by first | exact hB1 | exact (Below.refl _ _).alloc (Nat.le_refl _) _) hb1⟩
set_option maxRecDepth 100000 in
theorem prefixes_none (b lo hi : Int) (w : World) (h : hi < lo) : Calls Tryz.prog 55 #[.int .i64 b, .int .i64 lo, .int .i64 hi] w fun e w' => e = .returned (.slice none 0 0) ∧ w' = w := by
  have i1 : ¬ lo ≤ hi := by omega
  go_enter Tryz.func55, Tryz.ntmps55
  go_wp2_with fail
  go_loopw [1, 7] (fun va v wr => va = .int .i64 lo ∧ v = .slice none 0 0 ∧ wr = w) (fun _ _ _ => 0)
  case atStart => exact ⟨rfl, rfl, rfl⟩
  case round =>
    obtain ⟨rfl, rfl, rfl⟩ := hrel
    go_wp2_with fail
    go_ret
    exact ⟨rfl, rfl⟩
def covI (b : Nat) (lo hi : Int) : List (List UInt8) := if hi < lo then [] else cov b lo.toNat hi.toNat
def slR (w : World) (L : List (List UInt8)) (e : Ending) (w' : World) : Prop := ∃ v, e = .returned v ∧ w'.ownsRow w.heap.size 9 1 v L.length (stx L) ∧ Below w.heap.size w w'
theorem prefixesI_any (b : Nat) (lo hi : Int) (hb1 : 1 ≤ b) (hb : b ≤ 32) (h0 : 0 ≤ lo) (hh : hi < ((2 ^ b : Nat) : Int)) (w : World) (hdb : DB w) : Calls Tryz.prog 55 #[.int .i64 (b : Int), .int .i64 lo, .int .i64 hi] w fun e w' => slR w (covI b lo hi) e w' := by
  unfold covI
  by_cases h : hi < lo
  · rw [if_pos h]
    refine (prefixes_none b lo hi w h).mono ?_
    rintro e w' ⟨rfl, rfl⟩
    exact ⟨_, rfl, World.ownsRow_nil _ _ _ _, Below.refl _ _⟩
  · rw [if_neg h]
    obtain ⟨l, rfl⟩ : ∃ z : Nat, lo = z := ⟨lo.toNat, by omega⟩
    obtain ⟨k, rfl⟩ : ∃ z : Nat, hi = z := ⟨hi.toNat, by omega⟩
    rw [Int.toNat_natCast, Int.toNat_natCast]
    exact prefixes_any b l k hb1 hb (Int.ofNat_lt.1 hh) (by omega) w hdb
theorem and_mod (x k : Nat) (hx : x < 9223372036854775808) (hk : k ≤ 32) : bits .and .i64 (x : Int) ((2 ^ k - 1 : Nat) : Int) = ((x % 2 ^ k : Nat) : Int) := by
  have hp : 2 ^ k ≤ 2 ^ 32 := Nat.pow_le_pow_right (by decide) hk
  have h1 : (BitVec.ofInt 64 (x : Int)).toNat = x := by
    rw [BitVec.ofInt_natCast, BitVec.toNat_ofNat]; exact Nat.mod_eq_of_lt (by omega)
  have h2 : (BitVec.ofInt 64 ((2 ^ k - 1 : Nat) : Int)).toNat = 2 ^ k - 1 := by
    rw [BitVec.ofInt_natCast, BitVec.toNat_ofNat]; exact Nat.mod_eq_of_lt (by omega)
  have h3 : x &&& (2 ^ k - 1) = x % 2 ^ k := Nat.and_two_pow_sub_one_eq_mod x k
  have h4 : x % 2 ^ k ≤ x := Nat.mod_le _ _
  show IntKind.i64.wrap ((BitVec.ofInt 64 (x : Int) &&& BitVec.ofInt 64 ((2 ^ k - 1 : Nat) : Int)).toNat : Int) = _
  rw [BitVec.toNat_and, h1, h2, h3, IntKind.wrap_i64]
  omega
set_option maxRecDepth 100000 in
set_option maxHeartbeats 2000000 in
theorem fault_any (b : Nat) (t : TS) (w : World) (hb1 : 1 ≤ b) (hb : b ≤ 32) (hpl : t.pat.length ≤ 281474976710656) (hu : US w) : Calls Tryz.prog 28 #[.int .i64 (b : Int), t.v] w fun e w' => e = .returned (.int .i64 (fltM b t)) ∧ Below w.heap.size w w' := by
  obtain ⟨R, hR⟩ : ∃ R, fltM b t = R := ⟨_, rfl⟩
  rw [hR]
  have HT0 : ∀ W : World, US W → Calls Tryz.prog 51 #[t.v] W fun e w' => e = .returned (.bool (tstB t)) ∧ Below W.heap.size W w' := fun W h => isTest_any t W h
  obtain ⟨f, op, form, lo, hi, len, pat⟩ := t
  simp only at hpl
  have HR : Hid (fltM b ⟨f, op, form, lo, hi, len, pat⟩ = R) := hR
  clear hR
  show Calls Tryz.prog 28 #[.int .i64 (b : Int), .agg #[.string ⟨f.toArray⟩, .int .i64 op, .int .i64 form, .int .i64 lo, .int .i64 hi, .int .i64 len, .string ⟨pat.toArray⟩]] w _
  obtain ⟨O, hO⟩ : ∃ O : Obj, Obj.cells #[.string ⟨f.toArray⟩, .int .i64 op, .int .i64 form, .int .i64 lo, .int .i64 hi, .int .i64 len, .string ⟨pat.toArray⟩] 27 = O := ⟨_, rfl⟩
  have hB1 : Below w.heap.size w (w.alloc O) := (Below.refl _ _).alloc (Nat.le_refl _) _
  have hbx : (w.alloc O).heap[w.heap.size]? = some (.cells #[.string ⟨f.toArray⟩, .int .i64 op, .int .i64 form, .int .i64 lo, .int .i64 hi, .int .i64 len, .string ⟨pat.toArray⟩] 27) := by rw [hO]; exact alloc_get _ _
  have HX : Hid (∀ W : World, Below (w.alloc O).heap.size (w.alloc O) W → W.cell? ⟨w.heap.size, 0, none⟩ = some (.string ⟨f.toArray⟩) ∧ W.cell? ⟨w.heap.size, 1, none⟩ = some (.int .i64 op) ∧ W.cell? ⟨w.heap.size, 2, none⟩ = some (.int .i64 form) ∧ W.cell? ⟨w.heap.size, 3, none⟩ = some (.int .i64 lo) ∧ W.cell? ⟨w.heap.size, 4, none⟩ = some (.int .i64 hi) ∧ W.cell? ⟨w.heap.size, 5, none⟩ = some (.int .i64 len) ∧ W.cell? ⟨w.heap.size, 6, none⟩ = some (.string ⟨pat.toArray⟩)) := fun W hW => ⟨cell_of_row _ _ 0 _ _ _ (keepblk hW hbx), cell_of_row _ _ 1 _ _ _ (keepblk hW hbx), cell_of_row _ _ 2 _ _ _ (keepblk hW hbx), cell_of_row _ _ 3 _ _ _ (keepblk hW hbx), cell_of_row _ _ 4 _ _ _ (keepblk hW hbx), cell_of_row _ _ 5 _ _ _ (keepblk hW hbx), cell_of_row _ _ 6 _ _ _ (keepblk hW hbx)⟩
  obtain ⟨t0, t1, t2, t3, t4, t5, t6⟩ := HX.out _ (Below.refl _ _)
  have HT : Hid (∀ W : World, Below (w.alloc O).heap.size (w.alloc O) W → Calls Tryz.prog 51 #[.agg #[.string ⟨f.toArray⟩, .int .i64 op, .int .i64 form, .int .i64 lo, .int .i64 hi, .int .i64 len, .string ⟨pat.toArray⟩]] W fun e w' => e = .returned (.bool (tstB ⟨f, op, form, lo, hi, len, pat⟩)) ∧ Below W.heap.size W w') := fun W hW => HT0 W ((hu.below hB1).below hW)
  have HF : Hid (∀ (v : Int) (W : World), Calls Tryz.prog 52 #[.int .i64 v, .int .i64 (b : Int)] W fun e w' => e = .returned (.bool (decide (0 ≤ v ∧ v ≤ ((2 ^ b - 1 : Nat) : Int)))) ∧ w' = W) := fun v W => fits_any v b hb W
  have HIC : Hid (∀ W : World, Calls Tryz.prog 54 #[.string ⟨pat.toArray⟩, .int .i64 (b : Int)] W fun e w' => e = .returned (.bool (cuB b pat)) ∧ Below W.heap.size W w') := fun W => isCube_any b pat W hb1 (by omega) hpl
  have hp : 2 ^ b ≤ 2 ^ 32 := Nat.pow_le_pow_right (by decide) hb
  have hp0 : 0 < 2 ^ b := Nat.pow_pos (by decide)
  obtain ⟨M, hM⟩ : ∃ M : Nat, 2 ^ b - 1 = M := ⟨_, rfl⟩
  have hM32 : M < 4294967296 := by omega
  have hRR := HR.out
  unfold fltM at hRR
  simp only [hM] at hRR HF
  have HRR : Hid ((if tstB ⟨f, op, form, lo, hi, len, pat⟩ = false then (47 : Int) else if ¬ (0 ≤ lo ∧ lo ≤ (M : Int) ∧ 0 ≤ hi ∧ hi ≤ (M : Int) ∧ 0 ≤ len ∧ len ≤ (b : Int)) then 42 else if form = 2 ∧ ¬ lo.toNat % 2 ^ (b - len.toNat) = 0 then 42 else if form = 3 ∧ hi < lo then 43 else if form = 4 ∧ cuB b pat = false then 44 else 0) = R) := hRR
  clear hRR HR hu HT0 hbx hp hp0 hM
  obtain ⟨tb, htb⟩ : ∃ q, tstB ⟨f, op, form, lo, hi, len, pat⟩ = q := ⟨_, rfl⟩
  rw [htb] at HRR HT
  clear htb
  cases tb with
  | false =>
    obtain rfl : 47 = R := by have := HRR.out; rw [if_pos rfl] at this; exact this
    clear HRR
    go_enter Tryz.func28, Tryz.ntmps28
    go_wp2_with fail
    try simp only [hO]
    refine (HT.out _ (by first | exact Below.refl _ _ | exact hB1)).mono ?_
    rintro e W1 ⟨rfl, hb1⟩
    obtain ⟨x0, x1, x2, x3, x4, x5, x6⟩ := HX.out W1 hb1
    go_wp2_with fail
    go_ret
    exact ⟨rfl, bel0 hB1 hb1⟩
  | true =>
    have hR2 := HRR.out
    rw [if_neg (by decide)] at hR2
    clear HRR
    by_cases a1 : ¬ (0 ≤ lo ∧ lo ≤ (M : Int))
    · rw [if_pos (fun h => a1 ⟨h.1, h.2.1⟩)] at hR2
      subst hR2
      have d1 : decide (0 ≤ lo ∧ lo ≤ (M : Int)) = false := decide_eq_false a1
      have HF1 : Hid (∀ W : World, Calls Tryz.prog 52 #[.int .i64 lo, .int .i64 (b : Int)] W fun e w' => e = .returned (.bool false) ∧ w' = W) := by have := HF.out lo; rw [d1] at this; exact this
      clear a1 d1
      go_enter Tryz.func28, Tryz.ntmps28
      go_wp2_with fail
      try simp only [hO]
      refine (HT.out _ (by first | exact Below.refl _ _ | exact hB1)).mono ?_
      rintro e W1 ⟨rfl, hb1⟩
      obtain ⟨x0, x1, x2, x3, x4, x5, x6⟩ := HX.out W1 hb1
      go_wp2_with fail
      refine (HF1.out _).mono ?_
      rintro e W2 ⟨rfl, rfl⟩
      go_wp2_with fail
      go_ret
      exact ⟨rfl, bel0 hB1 hb1⟩
    replace a1 := Classical.not_not.1 a1
    have HF1 : Hid (∀ W : World, Calls Tryz.prog 52 #[.int .i64 lo, .int .i64 (b : Int)] W fun e w' => e = .returned (.bool true) ∧ w' = W) := by have := HF.out lo; rw [decide_eq_true a1] at this; exact this
    by_cases a2 : ¬ (0 ≤ hi ∧ hi ≤ (M : Int))
    · rw [if_pos (fun h => a2 ⟨h.2.2.1, h.2.2.2.1⟩)] at hR2
      subst hR2
      have HF2 : Hid (∀ W : World, Calls Tryz.prog 52 #[.int .i64 hi, .int .i64 (b : Int)] W fun e w' => e = .returned (.bool false) ∧ w' = W) := by have := HF.out hi; rw [decide_eq_false a2] at this; exact this
      clear a1 a2
      go_enter Tryz.func28, Tryz.ntmps28
      go_wp2_with fail
      try simp only [hO]
      refine (HT.out _ (by first | exact Below.refl _ _ | exact hB1)).mono ?_
      rintro e W1 ⟨rfl, hb1⟩
      obtain ⟨x0, x1, x2, x3, x4, x5, x6⟩ := HX.out W1 hb1
      go_wp2_with fail
      refine (HF1.out _).mono ?_
      rintro e W2 ⟨rfl, rfl⟩
      go_wp2_with fail
      refine (HF2.out _).mono ?_
      rintro e W3 ⟨rfl, rfl⟩
      go_wp2_with fail
      go_ret
      exact ⟨rfl, bel0 hB1 hb1⟩
    replace a2 := Classical.not_not.1 a2
    have HF2 : Hid (∀ W : World, Calls Tryz.prog 52 #[.int .i64 hi, .int .i64 (b : Int)] W fun e w' => e = .returned (.bool true) ∧ w' = W) := by have := HF.out hi; rw [decide_eq_true a2] at this; exact this
    by_cases a3 : len < 0
    · rw [if_pos (fun h => by omega)] at hR2
      subst hR2
      go_enter Tryz.func28, Tryz.ntmps28
      go_wp2_with fail
      try simp only [hO]
      refine (HT.out _ (by first | exact Below.refl _ _ | exact hB1)).mono ?_
      rintro e W1 ⟨rfl, hb1⟩
      obtain ⟨x0, x1, x2, x3, x4, x5, x6⟩ := HX.out W1 hb1
      go_wp2_with fail
      refine (HF1.out _).mono ?_
      rintro e W2 ⟨rfl, rfl⟩
      go_wp2_with fail
      refine (HF2.out _).mono ?_
      rintro e W3 ⟨rfl, rfl⟩
      go_wp2_with fail
      go_ret
      exact ⟨rfl, bel0 hB1 hb1⟩
    by_cases a4 : (b : Int) < len
    · rw [if_pos (fun h => by omega)] at hR2
      subst hR2
      go_enter Tryz.func28, Tryz.ntmps28
      go_wp2_with fail
      try simp only [hO]
      refine (HT.out _ (by first | exact Below.refl _ _ | exact hB1)).mono ?_
      rintro e W1 ⟨rfl, hb1⟩
      obtain ⟨x0, x1, x2, x3, x4, x5, x6⟩ := HX.out W1 hb1
      go_wp2_with fail
      refine (HF1.out _).mono ?_
      rintro e W2 ⟨rfl, rfl⟩
      go_wp2_with fail
      refine (HF2.out _).mono ?_
      rintro e W3 ⟨rfl, rfl⟩
      go_wp2_with fail
      go_ret
      exact ⟨rfl, bel0 hB1 hb1⟩
    obtain ⟨lo, rfl⟩ : ∃ z : Nat, lo = z := ⟨lo.toNat, by omega⟩
    obtain ⟨len, rfl⟩ : ∃ z : Nat, len = z := ⟨len.toNat, by omega⟩
    rw [if_neg (fun h => h ⟨a1.1, a1.2, a2.1, a2.2, by omega, by omega⟩), Int.toNat_natCast, Int.toNat_natCast] at hR2
    have hlb : len ≤ b := by omega
    have s1 : IntKind.i64.wrap ((b : Int) - (len : Int)) = ((b - len : Nat) : Int) := by rw [IntKind.wrap_i64]; omega
    have s2 : wrap64 ((b : Int) - (len : Int)) = ((b - len : Nat) : Int) := by rw [w64 (by omega) (by omega)]; omega
    by_cases f2 : form = 2
    · subst f2
      have HG0 := fun W => greatest_any (b - len) (by omega) W
      have hand := and_mod lo (b - len) (by omega) (by omega)
      obtain ⟨G, hG⟩ : ∃ G : Nat, 2 ^ (b - len) - 1 = G := ⟨_, rfl⟩
      obtain ⟨m, hm⟩ : ∃ m : Nat, lo % 2 ^ (b - len) = m := ⟨_, rfl⟩
      rw [hG, hm] at hand
      rw [hm] at hR2
      simp only [hG] at HG0
      have HG : Hid (∀ W : World, Calls Tryz.prog 53 #[.int .i64 ((b - len : Nat) : Int)] W fun e w' => e = .returned (.int .i64 (G : Int)) ∧ w' = W) := HG0
      clear HG0 hG hm
      by_cases m0 : m = 0
      · rw [if_neg (fun h => h.2 m0), if_neg (fun h => by cases h.1), if_neg (fun h => by cases h.1)] at hR2
        subst hR2
        have n0 : ((m : Int) != 0) = false := by rw [m0]; rfl
        clear m0
        go_enter Tryz.func28, Tryz.ntmps28
        go_wp2_with fail
        try simp only [hO]
        refine (HT.out _ (by first | exact Below.refl _ _ | exact hB1)).mono ?_
        rintro e W1 ⟨rfl, hb1⟩
        obtain ⟨x0, x1, x2, x3, x4, x5, x6⟩ := HX.out W1 hb1
        go_wp2_with fail
        refine (HF1.out _).mono ?_
        rintro e W2 ⟨rfl, rfl⟩
        go_wp2_with fail
        refine (HF2.out _).mono ?_
        rintro e W3 ⟨rfl, rfl⟩
        go_wp2_with fail
        refine quiet_lit3 (C := fun W => Below (w.alloc O).heap.size (w.alloc O) W) (by kernel_rfl) (by kernel_rfl) (show Below _ _ _ from hb1.drew) ?_
        go_big_quiet_want
        refine ⟨.pointer (some ⟨w.heap.size, 2, none⟩), fun W hW => ?_, ?_⟩
        · go_simp
        go_big_quiet_on
        simp only [Act.put, List.setIfInBounds_toArray, List.set_cons_zero, List.set_cons_succ]
        go_big_quiet_want
        refine ⟨.int .i64 2, fun W hW => ?_, ?_⟩
        · obtain ⟨x0, x1, x2, x3, x4, x5, x6⟩ := HX.out W hW
          go_simp
        go_big_quiet_on
        simp only [Act.put, List.setIfInBounds_toArray, List.set_cons_zero, List.set_cons_succ]
        go_big_quiet_want
        refine ⟨.bool true, fun W hW => ?_, ?_⟩
        · go_simp
        go_big_quiet_on
        simp only [Act.put, List.setIfInBounds_toArray, List.set_cons_zero, List.set_cons_succ]
        go_big_quiet_want
        go_big_quiet_op
        go_big_quiet_on
        go_big_quiet_want
        refine ⟨.pointer (some ⟨w.heap.size, 3, none⟩), fun W hW => ?_, ?_⟩
        · go_simp
        go_big_quiet_on
        simp only [Act.put, List.setIfInBounds_toArray, List.set_cons_zero, List.set_cons_succ]
        go_big_quiet_want
        refine ⟨.int .i64 (lo : Int), fun W hW => ?_, ?_⟩
        · obtain ⟨x0, x1, x2, x3, x4, x5, x6⟩ := HX.out W hW
          go_simp
        go_big_quiet_on
        simp only [Act.put, List.setIfInBounds_toArray, List.set_cons_zero, List.set_cons_succ]
        go_big_quiet_want
        go_big_quiet_op
        go_big_quiet_on
        go_big_quiet_want
        refine ⟨.pointer (some ⟨w.heap.size, 5, none⟩), fun W hW => ?_, ?_⟩
        · go_simp
        go_big_quiet_on
        simp only [Act.put, List.setIfInBounds_toArray, List.set_cons_zero, List.set_cons_succ]
        go_big_quiet_want
        refine ⟨.int .i64 (len : Int), fun W hW => ?_, ?_⟩
        · obtain ⟨x0, x1, x2, x3, x4, x5, x6⟩ := HX.out W hW
          go_simp
        go_big_quiet_on
        simp only [Act.put, List.setIfInBounds_toArray, List.set_cons_zero, List.set_cons_succ]
        go_big_quiet_want
        refine ⟨.int .i64 ((b - len : Nat) : Int), fun W hW => ?_, ?_⟩
        · go_simp
        go_big_quiet_on
        simp only [Act.put, List.setIfInBounds_toArray, List.set_cons_zero, List.set_cons_succ]
        go_big_quiet_want
        refine ⟨.int .i64 (G : Int), fun W hW => ?_, ?_⟩
        · go_simp
          refine (HG.out W).mono ?_
          rintro e w7 ⟨rfl, hq⟩
          subst hq
          exact ⟨rfl, by simpa using (show Below (w.alloc O).heap.size (w.alloc O) _ from hW)⟩
        go_big_quiet_on
        simp only [Act.put, List.setIfInBounds_toArray, List.set_cons_zero, List.set_cons_succ]
        go_big_quiet_want
        refine ⟨.int .i64 (m : Int), fun W hW => ?_, ?_⟩
        · go_simp
        go_big_quiet_on
        simp only [Act.put, List.setIfInBounds_toArray, List.set_cons_zero, List.set_cons_succ]
        go_big_quiet_want
        refine ⟨.bool false, fun W hW => ?_, ?_⟩
        · go_simp
        go_big_quiet_on
        simp only [Act.put, List.setIfInBounds_toArray, List.set_cons_zero, List.set_cons_succ]
        go_big_quiet_want
        refine ⟨.bool false, fun W hW => ?_, ?_⟩
        · go_simp
        go_big_quiet_on
        simp only [Act.put, List.setIfInBounds_toArray, List.set_cons_zero, List.set_cons_succ]
        go_big_quiet_want
        go_big_quiet_op
        go_big_quiet_on
        refine wpQuiet_nil ?_
        intro W hW
        obtain ⟨x0, x1, x2, x3, x4, x5, x6⟩ := HX.out W hW
        go_wp2_with fail
        go_ret
        exact ⟨rfl, bel0 hB1 hW⟩
      · rw [if_pos ⟨rfl, m0⟩] at hR2
        subst hR2
        have n0 : ((m : Int) != 0) = true := by rw [bne_iff_ne]; omega
        clear m0
        go_enter Tryz.func28, Tryz.ntmps28
        go_wp2_with fail
        try simp only [hO]
        refine (HT.out _ (by first | exact Below.refl _ _ | exact hB1)).mono ?_
        rintro e W1 ⟨rfl, hb1⟩
        obtain ⟨x0, x1, x2, x3, x4, x5, x6⟩ := HX.out W1 hb1
        go_wp2_with fail
        refine (HF1.out _).mono ?_
        rintro e W2 ⟨rfl, rfl⟩
        go_wp2_with fail
        refine (HF2.out _).mono ?_
        rintro e W3 ⟨rfl, rfl⟩
        go_wp2_with fail
        refine quiet_lit3 (C := fun W => Below (w.alloc O).heap.size (w.alloc O) W) (by kernel_rfl) (by kernel_rfl) (show Below _ _ _ from hb1.drew) ?_
        go_big_quiet_want
        refine ⟨.pointer (some ⟨w.heap.size, 2, none⟩), fun W hW => ?_, ?_⟩
        · go_simp
        go_big_quiet_on
        simp only [Act.put, List.setIfInBounds_toArray, List.set_cons_zero, List.set_cons_succ]
        go_big_quiet_want
        refine ⟨.int .i64 2, fun W hW => ?_, ?_⟩
        · obtain ⟨x0, x1, x2, x3, x4, x5, x6⟩ := HX.out W hW
          go_simp
        go_big_quiet_on
        simp only [Act.put, List.setIfInBounds_toArray, List.set_cons_zero, List.set_cons_succ]
        go_big_quiet_want
        refine ⟨.bool true, fun W hW => ?_, ?_⟩
        · go_simp
        go_big_quiet_on
        simp only [Act.put, List.setIfInBounds_toArray, List.set_cons_zero, List.set_cons_succ]
        go_big_quiet_want
        go_big_quiet_op
        go_big_quiet_on
        go_big_quiet_want
        refine ⟨.pointer (some ⟨w.heap.size, 3, none⟩), fun W hW => ?_, ?_⟩
        · go_simp
        go_big_quiet_on
        simp only [Act.put, List.setIfInBounds_toArray, List.set_cons_zero, List.set_cons_succ]
        go_big_quiet_want
        refine ⟨.int .i64 (lo : Int), fun W hW => ?_, ?_⟩
        · obtain ⟨x0, x1, x2, x3, x4, x5, x6⟩ := HX.out W hW
          go_simp
        go_big_quiet_on
        simp only [Act.put, List.setIfInBounds_toArray, List.set_cons_zero, List.set_cons_succ]
        go_big_quiet_want
        go_big_quiet_op
        go_big_quiet_on
        go_big_quiet_want
        refine ⟨.pointer (some ⟨w.heap.size, 5, none⟩), fun W hW => ?_, ?_⟩
        · go_simp
        go_big_quiet_on
        simp only [Act.put, List.setIfInBounds_toArray, List.set_cons_zero, List.set_cons_succ]
        go_big_quiet_want
        refine ⟨.int .i64 (len : Int), fun W hW => ?_, ?_⟩
        · obtain ⟨x0, x1, x2, x3, x4, x5, x6⟩ := HX.out W hW
          go_simp
        go_big_quiet_on
        simp only [Act.put, List.setIfInBounds_toArray, List.set_cons_zero, List.set_cons_succ]
        go_big_quiet_want
        refine ⟨.int .i64 ((b - len : Nat) : Int), fun W hW => ?_, ?_⟩
        · go_simp
        go_big_quiet_on
        simp only [Act.put, List.setIfInBounds_toArray, List.set_cons_zero, List.set_cons_succ]
        go_big_quiet_want
        refine ⟨.int .i64 (G : Int), fun W hW => ?_, ?_⟩
        · go_simp
          refine (HG.out W).mono ?_
          rintro e w7 ⟨rfl, hq⟩
          subst hq
          exact ⟨rfl, by simpa using (show Below (w.alloc O).heap.size (w.alloc O) _ from hW)⟩
        go_big_quiet_on
        simp only [Act.put, List.setIfInBounds_toArray, List.set_cons_zero, List.set_cons_succ]
        go_big_quiet_want
        refine ⟨.int .i64 (m : Int), fun W hW => ?_, ?_⟩
        · go_simp
        go_big_quiet_on
        simp only [Act.put, List.setIfInBounds_toArray, List.set_cons_zero, List.set_cons_succ]
        go_big_quiet_want
        refine ⟨.bool true, fun W hW => ?_, ?_⟩
        · go_simp
        go_big_quiet_on
        simp only [Act.put, List.setIfInBounds_toArray, List.set_cons_zero, List.set_cons_succ]
        go_big_quiet_want
        refine ⟨.bool true, fun W hW => ?_, ?_⟩
        · go_simp
        go_big_quiet_on
        simp only [Act.put, List.setIfInBounds_toArray, List.set_cons_zero, List.set_cons_succ]
        go_big_quiet_want
        go_big_quiet_op
        go_big_quiet_on
        refine wpQuiet_nil ?_
        intro W hW
        obtain ⟨x0, x1, x2, x3, x4, x5, x6⟩ := HX.out W hW
        go_wp2_with fail
        go_ret
        exact ⟨rfl, bel0 hB1 hW⟩
    rw [if_neg (fun h => f2 h.1)] at hR2
    have g2 : (form == 2) = false := by rw [beq_eq_false_iff_ne]; exact f2
    by_cases f3 : form = 3
    · subst f3
      by_cases l3 : hi < (lo : Int)
      · rw [if_pos ⟨rfl, l3⟩] at hR2
        subst hR2
        go_enter Tryz.func28, Tryz.ntmps28
        go_wp2_with fail
        try simp only [hO]
        refine (HT.out _ (by first | exact Below.refl _ _ | exact hB1)).mono ?_
        rintro e W1 ⟨rfl, hb1⟩
        obtain ⟨x0, x1, x2, x3, x4, x5, x6⟩ := HX.out W1 hb1
        go_wp2_with fail
        refine (HF1.out _).mono ?_
        rintro e W2 ⟨rfl, rfl⟩
        go_wp2_with fail
        refine (HF2.out _).mono ?_
        rintro e W3 ⟨rfl, rfl⟩
        go_wp2_with fail
        refine quiet_lit3 (C := fun W => Below (w.alloc O).heap.size (w.alloc O) W) (by kernel_rfl) (by kernel_rfl) (show Below _ _ _ from hb1.drew) ?_
        go_big_quiet_want
        refine ⟨.pointer (some ⟨w.heap.size, 2, none⟩), fun W hW => ?_, ?_⟩
        · go_simp
        go_big_quiet_on
        simp only [Act.put, List.setIfInBounds_toArray, List.set_cons_zero, List.set_cons_succ]
        go_big_quiet_want
        refine ⟨.int .i64 3, fun W hW => ?_, ?_⟩
        · obtain ⟨x0, x1, x2, x3, x4, x5, x6⟩ := HX.out W hW
          go_simp
        go_big_quiet_on
        simp only [Act.put, List.setIfInBounds_toArray, List.set_cons_zero, List.set_cons_succ]
        go_big_quiet_want
        refine ⟨.bool false, fun W hW => ?_, ?_⟩
        · go_simp
        go_big_quiet_on
        simp only [Act.put, List.setIfInBounds_toArray, List.set_cons_zero, List.set_cons_succ]
        go_big_quiet_want
        go_big_quiet_op
        go_big_quiet_on
        go_big_quiet_skip
        go_big_quiet_skip
        go_big_quiet_skip
        go_big_quiet_skip
        go_big_quiet_skip
        go_big_quiet_skip
        go_big_quiet_skip
        go_big_quiet_skip
        go_big_quiet_skip
        go_big_quiet_want
        refine ⟨.bool false, fun W hW => ?_, ?_⟩
        · go_simp
        go_big_quiet_on
        simp only [Act.put, List.setIfInBounds_toArray, List.set_cons_zero, List.set_cons_succ]
        go_big_quiet_want
        go_big_quiet_op
        go_big_quiet_on
        refine wpQuiet_nil ?_
        intro W hW
        obtain ⟨x0, x1, x2, x3, x4, x5, x6⟩ := HX.out W hW
        go_wp2_with fail
        go_ret
        exact ⟨rfl, bel0 hB1 hW⟩
      · rw [if_neg (fun h => l3 h.2), if_neg (fun h => by cases h.1)] at hR2
        subst hR2
        go_enter Tryz.func28, Tryz.ntmps28
        go_wp2_with fail
        try simp only [hO]
        refine (HT.out _ (by first | exact Below.refl _ _ | exact hB1)).mono ?_
        rintro e W1 ⟨rfl, hb1⟩
        obtain ⟨x0, x1, x2, x3, x4, x5, x6⟩ := HX.out W1 hb1
        go_wp2_with fail
        refine (HF1.out _).mono ?_
        rintro e W2 ⟨rfl, rfl⟩
        go_wp2_with fail
        refine (HF2.out _).mono ?_
        rintro e W3 ⟨rfl, rfl⟩
        go_wp2_with fail
        refine quiet_lit3 (C := fun W => Below (w.alloc O).heap.size (w.alloc O) W) (by kernel_rfl) (by kernel_rfl) (show Below _ _ _ from hb1.drew) ?_
        go_big_quiet_want
        refine ⟨.pointer (some ⟨w.heap.size, 2, none⟩), fun W hW => ?_, ?_⟩
        · go_simp
        go_big_quiet_on
        simp only [Act.put, List.setIfInBounds_toArray, List.set_cons_zero, List.set_cons_succ]
        go_big_quiet_want
        refine ⟨.int .i64 3, fun W hW => ?_, ?_⟩
        · obtain ⟨x0, x1, x2, x3, x4, x5, x6⟩ := HX.out W hW
          go_simp
        go_big_quiet_on
        simp only [Act.put, List.setIfInBounds_toArray, List.set_cons_zero, List.set_cons_succ]
        go_big_quiet_want
        refine ⟨.bool false, fun W hW => ?_, ?_⟩
        · go_simp
        go_big_quiet_on
        simp only [Act.put, List.setIfInBounds_toArray, List.set_cons_zero, List.set_cons_succ]
        go_big_quiet_want
        go_big_quiet_op
        go_big_quiet_on
        go_big_quiet_skip
        go_big_quiet_skip
        go_big_quiet_skip
        go_big_quiet_skip
        go_big_quiet_skip
        go_big_quiet_skip
        go_big_quiet_skip
        go_big_quiet_skip
        go_big_quiet_skip
        go_big_quiet_want
        refine ⟨.bool false, fun W hW => ?_, ?_⟩
        · go_simp
        go_big_quiet_on
        simp only [Act.put, List.setIfInBounds_toArray, List.set_cons_zero, List.set_cons_succ]
        go_big_quiet_want
        go_big_quiet_op
        go_big_quiet_on
        refine wpQuiet_nil ?_
        intro W hW
        obtain ⟨x0, x1, x2, x3, x4, x5, x6⟩ := HX.out W hW
        go_wp2_with fail
        go_ret
        exact ⟨rfl, bel0 hB1 hW⟩
    rw [if_neg (fun h => f3 h.1)] at hR2
    have g3 : (form == 3) = false := by rw [beq_eq_false_iff_ne]; exact f3
    by_cases f4 : form = 4
    · subst f4
      obtain ⟨q, hq⟩ : ∃ q, cuB b pat = q := ⟨_, rfl⟩
      rw [hq] at hR2 HIC
      clear hq
      cases q with
      | false =>
        rw [if_pos ⟨rfl, rfl⟩] at hR2
        subst hR2
        go_enter Tryz.func28, Tryz.ntmps28
        go_wp2_with fail
        try simp only [hO]
        refine (HT.out _ (by first | exact Below.refl _ _ | exact hB1)).mono ?_
        rintro e W1 ⟨rfl, hb1⟩
        obtain ⟨x0, x1, x2, x3, x4, x5, x6⟩ := HX.out W1 hb1
        go_wp2_with fail
        refine (HF1.out _).mono ?_
        rintro e W2 ⟨rfl, rfl⟩
        go_wp2_with fail
        refine (HF2.out _).mono ?_
        rintro e W3 ⟨rfl, rfl⟩
        go_wp2_with fail
        refine quiet_lit3 (C := fun W => Below (w.alloc O).heap.size (w.alloc O) W) (by kernel_rfl) (by kernel_rfl) (show Below _ _ _ from hb1.drew) ?_
        go_big_quiet_want
        refine ⟨.pointer (some ⟨w.heap.size, 2, none⟩), fun W hW => ?_, ?_⟩
        · go_simp
        go_big_quiet_on
        simp only [Act.put, List.setIfInBounds_toArray, List.set_cons_zero, List.set_cons_succ]
        go_big_quiet_want
        refine ⟨.int .i64 4, fun W hW => ?_, ?_⟩
        · obtain ⟨x0, x1, x2, x3, x4, x5, x6⟩ := HX.out W hW
          go_simp
        go_big_quiet_on
        simp only [Act.put, List.setIfInBounds_toArray, List.set_cons_zero, List.set_cons_succ]
        go_big_quiet_want
        refine ⟨.bool false, fun W hW => ?_, ?_⟩
        · go_simp
        go_big_quiet_on
        simp only [Act.put, List.setIfInBounds_toArray, List.set_cons_zero, List.set_cons_succ]
        go_big_quiet_want
        go_big_quiet_op
        go_big_quiet_on
        go_big_quiet_skip
        go_big_quiet_skip
        go_big_quiet_skip
        go_big_quiet_skip
        go_big_quiet_skip
        go_big_quiet_skip
        go_big_quiet_skip
        go_big_quiet_skip
        go_big_quiet_skip
        go_big_quiet_want
        refine ⟨.bool false, fun W hW => ?_, ?_⟩
        · go_simp
        go_big_quiet_on
        simp only [Act.put, List.setIfInBounds_toArray, List.set_cons_zero, List.set_cons_succ]
        go_big_quiet_want
        go_big_quiet_op
        go_big_quiet_on
        refine wpQuiet_nil ?_
        intro W hW
        obtain ⟨x0, x1, x2, x3, x4, x5, x6⟩ := HX.out W hW
        go_wp2_with fail
        refine (HIC.out _).mono ?_
        rintro e W5 ⟨rfl, hb5⟩
        go_wp2_with fail
        go_ret
        exact ⟨rfl, bel0 (bel0 hB1 hW) hb5⟩
      | true =>
        rw [if_neg (fun h => by cases h.2)] at hR2
        subst hR2
        go_enter Tryz.func28, Tryz.ntmps28
        go_wp2_with fail
        try simp only [hO]
        refine (HT.out _ (by first | exact Below.refl _ _ | exact hB1)).mono ?_
        rintro e W1 ⟨rfl, hb1⟩
        obtain ⟨x0, x1, x2, x3, x4, x5, x6⟩ := HX.out W1 hb1
        go_wp2_with fail
        refine (HF1.out _).mono ?_
        rintro e W2 ⟨rfl, rfl⟩
        go_wp2_with fail
        refine (HF2.out _).mono ?_
        rintro e W3 ⟨rfl, rfl⟩
        go_wp2_with fail
        refine quiet_lit3 (C := fun W => Below (w.alloc O).heap.size (w.alloc O) W) (by kernel_rfl) (by kernel_rfl) (show Below _ _ _ from hb1.drew) ?_
        go_big_quiet_want
        refine ⟨.pointer (some ⟨w.heap.size, 2, none⟩), fun W hW => ?_, ?_⟩
        · go_simp
        go_big_quiet_on
        simp only [Act.put, List.setIfInBounds_toArray, List.set_cons_zero, List.set_cons_succ]
        go_big_quiet_want
        refine ⟨.int .i64 4, fun W hW => ?_, ?_⟩
        · obtain ⟨x0, x1, x2, x3, x4, x5, x6⟩ := HX.out W hW
          go_simp
        go_big_quiet_on
        simp only [Act.put, List.setIfInBounds_toArray, List.set_cons_zero, List.set_cons_succ]
        go_big_quiet_want
        refine ⟨.bool false, fun W hW => ?_, ?_⟩
        · go_simp
        go_big_quiet_on
        simp only [Act.put, List.setIfInBounds_toArray, List.set_cons_zero, List.set_cons_succ]
        go_big_quiet_want
        go_big_quiet_op
        go_big_quiet_on
        go_big_quiet_skip
        go_big_quiet_skip
        go_big_quiet_skip
        go_big_quiet_skip
        go_big_quiet_skip
        go_big_quiet_skip
        go_big_quiet_skip
        go_big_quiet_skip
        go_big_quiet_skip
        go_big_quiet_want
        refine ⟨.bool false, fun W hW => ?_, ?_⟩
        · go_simp
        go_big_quiet_on
        simp only [Act.put, List.setIfInBounds_toArray, List.set_cons_zero, List.set_cons_succ]
        go_big_quiet_want
        go_big_quiet_op
        go_big_quiet_on
        refine wpQuiet_nil ?_
        intro W hW
        obtain ⟨x0, x1, x2, x3, x4, x5, x6⟩ := HX.out W hW
        go_wp2_with fail
        refine (HIC.out _).mono ?_
        rintro e W5 ⟨rfl, hb5⟩
        go_wp2_with fail
        go_ret
        exact ⟨rfl, bel0 (bel0 hB1 hW) hb5⟩
    rw [if_neg (fun h => f4 h.1)] at hR2
    have g4 : (form == 4) = false := by rw [beq_eq_false_iff_ne]; exact f4
    subst hR2
    go_enter Tryz.func28, Tryz.ntmps28
    go_wp2_with fail
    try simp only [hO]
    refine (HT.out _ (by first | exact Below.refl _ _ | exact hB1)).mono ?_
    rintro e W1 ⟨rfl, hb1⟩
    obtain ⟨x0, x1, x2, x3, x4, x5, x6⟩ := HX.out W1 hb1
    go_wp2_with fail
    refine (HF1.out _).mono ?_
    rintro e W2 ⟨rfl, rfl⟩
    go_wp2_with fail
    refine (HF2.out _).mono ?_
    rintro e W3 ⟨rfl, rfl⟩
    go_wp2_with fail
    refine quiet_lit3 (C := fun W => Below (w.alloc O).heap.size (w.alloc O) W) (by kernel_rfl) (by kernel_rfl) (show Below _ _ _ from hb1.drew) ?_
    go_big_quiet_want
    refine ⟨.pointer (some ⟨w.heap.size, 2, none⟩), fun W hW => ?_, ?_⟩
    · go_simp
    go_big_quiet_on
    simp only [Act.put, List.setIfInBounds_toArray, List.set_cons_zero, List.set_cons_succ]
    go_big_quiet_want
    refine ⟨.int .i64 form, fun W hW => ?_, ?_⟩
    · obtain ⟨x0, x1, x2, x3, x4, x5, x6⟩ := HX.out W hW
      go_simp
    go_big_quiet_on
    simp only [Act.put, List.setIfInBounds_toArray, List.set_cons_zero, List.set_cons_succ]
    go_big_quiet_want
    refine ⟨.bool false, fun W hW => ?_, ?_⟩
    · go_simp
    go_big_quiet_on
    simp only [Act.put, List.setIfInBounds_toArray, List.set_cons_zero, List.set_cons_succ]
    go_big_quiet_want
    go_big_quiet_op
    go_big_quiet_on
    go_big_quiet_skip
    go_big_quiet_skip
    go_big_quiet_skip
    go_big_quiet_skip
    go_big_quiet_skip
    go_big_quiet_skip
    go_big_quiet_skip
    go_big_quiet_skip
    go_big_quiet_skip
    go_big_quiet_want
    refine ⟨.bool false, fun W hW => ?_, ?_⟩
    · go_simp
    go_big_quiet_on
    simp only [Act.put, List.setIfInBounds_toArray, List.set_cons_zero, List.set_cons_succ]
    go_big_quiet_want
    go_big_quiet_op
    go_big_quiet_on
    refine wpQuiet_nil ?_
    intro W hW
    obtain ⟨x0, x1, x2, x3, x4, x5, x6⟩ := HX.out W hW
    go_wp2_with fail
    go_ret
    exact ⟨rfl, bel0 hB1 hW⟩
end Go.Proofs.YtnboehlbcjfndaaGreatDoor
