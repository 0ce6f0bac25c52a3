import Derived.Test.YtepokgainceidaaGreatDoorYAZ
import Derived.Test.YtepokgainceidaaGreatDoorYAF
namespace Go.Proofs.YtepokgainceidaaGreatDoor
open Go.RowKit Go.Shelf
def oneM (b : Nat) (t : TS) : List UInt8 := if t.form = 4 then t.pat else if t.form = 2 then digL b t.lo.toNat (b - t.len.toNat) else digL b t.lo.toNat 0
def fltM (b : Nat) (t : TS) : Int := if tstB t = false then 47 else if ¬ (0 ≤ t.lo ∧ t.lo ≤ ((2 ^ b - 1 : Nat) : Int) ∧ 0 ≤ t.hi ∧ t.hi ≤ ((2 ^ b - 1 : Nat) : Int) ∧ 0 ≤ t.len ∧ t.len ≤ (b : Int)) then 42 else if t.form = 2 ∧ ¬ t.lo.toNat % 2 ^ (b - t.len.toNat) = 0 then 42 else if t.form = 3 ∧ t.hi < t.lo then 43 else if t.form = 4 ∧ cuB b t.pat = false then 44 else 0
structure TOK (b : Nat) (t : TS) : Prop where
  tst : tstB t = true
  lo0 : 0 ≤ t.lo
  lo1 : t.lo ≤ ((2 ^ b - 1 : Nat) : Int)
  hi0 : 0 ≤ t.hi
  hi1 : t.hi ≤ ((2 ^ b - 1 : Nat) : Int)
  len0 : 0 ≤ t.len
  len1 : t.len ≤ (b : Int)
  pre : t.form = 2 → t.lo.toNat % 2 ^ (b - t.len.toNat) = 0
  ran : t.form = 3 → t.lo ≤ t.hi
  dig : t.form = 4 → cuB b t.pat = true
theorem flt_ok {b : Nat} {t : TS} (h : fltM b t = 0) : TOK b t := by
  unfold fltM at h
  split at h
  · cases h
  · rename_i h1
    split at h
    · cases h
    · rename_i h2
      have h2 := Classical.not_not.1 h2
      split at h
      · cases h
      · rename_i h3
        split at h
        · cases h
        · rename_i h4
          split at h
          · cases h
          · rename_i h5
            refine ⟨by simpa using h1, h2.1, h2.2.1, h2.2.2.1, h2.2.2.2.1, h2.2.2.2.2.1, h2.2.2.2.2.2, fun e => ?_, fun e => ?_, fun e => ?_⟩
            · exact Classical.byContradiction fun hn => h3 ⟨e, hn⟩
            · have : ¬ t.hi < t.lo := fun hn => h4 ⟨e, hn⟩
              omega
            · cases hc : cuB b t.pat with
              | true => rfl
              | false => exact absurd ⟨e, hc⟩ h5
set_option maxRecDepth 100000 in
set_option maxHeartbeats 1000000 in
theorem one_any (b : Nat) (t : TS) (w : World) (hb1 : 1 ≤ b) (hb : b ≤ 32) (h : TOK b t) : Calls Tryz.prog 82 #[.int .i64 (b : Int), t.v] w fun e w' => e = .returned (.string ⟨(oneM b t).toArray⟩) ∧ Below w.heap.size w w' := by
  have hp : 2 ^ b ≤ 2 ^ 32 := Nat.pow_le_pow_right (by decide) hb
  obtain ⟨k1, k2, k3, k4, k5, k6, k7, -, -, -⟩ := h
  obtain ⟨f, op, form, lo, hi, len, pat⟩ := t
  simp only at k2 k3 k4 k5 k6 k7
  obtain ⟨lo, rfl⟩ : ∃ z : Nat, lo = z := ⟨lo.toNat, by omega⟩
  obtain ⟨len, rfl⟩ : ∃ z : Nat, len = z := ⟨len.toNat, by omega⟩
  have d1 := fun W => digits_any b lo (b - len) hb1 hb (by omega) (by omega) W
  have d2 := fun W => digits_any b lo 0 hb1 hb (by omega) (by omega) W
  have e5 : ((b : Int) - (len : Int)) = ((b - len : Nat) : Int) := by omega
  have e6 : IntKind.i64.wrap ((b : Int) - (len : Int)) = ((b - len : Nat) : Int) := by rw [IntKind.wrap_i64]; omega
  have e7 : wrap64 ((b : Int) - (len : Int)) = ((b - len : Nat) : Int) := by rw [w64 (by omega) (by omega)]; omega
  obtain ⟨D1, hD1⟩ : ∃ D, digL b lo (b - len) = D := ⟨_, rfl⟩
  obtain ⟨D2, hD2⟩ : ∃ D, digL b lo 0 = D := ⟨_, rfl⟩
  simp only [hD1] at d1
  simp only [hD2] at d2
  have hM : oneM b ⟨f, op, form, lo, hi, len, pat⟩ = if form = 4 then pat else if form = 2 then D1 else D2 := by
    unfold oneM
    simp only [Int.toNat_natCast, hD1, hD2]
  rw [hM]
  show Calls Tryz.prog 82 #[.int .i64 (b : Int), .agg #[.string ⟨f.toArray⟩, .int .i64 op, .int .i64 form, .int .i64 lo, .int .i64 hi, .int .i64 len, .string ⟨pat.toArray⟩]] w _
  obtain ⟨O, hO⟩ : ∃ O : Obj, Obj.cells #[.string ⟨f.toArray⟩, .int .i64 op, .int .i64 form, .int .i64 lo, .int .i64 hi, .int .i64 len, .string ⟨pat.toArray⟩] 24 = O := ⟨_, rfl⟩
  have hB1 : Below w.heap.size w (w.alloc O) := (Below.refl _ _).alloc (Nat.le_refl _) _
  have hbx : (w.alloc O).heap[w.heap.size]? = some (.cells #[.string ⟨f.toArray⟩, .int .i64 op, .int .i64 form, .int .i64 lo, .int .i64 hi, .int .i64 len, .string ⟨pat.toArray⟩] 24) := by rw [hO]; exact alloc_get _ _
  have t0 : (w.alloc O).cell? ⟨w.heap.size, 0, none⟩ = some (.string ⟨f.toArray⟩) := cell_of_row _ _ 0 _ _ _ hbx
  have t1 : (w.alloc O).cell? ⟨w.heap.size, 1, none⟩ = some (.int .i64 op) := cell_of_row _ _ 1 _ _ _ hbx
  have t2 : (w.alloc O).cell? ⟨w.heap.size, 2, none⟩ = some (.int .i64 form) := cell_of_row _ _ 2 _ _ _ hbx
  have t3 : (w.alloc O).cell? ⟨w.heap.size, 3, none⟩ = some (.int .i64 lo) := cell_of_row _ _ 3 _ _ _ hbx
  have t4 : (w.alloc O).cell? ⟨w.heap.size, 4, none⟩ = some (.int .i64 hi) := cell_of_row _ _ 4 _ _ _ hbx
  have t5 : (w.alloc O).cell? ⟨w.heap.size, 5, none⟩ = some (.int .i64 len) := cell_of_row _ _ 5 _ _ _ hbx
  have t6 : (w.alloc O).cell? ⟨w.heap.size, 6, none⟩ = some (.string ⟨pat.toArray⟩) := cell_of_row _ _ 6 _ _ _ hbx
  clear hO hbx hM hD1 hD2 hp k1 k2 k3 k4 k5 k6 k7
  by_cases f4 : form = 4
  · rw [if_pos f4]
    subst f4
    go_enter Tryz.func82, Tryz.ntmps82
    go_wp2_with fail
    go_ret
    exact ⟨rfl, by first | exact hB1 | exact (Below.refl _ _).alloc (Nat.le_refl _) _⟩
  · rw [if_neg f4]
    have g4 : (form == 4) = false := by rw [beq_eq_false_iff_ne]; exact f4
    by_cases f2 : form = 2
    · rw [if_pos f2]
      subst f2
      go_enter Tryz.func82, Tryz.ntmps82
      go_wp2_with fail
      refine (d1 _).mono ?_
      rintro e W1 ⟨rfl, hb1⟩
      go_wp2_with fail
      go_ret
      exact ⟨rfl, bel0 (by first | exact hB1 | exact (Below.refl _ _).alloc (Nat.le_refl _) _) hb1⟩
    · rw [if_neg f2]
      have g2 : (form == 2) = false := by rw [beq_eq_false_iff_ne]; exact f2
      go_enter Tryz.func82, Tryz.ntmps82
      go_wp2_with fail
      refine (d2 _).mono ?_
      rintro e W1 ⟨rfl, hb1⟩
      go_wp2_with fail
      go_ret
      exact ⟨rfl, bel0 (by first | exact hB1 | exact (Below.refl _ _).alloc (Nat.le_refl _) _) hb1⟩
set_option maxRecDepth 100000 in
theorem prefixes_none (b lo hi : Int) (w : World) (h : hi < lo) : Calls Tryz.prog 80 #[.int .i64 b, .int .i64 lo, .int .i64 hi] w fun e w' => e = .returned (.slice none 0 0) ∧ w' = w := by
  have i1 : ¬ lo ≤ hi := by omega
  go_enter Tryz.func80, Tryz.ntmps80
  go_wp2_with fail
  go_loopw [1, 7] (fun va v wr => va = .int .i64 lo ∧ v = .slice none 0 0 ∧ wr = w) (fun _ _ _ => 0)
  case atStart => exact ⟨rfl, rfl, rfl⟩
  case round =>
    obtain ⟨rfl, rfl, rfl⟩ := hrel
    go_wp2_with fail
    go_ret
    exact ⟨rfl, rfl⟩
def covI (b : Nat) (lo hi : Int) : List (List UInt8) := if hi < lo then [] else cov b lo.toNat hi.toNat
def slR (w : World) (L : List (List UInt8)) (e : Ending) (w' : World) : Prop := ∃ v, e = .returned v ∧ w'.ownsRow w.heap.size 9 1 v L.length (stx L) ∧ Below w.heap.size w w'
theorem prefixesI_any (b : Nat) (lo hi : Int) (hb1 : 1 ≤ b) (hb : b ≤ 32) (h0 : 0 ≤ lo) (hh : hi < ((2 ^ b : Nat) : Int)) (w : World) (hdb : DB w) : Calls Tryz.prog 80 #[.int .i64 (b : Int), .int .i64 lo, .int .i64 hi] w fun e w' => slR w (covI b lo hi) e w' := by
  unfold covI
  by_cases h : hi < lo
  · rw [if_pos h]
    refine (prefixes_none b lo hi w h).mono ?_
    rintro e w' ⟨rfl, rfl⟩
    exact ⟨_, rfl, World.ownsRow_nil _ _ _ _, Below.refl _ _⟩
  · rw [if_neg h]
    obtain ⟨l, rfl⟩ : ∃ z : Nat, lo = z := ⟨lo.toNat, by omega⟩
    obtain ⟨k, rfl⟩ : ∃ z : Nat, hi = z := ⟨hi.toNat, by omega⟩
    rw [Int.toNat_natCast, Int.toNat_natCast]
    exact prefixes_any b l k hb1 hb (Int.ofNat_lt.1 hh) (by omega) w hdb
end Go.Proofs.YtepokgainceidaaGreatDoor
