import Derived.Test.YtealpmimffcpdaaGreatDoorRows
import Derived.WalkKit
import Derived.WalkSpells
import Derived.WalkLawsBesides
import Derived.Deep.QuietTactic
import Derived.BigQuiet
import Derived.Test.YtealpmimffcpdaaGreatDoorChecked
import Derived.Below
import Derived.OwnWalk
import Derived.Lib.TrailingZeros
import Derived.Lib.BitFns
import Derived.Test.YtealpmimffcpdaaGreatDoorZ1
import Derived.Laws.ShiftsVar
import Derived.Laws.ShiftsVarLaws
import Derived.Laws.BitsAllLaws
import Derived.Lib.ConvBytes
import Derived.Laws.IdiomStrings
import Derived.Laws.Rows
import Derived.Shelf.Strings.Repeat
import Derived.Shelf.Small.Bits
import Derived.Ground.NamesProg
import Derived.Test.YtealpmimffcpdaaGreatDoorProg
import Derived.Shelf.Spec.TrailingZeros
import Derived.Shelf.Lays7
import Derived.Laws.OwnMore
import Derived.Deep.AppendLies
import Derived.Lib.UnsafeStr
import Derived.Test.YtealpmimffcpdaaGreatDoorZ31
import Derived.Test.YtealpmimffcpdaaGreatDoorZ33
import Derived.Lib.LazyBuf
import Derived.Test.YtealpmimffcpdaaGreatDoorZ17
import Derived.Lib.OthersKept
namespace Go.Proofs.YtealpmimffcpdaaGreatDoor
open Go.RowKit

/-- the value of a cube: its width, the four words of its fixed places, the four words of its ones -/
def cv (n a b c d e f g h : Int) : Value := .agg #[.int .i64 n, .int .u64 a, .int .u64 b, .int .u64 c, .int .u64 d, .int .u64 e, .int .u64 f, .int .u64 g, .int .u64 h]

theorem bcell {W w1 : World} (hb : Below W.heap.size W w1) : (∀ b o, b < W.heap.size → w1.cell? ⟨b, o, none⟩ = W.cell? ⟨b, o, none⟩) ∧ (∀ b o, b < W.heap.size → w1.frozen? ⟨b, o, none⟩ = W.frozen? ⟨b, o, none⟩) :=
  ⟨fun b o h => hb.cell (p := ⟨b, o, none⟩) h, fun b o h => hb.frozen (p := ⟨b, o, none⟩) h⟩

theorem below_drewN (B n : Nat) (w : World) : Below B w (w.drewN n) := by
  induction n with
  | zero => exact Below.refl _ _
  | succ n ih => exact ⟨ih.os, ih.tape, ih.output, ih.size, ih.block⟩

set_option maxHeartbeats 400000 in
theorem all_yes (n : Int) (w : World) (h1 : 1 ≤ n) (h2 : n ≤ 256) :
    Calls Tryz.prog 39 #[.int .i64 n] w fun e w' => e = .returned (cv n 0 0 0 0 0 0 0 0) ∧ Below w.heap.size w w' := by
  go_enter Tryz.func39, Tryz.ntmps39
  go_wp2
  exact bodyPost_ret (v := cv n 0 0 0 0 0 0 0 0) (by simp [results, Tryz.results39, go_sem, cv]) rfl ⟨rfl, (Below.refl _ _).alloc (Nat.le_refl _) _⟩

set_option maxHeartbeats 400000 in
theorem all_no (n : Int) (w : World) (h : n < 1 ∨ 256 < n) :
    Calls Tryz.prog 39 #[.int .i64 n] w fun e w' => e = .returned (cv 0 0 0 0 0 0 0 0 0) ∧ Below w.heap.size w w' := by
  rcases h with h | h
  · go_enter Tryz.func39, Tryz.ntmps39
    go_wp2
    exact bodyPost_ret (v := cv 0 0 0 0 0 0 0 0 0) (by simp [results, Tryz.results39, go_sem, cv]) rfl ⟨rfl, (Below.refl _ _).alloc (Nat.le_refl _) _⟩
  · have h' : ¬ n < 1 := by omega
    go_enter Tryz.func39, Tryz.ntmps39
    go_wp2
    exact bodyPost_ret (v := cv 0 0 0 0 0 0 0 0 0) (by simp [results, Tryz.results39, go_sem, cv]) rfl ⟨rfl, (Below.refl _ _).alloc (Nat.le_refl _) _⟩

theorem wrap_pow (r : Nat) (h : r < 64) : IntKind.u64.wrap ((2 : Int) ^ r) = ((2 ^ r : Nat) : Int) := by
  rw [IntKind.wrap_u64]
  have h1 : 2 ^ r < 2 ^ 64 := Nat.pow_lt_pow_right (by omega) h
  have h2 : ((2 : Int) ^ r) = ((2 ^ r : Nat) : Int) := by simp
  rw [h2]; generalize 2 ^ r = x at h1 ⊢; omega

set_option maxHeartbeats 400000 in
theorem spot_raw (p : Int) (w : World) (h1 : 0 ≤ p) (h2 : p < 256) :
    Calls Tryz.prog 65 #[.int .i64 p] w fun e w' => e = .returned (.tuple #[.int .i64 (p / 64), .int .u64 ((2 ^ (p % 64).toNat : Nat) : Int)]) ∧ ∃ n, w' = w.drewN n := by
  have hm : 0 ≤ p % 64 ∧ p % 64 < 64 := by omega
  go_enter Tryz.func65, Tryz.ntmps65
  go_wp2
  go_quiet (fail)
  go_wp2
  go_ret2
  exact ⟨by rw [wrap_pow _ (by omega)]; rfl, _, rfl⟩

theorem spot_at (p : Int) (k r : Nat) (w : World) (hk : k < 4) (hr : r < 64) (hp : p = ((64 * k + r : Nat) : Int)) :
    Calls Tryz.prog 65 #[.int .i64 p] w fun e w' => e = .returned (.tuple #[.int .i64 k, .int .u64 ((2 ^ r : Nat) : Int)]) ∧ ∃ n, w' = w.drewN n := by
  refine (spot_raw p w (by omega) (by omega)).mono ?_
  rintro e w' ⟨rfl, h⟩
  have e1 : p / 64 = (k : Int) := by omega
  have e2 : (p % 64).toNat = r := by omega
  rw [e1, e2]
  exact ⟨rfl, h⟩

set_option maxHeartbeats 400000 in
theorem at_0 (n a b c d e f g h p : Int) (r : Nat) (w : World) (hr : r < 64) (hp : p = ((64 * 0 + r : Nat) : Int)) :
    Calls Tryz.prog 51 #[cv n a b c d e f g h, .int .i64 p] w fun e' w' => e' = .returned (.int .u8 (if (bits .and .u64 a ((2 ^ r : Nat) : Int) == 0) = true then 120 else if (bits .and .u64 e ((2 ^ r : Nat) : Int) == 0) = true then 48 else 49)) ∧ Below w.heap.size w w' := by
  have HP : Hid (p = ((64 * 0 + r : Nat) : Int)) := hp
  clear hp
  unfold cv
  generalize hX : (2 ^ r : Nat) = X
  have HX : Hid ((2 ^ r : Nat) = X) := hX
  clear hX
  go_enter Tryz.func51, Tryz.ntmps51
  go_wp2_with (go_at_call 65; refine (spot_at p 0 r _ (by decide) hr HP.out).mono ?_; rintro e w' ⟨rfl, nq, rfl⟩; rw [HX.out])
  all_goals go_ret
  all_goals exact ⟨by simp_all, ((Below.refl _ _).alloc (Nat.le_refl _) _).trans (below_drewN _ _ _)⟩

set_option maxHeartbeats 400000 in
theorem at_1 (n a b c d e f g h p : Int) (r : Nat) (w : World) (hr : r < 64) (hp : p = ((64 * 1 + r : Nat) : Int)) :
    Calls Tryz.prog 51 #[cv n a b c d e f g h, .int .i64 p] w fun e' w' => e' = .returned (.int .u8 (if (bits .and .u64 b ((2 ^ r : Nat) : Int) == 0) = true then 120 else if (bits .and .u64 f ((2 ^ r : Nat) : Int) == 0) = true then 48 else 49)) ∧ Below w.heap.size w w' := by
  have HP : Hid (p = ((64 * 1 + r : Nat) : Int)) := hp
  clear hp
  unfold cv
  generalize hX : (2 ^ r : Nat) = X
  have HX : Hid ((2 ^ r : Nat) = X) := hX
  clear hX
  go_enter Tryz.func51, Tryz.ntmps51
  go_wp2_with (go_at_call 65; refine (spot_at p 1 r _ (by decide) hr HP.out).mono ?_; rintro e w' ⟨rfl, nq, rfl⟩; rw [HX.out])
  all_goals go_ret
  all_goals exact ⟨by simp_all, ((Below.refl _ _).alloc (Nat.le_refl _) _).trans (below_drewN _ _ _)⟩

set_option maxHeartbeats 400000 in
theorem at_2 (n a b c d e f g h p : Int) (r : Nat) (w : World) (hr : r < 64) (hp : p = ((64 * 2 + r : Nat) : Int)) :
    Calls Tryz.prog 51 #[cv n a b c d e f g h, .int .i64 p] w fun e' w' => e' = .returned (.int .u8 (if (bits .and .u64 c ((2 ^ r : Nat) : Int) == 0) = true then 120 else if (bits .and .u64 g ((2 ^ r : Nat) : Int) == 0) = true then 48 else 49)) ∧ Below w.heap.size w w' := by
  have HP : Hid (p = ((64 * 2 + r : Nat) : Int)) := hp
  clear hp
  unfold cv
  generalize hX : (2 ^ r : Nat) = X
  have HX : Hid ((2 ^ r : Nat) = X) := hX
  clear hX
  go_enter Tryz.func51, Tryz.ntmps51
  go_wp2_with (go_at_call 65; refine (spot_at p 2 r _ (by decide) hr HP.out).mono ?_; rintro e w' ⟨rfl, nq, rfl⟩; rw [HX.out])
  all_goals go_ret
  all_goals exact ⟨by simp_all, ((Below.refl _ _).alloc (Nat.le_refl _) _).trans (below_drewN _ _ _)⟩

set_option maxHeartbeats 400000 in
theorem at_3 (n a b c d e f g h p : Int) (r : Nat) (w : World) (hr : r < 64) (hp : p = ((64 * 3 + r : Nat) : Int)) :
    Calls Tryz.prog 51 #[cv n a b c d e f g h, .int .i64 p] w fun e' w' => e' = .returned (.int .u8 (if (bits .and .u64 d ((2 ^ r : Nat) : Int) == 0) = true then 120 else if (bits .and .u64 h ((2 ^ r : Nat) : Int) == 0) = true then 48 else 49)) ∧ Below w.heap.size w w' := by
  have HP : Hid (p = ((64 * 3 + r : Nat) : Int)) := hp
  clear hp
  unfold cv
  generalize hX : (2 ^ r : Nat) = X
  have HX : Hid ((2 ^ r : Nat) = X) := hX
  clear hX
  go_enter Tryz.func51, Tryz.ntmps51
  go_wp2_with (go_at_call 65; refine (spot_at p 3 r _ (by decide) hr HP.out).mono ?_; rintro e w' ⟨rfl, nq, rfl⟩; rw [HX.out])
  all_goals go_ret
  all_goals exact ⟨by simp_all, ((Below.refl _ _).alloc (Nat.le_refl _) _).trans (below_drewN _ _ _)⟩
end Go.Proofs.YtealpmimffcpdaaGreatDoor
namespace Go.Proofs.YtealpmimffcpdaaGreatDoor
open Go.RowKit
/-! The fewest prefixes of a range: the greedy list is that of the halves. -/
theorem bitLen_spec (n : Nat) : 0 < n → n < 2 ^ 64 → 2 ^ Lib.bitLen n ≤ 2 * n ∧ n < 2 ^ Lib.bitLen n := by
  induction n using Nat.strongRecOn with
  | ind n ih =>
  intro h0 h
  rw [Lib.bitLen_half n (by omega) h]
  by_cases h1 : n = 1
  · subst h1
    decide
  · obtain ⟨a, b⟩ := ih (n / 2) (by omega) (by omega) (by omega)
    rw [Nat.add_comm 1, Nat.pow_succ]
    omega
/-- the last zeros of a value -/
abbrev cz (a : Nat) : Nat := Lib.ctz 64 a
/-- how far a count reaches -/
abbrev lg (n : Nat) : Nat := Lib.bitLen n - 1
theorem lg_le {n k : Nat} (h0 : 0 < n) (h : n < 2 ^ 64) (hk : 2 ^ k ≤ n) : k ≤ lg n := by
  obtain ⟨_, b⟩ := bitLen_spec n h0 h
  have : k < Lib.bitLen n := (Nat.pow_lt_pow_iff_right (by decide)).1 (Nat.lt_of_le_of_lt hk b)
  show k ≤ Lib.bitLen n - 1
  omega
theorem lg_pow {n : Nat} (h0 : 0 < n) (h : n < 2 ^ 64) : 2 ^ lg n ≤ n := by
  obtain ⟨a, b⟩ := bitLen_spec n h0 h
  have h1 : Lib.bitLen n ≠ 0 := fun e => by rw [e] at b; simp at b; omega
  obtain ⟨m, hm⟩ : ∃ m, Lib.bitLen n = m + 1 := ⟨Lib.bitLen n - 1, by omega⟩
  show 2 ^ (Lib.bitLen n - 1) ≤ n
  rw [hm, Nat.pow_succ] at a
  rw [hm]
  simp only [Nat.add_sub_cancel]
  omega
theorem cz_dvd {a : Nat} (h0 : a ≠ 0) (h : a < 2 ^ 64) : 2 ^ cz a ∣ a := by
  obtain ⟨m, hm, _⟩ := Lib.ctzFrom_spec 64 a (by omega) h
  have e : cz a = Lib.ctzFrom 64 a := if_neg h0
  rw [e]
  exact ⟨_, hm⟩
theorem cz_lt {a k : Nat} (h0 : a ≠ 0) (h : a < 2 ^ 64) (hk : ¬ 2 ^ k ∣ a) : cz a < k := by
  refine Classical.byContradiction (fun hn => hk ?_)
  exact Nat.dvd_trans (Nat.pow_dvd_pow 2 (by omega)) (cz_dvd h0 h)
theorem cz_ge {a k : Nat} (h : a < 2 ^ 64) (hk : 2 ^ k ∣ a) (hk6 : k ≤ 64) : k ≤ cz a := by
  by_cases h0 : a = 0
  · subst h0
    exact hk6
  · obtain ⟨m, hm, _⟩ := Lib.ctzFrom_spec 64 a (by omega) h
    have e : cz a = Lib.ctzFrom 64 a := if_neg h0
    rw [e]
    refine Classical.byContradiction (fun hn => ?_)
    obtain ⟨d, hd⟩ : ∃ d, k = Lib.ctzFrom 64 a + (d + 1) := ⟨k - Lib.ctzFrom 64 a - 1, by omega⟩
    obtain ⟨q, hq⟩ := hk
    rw [hd, Nat.pow_add, Nat.mul_assoc] at hq
    have hp : 0 < 2 ^ Lib.ctzFrom 64 a := Nat.pow_pos (by decide)
    have h1 : 2 * m + 1 = 2 ^ (d + 1) * q := Nat.eq_of_mul_eq_mul_left hp (hm.symm.trans hq)
    rw [Nat.pow_succ, Nat.mul_assoc] at h1
    have h2 : 2 ^ d * (2 * q) = 2 * (2 ^ d * q) := Nat.mul_left_comm _ _ _
    omega
/-- how many places the next prefix leaves free -/
def fre (a e : Nat) : Nat := min (cz a) (lg (e - a + 1))
theorem fre_le {a e : Nat} (h : a ≤ e) (he : e < 2 ^ 63) : 2 ^ fre a e ≤ e - a + 1 :=
  Nat.le_trans (Nat.pow_le_pow_right (by decide) (Nat.min_le_right _ _)) (lg_pow (by omega) (by omega))
/-- the prefixes, greedily -/
def gr (a e : Nat) : List (Nat × Nat) := if a ≤ e then (a, fre a e) :: gr (a + 2 ^ fre a e) e else []
termination_by e + 1 - a
decreasing_by
  have : 0 < 2 ^ fre a e := Nat.pow_pos (by decide)
  omega
theorem gr_le {a e : Nat} (h : a ≤ e) : gr a e = (a, fre a e) :: gr (a + 2 ^ fre a e) e := by rw [gr, if_pos h]
theorem gr_end {a e : Nat} (h : ¬ a ≤ e) : gr a e = [] := by rw [gr, if_neg h]
theorem next_le {a b f : Nat} (ha : 2 ^ f ∣ a) (hb : 2 ^ f ∣ b) (h : a < b) : a + 2 ^ f ≤ b := by
  obtain ⟨x, rfl⟩ := ha
  obtain ⟨y, rfl⟩ := hb
  have hxy : x < y := Nat.lt_of_mul_lt_mul_left h
  have := Nat.mul_le_mul_left (2 ^ f) (show x + 1 ≤ y from hxy)
  rw [Nat.mul_add, Nat.mul_one] at this
  exact this
theorem not_dvd {b a w : Nat} (hb : 2 ^ w ∣ b) (h1 : b < a) (h2 : a < b + 2 ^ w) : ¬ 2 ^ w ∣ a := fun h => by
  have := next_le hb h h1
  omega
theorem fre_in {b a w m e : Nat} (hb : 2 ^ w ∣ b) (h1 : b < a) (h2 : a < m) (hm : m = b + 2 ^ w) (hme : m ≤ e + 1) (he : e < 2 ^ 63) : fre a e = cz a := by
  have hlt := cz_lt (a := a) (k := w) (by omega) (by omega) (not_dvd hb h1 (by omega))
  have hd := cz_dvd (a := a) (by omega) (by omega)
  have hdm : 2 ^ cz a ∣ m := by
    rw [hm]
    exact Nat.dvd_add (Nat.dvd_trans (Nat.pow_dvd_pow 2 (by omega)) hb) (Nat.pow_dvd_pow 2 (by omega))
  have hn := next_le hd hdm h2
  have hl := lg_le (n := e - a + 1) (k := cz a) (by omega) (by omega) (by omega)
  unfold fre
  omega
theorem gr_split_in {b w m e : Nat} (hb : 2 ^ w ∣ b) (hm : m = b + 2 ^ w) (hme : m ≤ e + 1) (he : e < 2 ^ 63) : ∀ (n a : Nat), m - a ≤ n → b < a → a ≤ m → gr a e = gr a (m - 1) ++ gr m e := by
  intro n
  induction n with
  | zero =>
    intro a hn h1 h2
    obtain rfl : a = m := by omega
    rw [gr_end (a := a) (e := a - 1) (by omega)]
    rfl
  | succ n ih =>
    intro a hn h1 h2
    by_cases ham : a = m
    · subst ham
      rw [gr_end (a := a) (e := a - 1) (by omega)]
      rfl
    · have f1 := fre_in hb h1 (by omega) hm hme he
      have f2 := fre_in (e := m - 1) hb h1 (by omega) hm (by omega) (by omega)
      have hp : 0 < 2 ^ cz a := Nat.pow_pos (by decide)
      have hle := fre_le (a := a) (e := m - 1) (by omega) (by omega)
      rw [f2] at hle
      rw [gr_le (a := a) (e := e) (by omega), gr_le (a := a) (e := m - 1) (by omega), f1, f2, ih (a + 2 ^ cz a) (by omega) (by omega) (by omega)]
      rfl
theorem fre_full {b w : Nat} (hb : 2 ^ w ∣ b) (hw : w ≤ 32) (h : b < 2 ^ 62) : fre b (b + 2 ^ w - 1) = w := by
  have hp : 0 < 2 ^ w := Nat.pow_pos (by decide)
  have hp2 : 2 ^ w ≤ 2 ^ 32 := Nat.pow_le_pow_right (by decide) hw
  have e : b + 2 ^ w - 1 - b + 1 = 2 ^ w := by omega
  have h1 := cz_ge (a := b) (k := w) (by omega) hb (by omega)
  have h2 := lg_le (n := 2 ^ w) (k := w) hp (by omega) (Nat.le_refl _)
  have h3 := lg_pow (n := 2 ^ w) hp (by omega)
  have h4 : lg (2 ^ w) ≤ w := (Nat.pow_le_pow_iff_right (by decide)).1 h3
  unfold fre
  rw [e]
  omega
theorem gr_full {b w : Nat} (hb : 2 ^ w ∣ b) (hw : w ≤ 32) (h : b < 2 ^ 62) : gr b (b + 2 ^ w - 1) = [(b, w)] := by
  have hp : 0 < 2 ^ w := Nat.pow_pos (by decide)
  rw [gr_le (by omega), fre_full hb hw h, gr_end (by omega)]
theorem gr_split {b w a e : Nat} (hb : 2 ^ (w + 1) ∣ b) (hw : w < 32) (hb2 : b < 2 ^ 62) (h1 : b ≤ a) (h2 : a < b + 2 ^ w) (h3 : b + 2 ^ w ≤ e) (h4 : e < b + 2 ^ (w + 1)) (hn : ¬ (a = b ∧ e = b + 2 ^ (w + 1) - 1)) : gr a e = gr a (b + 2 ^ w - 1) ++ gr (b + 2 ^ w) e := by
  have hbw : 2 ^ w ∣ b := Nat.dvd_trans (Nat.pow_dvd_pow 2 (by omega)) hb
  have hp : 0 < 2 ^ w := Nat.pow_pos (by decide)
  have hp2 : 2 ^ w ≤ 2 ^ 32 := Nat.pow_le_pow_right (by decide) (by omega)
  rw [Nat.pow_succ] at h4 hn
  by_cases hab : a = b
  · subst hab
    have h5 : e - a + 1 < 2 ^ (w + 1) := by rw [Nat.pow_succ]; omega
    have f1 : fre a e = w := by
      have c1 := cz_ge (a := a) (k := w) (by omega) hbw (by omega)
      have c2 := lg_le (n := e - a + 1) (k := w) (by omega) (by omega) (by omega)
      have c3 := lg_pow (n := e - a + 1) (by omega) (by omega)
      have c4 : lg (e - a + 1) < w + 1 := (Nat.pow_lt_pow_iff_right (a := 2) (by decide)).1 (by omega)
      unfold fre
      omega
    rw [gr_full hbw (by omega) hb2, gr_le (a := a) (e := e) (by omega), f1]
    rfl
  · exact gr_split_in hbw rfl (by omega) (by omega) _ a (Nat.le_refl _) (by omega) (by omega)
/-- the prefixes, by halves -/
def hv : Nat → Nat → Nat → Nat → List (Nat × Nat)
  | 0, b, lo, hi => if lo ≤ b ∧ b + 2 ^ 0 - 1 ≤ hi then [(b, 0)] else []
  | w + 1, b, lo, hi => if lo ≤ b ∧ b + 2 ^ (w + 1) - 1 ≤ hi then [(b, w + 1)] else if hi < b ∨ b + 2 ^ (w + 1) - 1 < lo then [] else hv w b lo hi ++ hv w (b + 2 ^ w) lo hi
theorem hv_gr (lo hi : Nat) (hl : lo ≤ hi) : ∀ (w b : Nat), w ≤ 32 → 2 ^ w ∣ b → b + 2 ^ w ≤ 2 ^ 33 → hv w b lo hi = if max lo b ≤ min hi (b + 2 ^ w - 1) then gr (max lo b) (min hi (b + 2 ^ w - 1)) else [] := by
  intro w
  induction w with
  | zero =>
    intro b hw hd hb
    rw [hv]
    by_cases h : lo ≤ b ∧ b + 2 ^ 0 - 1 ≤ hi
    · rw [if_pos h, if_pos (by omega), Nat.max_eq_right h.1, Nat.min_eq_right h.2, gr_full hd hw (by omega)]
    · rw [if_neg h, if_neg (by omega)]
  | succ w ih =>
    intro b hw hd hb
    have hp : 0 < 2 ^ w := Nat.pow_pos (by decide)
    have hps : 2 ^ (w + 1) = 2 ^ w * 2 := Nat.pow_succ 2 w
    have hdw : 2 ^ w ∣ b := Nat.dvd_trans (Nat.pow_dvd_pow 2 (by omega)) hd
    rw [hv]
    by_cases h : lo ≤ b ∧ b + 2 ^ (w + 1) - 1 ≤ hi
    · rw [if_pos h, if_pos (by omega), Nat.max_eq_right h.1, Nat.min_eq_right h.2, gr_full hd hw (by omega)]
    · rw [if_neg h]
      by_cases h2 : hi < b ∨ b + 2 ^ (w + 1) - 1 < lo
      · rw [if_pos h2, if_neg (by omega)]
      · rw [if_neg h2, ih b (by omega) hdw (by omega), ih (b + 2 ^ w) (by omega) (Nat.dvd_add hdw (Nat.dvd_refl _)) (by omega), if_pos (show max lo b ≤ min hi (b + 2 ^ (w + 1) - 1) by omega)]
        have e1 : b + 2 ^ w + 2 ^ w - 1 = b + 2 ^ (w + 1) - 1 := by omega
        rw [e1]
        by_cases g1 : hi < b + 2 ^ w
        · rw [if_pos (by omega), if_neg (by omega), List.append_nil, Nat.min_eq_left (show hi ≤ b + 2 ^ w - 1 by omega), Nat.min_eq_left (show hi ≤ b + 2 ^ (w + 1) - 1 by omega)]
        · by_cases g2 : b + 2 ^ w ≤ lo
          · rw [if_neg (by omega), if_pos (by omega), List.nil_append, Nat.max_eq_left g2, Nat.max_eq_left (show b ≤ lo by omega)]
          · rw [if_pos (by omega), if_pos (by omega), Nat.min_eq_right (show b + 2 ^ w - 1 ≤ hi by omega), Nat.max_eq_right (show lo ≤ b + 2 ^ w by omega)]
            exact (gr_split hd (by omega) (by omega) (by omega) (by omega) (by omega) (by omega) (by omega)).symm
/-- of all values -/
theorem hv_all (w lo hi : Nat) (hw : w ≤ 32) (hl : lo ≤ hi) (hh : hi < 2 ^ w) : hv w 0 lo hi = gr lo hi := by
  have hp : 2 ^ w ≤ 2 ^ 32 := Nat.pow_le_pow_right (by decide) hw
  rw [hv_gr lo hi hl w 0 hw (Nat.dvd_zero _) (by omega), if_pos (by omega), Nat.max_eq_left (by omega), Nat.min_eq_left (by omega)]
end Go.Proofs.YtealpmimffcpdaaGreatDoor
namespace Go.Proofs.YtealpmimffcpdaaGreatDoor
open Go.RowKit
theorem pow_cast (b : Nat) : (2 : Int) ^ b = ((2 ^ b : Nat) : Int) := by simp
theorem w64 {x : Int} (h0 : -9223372036854775808 ≤ x) (h1 : x ≤ 9223372036854775807) : wrap64 x = x := by unfold wrap64; omega
set_option maxRecDepth 100000 in
theorem greatest_any (b : Nat) (hb : b ≤ 32) (w : World) :
    Calls Tryz.prog 47 #[.int .i64 (b : Int)] w fun e w' => e = .returned (.int .i64 ((2 ^ b - 1 : Nat) : Int)) ∧ w' = w := by
  have hp : 2 ^ b ≤ 2 ^ 32 := Nat.pow_le_pow_right (by decide) hb
  have hp0 : 0 < 2 ^ b := Nat.pow_pos (by decide)
  go_enter Tryz.func47, Tryz.ntmps47
  go_wp2_with fail
  go_ret
  refine ⟨?_, rfl⟩
  have e1 : wrap64 (2 ^ b) = ((2 ^ b : Nat) : Int) := by rw [pow_cast]; exact w64 (by omega) (by omega)
  have e2 : wrap64 (wrap64 (2 ^ b) - 1) = ((2 ^ b - 1 : Nat) : Int) := by rw [e1, w64 (by omega) (by omega)]; omega
  exact congrArg (fun z => Ending.returned (Value.int .i64 z)) e2
set_option maxRecDepth 100000 in
theorem fits_any (v : Int) (b : Nat) (hb : b ≤ 32) (w : World) :
    Calls Tryz.prog 28 #[.int .i64 v, .int .i64 (b : Int)] w fun e w' => e = .returned (.bool (decide (0 ≤ v ∧ v ≤ ((2 ^ b - 1 : Nat) : Int)))) ∧ w' = w := by
  have HG := fun W => greatest_any b hb W
  obtain ⟨g, hg⟩ : ∃ g : Nat, 2 ^ b - 1 = g := ⟨_, rfl⟩
  rw [hg] at HG ⊢
  clear hg
  by_cases h0 : 0 ≤ v
  · by_cases h1 : v ≤ (g : Int)
    · rw [decide_eq_true ⟨h0, h1⟩]
      go_enter Tryz.func28, Tryz.ntmps28
      go_wp2_with fail
      refine (HG _).mono ?_
      rintro e w1 ⟨rfl, rfl⟩
      go_wp2_with fail
      go_ret
      exact ⟨rfl, rfl⟩
    · rw [decide_eq_false (fun h => h1 h.2)]
      go_enter Tryz.func28, Tryz.ntmps28
      go_wp2_with fail
      refine (HG _).mono ?_
      rintro e w1 ⟨rfl, rfl⟩
      have hd : Hid (decide (v ≤ (g : Int)) = false) := decide_eq_false (by omega)
      go_wp2_with fail
      go_ret
      exact ⟨by first | rfl | (rw [hd.out]; rfl), rfl⟩
  · rw [decide_eq_false (fun h => h0 h.1)]
    go_enter Tryz.func28, Tryz.ntmps28
    go_wp2_with fail
    go_ret
    exact ⟨rfl, rfl⟩
end Go.Proofs.YtealpmimffcpdaaGreatDoor
namespace Go.Proofs.YtealpmimffcpdaaGreatDoor
open Go.RowKit
def bys (t : List UInt8) : List Value := t.map fun b => .int .u8 (b.toNat : Int)
theorem set_get {W : World} {b j T : Nat} {m : Nat × Nat} {cs : Array Value} (v : Value) (h : W.heap[b]? = some (.cells cs T m)) : (W.setCell ⟨b, j, none⟩ v).heap[b]? = some (.cells (cs.setIfInBounds j v) T m) := by
  simp only [World.setCell, Array.getElem?_modify, if_pos, h, Option.map_some]
  simp

def hdr (W : World) (gh : Nat) (z : List Value) (h : List UInt8) : Prop := W.heap[gh]? = some (.cells (bys h ++ z).toArray 5 (h.length + z.length, h.length + z.length + 1))
theorem bys_len (h : List UInt8) : (bys h).length = h.length := by simp [bys]
theorem hdr_cell {W : World} {gh j : Nat} {z : List Value} {h : List UInt8} (hh : hdr W gh z h) (hj : j < h.length) : W.cell? ⟨gh, j, none⟩ = some (.int .u8 (h[j].toNat : Int)) := by
  unfold hdr at hh
  rw [cell_of_row W gh j _ _ _ hh]
  simp [bys, List.getElem?_append_left, hj]
theorem hdr_frozen {W : World} {gh j : Nat} {z : List Value} {h : List UInt8} (hh : hdr W gh z h) (hj : j < h.length) : W.frozen? ⟨gh, j, none⟩ = false := by
  unfold hdr at hh
  simp [World.frozen?, hh]
  omega
theorem hdr_set {W : World} {gh p : Nat} {z : List Value} {h : List UInt8} (x : UInt8) (hh : hdr W gh z h) (hp : p < h.length) : hdr (W.setCell ⟨gh, p, none⟩ (.int .u8 (x.toNat : Int))) gh z (h.set p x) := by
  have e : (bys h ++ z).toArray.setIfInBounds p (.int .u8 (x.toNat : Int)) = (bys (h.set p x) ++ z).toArray := by
    have := List.set_append_left (s := bys h) (t := z) (i := p) (x := Value.int .u8 (x.toNat : Int)) (by rw [bys_len]; exact hp)
    rw [List.setIfInBounds_toArray, this]
    simp [bys, List.map_set]
  have := set_get (j := p) (.int .u8 (x.toNat : Int)) hh
  rw [e] at this
  unfold hdr
  simpa using this
theorem hdr_grow {W W' : World} {gh : Nat} {row : Option Nat} {z : List Value} {h : List UInt8} (hh : hdr W gh z h) (hg : W.grownBy W' row) (hne : some gh ≠ row) : hdr W' gh z h := (hg.block gh (lt_of_get hh) hne).trans hh
theorem hdr_alloc {W : World} {gh : Nat} {z : List Value} {h : List UInt8} (hh : hdr W gh z h) (o : Obj) : hdr (W.alloc o) gh z h := allocblk hh o
theorem hdr_new (w : World) (t : List UInt8) : hdr (Lib.bytesWorld w 5 ⟨t.toArray⟩) w.heap.size (List.replicate (grownCap w t.length 0 5 - t.length) (Value.int .u8 0)) t := by
  have h := Lib.bytesWorld_at_new w 5 ⟨t.toArray⟩
  have hz : (⟨t.toArray⟩ : ByteArray).size = t.length := by show t.toArray.size = _; simp
  have e : Lib.bytesCells w 5 ⟨t.toArray⟩ = (bys t ++ List.replicate (grownCap w t.length 0 5 - t.length) (Value.int .u8 0)).toArray := by
    unfold Lib.bytesCells
    rw [hz]
    simp [bys]
  unfold hdr
  rw [h, e]
  simp [bys_len]
theorem bel_bytes (w : World) (s : ByteArray) : Below w.heap.size w (Lib.bytesWorld w 5 s) := by
  have hb0 := ((Below.refl w.heap.size w).drew).alloc (Nat.le_refl _) (.cells (Lib.bytesCells w 5 s) 5)
  refine ⟨?_, ?_, ?_, ?_, fun k hk => Lib.bytesWorld_at_old w 5 s k hk⟩
  · simp only [Lib.bytesWorld, World.freeze]; exact hb0.os
  · simp only [Lib.bytesWorld, World.freeze]; exact hb0.tape
  · simp only [Lib.bytesWorld, World.freeze]; exact hb0.output
  · rw [Lib.bytesWorld_size]; omega

end Go.Proofs.YtealpmimffcpdaaGreatDoor
namespace Go.Proofs
open Go.Shelf
def Tryz.l105_ren : Go.Shelf.Ren := ⟨fun | 105 => 46 | 212 => 56 | 99 => 57 | 165 => 58 | 166 => 59 | 170 => 60 | 169 => 61 | 263 => 70 | 264 => 71 | 206 => 72 | 240 => 73 | 241 => 74 | 276 => 86 | 277 => 87 | n => n, fun | 9 => 9 | 3 => 3 | 4 => 4 | 20 => 20 | 0 => 0 | 46 => 91 | 109 => 98 | 5 => 5 | 72 => 103 | 76 => 107 | 51 => 118 | 146 => 119 | 53 => 73 | 148 => 121 | 70 => 101 | 37 => 59 | 75 => 106 | 127 => 123 | 164 => 130 | 80 => 110 | n => n, fun | n => n⟩
theorem Tryz.l105 : Go.Proofs.Lays.n105 Tryz.prog Tryz.l105_ren := {
  mixed := by kernel_rfl
  f99 := Tryz.func57.trans (congrArg some (by kernel_rfl))
  f105 := Tryz.func46.trans (congrArg some (by kernel_rfl))
  f165 := Tryz.func58.trans (congrArg some (by kernel_rfl))
  f166 := Tryz.func59.trans (congrArg some (by kernel_rfl))
  f169 := Tryz.func61.trans (congrArg some (by kernel_rfl))
  f170 := Tryz.func60.trans (congrArg some (by kernel_rfl))
  f206 := Tryz.func72.trans (congrArg some (by kernel_rfl))
  f212 := Tryz.func56.trans (congrArg some (by kernel_rfl))
  f240 := Tryz.func73.trans (congrArg some (by kernel_rfl))
  f241 := Tryz.func74.trans (congrArg some (by kernel_rfl))
  f263 := Tryz.func70.trans (congrArg some (by kernel_rfl))
  f264 := Tryz.func71.trans (congrArg some (by kernel_rfl))
  f276 := Tryz.func86.trans (congrArg some (by kernel_rfl))
  f277 := Tryz.func87.trans (congrArg some (by kernel_rfl))
  t0 := Tryz.underlying0
  a0 := Tryz.isAgg0
  z0 := Tryz.sizeOf0
  v0 := Tryz.zeroValue0
  t3 := Tryz.underlying3
  a3 := Tryz.isAgg3
  z3 := Tryz.sizeOf3
  v3 := Tryz.zeroValue3
  t4 := Tryz.underlying4
  a4 := Tryz.isAgg4
  z4 := Tryz.sizeOf4
  v4 := Tryz.zeroValue4
  t5 := Tryz.underlying5
  a5 := Tryz.isAgg5
  z5 := Tryz.sizeOf5
  v5 := Tryz.zeroValue5
  t9 := Tryz.underlying9
  a9 := Tryz.isAgg9
  z9 := Tryz.sizeOf9
  v9 := Tryz.zeroValue9
  t20 := Tryz.underlying20
  a20 := Tryz.isAgg20
  z20 := Tryz.sizeOf20
  v20 := Tryz.zeroValue20
  t37 := Tryz.underlying59
  a37 := Tryz.isAgg59
  z37 := Tryz.sizeOf59
  v37 := Tryz.zeroValue59
  t46 := Tryz.underlying91
  a46 := Tryz.isAgg91
  z46 := Tryz.sizeOf91
  v46 := Tryz.zeroValue91
  t51 := Tryz.underlying118
  a51 := Tryz.isAgg118
  z51 := Tryz.sizeOf118
  v51 := Tryz.zeroValue118
  t53 := Tryz.underlying73
  a53 := Tryz.isAgg73
  z53 := Tryz.sizeOf73
  v53 := Tryz.zeroValue73
  t70 := Tryz.underlying101
  a70 := Tryz.isAgg101
  z70 := Tryz.sizeOf101
  v70 := Tryz.zeroValue101
  t72 := Tryz.underlying103
  a72 := Tryz.isAgg103
  z72 := Tryz.sizeOf103
  v72 := Tryz.zeroValue103
  t75 := Tryz.underlying106
  a75 := Tryz.isAgg106
  z75 := Tryz.sizeOf106
  v75 := Tryz.zeroValue106
  t76 := Tryz.underlying107
  a76 := Tryz.isAgg107
  z76 := Tryz.sizeOf107
  v76 := Tryz.zeroValue107
  t109 := Tryz.underlying98
  a109 := Tryz.isAgg98
  z109 := Tryz.sizeOf98
  v109 := Tryz.zeroValue98
  t127 := Tryz.underlying123
  a127 := Tryz.isAgg123
  z127 := Tryz.sizeOf123
  v127 := Tryz.zeroValue123
  t146 := Tryz.underlying119
  a146 := Tryz.isAgg119
  z146 := Tryz.sizeOf119
  v146 := Tryz.zeroValue119
  t148 := Tryz.underlying121
  a148 := Tryz.isAgg121
  z148 := Tryz.sizeOf121
  v148 := Tryz.zeroValue121
  t164 := Tryz.underlying130
  a164 := Tryz.isAgg130
  z164 := Tryz.sizeOf130
  v164 := Tryz.zeroValue130 }
def Tryz.l125_ren : Go.Shelf.Ren := ⟨fun | 125 => 63 | 128 => 77 | 129 => 78 | n => n, fun | 46 => 91 | 3 => 3 | 51 => 118 | 53 => 73 | 4 => 4 | 5 => 5 | 9 => 9 | n => n, fun | n => n⟩
theorem Tryz.l125 : Go.Proofs.Lays.n125 Tryz.prog Tryz.l125_ren := {
  mixed := by kernel_rfl
  f125 := Tryz.func63.trans (congrArg some (by kernel_rfl))
  f128 := Tryz.func77.trans (congrArg some (by kernel_rfl))
  f129 := Tryz.func78.trans (congrArg some (by kernel_rfl))
  t3 := Tryz.underlying3
  a3 := Tryz.isAgg3
  z3 := Tryz.sizeOf3
  v3 := Tryz.zeroValue3
  t4 := Tryz.underlying4
  a4 := Tryz.isAgg4
  z4 := Tryz.sizeOf4
  v4 := Tryz.zeroValue4
  t5 := Tryz.underlying5
  a5 := Tryz.isAgg5
  z5 := Tryz.sizeOf5
  v5 := Tryz.zeroValue5
  t9 := Tryz.underlying9
  a9 := Tryz.isAgg9
  z9 := Tryz.sizeOf9
  v9 := Tryz.zeroValue9
  t46 := Tryz.underlying91
  a46 := Tryz.isAgg91
  z46 := Tryz.sizeOf91
  v46 := Tryz.zeroValue91
  t51 := Tryz.underlying118
  a51 := Tryz.isAgg118
  z51 := Tryz.sizeOf118
  v51 := Tryz.zeroValue118
  t53 := Tryz.underlying73
  a53 := Tryz.isAgg73
  z53 := Tryz.sizeOf73
  v53 := Tryz.zeroValue73 }
end Go.Proofs
namespace Go.Proofs.YtealpmimffcpdaaGreatDoor
open Go.RowKit Go.Shelf
theorem bextra : Builder.Extra Tryz.prog Tryz.l105_ren where
  sizeBuilder := by kernel_rfl
  liesBuilder := by kernel_rfl
  t5 := Tryz.underlying5
  a5 := Tryz.isAgg5
  z5 := Tryz.sizeOf5
  v5 := Tryz.zeroValue5
  infoByte := by kernel_rfl
  cellsByte := by kernel_rfl
  sizeByte := by kernel_rfl
  neB5 := by decide
theorem repeatL_one (c : Nat) : Lib.repeatL [120] c = List.replicate c 120 := by
  induction c with
  | zero => rfl
  | succ c ih => rw [Lib.repeatL, ih]; rfl
theorem repeat_any (c : Nat) (hc : c ≤ 256) (w : World) : Calls Tryz.prog 46 #[.string ⟨#[120]⟩, .int .i64 (c : Int)] w fun e w' => e = .returned (.string ⟨(List.replicate c 120).toArray⟩) ∧ Below w.heap.size w w' := by
  have h := Any.strings_Repeat Tryz.l105 bextra ⟨#[120]⟩ c w (by omega) (by show 1 * c ≤ _; omega)
  rw [repeatL_one] at h
  exact h
/-- the digit of a value at a place -/
def bitB (b v p : Nat) : UInt8 := UInt8.ofNat (48 + v / 2 ^ (b - 1 - p) % 2)
/-- the text of a prefix -/
def digL (b v f : Nat) : List UInt8 := (List.range (b - f)).map (bitB b v) ++ List.replicate f 120
theorem digL_len (b v f : Nat) (h : f ≤ b) : (digL b v f).length = b := by simp [digL]; omega
theorem digL_get (b v f : Nat) (h : f ≤ b) (j : Nat) (hj : j < b) : (digL b v f)[j]? = some (if j < b - f then bitB b v j else 120) := by
  unfold digL
  by_cases h1 : j < b - f
  · rw [if_pos h1, List.getElem?_append_left (by simp; exact h1)]
    simp [h1]
  · rw [if_neg h1, List.getElem?_append_right (by simp; omega)]
    simp
    have : j - (b - f) < f := by omega
    simp [this]
theorem and1 (m : Nat) (hm : m < 8589934592) : bits .and .i64 (m : Int) 1 = ((m % 2 : Nat) : Int) := by
  have a1 : (BitVec.ofInt 64 (m : Int)).toNat = m := by
    rw [BitVec.ofInt_natCast, BitVec.toNat_ofNat]; exact Nat.mod_eq_of_lt (by omega)
  have a2 : (BitVec.ofInt 64 (1 : Int)).toNat = 1 := by decide
  have a3 : m &&& 1 = m % 2 := Nat.and_two_pow_sub_one_eq_mod m 1
  show IntKind.i64.wrap ((BitVec.ofInt 64 (m : Int) &&& BitVec.ofInt 64 (1 : Int)).toNat : Int) = _
  rw [BitVec.toNat_and, a1, a2, a3, IntKind.wrap_i64]
  omega
theorem div_cast (v k : Nat) : (v : Int) / 2 ^ k = ((v / 2 ^ k : Nat) : Int) := by rw [pow_cast]; simp
theorem bit_val (b v p : Nat) (hv : v < 8589934592) : (48 + bits .and .i64 ((v : Int) / 2 ^ (b - 1 - p)) 1) % 256 = ((bitB b v p).toNat : Int) := by
  have hd : v / 2 ^ (b - 1 - p) ≤ v := Nat.div_le_self _ _
  rw [div_cast, and1 _ (by omega)]
  unfold bitB
  rw [UInt8.toNat_ofNat']
  omega
/-- half written -/
def dgp (b v p : Nat) : List UInt8 := (List.range p).map (bitB b v) ++ List.replicate (b - p) 120
theorem dgp_len (b v p : Nat) (h : p ≤ b) : (dgp b v p).length = b := by simp [dgp]; omega
theorem dgp_succ (b v p : Nat) (h : p < b) : (dgp b v p).set p (bitB b v p) = dgp b v (p + 1) := by
  unfold dgp
  obtain ⟨r, hr⟩ : ∃ r, b - p = r + 1 := ⟨b - p - 1, by omega⟩
  have hr2 : b - (p + 1) = r := by omega
  rw [hr, hr2, List.range_succ, List.map_append, List.replicate_succ, List.set_append_right _ _ (by simp)]
  simp
theorem dgp_all (b v f : Nat) (h : f ≤ b) : dgp b v (b - f) = digL b v f := by
  unfold dgp digL
  rw [show b - (b - f) = f by omega]
set_option maxRecDepth 100000 in
set_option maxHeartbeats 1000000 in
theorem digits_any (b v f : Nat) (hb1 : 1 ≤ b) (hb : b ≤ 32) (hf : f ≤ b) (hv : v < 8589934592) (w : World) :
    Calls Tryz.prog 30 #[.int .i64 (b : Int), .int .i64 (v : Int), .int .i64 (f : Int)] w fun e w' => e = .returned (.string ⟨(digL b v f).toArray⟩) ∧ Below w.heap.size w w' := by
  have HR := fun W => repeat_any b (by omega) W
  have e0 : IntKind.i64.wrap ((b : Int) - (f : Int)) = ((b - f : Nat) : Int) := by rw [IntKind.wrap_i64]; omega
  have hcv := fun W => Lib.run_convert_string_bytes (P := Tryz.prog) W 9 59 5 ⟨(List.replicate b 120).toArray⟩ Tryz.underlying9 Tryz.underlying59 Tryz.underlying5
  obtain ⟨T, hT⟩ : ∃ T : List UInt8, List.replicate b 120 = T := ⟨_, rfl⟩
  have hTl : T.length = b := by rw [← hT]; simp
  have HT : Hid (List.replicate b 120 = T) := hT
  rw [hT] at hcv
  simp only [hT] at HR
  clear hT
  go_enter Tryz.func30, Tryz.ntmps30
  go_wp2_with fail
  refine (HR _).mono ?_
  rintro e w1 ⟨rfl, hb1'⟩
  have hN := hdr_new w1 T
  have B2 := bel0 hb1' (bel_bytes w1 ⟨T.toArray⟩)
  have hzw : w.heap.size ≤ w1.heap.size := hb1'.size
  have hsz : (⟨T.toArray⟩ : ByteArray).size = T.length := by show T.toArray.size = _; simp
  obtain ⟨z, hz⟩ : ∃ z, List.replicate (grownCap w1 T.length 0 5 - T.length) (Value.int .u8 0) = z := ⟨_, rfl⟩
  have hcv1 := hcv w1
  rw [hsz] at hcv1
  obtain ⟨cp, hcp⟩ : ∃ c, grownCap w1 T.length 0 5 = c := ⟨_, rfl⟩
  rw [hcp] at hcv1
  rw [hz] at hN
  obtain ⟨W2, hW2⟩ : ∃ W2, Lib.bytesWorld w1 5 ⟨T.toArray⟩ = W2 := ⟨_, rfl⟩
  rw [hW2] at hcv1 hN B2
  obtain ⟨K, hK⟩ : ∃ K, w1.heap.size = K := ⟨_, rfl⟩
  rw [hK] at hcv1 hN hzw
  rw [hTl] at hcv1
  clear hcv hcp hz hW2 hK hsz hb1' HR
  have hstart : dgp b v 0 = T := by rw [← HT.out]; simp [dgp]
  rw [← hstart] at hN

  clear hstart HT hTl
  go_wp2_with fail
  go_loopw [15] (fun vp wr => ∃ p : Nat, vp = .int .i64 p ∧ p ≤ b - f ∧ hdr wr K z (dgp b v p) ∧ Below w.heap.size w wr) (fun vp _ => b - f - (intOf vp).toNat)
  case atStart => exact ⟨0, rfl, Nat.zero_le _, hN, B2⟩
  case round =>
    clear hN B2 hcv1
    obtain ⟨p, rfl, hp, hN, hB⟩ := hrel
    by_cases hlt : p < b - f
    · have i1 : (p : Int) < ((b - f : Nat) : Int) := by omega
      have i2 : (p : Int) < (b : Int) := by omega
      have i0 : (0 : Int) ≤ (p : Int) := by omega
      have hlen := dgp_len b v p (by omega)
      have hc := hdr_cell hN (j := p) (by omega)
      have hfz := hdr_frozen hN (j := p) (by omega)
      have hset := hdr_set (bitB b v p) hN (p := p) (by omega)
      rw [dgp_succ b v p (by omega), ← bit_val b v p hv] at hset
      have hB2 := hB.setCell (p := ⟨K, p, none⟩) hzw (.int .u8 ((48 + bits .and .i64 ((v : Int) / 2 ^ (b - 1 - p)) 1) % 256))
      clear hN hB
      go_wp2_with fail
      go_roundw
      case rel => exact ⟨p + 1, by go_num, by omega, hset, hB2⟩
      case measure => simp [intOf]; omega
    · have i1 : ¬ (p : Int) < ((b - f : Nat) : Int) := by omega
      obtain rfl : p = b - f := by omega
      rw [dgp_all b v f hf] at hN
      have hlen := digL_len b v f hf
      have hcv := run_convert_bytes_back (P := Tryz.prog) wr 59 9 5 ⟨K, 0, none⟩ cp (digL b v f) Tryz.underlying59 Tryz.underlying5 Tryz.underlying9 (fun j hj => by
        have := hdr_cell hN hj
        simp only [Addr.add]
        split
        · rename_i h; subst h; exact this
        · simpa using this)
      rw [hlen] at hcv
      obtain ⟨S, hS⟩ : ∃ S, digL b v f = S := ⟨_, rfl⟩
      rw [hS] at hcv
      have HS : Hid (digL b v f = S) := hS
      clear hN hS hlen
      go_wp2_with fail
      go_ret
      exact ⟨by rw [HS.out]; rfl, hB⟩
end Go.Proofs.YtealpmimffcpdaaGreatDoor
namespace Go.Proofs
open Go.Shelf
def Tryz.l7n27_ren : Go.Shelf.Ren := ⟨fun | 27 => 62 | 28 => 75 | 29 => 76 | n => n, fun | 25 => 91 | 3 => 3 | 27 => 118 | 22 => 73 | 4 => 4 | 53 => 133 | 0 => 0 | 5 => 5 | 54 => 134 | n => n, fun | 0 => 0 | 1 => 1 | n => n⟩
theorem Tryz.l7n27 : Go.Proofs.Lays7.n27 Tryz.prog Tryz.l7n27_ren := {
  mixed := by kernel_rfl
  f27 := Tryz.func62.trans (congrArg some (by kernel_rfl))
  f28 := Tryz.func75.trans (congrArg some (by kernel_rfl))
  f29 := Tryz.func76.trans (congrArg some (by kernel_rfl))
  t0 := Tryz.underlying0
  a0 := Tryz.isAgg0
  z0 := Tryz.sizeOf0
  v0 := Tryz.zeroValue0
  i0 := by kernel_rfl
  t3 := Tryz.underlying3
  a3 := Tryz.isAgg3
  z3 := Tryz.sizeOf3
  v3 := Tryz.zeroValue3
  i3 := by kernel_rfl
  t4 := Tryz.underlying4
  a4 := Tryz.isAgg4
  z4 := Tryz.sizeOf4
  v4 := Tryz.zeroValue4
  i4 := by kernel_rfl
  t5 := Tryz.underlying5
  a5 := Tryz.isAgg5
  z5 := Tryz.sizeOf5
  v5 := Tryz.zeroValue5
  i5 := by kernel_rfl
  t22 := Tryz.underlying73
  a22 := Tryz.isAgg73
  z22 := Tryz.sizeOf73
  v22 := Tryz.zeroValue73
  i22 := by kernel_rfl
  t25 := Tryz.underlying91
  a25 := Tryz.isAgg91
  z25 := Tryz.sizeOf91
  v25 := Tryz.zeroValue91
  i25 := by kernel_rfl
  t27 := Tryz.underlying118
  a27 := Tryz.isAgg118
  z27 := Tryz.sizeOf118
  v27 := Tryz.zeroValue118
  i27 := by kernel_rfl
  t53 := Tryz.underlying133
  a53 := Tryz.isAgg133
  z53 := Tryz.sizeOf133
  v53 := Tryz.zeroValue133
  i53 := by kernel_rfl
  t54 := Tryz.underlying134
  a54 := Tryz.isAgg134
  z54 := Tryz.sizeOf134
  g0 := by kernel_rfl
  g1 := by kernel_rfl }
end Go.Proofs
namespace Go.Proofs.YtealpmimffcpdaaGreatDoor
open Go.RowKit Go.Shelf
/-- the table of math/bits lies there -/
def DB (w : World) : Prop := TabAt 1 Lib.deBruijn64tab w
theorem DB.below {w W : World} (h : DB w) (hb : Below w.heap.size w W) : DB W := fun j hj => (hb.cell (World.block_lt_of_cell? w _ (h j hj))).trans (h j hj)
theorem tz_any (a : Nat) (ha : a < 18446744073709551616) (w : World) (h : DB w) : Calls Tryz.prog 62 #[.int .u64 (a : Int)] w fun e w' => e = .returned (.int .i64 (cz a : Int)) ∧ w' = w :=
  Any7.bits_TrailingZeros Tryz.l7n27 a ha w (fun _ => h)
theorem len_any (a : Nat) (ha : a < 18446744073709551616) (w : World) : Calls Tryz.prog 63 #[.int .u64 (a : Int)] w fun e w' => e = .returned (.int .i64 (Lib.bitLen a : Int)) ∧ w' = w := by
  have h := Any.bits_Len Tryz.l125 (a : Int) w (by omega) (by omega)
  rw [Int.toNat_natCast] at h
  exact h
/-- a list of texts as cells -/
def stx (L : List (List UInt8)) : List Value := L.map fun t => Value.string ⟨t.toArray⟩
theorem stx_snoc (L : List (List UInt8)) (t : List UInt8) : stx (L ++ [t]) = stx L ++ [Value.string ⟨t.toArray⟩] := by simp [stx]
theorem info_str : (Tryz.prog.info? 9).map (fun i => (i.zero, i.size, i.bytes)) = some (some (.string ⟨#[]⟩), 1, 16) := by kernel_rfl
/-- the texts of a range's prefixes -/
def cov (b lo hi : Nat) : List (List UInt8) := (gr lo hi).map fun p => digL b p.1 p.2
theorem cov_le {b a e : Nat} (h : a ≤ e) : cov b a e = digL b a (fre a e) :: cov b (a + 2 ^ fre a e) e := by unfold cov; rw [gr_le h]; rfl
theorem cov_end {b a e : Nat} (h : ¬ a ≤ e) : cov b a e = [] := by unfold cov; rw [gr_end h]; rfl
theorem bitLen_pos {n : Nat} (h : 0 < n) (h2 : n < 2 ^ 64) : 1 ≤ Lib.bitLen n := by
  obtain ⟨_, b⟩ := bitLen_spec n h h2
  refine Classical.byContradiction (fun hn => ?_)
  rw [show Lib.bitLen n = 0 by omega] at b
  simp at b
  omega
theorem add_wrap (a G : Nat) (h : a + G ≤ 8589934592) : wrap64 ((a : Int) + wrap64 (G : Int)) = ((a + G : Nat) : Int) := by
  rw [w64 (x := (G : Int)) (by omega) (by omega), w64 (by omega) (by omega)]
  omega
theorem add_pow (a F G : Nat) (hG : 2 ^ F = G) (h : a + G ≤ 8589934592) : wrap64 ((a : Int) + wrap64 (2 ^ F)) = ((a + G : Nat) : Int) := by
  rw [pow_cast, hG]
  exact add_wrap a G h
set_option maxRecDepth 100000 in
set_option maxHeartbeats 1000000 in
theorem prefixes_any (b lo hi : Nat) (hb1 : 1 ≤ b) (hb : b ≤ 32) (hh : hi < 2 ^ b) (hl : lo ≤ hi + 1) (w : World) (hdb0 : DB w) :
    Calls Tryz.prog 48 #[.int .i64 (b : Int), .int .i64 (lo : Int), .int .i64 (hi : Int)] w fun e w' => ∃ v, e = .returned v ∧ w'.ownsRow w.heap.size 9 1 v (cov b lo hi).length (stx (cov b lo hi)) ∧ Below w.heap.size w w' := by
  have hp : 2 ^ b ≤ 2 ^ 32 := Nat.pow_le_pow_right (by decide) hb
  obtain ⟨i0, hi0, hz0, hz1, hz2⟩ := info_parts info_str
  have hdb : Hid (DB w) := hdb0
  clear hdb0
  go_enter Tryz.func48, Tryz.ntmps48
  go_wp2_with fail
  go_loopw [1, 7] (fun va v wr => ∃ (a : Nat) (D : List (List UInt8)), va = .int .i64 a ∧ a ≤ hi + 1 ∧ D.length ≤ a ∧ D ++ cov b a hi = cov b lo hi ∧ wr.ownsRow w.heap.size 9 1 v D.length (stx D) ∧ Below w.heap.size w wr) (fun va _ _ => hi + 1 - (intOf va).toNat)
  case atStart => exact ⟨lo, [], rfl, hl, Nat.zero_le _, rfl, World.ownsRow_nil _ _ _ _, Below.refl _ _⟩
  case round =>
    obtain ⟨a, D, rfl, ha, hD, hcov, hown, hB⟩ := hrel
    have hsz := hB.size
    by_cases hle : a ≤ hi
    · have i1 : (a : Int) ≤ (hi : Int) := by omega
      have e1 : IntKind.u64.wrap (a : Int) = (a : Int) := by rw [IntKind.wrap_u64]; omega
      have e2 : IntKind.i64.wrap ((hi : Int) - (a : Int)) = ((hi - a : Nat) : Int) := by rw [IntKind.wrap_i64]; omega
      have e3 : IntKind.i64.wrap (((hi - a : Nat) : Int) + 1) = ((hi - a + 1 : Nat) : Int) := by rw [IntKind.wrap_i64]; omega
      have e4 : IntKind.u64.wrap ((hi - a + 1 : Nat) : Int) = ((hi - a + 1 : Nat) : Int) := by rw [IntKind.wrap_u64]; omega
      have HT := tz_any a (by omega) wr (hdb.out.below hB)
      have HL := fun W => len_any (hi - a + 1) (by omega) W
      have hbl := bitLen_pos (n := hi - a + 1) (by omega) (by omega)
      rw [cov_le hle] at hcov
      have hfp := fre_le (a := a) (e := hi) hle (by omega)
      have hfb : fre a hi ≤ b := (Nat.pow_le_pow_iff_right (a := 2) (by decide)).1 (by omega)
      have hfd : fre a hi = min (cz a) (Lib.bitLen (hi - a + 1) - 1) := rfl
      have hl64 := Lib.bitLen_le (hi - a + 1) 64 (Nat.le_refl _) (by omega)
      obtain ⟨F, hF⟩ : ∃ F, fre a hi = F := ⟨_, rfl⟩
      obtain ⟨C, hC⟩ : ∃ C, cz a = C := ⟨_, rfl⟩
      obtain ⟨L, hL⟩ : ∃ L, Lib.bitLen (hi - a + 1) = L := ⟨_, rfl⟩
      rw [hF] at hcov hfp hfb hfd
      rw [hC] at hfd HT
      rw [hL] at hfd hbl hl64
      simp only [hL] at HL
      have e5 : wrap64 ((L : Int) - 1) = ((L - 1 : Nat) : Int) := by rw [w64 (by omega) (by omega)]; omega
      have e6 : min (C : Int) ((L - 1 : Nat) : Int) = (F : Int) := by rw [hfd]; omega
      obtain ⟨G, hG⟩ : ∃ G, 2 ^ F = G := ⟨_, rfl⟩
      have hpp : 0 < 2 ^ F := Nat.pow_pos (by decide)
      rw [hG] at hcov hfp hpp
      have hag : a + G ≤ 8589934592 := by omega
      have e8 : Hid (wrap64 ((a : Int) + wrap64 (2 ^ F)) = ((a + G : Nat) : Int)) := add_pow a F G hG hag
      clear hG
      have HD := fun W => digits_any b a F hb1 hb hfb (by omega) W
      have hlen : (digL b a F).length = b := digL_len b a F hfb
      obtain ⟨S, hS⟩ : ∃ S, digL b a F = S := ⟨_, rfl⟩
      rw [hS] at hcov
      simp only [hS] at HD
      have HC : Hid ((D ++ [S]) ++ cov b (a + G) hi = cov b lo hi) := by unfold Hid; rw [List.append_assoc]; exact hcov
      obtain ⟨qv, cv, rfl⟩ := shapeP hown
      have P32 : hi ≤ 4294967296 := by omega
      have F32 : F ≤ 32 := Nat.le_trans hfb hb
      clear hcov hC hL hF hS hlen hfd hfb hl64 hbl hh hp
      go_wp2_with fail
      refine HT.mono ?_
      rintro e w1 ⟨rfl, rfl⟩
      go_wp2_with fail
      refine (HL _).mono ?_
      rintro e w2 ⟨rfl, rfl⟩
      go_wp2_with fail
      refine (HD _).mono ?_
      rintro e w3 ⟨rfl, hb3⟩
      have hown3 := owns_below hown hb3
      have hB3 := bel0 hB hb3
      have hs3 := hB3.size
      clear hown hB HT HL HD
      go_wp2_with (at_builtin; refine wpList_append_own _ rfl _ _ 64 rfl w.heap.size 9 i0 _ 1 16 Tryz.underlying64 hi0 hz0 hz1 hz2 rfl (by decide) _ _ _ rfl (hown3.alloc _) ⟨w3.heap.size, 0, none⟩ 1 1 [Value.string ⟨S.toArray⟩] rfl rfl (World.news_of_block (cs := #[.string ⟨S.toArray⟩]) (t := 9) (fr := (0, 0)) (alloc_get _ _)) (by simp [Value.oneCell']) (by unfold maxLen; omega) (by omega) (by simp; omega) ?_; intro v5 w5 oB hg5 _)
      have b5 : Below w.heap.size w w5 := (hB3.alloc hs3 _).grown hg5 (by simp; omega) (fun k e => (hown3.lt k e).1)
      have o5 : w5.ownsRow w.heap.size 9 1 v5 (D ++ [S]).length (stx (D ++ [S])) := by rw [List.length_append, stx_snoc]; exact oB
      clear oB hg5 hown3 hB3
      go_roundw
      case rel => exact ⟨a + G, D ++ [S], by rw [e8.out], by omega, by rw [List.length_append]; simp; omega, HC.out, o5, b5⟩
      case measure => rw [e8.out]; simp [intOf]; omega
    · have i1 : ¬ (a : Int) ≤ (hi : Int) := by omega
      rw [cov_end hle, List.append_nil] at hcov
      have HC : Hid (D = cov b lo hi) := hcov
      clear hcov hh hp
      go_wp2_with fail
      go_ret
      refine ⟨_, rfl, ?_, hB⟩
      rw [← HC.out]
      exact hown
end Go.Proofs.YtealpmimffcpdaaGreatDoor
namespace Go.Proofs.YtealpmimffcpdaaGreatDoor
open Go.RowKit Go.Shelf
theorem stx_len (L : List (List UInt8)) : (stx L).length = L.length := by simp [stx]
theorem stx_get (L : List (List UInt8)) (i : Nat) (h : i < L.length) : (stx L)[i]? = some (Value.string ⟨(L[i]).toArray⟩) := by simp [stx, List.getElem?_eq_getElem h]
theorem pow_pred (k : Nat) : 2 ^ k - 1 + 1 = 2 ^ k := by
  have : 0 < 2 ^ k := Nat.pow_pos (by decide)
  omega
/-- Cover's error -/
def covE (b lo hi : Int) : Nat :=
  if b < 1 ∨ 32 < b then 1
  else if ¬ (0 ≤ lo ∧ lo ≤ ((2 ^ b.toNat - 1 : Nat) : Int)) ∨ ¬ (0 ≤ hi ∧ hi ≤ ((2 ^ b.toNat - 1 : Nat) : Int)) then 42
  else if hi < lo then 43 else 0
def covL (b lo hi : Int) : List (List UInt8) := if covE b lo hi = 0 then cov b.toNat lo.toNat hi.toNat else []
def cvR (w : World) (b lo hi : Int) (e : Ending) (w' : World) : Prop := ∃ v, e = .returned (.tuple #[v, .int .i64 (covE b lo hi : Int)]) ∧ w'.ownsRow w.heap.size 9 1 v (covL b lo hi).length (stx (covL b lo hi)) ∧ Below w.heap.size w w'
theorem cvR_nil {w w' : World} {b lo hi : Int} {n : Nat} {e : Ending} (h : covE b lo hi = n) (hn : n ≠ 0) (he : e = .returned (.tuple #[.slice none 0 0, .int .i64 (n : Int)])) (hb : Below w.heap.size w w') : cvR w b lo hi e w' := by
  refine ⟨.slice none 0 0, by rw [h]; exact he, ?_, hb⟩
  have : covL b lo hi = [] := by unfold covL; rw [if_neg (by rw [h]; exact hn)]
  rw [this]
  exact World.ownsRow_nil _ _ _ _
set_option maxRecDepth 100000 in
set_option maxHeartbeats 1000000 in
theorem cover_any (b lo hi : Int) (w : World) (hdb : DB w) :
    Calls Tryz.prog 31 #[.int .i64 b, .int .i64 lo, .int .i64 hi] w fun e w' => cvR w b lo hi e w' := by
  by_cases h1 : b < 1
  · have hr : Hid (covE b lo hi = 1) := if_pos (.inl h1)
    go_enter Tryz.func31, Tryz.ntmps31
    go_wp2_with fail
    go_ret2
    exact cvR_nil hr.out (by decide) rfl (Below.refl _ _)
  · by_cases h2 : 32 < b
    · have hr : Hid (covE b lo hi = 1) := if_pos (.inr h2)
      go_enter Tryz.func31, Tryz.ntmps31
      go_wp2_with fail
      go_ret2
      exact cvR_nil hr.out (by decide) rfl (Below.refl _ _)
    · obtain ⟨n, rfl⟩ : ∃ n : Nat, b = (n : Int) := ⟨b.toNat, by omega⟩
      have HF := fun v W => fits_any v n (by omega) W
      have hE : covE (n : Int) lo hi = if ¬ (0 ≤ lo ∧ lo ≤ ((2 ^ n - 1 : Nat) : Int)) ∨ ¬ (0 ≤ hi ∧ hi ≤ ((2 ^ n - 1 : Nat) : Int)) then 42 else if hi < lo then 43 else 0 := by
        unfold covE
        rw [if_neg (by omega), Int.toNat_natCast]
      by_cases g1 : 0 ≤ lo ∧ lo ≤ ((2 ^ n - 1 : Nat) : Int)
      · have F1 := fun W => HF lo W
        rw [decide_eq_true g1] at F1
        by_cases g2 : 0 ≤ hi ∧ hi ≤ ((2 ^ n - 1 : Nat) : Int)
        · have F2 := fun W => HF hi W
          rw [decide_eq_true g2] at F2
          rw [if_neg (by rintro (h | h); exact h g1; exact h g2)] at hE
          by_cases g3 : hi < lo
          · rw [if_pos g3] at hE
            have hr : Hid (covE (n : Int) lo hi = 43) := hE
            clear hE HF g1 g2
            go_enter Tryz.func31, Tryz.ntmps31
            go_wp2_with fail
            refine (F1 _).mono ?_
            rintro e w1 ⟨rfl, rfl⟩
            go_wp2_with fail
            refine (F2 _).mono ?_
            rintro e w2 ⟨rfl, rfl⟩
            go_wp2_with fail
            go_ret2
            exact cvR_nil hr.out (by decide) rfl (Below.refl _ _)
          · rw [if_neg g3] at hE
            obtain ⟨l, rfl⟩ : ∃ l : Nat, lo = (l : Int) := ⟨lo.toNat, by omega⟩
            obtain ⟨h, rfl⟩ : ∃ h : Nat, hi = (h : Int) := ⟨hi.toNat, by omega⟩
            have hp0 : 0 < 2 ^ n := Nat.pow_pos (by decide)
            have HP := prefixes_any n l h (by omega) (by omega) (by omega) (by omega) w hdb
            have hcl : covL (n : Int) (l : Int) (h : Int) = cov n l h := by unfold covL; rw [if_pos hE]; simp
            rw [← hcl] at HP
            have hr : Hid (covE (n : Int) (l : Int) (h : Int) = 0) := hE
            clear hE HF g1 g2 hcl hp0 hdb
            go_enter Tryz.func31, Tryz.ntmps31
            go_wp2_with fail
            refine (F1 _).mono ?_
            rintro e w1 ⟨rfl, rfl⟩
            go_wp2_with fail
            refine (F2 _).mono ?_
            rintro e w2 ⟨rfl, rfl⟩
            go_wp2_with fail
            refine HP.mono ?_
            rintro e w3 ⟨v3, rfl, ho3, hb3⟩
            go_wp2_with fail
            go_ret2
            exact ⟨v3, by rw [hr.out]; rfl, ho3, hb3⟩
        · have F2 := fun W => HF hi W
          rw [decide_eq_false g2] at F2
          rw [if_pos (.inr g2)] at hE
          have hr : Hid (covE (n : Int) lo hi = 42) := hE
          clear hE HF g1 g2
          go_enter Tryz.func31, Tryz.ntmps31
          go_wp2_with fail
          refine (F1 _).mono ?_
          rintro e w1 ⟨rfl, rfl⟩
          go_wp2_with fail
          refine (F2 _).mono ?_
          rintro e w2 ⟨rfl, rfl⟩
          go_wp2_with fail
          go_ret2
          exact cvR_nil hr.out (by decide) rfl (Below.refl _ _)
      · have F1 := fun W => HF lo W
        rw [decide_eq_false g1] at F1
        rw [if_pos (.inl g1)] at hE
        have hr : Hid (covE (n : Int) lo hi = 42) := hE
        clear hE HF g1
        go_enter Tryz.func31, Tryz.ntmps31
        go_wp2_with fail
        refine (F1 _).mono ?_
        rintro e w1 ⟨rfl, rfl⟩
        go_wp2_with fail
        go_ret2
        exact cvR_nil hr.out (by decide) rfl (Below.refl _ _)
end Go.Proofs.YtealpmimffcpdaaGreatDoor
namespace Go.Proofs.YtealpmimffcpdaaGreatDoor
open Go.RowKit Go.Shelf
set_option maxRecDepth 100000 in
theorem top_any (b : Nat) (hb : b ≤ 32) (w : World) :
    Calls Tryz.prog 25 #[.int .i64 (b : Int)] w fun e w' => e = .returned (.int .i64 ((2 ^ b - 1 : Nat) : Int)) ∧ w' = w := by
  have hp : 2 ^ b ≤ 2 ^ 32 := Nat.pow_le_pow_right (by decide) hb
  have hp0 : 0 < 2 ^ b := Nat.pow_pos (by decide)
  go_enter Tryz.func25, Tryz.ntmps25
  go_wp2_with fail
  go_ret
  refine ⟨?_, rfl⟩
  have e1 : wrap64 (2 ^ b) = ((2 ^ b : Nat) : Int) := by rw [pow_cast]; exact w64 (by omega) (by omega)
  have e2 : wrap64 (wrap64 (2 ^ b) - 1) = ((2 ^ b - 1 : Nat) : Int) := by rw [e1, w64 (by omega) (by omega)]; omega
  exact congrArg (fun z => Ending.returned (Value.int .i64 z)) e2
set_option maxRecDepth 100000 in
set_option maxHeartbeats 1000000 in
theorem xs_any (n : Nat) (hn : n ≤ 1024) (w : World) :
    Calls Tryz.prog 33 #[.int .i64 (n : Int)] w fun e w' => e = .returned (.string ⟨(List.replicate n 120).toArray⟩) ∧ Below w.heap.size w w' := by
  obtain ⟨i0, hi0, hz0, hz1, hz2⟩ := info_parts info_u8
  go_enter Tryz.func33, Tryz.ntmps33
  go_wp2_with fail
  go_loopw [3, 4] (fun v vi wr => ∃ i : Nat, vi = .int .i64 i ∧ i ≤ n ∧ wr.ownsRow w.heap.size 5 1 v (List.replicate i (120 : UInt8)).length (Lib.byteCells (List.replicate i 120)) ∧ Below w.heap.size w wr) (fun _ vi _ => n - (intOf vi).toNat)
  case atStart => exact ⟨0, rfl, Nat.zero_le _, World.ownsRow_nil _ _ _ _, Below.refl _ _⟩
  case round =>
    obtain ⟨i, rfl, hi, hown, hB⟩ := hrel
    have hsz := hB.size
    by_cases hlt : i < n
    · have i1 : (i : Int) < (n : Int) := by omega
      rw [List.length_replicate] at hown
      obtain ⟨qv, cv, rfl⟩ := shapeP hown
      go_wp2_with (at_builtin; refine wpList_append_own _ rfl _ _ 59 rfl w.heap.size 5 i0 _ 1 1 Tryz.underlying59 hi0 hz0 hz1 hz2 rfl (by decide) _ _ _ rfl (hown.alloc _) ⟨wr.heap.size, 0, none⟩ 1 1 [Value.int .u8 120] rfl rfl (World.news_of_block (cs := #[.int .u8 120]) (t := 5) (fr := (0, 0)) (alloc_get _ _)) (by simp [Value.oneCell']) (by unfold maxLen; omega) (by omega) (by simp; omega) ?_; intro v5 w5 oB hg5 _)
      have b5 : Below w.heap.size w w5 := (hB.alloc hsz _).grown hg5 (by simp; omega) (fun k e => (hown.lt k e).1)
      have o5 : w5.ownsRow w.heap.size 5 1 v5 (List.replicate (i + 1) (120 : UInt8)).length (Lib.byteCells (List.replicate (i + 1) 120)) := by
        rw [List.length_replicate, List.replicate_succ', byteCells_append]
        exact oB
      clear oB hg5 hown hB
      go_roundw
      case rel => exact ⟨i + 1, by go_num, by omega, o5, b5⟩
      case measure => simp [intOf]; omega
    · have i1 : ¬ (i : Int) < (n : Int) := by omega
      obtain rfl : i = n := by omega
      have hcv := conv_own _ hown
      obtain ⟨S, hS⟩ : ∃ S : List UInt8, List.replicate i 120 = S := ⟨_, rfl⟩
      rw [hS] at hcv
      have HS : Hid (List.replicate i 120 = S) := hS
      clear hown hS
      go_wp2_with fail
      go_ret
      have hSa : S.toArray = Array.replicate i 120 := by rw [← HS.out]; simp
      exact ⟨congrArg (fun x => Ending.returned (Value.string ⟨x⟩)) hSa, hB⟩
set_option maxRecDepth 100000 in
set_option maxHeartbeats 1000000 in
theorem rdigits_any (v n : Nat) (hn : n ≤ 32) (hv : v < 8589934592) (w : World) :
    Calls Tryz.prog 26 #[.int .i64 (v : Int), .int .i64 (n : Int)] w fun e w' => e = .returned (.string ⟨((List.range n).map (bitB n v)).toArray⟩) ∧ Below w.heap.size w w' := by
  obtain ⟨i0, hi0, hz0, hz1, hz2⟩ := info_parts info_u8
  have e0 : IntKind.i64.wrap ((n : Int) - 1) = (n : Int) - 1 := by rw [IntKind.wrap_i64]; omega
  go_enter Tryz.func26, Tryz.ntmps26
  go_wp2_with fail
  go_loopw [5, 6] (fun vl vi wr => ∃ p : Nat, vi = .int .i64 ((n : Int) - 1 - (p : Int)) ∧ p ≤ n ∧ wr.ownsRow w.heap.size 5 1 vl p (Lib.byteCells ((List.range p).map (bitB n v))) ∧ Below w.heap.size w wr) (fun _ vi _ => (intOf vi + 1).toNat)
  case atStart => exact ⟨0, by simp, Nat.zero_le _, World.ownsRow_nil _ _ _ _, Below.refl _ _⟩
  case round =>
    obtain ⟨p, rfl, hp, hown, hB⟩ := hrel
    have hsz := hB.size
    by_cases hlt : p < n
    · obtain ⟨k, hk⟩ : ∃ k : Nat, n - 1 - p = k := ⟨_, rfl⟩
      have hkk : (n : Int) - 1 - (p : Int) = (k : Int) := by omega
      rw [hkk]
      have i1 : (0 : Int) ≤ (k : Int) := by omega
      have k32 : k ≤ 32 := by omega
      have hd : v / 2 ^ k ≤ v := Nat.div_le_self _ _
      have hand := and1 (v / 2 ^ k) (by omega)
      rw [← div_cast] at hand
      have hbit : bitB n v p = UInt8.ofNat (48 + v / 2 ^ k % 2) := by unfold bitB; rw [hk]
      obtain ⟨d, hdd⟩ : ∃ d, v / 2 ^ k % 2 = d := ⟨_, rfl⟩
      rw [hdd] at hand hbit
      have hd2 : d = 0 ∨ d = 1 := by omega
      have e9 : IntKind.i64.wrap ((k : Int) - 1) = (k : Int) - 1 := by rw [IntKind.wrap_i64]; omega
      obtain ⟨qv, cv, rfl⟩ := shapeP hown
      have hsnoc : ∀ c : UInt8, bitB n v p = c → Lib.byteCells ((List.range (p + 1)).map (bitB n v)) = Lib.byteCells ((List.range p).map (bitB n v)) ++ [Value.int .u8 (c.toNat : Int)] := fun c hc => by
        rw [List.range_succ, List.map_append, byteCells_append]
        show _ ++ [Value.int .u8 ((bitB n v p).toNat : Int)] = _
        rw [hc]
      have HK : Hid ((n : Int) - 1 - (p : Int) = (k : Int)) := hkk
      clear hdd hd hkk
      rcases hd2 with rfl | rfl
      · have hs0 := hsnoc 48 hbit
        clear hsnoc hbit
        go_wp2_with (at_builtin; refine wpList_append_own _ rfl _ _ 59 rfl w.heap.size 5 i0 _ 1 1 Tryz.underlying59 hi0 hz0 hz1 hz2 rfl (by decide) _ _ _ rfl (hown.alloc _) ⟨wr.heap.size, 0, none⟩ 1 1 [Value.int .u8 48] rfl rfl (World.news_of_block (cs := #[.int .u8 48]) (t := 5) (fr := (0, 0)) (alloc_get _ _)) (by simp [Value.oneCell']) (by unfold maxLen; omega) (by omega) (by simp; omega) ?_; intro v5 w5 oB hg5 _)
        have b5 : Below w.heap.size w w5 := (hB.alloc hsz _).grown hg5 (by simp; omega) (fun k e => (hown.lt k e).1)
        have o5 : w5.ownsRow w.heap.size 5 1 v5 (p + 1) (Lib.byteCells ((List.range (p + 1)).map (bitB n v))) := by rw [hs0]; exact oB
        clear oB hg5 hown hB hs0 hand
        go_roundw
        case rel => exact ⟨p + 1, by have := HK.out; go_num, by omega, o5, b5⟩
        case measure => simp [intOf]
      · have hs0 := hsnoc 49 hbit
        clear hsnoc hbit
        go_wp2_with (at_builtin; refine wpList_append_own _ rfl _ _ 59 rfl w.heap.size 5 i0 _ 1 1 Tryz.underlying59 hi0 hz0 hz1 hz2 rfl (by decide) _ _ _ rfl (hown.alloc _) ⟨wr.heap.size, 0, none⟩ 1 1 [Value.int .u8 49] rfl rfl (World.news_of_block (cs := #[.int .u8 49]) (t := 5) (fr := (0, 0)) (alloc_get _ _)) (by simp [Value.oneCell']) (by unfold maxLen; omega) (by omega) (by simp; omega) ?_; intro v5 w5 oB hg5 _)
        have b5 : Below w.heap.size w w5 := (hB.alloc hsz _).grown hg5 (by simp; omega) (fun k e => (hown.lt k e).1)
        have o5 : w5.ownsRow w.heap.size 5 1 v5 (p + 1) (Lib.byteCells ((List.range (p + 1)).map (bitB n v))) := by rw [hs0]; exact oB
        clear oB hg5 hown hB hs0 hand
        go_roundw
        case rel => exact ⟨p + 1, by have := HK.out; go_num, by omega, o5, b5⟩
        case measure => simp [intOf]
    · obtain rfl : p = n := by omega
      have hkk : (p : Int) - 1 - (p : Int) = -1 := by omega
      rw [hkk]
      have hcv := conv_own ((List.range p).map (bitB p v)) (by rw [List.length_map, List.length_range]; exact hown)
      obtain ⟨S, hS⟩ : ∃ S : List UInt8, (List.range p).map (bitB p v) = S := ⟨_, rfl⟩
      rw [hS] at hcv
      have HS : Hid ((List.range p).map (bitB p v) = S) := hS
      clear hown hS
      go_wp2_with fail
      go_ret
      exact ⟨by rw [HS.out]; rfl, hB⟩
end Go.Proofs.YtealpmimffcpdaaGreatDoor
namespace Go.Proofs.YtealpmimffcpdaaGreatDoor
open Go.RowKit Go.Shelf
set_option maxRecDepth 100000 in
set_option maxHeartbeats 1000000 in
/-- like rows are alike -/
theorem same_any (L : List (List UInt8)) (B1 B2 : Nat) (va vb : Value) (w : World) (hL : L.length ≤ 4294967296) (ha : w.ownsRow B1 9 1 va L.length (stx L)) (hb : w.ownsRow B2 9 1 vb L.length (stx L)) :
    Calls Tryz.prog 32 #[va, vb] w fun x w' => x = .returned (.bool true) ∧ Below w.heap.size w w' := by
  have HA : Hid (w.ownsRow B1 9 1 va L.length (stx L)) := ha
  have HB : Hid (w.ownsRow B2 9 1 vb L.length (stx L)) := hb
  obtain ⟨qa, ca, rfl⟩ := shapeP ha
  obtain ⟨qb, cb, rfl⟩ := shapeP hb
  clear ha hb
  go_enter Tryz.func32, Tryz.ntmps32
  go_wp2_with fail
  go_loopw [5] (fun vi wr => ∃ i : Nat, vi = .int .i64 i ∧ i ≤ L.length ∧ Below w.heap.size w wr) (fun vi _ => L.length - (intOf vi).toNat)
  case atStart => exact ⟨0, rfl, Nat.zero_le _, Below.refl _ _⟩
  case round =>
    obtain ⟨i, rfl, hi, hW⟩ := hrel
    by_cases hlt : i < L.length
    · have q1 : (i : Int) < (L.length : Int) := by omega
      have q0 : (0 : Int) ≤ (i : Int) := by omega
      have hA := owns_below HA.out hW
      have hB := owns_below HB.out hW
      obtain ⟨ga, ca2, hfa⟩ := own_form hA (by omega)
      obtain ⟨gb, cb2, hfb⟩ := own_form hB (by omega)
      injection hfa with x1 x2 x3
      injection hfb with y1 y2 y3
      subst x1 x3 y1 y3
      have hx := hA.cells rfl i _ (stx_get L i hlt)
      have hy := hB.cells rfl i _ (stx_get L i hlt)
      rw [add0] at hx hy
      obtain ⟨t, ht⟩ : ∃ t, L[i] = t := ⟨_, rfl⟩
      rw [ht] at hx hy
      clear ht HA HB hA hB
      go_wp2_with fail
      go_quiet (fail)
      go_wp2_with fail
      go_roundw
      case rel => exact ⟨i + 1, by go_num, by omega, bel_drewN _ hW⟩
      case measure => simp [intOf]; omega
    · have q1 : ¬ (i : Int) < (L.length : Int) := by omega
      clear HA HB
      go_wp2_with fail
      go_ret
      exact ⟨rfl, hW⟩
theorem cov_439 : covE 4 3 9 = 0 ∧ covL 4 3 9 = [[48, 48, 49, 49], [48, 49, 120, 120], [49, 48, 48, 120]] := by
  have hE : covE 4 3 9 = 0 := by decide
  refine ⟨hE, ?_⟩
  have f1 : fre 3 9 = 0 := by decide
  have f2 : fre 4 9 = 2 := by decide
  have f3 : fre 8 9 = 1 := by decide
  have h : cov 4 3 9 = [[48, 48, 49, 49], [48, 49, 120, 120], [49, 48, 48, 120]] := by
    rw [cov_le (by decide), f1, show 3 + 2 ^ 0 = 4 by decide, cov_le (by decide), f2, show 4 + 2 ^ 2 = 8 by decide, cov_le (by decide), f3, show 8 + 2 ^ 1 = 10 by decide, cov_end (by decide)]
    decide
  unfold covL
  rw [if_pos hE]
  exact h
set_option maxRecDepth 100000 in
set_option maxHeartbeats 1000000 in
theorem known_any (w : World) (hdb : DB w) : Calls Tryz.prog 15 #[] w fun e w' => e = .returned (.bool true) ∧ Below w.heap.size w w' := by
  have HC := cover_any 4 3 9 w hdb
  obtain ⟨hE, hL⟩ := cov_439
  have HN := fun W => num_any 0 W
  have HS := fun va vb W (h1 : W.ownsRow w.heap.size 9 1 va 3 (stx [[48, 48, 49, 49], [48, 49, 120, 120], [49, 48, 48, 120]])) (h2 : W.ownsRow w.heap.size 9 1 vb 3 (stx [[48, 48, 49, 49], [48, 49, 120, 120], [49, 48, 48, 120]])) => same_any [[48, 48, 49, 49], [48, 49, 120, 120], [49, 48, 48, 120]] w.heap.size w.heap.size va vb W (by decide) h1 h2
  have HS2 : Hid (∀ va vb W, W.ownsRow w.heap.size 9 1 va 3 (stx [[48, 48, 49, 49], [48, 49, 120, 120], [49, 48, 48, 120]]) → W.ownsRow w.heap.size 9 1 vb 3 (stx [[48, 48, 49, 49], [48, 49, 120, 120], [49, 48, 48, 120]]) → Calls Tryz.prog 32 #[va, vb] W fun x w' => x = .returned (.bool true) ∧ Below W.heap.size W w') := HS
  have HE : Hid (covE 4 3 9 = 0) := hE
  have HL : Hid (covL 4 3 9 = [[48, 48, 49, 49], [48, 49, 120, 120], [49, 48, 48, 120]]) := hL
  clear hdb HS hE hL
  go_enter Tryz.func15, Tryz.ntmps15
  go_wp2_with fail
  refine HC.mono ?_
  rintro e w1 ⟨v1, rfl, ho1, hb1⟩
  rw [HL.out] at ho1
  rw [HE.out]
  have ho1' : w1.ownsRow w.heap.size 9 1 v1 3 (stx [[48, 48, 49, 49], [48, 49, 120, 120], [49, 48, 48, 120]]) := ho1
  have HO : Hid (w1.ownsRow w.heap.size 9 1 v1 3 (stx [[48, 48, 49, 49], [48, 49, 120, 120], [49, 48, 48, 120]])) := ho1'
  clear ho1 ho1'
  go_wp2_with fail
  refine (HN _).mono ?_
  rintro e w2 ⟨rfl, rfl⟩
  go_wp2_with fail
  refine (HS2.out _ _ _ (HO.out.alloc _) (World.ownsRow_lit (base := w.heap.size) (e := 9) (size := 1) _ #[.string ⟨#[48, 48, 49, 49]⟩, .string ⟨#[48, 49, 120, 120]⟩, .string ⟨#[49, 48, 48, 120]⟩] 3 hb1.size (by unfold maxLen; omega) rfl)).mono ?_
  rintro e w3 ⟨rfl, hb3⟩
  go_wp2_with fail
  go_ret
  exact ⟨rfl, bel0 (hb1.alloc hb1.size _) hb3⟩
end Go.Proofs.YtealpmimffcpdaaGreatDoor
namespace Go.Proofs.YtealpmimffcpdaaGreatDoor
open Go.RowKit Go.Shelf
/-- bytes put over others from a place on -/
def putL : List UInt8 → Nat → List UInt8 → List UInt8
  | h, _, [] => h
  | h, p, x :: D => putL (h.set p x) (p + 1) D
theorem putL_len : ∀ (D h : List UInt8) (p : Nat), (putL h p D).length = h.length
  | [], _, _ => rfl
  | x :: D, h, p => by rw [putL, putL_len D]; simp
theorem putL_mid : ∀ (D A B C : List UInt8), D.length = B.length → putL (A ++ (B ++ C)) A.length D = A ++ (D ++ C)
  | [], A, B, C, h => by
    obtain rfl : B = [] := List.length_eq_zero_iff.1 h.symm
    rfl
  | x :: D, A, [], C, h => by cases h
  | x :: D, A, y :: B, C, h => by
    rw [putL, List.set_append_right _ _ (Nat.le_refl _), Nat.sub_self]
    have e : A ++ (y :: B ++ C).set 0 x = (A ++ [x]) ++ (B ++ C) := by simp
    have := putL_mid D (A ++ [x]) B C (by simpa using h)
    rw [List.length_append] at this
    rw [e]
    simp only [List.length_cons, List.length_nil, Nat.zero_add] at this
    rw [this]
    simp
theorem hdr_put {gh : Nat} {z : List Value} : ∀ (D h : List UInt8) (p : Nat) (W : World), hdr W gh z h → p + D.length ≤ h.length → hdr (W.setCells gh p (bys D)) gh z (putL h p D)
  | [], h, p, W, hh, _ => hh
  | x :: D, h, p, W, hh, hp => by
    have hp' : p < h.length := by rw [List.length_cons] at hp; omega
    exact hdr_put D (h.set p x) (p + 1) _ (hdr_set x hh hp') (by rw [List.length_set]; rw [List.length_cons] at hp; omega)
theorem info_one : ∀ w : World, (Go.sizeOf 5).run Tryz.prog w = .ok 1 w := fun w => by
  obtain ⟨i0, hi, hz0, hz1, hz2⟩ := info_parts info_u8
  simp [Go.sizeOf, typeInfo, hi, hz1]
set_option maxRecDepth 100000 in
set_option maxHeartbeats 2000000 in
theorem blank_any (L : List IFld) (o : Option Addr) (c n : Nat) (w : World) (hn : sumB L = (n : Int)) (hn2 : n ≤ 256) (hL : L.length ≤ 4096) (hf : ∀ f ∈ L, 0 ≤ f.2 ∧ f.2 ≤ 32) (hr : IRF w o L) :
    Calls Tryz.prog 27 #[.slice o L.length c] w fun e w' => ∃ K z cp, e = .returned (.slice (some ⟨K, 0, none⟩) n cp) ∧ w.heap.size ≤ K ∧ n ≤ cp ∧ hdr w' K z (List.replicate n 120) ∧ Below w.heap.size w w' := by
  have HW := widthOf_any L o c w hL hf hr
  rw [hn] at HW
  have HR := fun W => repeat_any n hn2 W
  have hcv := fun W => Lib.run_convert_string_bytes (P := Tryz.prog) W 9 59 5 ⟨(List.replicate n 120).toArray⟩ Tryz.underlying9 Tryz.underlying59 Tryz.underlying5
  obtain ⟨T, hT⟩ : ∃ T : List UInt8, List.replicate n 120 = T := ⟨_, rfl⟩
  have hTl : T.length = n := by rw [← hT]; simp
  rw [hT] at hcv ⊢
  simp only [hT] at HR
  clear hT hr hf
  go_enter Tryz.func27, Tryz.ntmps27
  go_wp2_with fail
  refine HW.mono ?_
  rintro e w0 ⟨rfl, hb0⟩
  go_wp2_with fail
  refine (HR _).mono ?_
  rintro e w1 ⟨rfl, hb1'⟩
  have hB1 := bel0 hb0 hb1'
  have hN := hdr_new w1 T
  have B2 := bel0 hB1 (bel_bytes w1 ⟨T.toArray⟩)
  have hzw : w.heap.size ≤ w1.heap.size := hB1.size
  have hsz : (⟨T.toArray⟩ : ByteArray).size = T.length := by show T.toArray.size = _; simp
  have hge := grownCap_ge w1 T.length 0 5
  have hcv1 := hcv w1
  rw [hsz] at hcv1
  obtain ⟨cp, hcp⟩ : ∃ c, grownCap w1 T.length 0 5 = c := ⟨_, rfl⟩
  rw [hcp] at hcv1 hge hN
  obtain ⟨W2, hW2⟩ : ∃ W2, Lib.bytesWorld w1 5 ⟨T.toArray⟩ = W2 := ⟨_, rfl⟩
  rw [hW2] at hcv1 hN B2
  rw [hTl] at hcv1 hge
  clear hcv hcp hW2 hsz hb1' HR hb0 HW
  go_wp2_with fail
  go_ret
  exact ⟨w1.heap.size, _, cp, rfl, hzw, hge, hN, B2⟩
set_option maxRecDepth 100000 in
set_option maxHeartbeats 2000000 in
theorem lay_any (L : List IFld) (g o0 c i : Nat) (K cp : Nat) (z : List Value) (T D : List UInt8) (n p B : Nat) (w : World) (hT : T.length = n) (hcp : n ≤ cp) (hp : sumB (L.take i) = (p : Int)) (hpd : p + D.length ≤ n) (hD : 0 < D.length) (hi : i ≤ L.length) (hc : L.length ≤ c) (hL : L.length ≤ 4096) (hf : ∀ f ∈ L, 0 ≤ f.2 ∧ f.2 ≤ 32) (hr : IRF w (some ⟨g, o0, none⟩) L) (hh : hdr w K z T) (hBK : B ≤ K) (hBw : B ≤ w.heap.size) :
    Calls Tryz.prog 29 #[.slice (some ⟨K, 0, none⟩) n cp, .slice (some ⟨g, o0, none⟩) L.length c, .int .i64 (i : Int), .string ⟨D.toArray⟩] w fun e w' => (∃ v, e = .returned v) ∧ hdr w' K z (putL T p D) ∧ Below B w w' := by
  have htl : (L.take i).length = i := by rw [List.length_take]; omega
  have HW := widthOf_any (L.take i) (some ⟨g, o0, none⟩) c w (by omega) (fun f hf' => hf f (List.mem_of_mem_take hf')) (hr.take i)
  rw [hp, htl] at HW
  have j0 : (0 : Int) ≤ (i : Int) := by omega
  have j1 : (i : Int) ≤ (c : Int) := by omega
  have j2 : (0 : Int) ≤ (p : Int) := by omega
  have j3 : (p : Int) ≤ (n : Int) := by omega
  have j4 : (n : Int) ≤ (cp : Int) := by omega
  have j5 : ¬ cp = p := by omega
  have j6 : ¬ (cp : Int) = (p : Int) := by omega
  have j7 : ¬ cp - p = 0 := by omega
  have HT : Hid (T.length = n) := hT
  have HPD : Hid (p + D.length ≤ n) := hpd
  have HC : Hid (∀ W : World, hdr W K z T → (Builtin.copy_ #[59, 9] 3 #[.slice (some ⟨K, p, none⟩) (n - p) (cp - p), .string ⟨D.toArray⟩]).run Tryz.prog W = .ok (goInt D.length) (W.setCells K p (bys D))) := fun W hW => by
    have hsz : (⟨D.toArray⟩ : ByteArray).size = D.length := by show D.toArray.size = _; simp
    have := run_copy_string (P := Tryz.prog) W 59 9 3 5 K p (n - p) (cp - p) ⟨D.toArray⟩ Tryz.underlying59 info_one (by rw [hsz]; omega) (fun j hj => by
      rw [hsz] at hj
      rw [hdr_cell hW (j := p + j) (by omega)]
      rfl) (fun j hj => by
      rw [hsz] at hj
      exact hdr_frozen hW (j := p + j) (by omega))
    rw [hsz] at this
    exact this
  have HH : Hid (hdr w K z T) := hh
  clear hT hpd hr hf hh htl hp
  go_enter Tryz.func29, Tryz.ntmps29
  go_wp2_with fail
  refine HW.mono ?_
  rintro e W1 ⟨rfl, hb1⟩
  have hh1 : hdr W1 K z T := keepblk hb1 HH.out
  have hcp1 := HC.out W1 hh1
  have hput := hdr_put D T p W1 hh1 (by rw [HT.out]; exact HPD.out)
  have hB1 : Below B w W1 := hb1.mono hBw
  have hB2 : Below B w (W1.setCells K p (bys D)) := below_setCells hBK (bys D) p W1 hB1
  clear HW HC
  go_wp2_with fail
  refine bodyPost_end (v := .tuple #[]) (results_none rfl _ _ _) rfl ?_
  exact ⟨⟨_, rfl⟩, hput, hB2⟩
end Go.Proofs.YtealpmimffcpdaaGreatDoor
namespace Go.Proofs.YtealpmimffcpdaaGreatDoor
open Go.RowKit Go.Shelf
/-- a row of numbers lies there, now and later -/
def IRV (w : World) (o : Option Addr) (V : List Int) : Prop := ∀ W : World, Below w.heap.size w W → ∀ (k : Nat) (v : Int), V[k]? = some v → ∃ g o0, o = some ⟨g, o0, none⟩ ∧ W.cell? ⟨g, o0 + k, none⟩ = some (.int .i64 v)
theorem IRV.later {w w' : World} {o : Option Addr} {V : List Int} (h : IRV w o V) (hb : Below w.heap.size w w') : IRV w' o V := fun W hW => h W (bel0 hb hW)
/-- the header of the values, behind what stands already -/
def pkF : List IFld → List Int → List UInt8 → List UInt8 × Int
  | f :: L, v :: V, acc => if 0 ≤ v ∧ v ≤ ((2 ^ f.2.toNat - 1 : Nat) : Int) then pkF L V (acc ++ digL f.2.toNat v.toNat 0) else ([], 42)
  | _, _, acc => (acc, 0)
/-- what Pack answers -/
def pkM (L : List IFld) (V : List Int) : List UInt8 × Int := if (chkM L).1 ≠ 0 then ([], (chkM L).1) else if V.length ≠ L.length then ([], 1) else pkF L V []
theorem pkF_step {L : List IFld} {V : List Int} {k : Nat} {f : IFld} {v : Int} (hf : L[k]? = some f) (hv : V[k]? = some v) (acc : List UInt8) : pkF (L.drop k) (V.drop k) acc = if 0 ≤ v ∧ v ≤ ((2 ^ f.2.toNat - 1 : Nat) : Int) then pkF (L.drop (k + 1)) (V.drop (k + 1)) (acc ++ digL f.2.toNat v.toNat 0) else ([], 42) := by
  obtain ⟨h1, e1⟩ := List.getElem?_eq_some_iff.1 hf
  obtain ⟨h2, e2⟩ := List.getElem?_eq_some_iff.1 hv
  rw [List.drop_eq_getElem_cons h1, List.drop_eq_getElem_cons h2, e1, e2, pkF]
theorem pkF_end {L : List IFld} {V : List Int} {k : Nat} (h : L.length ≤ k) (acc : List UInt8) : pkF (L.drop k) (V.drop k) acc = (acc, 0) := by
  rw [List.drop_eq_nil_of_le h]
  unfold pkF
  rfl
theorem chkL_ok : ∀ (rest seen : List IFld), (chkL seen rest).1 = 0 → (∀ f ∈ rest, 1 ≤ f.2 ∧ f.2 ≤ 32) ∧ (rest ≠ [] → sumB (seen ++ rest) ≤ 256)
  | [], seen, _ => ⟨fun f hf => (List.not_mem_nil hf).elim, fun h => absurd rfl h⟩
  | f :: r, seen, h => by
    rw [chkL] at h
    cases hb : badF seen f with
    | true => rw [hb, if_pos rfl] at h; cases h
    | false =>
      rw [hb, if_neg (by decide)] at h
      obtain ⟨h1, h2⟩ := chkL_ok r (seen ++ [f]) h
      unfold badF at hb
      simp only [Bool.or_eq_false_iff, Bool.not_eq_false'] at hb
      obtain ⟨b1, b2, b3, b4⟩ := hb
      have hs : 1 ≤ f.2 ∧ f.2 ≤ 32 := by unfold sizB at b1; simpa using b1
      have hw : sumB (seen ++ [f]) ≤ 256 := by
        have := of_decide_eq_false b4
        omega
      refine ⟨fun g hg => ?_, fun _ => ?_⟩
      · rcases List.mem_cons.1 hg with e | e
        · rw [e]; exact hs
        · exact h1 g e
      · cases r with
        | nil => exact hw
        | cons g r =>
          have := h2 (by simp)
          rw [List.append_assoc] at this
          exact this
theorem chk_ok {L : List IFld} (h : (chkM L).1 = 0) : 0 < L.length ∧ L.length ≤ 12 ∧ (∀ f ∈ L, 1 ≤ f.2 ∧ f.2 ≤ 32) ∧ sumB L ≤ 256 := by
  unfold chkM at h
  by_cases h1 : 12 < L.length
  · rw [if_pos h1] at h; cases h
  · rw [if_neg h1] at h
    by_cases h2 : L.length = 0
    · rw [if_pos h2] at h; cases h
    · rw [if_neg h2] at h
      obtain ⟨a, b⟩ := chkL_ok L [] h
      exact ⟨by omega, by omega, a, b (fun e => h2 (by rw [e]; rfl))⟩
theorem sumB_take_le {L : List IFld} (h : ∀ f ∈ L, 0 ≤ f.2 ∧ f.2 ≤ 32) (j : Nat) : sumB (L.take j) ≤ sumB L := by
  have e : sumB L = sumB (L.take j) + sumB (L.drop j) := by rw [← sumB_app, List.take_append_drop]
  have := (sumB_bound (L.drop j) (fun f hf => h f (List.mem_of_mem_drop hf))).1
  omega
theorem put_next {acc D : List UInt8} {n : Nat} (h : acc.length + D.length ≤ n) : putL (acc ++ List.replicate (n - acc.length) 120) acc.length D = (acc ++ D) ++ List.replicate (n - (acc ++ D).length) 120 := by
  have e : List.replicate (n - acc.length) (120 : UInt8) = List.replicate D.length 120 ++ List.replicate (n - (acc ++ D).length) 120 := by
    rw [List.replicate_append_replicate]
    congr 1
    rw [List.length_append]
    omega
  rw [e, putL_mid D acc _ _ (by simp), List.append_assoc]
set_option maxRecDepth 100000 in
set_option maxHeartbeats 8000000 in
theorem pack_any (L : List IFld) (o : Option Addr) (c : Nat) (V : List Int) (o2 : Option Addr) (c2 : Nat) (w : World) (hL : L.length ≤ 281474976710656) (hc : L.length ≤ c) (hx : ∀ f ∈ L, f.1.length ≤ 281474976710656) (hr : IRF w o L) (hrv : IRV w o2 V) (hv1 : SH w) (hv4 : SG w) (hv5 : VW w) :
    Calls Tryz.prog 13 #[.slice o L.length c, .slice o2 V.length c2] w fun e w' => e = .returned (.tuple #[.string ⟨(pkM L V).1.toArray⟩, .int .i64 (pkM L V).2]) ∧ Below w.heap.size w w' := by
  have HC := check_any L o c w hL hc hx hr hv1 hv4 hv5
  obtain ⟨R, hR⟩ : ∃ R, pkM L V = R := ⟨_, rfl⟩
  rw [hR]
  by_cases h0 : ¬ (chkM L).1 = 0
  · have hres : Hid (R = ([], (chkM L).1)) := by unfold Hid; rw [← hR]; unfold pkM; rw [if_pos h0]
    obtain ⟨ce, hce⟩ : ∃ x, (chkM L).1 = x := ⟨_, rfl⟩
    rw [hce] at HC h0 hres
    have y1 : (ce != 0) = true := by simpa using h0
    clear hx hr hrv hv1 hv4 hv5 hR hce
    go_enter Tryz.func13, Tryz.ntmps13
    go_wp2_with fail
    refine HC.mono ?_
    rintro e W1 ⟨rfl, hb1⟩
    go_wp2_with fail
    refine bodyPost_ret (results_tmp2 rfl _ _ _) rfl ?_
    exact ⟨by rw [hres.out]; rfl, hb1⟩
  replace h0 := Classical.not_not.1 h0
  rw [h0] at HC
  obtain ⟨k1, k2, k3, k4⟩ := chk_ok h0
  by_cases hlen : ¬ V.length = L.length
  · have hres : Hid (R = ([], 1)) := by unfold Hid; rw [← hR]; unfold pkM; rw [if_neg (fun h => h h0), if_pos hlen]
    have y1 : ((V.length : Int) != (L.length : Int)) = true := by simp only [bne_iff_ne]; omega
    clear hx hr hrv hv1 hv4 hv5 hR
    go_enter Tryz.func13, Tryz.ntmps13
    go_wp2_with fail
    refine HC.mono ?_
    rintro e W1 ⟨rfl, hb1⟩
    go_wp2_with fail
    refine bodyPost_ret (results_tmp2 rfl _ _ _) rfl ?_
    exact ⟨by rw [hres.out]; rfl, hb1⟩
  replace hlen := Classical.not_not.1 hlen
  have y1 : ((V.length : Int) != (L.length : Int)) = false := by rw [hlen]; simp
  have hb0 : ∀ f ∈ L, 0 ≤ f.2 ∧ f.2 ≤ 32 := fun f hf => by have := k3 f hf; omega
  obtain ⟨n, hn⟩ : ∃ n : Nat, sumB L = (n : Int) := ⟨(sumB L).toNat, by have := (sumB_bound L hb0).1; omega⟩
  have hn256 : n ≤ 256 := by omega
  have HRF : Hid (pkF (L.drop 0) (V.drop 0) [] = R) := by unfold Hid; rw [← hR]; unfold pkM; rw [if_neg (fun h => h h0), if_neg (fun h => h hlen)]; rfl
  have HR : Hid (IRF w o L) := hr
  have HRV : Hid (IRV w o2 V) := hrv
  have HLV : Hid (V.length = L.length) := hlen
  have HK3 : Hid (∀ f ∈ L, 1 ≤ f.2 ∧ f.2 ≤ 32) := k3
  have HB0 : Hid (∀ f ∈ L, 0 ≤ f.2 ∧ f.2 ≤ 32) := hb0
  have HN : Hid (sumB L = (n : Int)) := hn
  have HBL : Hid (∀ W : World, Below w.heap.size w W → Calls Tryz.prog 27 #[.slice o L.length c] W fun e w' => ∃ K z cp, e = .returned (.slice (some ⟨K, 0, none⟩) n cp) ∧ W.heap.size ≤ K ∧ n ≤ cp ∧ hdr w' K z (List.replicate n 120) ∧ Below W.heap.size W w') := fun W hW => blank_any L o c n W hn hn256 (by omega) hb0 (hr.later hW)
  clear hx hr hrv hv1 hv4 hv5 hR h0 k3 k4 hb0 hn
  go_enter Tryz.func13, Tryz.ntmps13
  go_wp2_with fail
  refine HC.mono ?_
  rintro e W1 ⟨rfl, hb1⟩
  go_wp2_with fail
  refine (HBL.out _ hb1).mono ?_
  rintro e W2 ⟨K, z, cp, rfl, hK1, hcp, hh2, hb2⟩
  have hB2 := bel0 hb1 hb2
  have hwK : w.heap.size ≤ K := Nat.le_trans hb1.size hK1
  clear HC HBL hb1 hb2 hK1
  go_wp2_with fail
  go_loopw [28] (fun vk wr => ∃ (k : Nat) (acc : List UInt8), vk = .int .i64 k ∧ k ≤ L.length ∧ Hid (sumB (L.take k) = (acc.length : Int)) ∧ hdr wr K z (acc ++ List.replicate (n - acc.length) 120) ∧ Hid (pkF (L.drop k) (V.drop k) acc = R) ∧ Below w.heap.size w wr) (fun vk _ => L.length - (intOf vk).toNat)
  case atStart => exact ⟨0, [], rfl, Nat.zero_le _, rfl, hh2, HRF, hB2⟩
  case round =>
    clear HRF hh2 hB2
    obtain ⟨k, acc, rfl, hk, hsum, hh, hrun, hB⟩ := hrel
    by_cases hlt : k < L.length
    · have j1 : (k : Int) < (L.length : Int) := by omega
      have j0 : (0 : Int) ≤ (k : Int) := by omega
      obtain ⟨f, hf⟩ : ∃ f, L[k]? = some f := ⟨_, List.getElem?_eq_getElem hlt⟩
      obtain ⟨v, hv⟩ : ∃ v, V[k]? = some v := ⟨_, List.getElem?_eq_getElem (by rw [HLV.out]; exact hlt)⟩
      have j2 : (k : Int) < (V.length : Int) := by rw [HLV.out]; omega
      obtain ⟨g, o0, rfl, p0, p1⟩ := HR.out wr hB k f hf
      obtain ⟨g2, q0, rfl, -⟩ := HRV.out wr hB k v hv
      have hstep := hrun.out
      rw [pkF_step hf hv] at hstep
      have hbits := HK3.out f (List.mem_of_getElem? hf)
      have hst := sumB_take hf
      rw [hsum.out] at hst
      have hle := sumB_take_le HB0.out (k + 1)
      rw [hst, HN.out] at hle
      obtain ⟨x, bi⟩ := f
      obtain ⟨b, rfl⟩ : ∃ b : Nat, bi = (b : Int) := ⟨bi.toNat, by simp only at hbits; omega⟩
      simp only [Int.toNat_natCast] at p0 p1 hstep hbits hst hle
      have hb1 : 1 ≤ b := by omega
      have hb32 : b ≤ 32 := by omega
      have XV : Hid (∀ W : World, Below w.heap.size w W → W.cell? ⟨g2, q0 + k, none⟩ = some (.int .i64 v)) := fun W hW => by
        obtain ⟨g3, q3, h1, h2⟩ := HRV.out W hW k v hv
        injection h1 with h1
        injection h1 with h1 h4
        subst h1 h4
        exact h2
      obtain ⟨O, hO⟩ : ∃ O : Obj, Obj.cells #[.string ⟨x.toArray⟩, .int .i64 (b : Int)] 52 = O := ⟨_, rfl⟩
      have hBs := hB.size
      have hB2 : Below w.heap.size w (wr.alloc O) := hB.alloc hBs O
      have hh2 : Hid (hdr (wr.alloc O) K z (acc ++ List.replicate (n - acc.length) 120)) := hdr_alloc hh O
      have hbx : (wr.alloc O).heap[wr.heap.size]? = some (.cells #[.string ⟨x.toArray⟩, .int .i64 (b : Int)] 52) := by rw [hO]; exact alloc_get _ _
      have XT : Hid (∀ W : World, Below (wr.alloc O).heap.size (wr.alloc O) W → W.cell? ⟨wr.heap.size, 1, none⟩ = some (.int .i64 (b : Int))) := fun W hW => cell_of_row W _ 1 _ _ _ (keepblk hW hbx)
      have HFT : Hid (∀ W : World, Calls Tryz.prog 28 #[.int .i64 v, .int .i64 (b : Int)] W fun e w' => e = .returned (.bool (decide (0 ≤ v ∧ v ≤ ((2 ^ b - 1 : Nat) : Int)))) ∧ w' = W) := fun W => fits_any v b hb32 W
      obtain ⟨fb, hfb⟩ : ∃ q, decide (0 ≤ v ∧ v ≤ ((2 ^ b - 1 : Nat) : Int)) = q := ⟨_, rfl⟩
      simp only [hfb] at HFT
      have HST : Hid (sumB (L.take (k + 1)) = (acc.length : Int) + (b : Int)) := hst
      have HSTEP : Hid ((if 0 ≤ v ∧ v ≤ ((2 ^ b - 1 : Nat) : Int) then pkF (L.drop (k + 1)) (V.drop (k + 1)) (acc ++ digL b v.toNat 0) else ([], 42)) = R) := hstep
      have HP2 : Hid (2 ^ b ≤ 2 ^ 32) := Nat.pow_le_pow_right (by decide) hb32
      clear hrun hf hv hstep hst hh hbx
      go_wp2_with fail
      try rw [hO]
      refine quiet_lit3 (C := fun W => Below (wr.alloc O).heap.size (wr.alloc O) W) (by kernel_rfl) (by kernel_rfl) (show Below _ _ _ from (Below.refl _ _).drew) ?_
      go_big_quiet_want
      go_big_quiet_op
      go_big_quiet_on
      go_big_quiet_want
      go_big_quiet_op
      go_big_quiet_on
      go_big_quiet_want
      refine ⟨.pointer (some ⟨g2, q0 + k, none⟩), fun W hW => ?_, ?_⟩
      · go_simp
      go_big_quiet_on
      simp only [Act.put, List.setIfInBounds_toArray, List.set_cons_zero, List.set_cons_succ]
      go_big_quiet_want
      refine ⟨.int .i64 v, fun W hW => ?_, ?_⟩
      · have z0 := XV.out W (bel0 hB2 hW)
        go_simp
      go_big_quiet_on
      simp only [Act.put, List.setIfInBounds_toArray, List.set_cons_zero, List.set_cons_succ]
      go_big_quiet_want
      refine ⟨.pointer (some ⟨wr.heap.size, 1, none⟩), fun W hW => ?_, ?_⟩
      · go_simp
      go_big_quiet_on
      simp only [Act.put, List.setIfInBounds_toArray, List.set_cons_zero, List.set_cons_succ]
      go_big_quiet_want
      refine ⟨.int .i64 (b : Int), fun W hW => ?_, ?_⟩
      · have z0 := XT.out W hW
        go_simp
      go_big_quiet_on
      simp only [Act.put, List.setIfInBounds_toArray, List.set_cons_zero, List.set_cons_succ]
      go_big_quiet_want
      refine ⟨.bool fb, fun W hW => ?_, ?_⟩
      · go_simp
        refine (HFT.out W).mono ?_
        rintro e w7 ⟨rfl, rfl⟩
        exact ⟨rfl, by simpa using hW⟩
      go_big_quiet_on
      simp only [Act.put, List.setIfInBounds_toArray, List.set_cons_zero, List.set_cons_succ]
      go_big_quiet_want
      refine ⟨.bool (!fb), fun W hW => ?_, ?_⟩
      · go_simp
      go_big_quiet_on
      simp only [Act.put, List.setIfInBounds_toArray, List.set_cons_zero, List.set_cons_succ]
      refine wpQuiet_nil ?_
      intro W hW
      have hBW := bel0 hB2 hW
      cases fb with
      | false =>
        have hres : Hid (R = ([], 42)) := by unfold Hid; rw [← HSTEP.out, if_neg (of_decide_eq_false hfb)]
        clear HSTEP hfb
        go_wp2_with fail
        refine bodyPost_ret (results_tmp2 rfl _ _ _) rfl ?_
        exact ⟨by rw [hres.out]; rfl, hBW⟩
      | true =>
        have hvb := of_decide_eq_true hfb
        have hgo : Hid (pkF (L.drop (k + 1)) (V.drop (k + 1)) (acc ++ digL b v.toNat 0) = R) := by unfold Hid; rw [← HSTEP.out, if_pos hvb]
        obtain ⟨vn, rfl⟩ : ∃ vn : Nat, v = (vn : Int) := ⟨v.toNat, by omega⟩
        have hvn : vn < 8589934592 := by have := HP2.out; omega
        rw [Int.toNat_natCast] at hgo
        have hDl : Hid ((digL b vn 0).length = b) := digL_len b vn 0 (Nat.zero_le _)
        have HDG : Hid (∀ W : World, Calls Tryz.prog 30 #[.int .i64 (b : Int), .int .i64 (vn : Int), .int .i64 0] W fun e w' => e = .returned (.string ⟨(digL b vn 0).toArray⟩) ∧ Below W.heap.size W w') := fun W => digits_any b vn 0 hb1 hb32 (Nat.zero_le _) hvn W
        obtain ⟨D, hD⟩ : ∃ D, digL b vn 0 = D := ⟨_, rfl⟩
        rw [hD] at hgo hDl
        simp only [hD] at HDG
        have hhW : hdr W K z (acc ++ List.replicate (n - acc.length) 120) := keepblk hW hh2.out
        have HLY : Hid (∀ W' : World, Below W.heap.size W W' → Calls Tryz.prog 29 #[.slice (some ⟨K, 0, none⟩) n cp, .slice (some ⟨g, o0, none⟩) L.length c, .int .i64 (k : Int), .string ⟨D.toArray⟩] W' fun e w' => (∃ v, e = .returned v) ∧ hdr w' K z ((acc ++ D) ++ List.replicate (n - (acc ++ D).length) 120) ∧ Below w.heap.size W' w') := fun W' hW' => by
          have h1 := lay_any L g o0 c k K cp z (acc ++ List.replicate (n - acc.length) 120) D n acc.length w.heap.size W' (by rw [List.length_append, List.length_replicate]; omega) hcp (by have := hsum.out; exact this) (by rw [hDl.out]; omega) (by rw [hDl.out]; omega) (by omega) hc (by omega) HB0.out (HR.out.later (bel0 hBW hW')) (keepblk hW' hhW) hwK (bel0 hBW hW').size
          rw [put_next (by rw [hDl.out]; omega)] at h1
          exact h1
        have XT2 : Hid (∀ W' : World, Below W.heap.size W W' → W'.cell? ⟨wr.heap.size, 1, none⟩ = some (.int .i64 (b : Int))) := fun W' hW' => XT.out W' (bel0 hW hW')
        have HST2 : Hid (sumB (L.take (k + 1)) = ((acc ++ D).length : Int)) := by unfold Hid; rw [HST.out, List.length_append, hDl.out]; omega
        obtain ⟨acc2, ha2⟩ : ∃ a, acc ++ D = a := ⟨_, rfl⟩
        rw [ha2] at hgo HST2
        simp only [ha2] at HLY
        clear HSTEP hfb hD ha2 hvb HFT XT
        simp only [Bool.not_true]
        go_wp2_with fail
        refine quiet_last (C := fun W' => Below W.heap.size W W') (by kernel_rfl) (by kernel_rfl) (by kernel_rfl) (by kernel_rfl) (show Below _ _ _ from (Below.refl _ _).drew) ?_
        simp only [List.dropLast_cons_cons, List.dropLast_singleton]
        go_big_quiet_want
        go_big_quiet_op
        go_big_quiet_on
        go_big_quiet_want
        go_big_quiet_op
        go_big_quiet_on
        go_big_quiet_want
        go_big_quiet_op
        go_big_quiet_on
        go_big_quiet_want
        refine ⟨.pointer (some ⟨wr.heap.size, 1, none⟩), fun W' hW' => ?_, ?_⟩
        · go_simp
        go_big_quiet_on
        simp only [Act.put, List.setIfInBounds_toArray, List.set_cons_zero, List.set_cons_succ]
        go_big_quiet_want
        refine ⟨.int .i64 (b : Int), fun W' hW' => ?_, ?_⟩
        · have z0 := XT2.out W' hW'
          go_simp
        go_big_quiet_on
        simp only [Act.put, List.setIfInBounds_toArray, List.set_cons_zero, List.set_cons_succ]
        go_big_quiet_want
        go_big_quiet_op
        go_big_quiet_on
        go_big_quiet_want
        go_big_quiet_op
        go_big_quiet_on
        go_big_quiet_want
        refine ⟨.pointer (some ⟨g2, q0 + k, none⟩), fun W' hW' => ?_, ?_⟩
        · go_simp
        go_big_quiet_on
        simp only [Act.put, List.setIfInBounds_toArray, List.set_cons_zero, List.set_cons_succ]
        go_big_quiet_want
        refine ⟨.int .i64 (vn : Int), fun W' hW' => ?_, ?_⟩
        · have z0 := XV.out W' (bel0 hBW hW')
          go_simp
        go_big_quiet_on
        simp only [Act.put, List.setIfInBounds_toArray, List.set_cons_zero, List.set_cons_succ]
        go_big_quiet_want
        refine ⟨.string ⟨D.toArray⟩, fun W' hW' => ?_, ?_⟩
        · go_simp
          refine (HDG.out W').mono ?_
          rintro e w7 ⟨rfl, hb⟩
          exact ⟨rfl, bel0 hW' hb⟩
        go_big_quiet_on
        simp only [Act.put, List.setIfInBounds_toArray, List.set_cons_zero, List.set_cons_succ]
        refine wpQuiet_nil ?_
        intro W' hW'
        refine wpOp_go rfl rfl ?_
        go_simp
        refine (HLY.out W' hW').mono ?_
        rintro e W5 ⟨⟨v5, rfl⟩, hh5, hB5⟩
        have hB6 : Below w.heap.size w W5 := (bel0 hBW hW').trans hB5
        clear HLY HDG XT2
        go_wp2_with fail
        go_roundw
        case rel => exact ⟨k + 1, acc2, by go_num, by omega, HST2, hh5, hgo, hB6⟩
        case measure => simp [intOf]; omega
    · have j1 : ¬ (k : Int) < (L.length : Int) := by omega
      have hres : Hid (R = (acc, 0)) := by
        unfold Hid
        rw [← hrun.out, pkF_end (by omega)]
      have hal : acc.length = n := by
        have h1 := hsum.out
        rw [List.take_of_length_le (by omega), HN.out] at h1
        omega
      rw [hal, Nat.sub_self, List.replicate_zero, List.append_nil] at hh
      have hcv := run_convert_bytes_back (P := Tryz.prog) wr 59 9 5 ⟨K, 0, none⟩ cp acc Tryz.underlying59 Tryz.underlying5 Tryz.underlying9 (fun j hj => by
        have := hdr_cell hh hj
        simp only [Addr.add]
        split
        · rename_i h; subst h; exact this
        · simpa using this)
      rw [hal] at hcv
      clear hrun hsum hh hal
      go_wp2_with fail
      refine bodyPost_ret (results_tmp2 rfl _ _ _) rfl ?_
      exact ⟨by rw [hres.out]; rfl, hB⟩
end Go.Proofs.YtealpmimffcpdaaGreatDoor
namespace Go.Proofs.YtealpmimffcpdaaGreatDoor
open Go.RowKit Go.Shelf
set_option maxRecDepth 100000 in
theorem set1_any (f : IFld) (x : List UInt8) (b : Nat) (w : World) (hb : w.heap[b]? = some (.cells #[.string ⟨x.toArray⟩] 9)) : Calls Tryz.prog 50 #[fagg f, .pointer (some ⟨b, 0, none⟩)] w fun e w' => e = .returned (.bool (f.1 == x)) ∧ Below w.heap.size w w' := by
  obtain ⟨y, n⟩ := f
  show Calls Tryz.prog 50 #[.agg #[.string ⟨y.toArray⟩, .int .i64 n], .pointer (some ⟨b, 0, none⟩)] w _
  have c0 : (w.alloc (Obj.cells #[.string ⟨y.toArray⟩, .int .i64 n] 43)).cell? ⟨b, 0, none⟩ = some (.string ⟨x.toArray⟩) := cell_of_row _ _ 0 _ _ _ (allocblk hb _)
  have n0 : (w.alloc (Obj.cells #[.string ⟨y.toArray⟩, .int .i64 n] 43)).cell? ⟨w.heap.size, 0, none⟩ = some (.string ⟨y.toArray⟩) := cell_of_row _ _ 0 _ _ _ (alloc_get _ _)
  obtain ⟨V, hV⟩ : ∃ V : World, w.alloc (Obj.cells #[.string ⟨y.toArray⟩, .int .i64 n] 43) = V := ⟨_, rfl⟩
  have vB : Below w.heap.size w V := by rw [← hV]; exact (Below.refl _ _).alloc (Nat.le_refl _) _
  rw [hV] at c0 n0
  clear hb
  go_enter Tryz.func50, Tryz.ntmps50
  go_wp2_with fail
  go_ret
  exact ⟨rfl, vB⟩
set_option maxRecDepth 100000 in
set_option maxHeartbeats 2000000 in
theorem sidx_any (L : List IFld) (o : Option Addr) (c : Nat) (x : List UInt8) (b : Nat) (w : World) (hL : L.length ≤ 281474976710656) (hr : IRF w o L) (hb : w.heap[b]? = some (.cells #[.string ⟨x.toArray⟩] 9)) :
    Calls Tryz.prog 64 #[.slice o L.length c, .func (.func 50) #[] #[.pointer (some ⟨b, 0, none⟩)]] w fun e w' => e = .returned (.int .i64 (idxF L x)) ∧ Below w.heap.size w w' := by
  have HR : Hid (IRF w o L) := hr
  have HB : Hid (w.heap[b]? = some (.cells #[.string ⟨x.toArray⟩] 9)) := hb
  obtain ⟨q, hq⟩ : ∃ q, idxF L x = q := ⟨_, rfl⟩
  rw [hq]
  have HQ : Hid (idxG 0 (L.drop 0) x = q) := hq
  clear hr hb hq
  go_enter Tryz.func64, Tryz.ntmps64
  go_wp2_with fail
  go_loopw [8] (fun vk wr => ∃ k : Nat, vk = .int .i64 k ∧ k ≤ L.length ∧ Hid (idxG k (L.drop k) x = q) ∧ Below w.heap.size w wr) (fun vk _ => L.length - (intOf vk).toNat)
  case atStart => exact ⟨0, rfl, Nat.zero_le _, HQ, Below.refl _ _⟩
  case round =>
    clear HQ
    obtain ⟨k, rfl, hk, hidx, hB⟩ := hrel
    by_cases hlt : k < L.length
    · have j1 : (k : Int) < (L.length : Int) := by omega
      have j0 : (0 : Int) ≤ (k : Int) := by omega
      obtain ⟨f, hf⟩ : ∃ f, L[k]? = some f := ⟨_, List.getElem?_eq_getElem hlt⟩
      obtain ⟨g, o0, rfl, p0, p1⟩ := HR.out wr hB k f hf
      have hx2 := hidx.out
      rw [idxG_step hf] at hx2
      have H1 : Calls Tryz.prog 50 #[fagg f, .pointer (some ⟨b, 0, none⟩)] wr fun e w' => e = .returned (.bool (f.1 == x)) ∧ Below wr.heap.size wr w' := set1_any f x b wr (keepblk hB HB.out)
      obtain ⟨y, n⟩ := f
      simp only at p0 p1 hx2 H1
      clear hf hidx
      by_cases hy : y = x
      · rw [if_pos hy] at hx2
        rw [beq_iff_eq.2 hy] at H1
        have HX2 : Hid ((k : Int) = q) := hx2
        clear hx2 hy
        go_wp2_with fail
        refine H1.mono ?_
        rintro e W1 ⟨rfl, hb1⟩
        go_wp2_with fail
        go_ret
        exact ⟨by rw [← HX2.out]; rfl, bel0 hB hb1⟩
      · rw [if_neg hy] at hx2
        rw [beq_eq_false_iff_ne.2 hy] at H1
        have HX : Hid (idxG (k + 1) (L.drop (k + 1)) x = q) := hx2
        clear hx2
        go_wp2_with fail
        refine H1.mono ?_
        rintro e W1 ⟨rfl, hb1⟩
        go_wp2_with fail
        go_roundw
        case rel => exact ⟨k + 1, by go_num, by omega, HX, bel0 hB hb1⟩
        case measure => simp [intOf]; omega
    · have j1 : ¬ (k : Int) < (L.length : Int) := by omega
      have HX2 : Hid (-1 = q) := by
        unfold Hid
        rw [← hidx.out, List.drop_eq_nil_of_le (by omega)]
        rfl
      clear hidx
      go_wp2_with fail
      go_ret
      exact ⟨by rw [← HX2.out]; rfl, hB⟩
set_option maxRecDepth 100000 in
theorem contains_any (L : List IFld) (o : Option Addr) (c : Nat) (x : List UInt8) (b : Nat) (w : World) (hL : L.length ≤ 281474976710656) (hr : IRF w o L) (hb : w.heap[b]? = some (.cells #[.string ⟨x.toArray⟩] 9)) :
    Calls Tryz.prog 49 #[.slice o L.length c, .func (.func 50) #[] #[.pointer (some ⟨b, 0, none⟩)]] w fun e w' => e = .returned (.bool (decide (0 ≤ idxF L x))) ∧ Below w.heap.size w w' := by
  have H1 := sidx_any L o c x b w hL hr hb
  obtain ⟨q, hq⟩ : ∃ q, idxF L x = q := ⟨_, rfl⟩
  rw [hq] at H1 ⊢
  clear hr hb hq
  go_enter Tryz.func49, Tryz.ntmps49
  go_wp2_with fail
  refine H1.mono ?_
  rintro e W1 ⟨rfl, hb1⟩
  go_wp2_with fail
  go_ret
  exact ⟨rfl, hb1⟩
set_option maxRecDepth 100000 in
theorem isSet_any (L : List IFld) (o : Option Addr) (c : Nat) (x : List UInt8) (w : World) (hL : L.length ≤ 281474976710656) (hr : IRF w o L) :
    Calls Tryz.prog 36 #[.slice o L.length c, .string ⟨x.toArray⟩] w fun e w' => e = .returned (.bool (decide (0 ≤ idxF L x))) ∧ Below w.heap.size w w' := by
  have vB : Below w.heap.size w (w.alloc (Obj.cells #[.string ⟨x.toArray⟩] 9)) := (Below.refl _ _).alloc (Nat.le_refl _) _
  have H1 := contains_any L o c x w.heap.size (w.alloc (Obj.cells #[.string ⟨x.toArray⟩] 9)) hL (hr.later vB) (alloc_get _ _)
  obtain ⟨q, hq⟩ : ∃ q, decide (0 ≤ idxF L x) = q := ⟨_, rfl⟩
  rw [hq] at H1 ⊢
  clear hr hq
  go_enter Tryz.func36, Tryz.ntmps36
  go_wp2_with fail
  refine H1.mono ?_
  rintro e W1 ⟨rfl, hb1⟩
  go_wp2_with fail
  go_ret
  exact ⟨rfl, bel0 vB hb1⟩
/-- the word of the sets, behind those that are written already -/
def wdF (L : List IFld) : List IFld → List IFld → List UInt8 → List UInt8 × Int
  | _, [], acc => (acc, 0)
  | seen, s :: r, acc =>
    if idxF L s.1 < 0 then ([], 41)
    else if 0 ≤ idxF seen s.1 then ([], 45)
    else if 0 ≤ s.2 ∧ s.2 ≤ ((2 ^ (L.getD (idxF L s.1).toNat ([], 0)).2.toNat - 1 : Nat) : Int) then wdF L (seen ++ [s]) r (putL acc (sumB (L.take (idxF L s.1).toNat)).toNat (digL (L.getD (idxF L s.1).toNat ([], 0)).2.toNat s.2.toNat 0))
    else ([], 42)
/-- what Word answers -/
def wdM (L S : List IFld) : List UInt8 × Int := if 12 < S.length then ([], 2) else if (chkM L).1 ≠ 0 then ([], (chkM L).1) else wdF L [] S (List.replicate (sumB L).toNat 120)
theorem wdF_step {L S : List IFld} {k : Nat} {s : IFld} (hs : S[k]? = some s) (acc : List UInt8) : wdF L (S.take k) (S.drop k) acc =
    if idxF L s.1 < 0 then ([], 41)
    else if 0 ≤ idxF (S.take k) s.1 then ([], 45)
    else if 0 ≤ s.2 ∧ s.2 ≤ ((2 ^ (L.getD (idxF L s.1).toNat ([], 0)).2.toNat - 1 : Nat) : Int) then wdF L (S.take (k + 1)) (S.drop (k + 1)) (putL acc (sumB (L.take (idxF L s.1).toNat)).toNat (digL (L.getD (idxF L s.1).toNat ([], 0)).2.toNat s.2.toNat 0))
    else ([], 42) := by
  obtain ⟨h1, e1⟩ := List.getElem?_eq_some_iff.1 hs
  rw [List.drop_eq_getElem_cons h1, e1, wdF, take_snoc hs]
set_option maxRecDepth 100000 in
set_option maxHeartbeats 8000000 in
theorem word_any (L : List IFld) (o : Option Addr) (c : Nat) (S : List IFld) (o2 : Option Addr) (c2 : Nat) (w : World) (hL : L.length ≤ 281474976710656) (hc : L.length ≤ c) (hc2 : S.length ≤ c2) (hx : ∀ f ∈ L, f.1.length ≤ 281474976710656) (hr : IRF w o L) (hrs : IRF w o2 S) (hv1 : SH w) (hv4 : SG w) (hv5 : VW w) :
    Calls Tryz.prog 17 #[.slice o L.length c, .slice o2 S.length c2] w fun e w' => e = .returned (.tuple #[.string ⟨(wdM L S).1.toArray⟩, .int .i64 (wdM L S).2]) ∧ Below w.heap.size w w' := by
  obtain ⟨R, hR⟩ : ∃ R, wdM L S = R := ⟨_, rfl⟩
  rw [hR]
  by_cases hbig : 12 < S.length
  · have i1 : (12 : Int) < (S.length : Int) := by omega
    have hres : Hid (R = ([], 2)) := by unfold Hid; rw [← hR]; unfold wdM; rw [if_pos hbig]
    clear hx hr hrs hv1 hv4 hv5 hR
    go_enter Tryz.func17, Tryz.ntmps17
    go_wp2_with fail
    refine bodyPost_ret (results_tmp2 rfl _ _ _) rfl ?_
    exact ⟨by rw [hres.out]; rfl, Below.refl _ _⟩
  have i1 : ¬ (12 : Int) < (S.length : Int) := by omega
  have HC := check_any L o c w hL hc hx hr hv1 hv4 hv5
  by_cases h0 : ¬ (chkM L).1 = 0
  · have hres : Hid (R = ([], (chkM L).1)) := by unfold Hid; rw [← hR]; unfold wdM; rw [if_neg hbig, if_pos h0]
    obtain ⟨ce, hce⟩ : ∃ x, (chkM L).1 = x := ⟨_, rfl⟩
    rw [hce] at HC h0 hres
    have y1 : (ce != 0) = true := by simpa using h0
    clear hx hr hrs hv1 hv4 hv5 hR hce
    go_enter Tryz.func17, Tryz.ntmps17
    go_wp2_with fail
    refine HC.mono ?_
    rintro e W1 ⟨rfl, hb1⟩
    go_wp2_with fail
    refine bodyPost_ret (results_tmp2 rfl _ _ _) rfl ?_
    exact ⟨by rw [hres.out]; rfl, hb1⟩
  replace h0 := Classical.not_not.1 h0
  rw [h0] at HC
  obtain ⟨k1, k2, k3, k4⟩ := chk_ok h0
  have hb0 : ∀ f ∈ L, 0 ≤ f.2 ∧ f.2 ≤ 32 := fun f hf => by have := k3 f hf; omega
  obtain ⟨n, hn⟩ : ∃ n : Nat, sumB L = (n : Int) := ⟨(sumB L).toNat, by have := (sumB_bound L hb0).1; omega⟩
  have hn256 : n ≤ 256 := by omega
  have HRF : Hid (wdF L (S.take 0) (S.drop 0) (List.replicate n 120) = R) := by unfold Hid; rw [← hR]; unfold wdM; rw [if_neg hbig, if_neg (fun h => h h0), hn]; rfl
  obtain ⟨f0, hf0⟩ : ∃ f, L[0]? = some f := ⟨_, List.getElem?_eq_getElem k1⟩
  obtain ⟨g, o0, rfl, -⟩ := hr w (Below.refl _ _) 0 f0 hf0
  have HR : Hid (IRF w (some ⟨g, o0, none⟩) L) := hr
  have HRS : Hid (IRF w o2 S) := hrs
  have HK3 : Hid (∀ f ∈ L, 1 ≤ f.2 ∧ f.2 ≤ 32) := k3
  have HB0 : Hid (∀ f ∈ L, 0 ≤ f.2 ∧ f.2 ≤ 32) := hb0
  have HN : Hid (sumB L = (n : Int)) := hn
  have HBL : Hid (∀ W : World, Below w.heap.size w W → Calls Tryz.prog 27 #[.slice (some ⟨g, o0, none⟩) L.length c] W fun e w' => ∃ K z cp, e = .returned (.slice (some ⟨K, 0, none⟩) n cp) ∧ W.heap.size ≤ K ∧ n ≤ cp ∧ hdr w' K z (List.replicate n 120) ∧ Below W.heap.size W w') := fun W hW => blank_any L (some ⟨g, o0, none⟩) c n W hn hn256 (by omega) hb0 (hr.later hW)
  clear hx hr hrs hv1 hv4 hv5 hR h0 k3 k4 hb0 hn hf0
  go_enter Tryz.func17, Tryz.ntmps17
  go_wp2_with fail
  refine HC.mono ?_
  rintro e W1 ⟨rfl, hb1⟩
  go_wp2_with fail
  refine (HBL.out _ hb1).mono ?_
  rintro e W2 ⟨K, z, cp, rfl, hK1, hcp, hh2, hb2⟩
  have hB2 := bel0 hb1 hb2
  have hwK : w.heap.size ≤ K := Nat.le_trans hb1.size hK1
  clear HC HBL hb1 hb2 hK1
  go_wp2_with fail
  go_loopw [27] (fun vk wr => ∃ (k : Nat) (acc : List UInt8), vk = .int .i64 k ∧ k ≤ S.length ∧ Hid (acc.length = n) ∧ hdr wr K z acc ∧ Hid (wdF L (S.take k) (S.drop k) acc = R) ∧ Below w.heap.size w wr) (fun vk _ => S.length - (intOf vk).toNat)
  case atStart => exact ⟨0, _, rfl, Nat.zero_le _, List.length_replicate, hh2, HRF, hB2⟩
  case round =>
    clear HRF hh2 hB2
    obtain ⟨k, acc, rfl, hk, hal, hh, hrun, hB⟩ := hrel
    by_cases hlt : k < S.length
    · have j1 : (k : Int) < (S.length : Int) := by omega
      have j0 : (0 : Int) ≤ (k : Int) := by omega
      have j2 : (k : Int) ≤ (c2 : Int) := by omega
      obtain ⟨s, hs⟩ : ∃ s, S[k]? = some s := ⟨_, List.getElem?_eq_getElem hlt⟩
      obtain ⟨g2, q0, rfl, p0, p1⟩ := HRS.out wr hB k s hs
      have hstep := hrun.out
      rw [wdF_step hs] at hstep
      have htl : (S.take k).length = k := by rw [List.length_take]; omega
      have HIS : Hid (∀ W : World, Below w.heap.size w W → Calls Tryz.prog 36 #[.slice (some ⟨g2, q0, none⟩) k c2, .string ⟨s.1.toArray⟩] W fun e w' => e = .returned (.bool (decide (0 ≤ idxF (S.take k) s.1))) ∧ Below W.heap.size W w') := fun W hW => by
        have := isSet_any (S.take k) (some ⟨g2, q0, none⟩) c2 s.1 W (by omega) ((HRS.out.take k).later hW)
        rw [htl] at this
        exact this
      have HFD : Hid (∀ W : World, Below w.heap.size w W → Calls Tryz.prog 23 #[.slice (some ⟨g, o0, none⟩) L.length c, .string ⟨s.1.toArray⟩] W fun e w' => e = .returned (.int .i64 (idxF L s.1)) ∧ Below W.heap.size W w') := fun W hW => find_any L (some ⟨g, o0, none⟩) c s.1 W (by omega) (HR.out.later hW)
      have hix := idxG_ge L 0 s.1
      obtain ⟨x, sv⟩ := s
      simp only at p0 p1 hstep HIS HFD hix
      obtain ⟨O, hO⟩ : ∃ O : Obj, Obj.cells #[.string ⟨x.toArray⟩, .int .i64 sv] 43 = O := ⟨_, rfl⟩
      have hBs := hB.size
      have hB2 : Below w.heap.size w (wr.alloc O) := hB.alloc hBs O
      have hh2 : Hid (hdr (wr.alloc O) K z acc) := hdr_alloc hh O
      have hbx : (wr.alloc O).heap[wr.heap.size]? = some (.cells #[.string ⟨x.toArray⟩, .int .i64 sv] 43) := by rw [hO]; exact alloc_get _ _
      have n0 : (wr.alloc O).cell? ⟨wr.heap.size, 0, none⟩ = some (.string ⟨x.toArray⟩) := cell_of_row _ _ 0 _ _ _ hbx
      have XS : Hid (∀ W : World, Below (wr.alloc O).heap.size (wr.alloc O) W → W.cell? ⟨wr.heap.size, 0, none⟩ = some (.string ⟨x.toArray⟩) ∧ W.cell? ⟨wr.heap.size, 1, none⟩ = some (.int .i64 sv)) := fun W hW => by
        have hk := keepblk hW hbx
        exact ⟨cell_of_row W _ 0 _ _ _ hk, cell_of_row W _ 1 _ _ _ hk⟩
      obtain ⟨S0, hS0⟩ : ∃ S0, wr.heap.size = S0 := ⟨_, rfl⟩
      rw [hS0] at n0 XS
      rcases hix with hix | ⟨i, f, hix, hfi, hfx⟩
      · have hix2 : idxF L x = -1 := hix
        have hres : Hid (R = ([], 41)) := by unfold Hid; rw [← hstep, hix2, if_pos (by decide)]
        rw [hix2] at HFD
        clear hstep hix hix2 hrun hh hbx hs htl
        go_wp2_with fail
        refine (HFD.out _ (by first | exact hB2 | (rw [hO]; exact hB2))).mono ?_
        rintro e W3 ⟨rfl, hb3⟩
        go_wp2_with fail
        refine bodyPost_ret (results_tmp2 rfl _ _ _) rfl ?_
        exact ⟨by rw [hres.out]; rfl, bel0 hB2 (by first | exact hb3 | (rw [hO] at hb3; exact hb3))⟩
      have hix2 : idxF L x = (i : Int) := by
        unfold idxF
        rw [hix, Nat.zero_add]
      rw [hix2] at HFD hstep
      have hgd : L.getD i ([], 0) = f := by simp [List.getD, hfi]
      rw [if_neg (by omega), Int.toNat_natCast, hgd] at hstep
      have hil : i < L.length := (List.getElem?_eq_some_iff.1 hfi).1
      have l1 : (i : Int) < (L.length : Int) := by omega
      have l0 : (0 : Int) ≤ (i : Int) := by omega
      have l2 : ¬ (i : Int) < 0 := by omega
      have hbits := HK3.out f (List.mem_of_getElem? hfi)
      have hst := sumB_take hfi
      have hpb := (sumB_bound (L.take i) (fun f hf => HB0.out f (List.mem_of_mem_take hf))).1
      obtain ⟨p, hp⟩ : ∃ p : Nat, sumB (L.take i) = (p : Int) := ⟨(sumB (L.take i)).toNat, by omega⟩
      have hle := sumB_take_le HB0.out (i + 1)
      rw [hst, HN.out, hp] at hle
      rw [hp, Int.toNat_natCast] at hstep
      have XF : Hid (∀ W : World, Below w.heap.size w W → W.cell? ⟨g, o0 + i * 2 + 1, none⟩ = some (.int .i64 f.2)) := fun W hW => by
        obtain ⟨g3, q3, h1, -, h2⟩ := HR.out W hW i f hfi
        injection h1 with h1
        injection h1 with h1 h4
        subst h1 h4
        exact h2
      obtain ⟨fx, bi⟩ := f
      obtain ⟨b, rfl⟩ : ∃ b : Nat, bi = (b : Int) := ⟨bi.toNat, by simp only at hbits; omega⟩
      simp only [Int.toNat_natCast] at hstep hbits hle XF
      have hb1 : 1 ≤ b := by omega
      have hb32 : b ≤ 32 := by omega
      have HP : Hid (sumB (L.take i) = (p : Int)) := hp
      have HP2 : Hid (2 ^ b ≤ 2 ^ 32) := Nat.pow_le_pow_right (by decide) hb32
      obtain ⟨ib, hib⟩ : ∃ q, decide (0 ≤ idxF (S.take k) x) = q := ⟨_, rfl⟩
      simp only [hib] at HIS
      have HSTEP : Hid ((if 0 ≤ idxF (S.take k) x then ([], 45) else if 0 ≤ sv ∧ sv ≤ ((2 ^ b - 1 : Nat) : Int) then wdF L (S.take (k + 1)) (S.drop (k + 1)) (putL acc p (digL b sv.toNat 0)) else ([], 42)) = R) := hstep
      clear hstep hix hix2 hrun hh hbx hs htl hgd hst hpb hfi hfx hp
      go_wp2_with fail
      refine (HFD.out _ (by first | exact hB2 | (rw [hO]; exact hB2))).mono ?_
      rintro e W3 ⟨rfl, hb3⟩
      try rw [hO] at hb3
      go_wp2_with fail
      refine quiet_lit3 (C := fun W => Below (wr.alloc O).heap.size (wr.alloc O) W) (by kernel_rfl) (by kernel_rfl) (show Below _ _ _ from hb3.drew) ?_
      go_big_quiet_want
      go_big_quiet_op
      go_big_quiet_on
      go_big_quiet_want
      go_big_quiet_op
      go_big_quiet_on
      go_big_quiet_want
      refine ⟨.slice (some ⟨g2, q0, none⟩) k c2, fun W hW => ?_, ?_⟩
      · go_simp
      go_big_quiet_on
      simp only [Act.put, List.setIfInBounds_toArray, List.set_cons_zero, List.set_cons_succ]
      go_big_quiet_want
      refine ⟨.pointer (some ⟨S0, 0, none⟩), fun W hW => ?_, ?_⟩
      · go_simp
      go_big_quiet_on
      simp only [Act.put, List.setIfInBounds_toArray, List.set_cons_zero, List.set_cons_succ]
      go_big_quiet_want
      refine ⟨.string ⟨x.toArray⟩, fun W hW => ?_, ?_⟩
      · obtain ⟨z0, z1⟩ := XS.out W hW
        go_simp
      go_big_quiet_on
      simp only [Act.put, List.setIfInBounds_toArray, List.set_cons_zero, List.set_cons_succ]
      go_big_quiet_want
      refine ⟨.bool ib, fun W hW => ?_, ?_⟩
      · go_simp
        refine (HIS.out W (bel0 hB2 hW)).mono ?_
        rintro e w7 ⟨rfl, hb⟩
        exact ⟨rfl, by have := bel0 hW hb; simpa [hS0] using this⟩
      go_big_quiet_on
      simp only [Act.put, List.setIfInBounds_toArray, List.set_cons_zero, List.set_cons_succ]
      go_big_quiet_want
      go_big_quiet_op
      go_big_quiet_on
      refine wpQuiet_nil ?_
      intro W4 h4
      cases ib with
      | true =>
        have hres : Hid (R = ([], 45)) := by unfold Hid; rw [← HSTEP.out, if_pos (of_decide_eq_true hib)]
        clear HSTEP hib
        go_wp2_with fail
        refine bodyPost_ret (results_tmp2 rfl _ _ _) rfl ?_
        exact ⟨by rw [hres.out]; rfl, bel0 hB2 h4⟩
      | false =>
        have HST2 : Hid ((if 0 ≤ sv ∧ sv ≤ ((2 ^ b - 1 : Nat) : Int) then wdF L (S.take (k + 1)) (S.drop (k + 1)) (putL acc p (digL b sv.toNat 0)) else ([], 42)) = R) := by unfold Hid; rw [← HSTEP.out, if_neg (of_decide_eq_false hib)]
        have HFT : Hid (∀ W : World, Calls Tryz.prog 28 #[.int .i64 sv, .int .i64 (b : Int)] W fun e w' => e = .returned (.bool (decide (0 ≤ sv ∧ sv ≤ ((2 ^ b - 1 : Nat) : Int)))) ∧ w' = W) := fun W => fits_any sv b hb32 W
        obtain ⟨fb, hfb⟩ : ∃ q, decide (0 ≤ sv ∧ sv ≤ ((2 ^ b - 1 : Nat) : Int)) = q := ⟨_, rfl⟩
        simp only [hfb] at HFT
        clear HSTEP hib HIS HFD
        go_wp2_with fail
        refine quiet_lit3 (C := fun W => Below (wr.alloc O).heap.size (wr.alloc O) W) (by kernel_rfl) (by kernel_rfl) (show Below _ _ _ from Below.drew h4) ?_
        go_big_quiet_want
        refine ⟨.pointer (some ⟨S0, 1, none⟩), fun W hW => ?_, ?_⟩
        · go_simp
        go_big_quiet_on
        simp only [Act.put, List.setIfInBounds_toArray, List.set_cons_zero, List.set_cons_succ]
        go_big_quiet_want
        refine ⟨.int .i64 sv, fun W hW => ?_, ?_⟩
        · obtain ⟨z0, z1⟩ := XS.out W hW
          go_simp
        go_big_quiet_on
        simp only [Act.put, List.setIfInBounds_toArray, List.set_cons_zero, List.set_cons_succ]
        go_big_quiet_want
        go_big_quiet_op
        go_big_quiet_on
        go_big_quiet_want
        go_big_quiet_op
        go_big_quiet_on
        go_big_quiet_want
        refine ⟨.pointer (some ⟨g, o0 + i * 2, none⟩), fun W hW => ?_, ?_⟩
        · go_simp
        go_big_quiet_on
        simp only [Act.put, List.setIfInBounds_toArray, List.set_cons_zero, List.set_cons_succ]
        go_big_quiet_want
        refine ⟨.pointer (some ⟨g, o0 + i * 2 + 1, none⟩), fun W hW => ?_, ?_⟩
        · go_simp
        go_big_quiet_on
        simp only [Act.put, List.setIfInBounds_toArray, List.set_cons_zero, List.set_cons_succ]
        go_big_quiet_want
        refine ⟨.int .i64 (b : Int), fun W hW => ?_, ?_⟩
        · have z0 := XF.out W (bel0 hB2 hW)
          go_simp
        go_big_quiet_on
        simp only [Act.put, List.setIfInBounds_toArray, List.set_cons_zero, List.set_cons_succ]
        go_big_quiet_want
        refine ⟨.bool fb, fun W hW => ?_, ?_⟩
        · go_simp
          refine (HFT.out W).mono ?_
          rintro e w7 ⟨rfl, rfl⟩
          exact ⟨rfl, by simpa [hS0] using hW⟩
        go_big_quiet_on
        simp only [Act.put, List.setIfInBounds_toArray, List.set_cons_zero, List.set_cons_succ]
        go_big_quiet_want
        refine ⟨.bool (!fb), fun W hW => ?_, ?_⟩
        · go_simp
        go_big_quiet_on
        simp only [Act.put, List.setIfInBounds_toArray, List.set_cons_zero, List.set_cons_succ]
        go_big_quiet_want
        go_big_quiet_op
        go_big_quiet_on
        refine wpQuiet_nil ?_
        intro W5 h5
        have hBW := bel0 hB2 h5
        cases fb with
        | false =>
          have hres : Hid (R = ([], 42)) := by unfold Hid; rw [← HST2.out, if_neg (of_decide_eq_false hfb)]
          clear HST2 hfb
          go_wp2_with fail
          refine bodyPost_ret (results_tmp2 rfl _ _ _) rfl ?_
          exact ⟨by rw [hres.out]; rfl, hBW⟩
        | true =>
          have hvb := of_decide_eq_true hfb
          have hgo : Hid (wdF L (S.take (k + 1)) (S.drop (k + 1)) (putL acc p (digL b sv.toNat 0)) = R) := by unfold Hid; rw [← HST2.out, if_pos hvb]
          obtain ⟨vn, rfl⟩ : ∃ vn : Nat, sv = (vn : Int) := ⟨sv.toNat, by omega⟩
          have hvn : vn < 8589934592 := by have := HP2.out; omega
          rw [Int.toNat_natCast] at hgo
          have hDl : Hid ((digL b vn 0).length = b) := digL_len b vn 0 (Nat.zero_le _)
          have HDG : Hid (∀ W : World, Calls Tryz.prog 30 #[.int .i64 (b : Int), .int .i64 (vn : Int), .int .i64 0] W fun e w' => e = .returned (.string ⟨(digL b vn 0).toArray⟩) ∧ Below W.heap.size W w') := fun W => digits_any b vn 0 hb1 hb32 (Nat.zero_le _) hvn W
          obtain ⟨D, hD⟩ : ∃ D, digL b vn 0 = D := ⟨_, rfl⟩
          rw [hD] at hgo hDl
          simp only [hD] at HDG
          have HLY : Hid (∀ W' : World, Below (wr.alloc O).heap.size (wr.alloc O) W' → Calls Tryz.prog 29 #[.slice (some ⟨K, 0, none⟩) n cp, .slice (some ⟨g, o0, none⟩) L.length c, .int .i64 (i : Int), .string ⟨D.toArray⟩] W' fun e w' => (∃ v, e = .returned v) ∧ hdr w' K z (putL acc p D) ∧ Below w.heap.size W' w') := fun W' hW' =>
            lay_any L g o0 c i K cp z acc D n p w.heap.size W' hal.out hcp HP.out (by rw [hDl.out]; omega) (by rw [hDl.out]; omega) (by omega) hc (by omega) HB0.out (HR.out.later (bel0 hB2 hW')) (keepblk hW' hh2.out) hwK (bel0 hB2 hW').size
          have HAL : Hid ((putL acc p D).length = n) := by unfold Hid; rw [putL_len]; exact hal.out
          obtain ⟨acc2, ha2⟩ : ∃ a, putL acc p D = a := ⟨_, rfl⟩
          rw [ha2] at hgo HAL
          simp only [ha2] at HLY
          clear HST2 hfb hD ha2 hvb HFT
          simp only [Bool.not_true]
          go_wp2_with fail
          refine quiet_last (C := fun W => Below (wr.alloc O).heap.size (wr.alloc O) W) (by kernel_rfl) (by kernel_rfl) (by kernel_rfl) (by kernel_rfl) (show Below _ _ _ from Below.drew h5) ?_
          simp only [List.dropLast_cons_cons, List.dropLast_singleton]
          go_big_quiet_want
          go_big_quiet_op
          go_big_quiet_on
          go_big_quiet_want
          go_big_quiet_op
          go_big_quiet_on
          go_big_quiet_want
          go_big_quiet_op
          go_big_quiet_on
          go_big_quiet_want
          go_big_quiet_op
          go_big_quiet_on
          go_big_quiet_want
          go_big_quiet_op
          go_big_quiet_on
          go_big_quiet_want
          refine ⟨.pointer (some ⟨g, o0 + i * 2, none⟩), fun W hW => ?_, ?_⟩
          · go_simp
          go_big_quiet_on
          simp only [Act.put, List.setIfInBounds_toArray, List.set_cons_zero, List.set_cons_succ]
          go_big_quiet_want
          refine ⟨.pointer (some ⟨g, o0 + i * 2 + 1, none⟩), fun W hW => ?_, ?_⟩
          · go_simp
          go_big_quiet_on
          simp only [Act.put, List.setIfInBounds_toArray, List.set_cons_zero, List.set_cons_succ]
          go_big_quiet_want
          refine ⟨.int .i64 (b : Int), fun W hW => ?_, ?_⟩
          · have z0 := XF.out W (bel0 hB2 hW)
            go_simp
          go_big_quiet_on
          simp only [Act.put, List.setIfInBounds_toArray, List.set_cons_zero, List.set_cons_succ]
          go_big_quiet_want
          refine ⟨.pointer (some ⟨S0, 1, none⟩), fun W hW => ?_, ?_⟩
          · go_simp
          go_big_quiet_on
          simp only [Act.put, List.setIfInBounds_toArray, List.set_cons_zero, List.set_cons_succ]
          go_big_quiet_want
          refine ⟨.int .i64 (vn : Int), fun W hW => ?_, ?_⟩
          · obtain ⟨z0, z1⟩ := XS.out W hW
            go_simp
          go_big_quiet_on
          simp only [Act.put, List.setIfInBounds_toArray, List.set_cons_zero, List.set_cons_succ]
          go_big_quiet_want
          refine ⟨.string ⟨D.toArray⟩, fun W hW => ?_, ?_⟩
          · go_simp
            refine (HDG.out W).mono ?_
            rintro e w7 ⟨rfl, hb⟩
            exact ⟨rfl, by have := bel0 hW hb; simpa [hS0] using this⟩
          go_big_quiet_on
          simp only [Act.put, List.setIfInBounds_toArray, List.set_cons_zero, List.set_cons_succ]
          refine wpQuiet_nil ?_
          intro W6 h6
          refine wpOp_go rfl rfl ?_
          go_simp
          refine (HLY.out W6 h6).mono ?_
          rintro e W7 ⟨⟨v7, rfl⟩, hh7, hB7⟩
          have hB8 : Below w.heap.size w W7 := (bel0 hB2 h6).trans hB7
          clear HLY HDG
          go_wp2_with fail
          go_roundw
          case rel => exact ⟨k + 1, acc2, by go_num, by omega, HAL, hh7, hgo, hB8⟩
          case measure => simp [intOf]; omega
    · have j1 : ¬ (k : Int) < (S.length : Int) := by omega
      have hres : Hid (R = (acc, 0)) := by
        unfold Hid
        rw [← hrun.out, List.drop_eq_nil_of_le (by omega)]
        rfl
      have hcv := run_convert_bytes_back (P := Tryz.prog) wr 59 9 5 ⟨K, 0, none⟩ cp acc Tryz.underlying59 Tryz.underlying5 Tryz.underlying9 (fun j hj => by
        have := hdr_cell hh hj
        simp only [Addr.add]
        split
        · rename_i h; subst h; exact this
        · simpa using this)
      rw [hal.out] at hcv
      clear hrun hh
      go_wp2_with fail
      refine bodyPost_ret (results_tmp2 rfl _ _ _) rfl ?_
      exact ⟨by rw [hres.out]; rfl, hB⟩
end Go.Proofs.YtealpmimffcpdaaGreatDoor
namespace Go.Proofs.YtealpmimffcpdaaGreatDoor
open Go.RowKit Go.Shelf
theorem digL0 (b v : Nat) : (List.range b).map (bitB b v) = digL b v 0 := by simp [digL]
set_option maxRecDepth 100000 in
set_option maxHeartbeats 8000000 in
theorem refPack_any (L : List IFld) (o : Option Addr) (c : Nat) (V : List Int) (o2 : Option Addr) (c2 : Nat) (w : World) (hL : L.length ≤ 281474976710656) (hx : ∀ f ∈ L, f.1.length ≤ 281474976710656) (hr : IRF w o L) (hrv : IRV w o2 V) :
    Calls Tryz.prog 12 #[.slice o L.length c, .slice o2 V.length c2] w fun e w' => e = .returned (.tuple #[.string ⟨(pkM L V).1.toArray⟩, .int .i64 (pkM L V).2]) ∧ Below w.heap.size w w' := by
  have HC := refCheck_any L o c w hL hx hr
  obtain ⟨R, hR⟩ : ∃ R, pkM L V = R := ⟨_, rfl⟩
  rw [hR]
  by_cases h0 : ¬ (chkM L).1 = 0
  · have hres : Hid (R = ([], (chkM L).1)) := by unfold Hid; rw [← hR]; unfold pkM; rw [if_pos h0]
    obtain ⟨ce, hce⟩ : ∃ x, (chkM L).1 = x := ⟨_, rfl⟩
    rw [hce] at HC h0 hres
    have y1 : (ce != 0) = true := by simpa using h0
    clear hx hr hrv hR hce
    go_enter Tryz.func12, Tryz.ntmps12
    go_wp2_with fail
    refine HC.mono ?_
    rintro e W1 ⟨rfl, hb1⟩
    go_wp2_with fail
    refine bodyPost_ret (results_tmp2 rfl _ _ _) rfl ?_
    exact ⟨by rw [hres.out]; rfl, hb1⟩
  replace h0 := Classical.not_not.1 h0
  rw [h0] at HC
  obtain ⟨k1, k2, k3, k4⟩ := chk_ok h0
  by_cases hlen : ¬ V.length = L.length
  · have hres : Hid (R = ([], 1)) := by unfold Hid; rw [← hR]; unfold pkM; rw [if_neg (fun h => h h0), if_pos hlen]
    have y1 : ((V.length : Int) != (L.length : Int)) = true := by simp only [bne_iff_ne]; omega
    clear hx hr hrv hR
    go_enter Tryz.func12, Tryz.ntmps12
    go_wp2_with fail
    refine HC.mono ?_
    rintro e W1 ⟨rfl, hb1⟩
    go_wp2_with fail
    refine bodyPost_ret (results_tmp2 rfl _ _ _) rfl ?_
    exact ⟨by rw [hres.out]; rfl, hb1⟩
  replace hlen := Classical.not_not.1 hlen
  have y1 : ((V.length : Int) != (L.length : Int)) = false := by rw [hlen]; simp
  have HRF : Hid (pkF (L.drop 0) (V.drop 0) [] = R) := by unfold Hid; rw [← hR]; unfold pkM; rw [if_neg (fun h => h h0), if_neg (fun h => h hlen)]; rfl
  have HR : Hid (IRF w o L) := hr
  have HRV : Hid (IRV w o2 V) := hrv
  have HLV : Hid (V.length = L.length) := hlen
  have HK3 : Hid (∀ f ∈ L, 1 ≤ f.2 ∧ f.2 ≤ 32) := k3
  clear hx hr hrv hR h0 k3 k4
  go_enter Tryz.func12, Tryz.ntmps12
  go_wp2_with fail
  refine HC.mono ?_
  rintro e W1 ⟨rfl, hb1⟩
  clear HC
  go_wp2_with fail
  go_loopw [8, 9] (fun vs vk wr => ∃ (k : Nat) (acc : List UInt8), vk = .int .i64 k ∧ k ≤ L.length ∧ vs = .string ⟨acc.toArray⟩ ∧ acc.length ≤ 32 * k ∧ Hid (pkF (L.drop k) (V.drop k) acc = R) ∧ Below w.heap.size w wr) (fun _ vk _ => L.length - (intOf vk).toNat)
  case atStart => exact ⟨0, [], rfl, Nat.zero_le _, rfl, by simp, HRF, hb1⟩
  case round =>
    clear HRF hb1
    obtain ⟨k, acc, rfl, hk, rfl, hal, hrun, hB⟩ := hrel
    by_cases hlt : k < L.length
    · have j1 : (k : Int) < (L.length : Int) := by omega
      have j0 : (0 : Int) ≤ (k : Int) := by omega
      obtain ⟨f, hf⟩ : ∃ f, L[k]? = some f := ⟨_, List.getElem?_eq_getElem hlt⟩
      obtain ⟨v, hv⟩ : ∃ v, V[k]? = some v := ⟨_, List.getElem?_eq_getElem (by rw [HLV.out]; exact hlt)⟩
      have j2 : (k : Int) < (V.length : Int) := by rw [HLV.out]; omega
      obtain ⟨g, o0, rfl, -⟩ := HR.out wr hB k f hf
      obtain ⟨g2, q0, rfl, -⟩ := HRV.out wr hB k v hv
      have hstep := hrun.out
      rw [pkF_step hf hv] at hstep
      have hbits := HK3.out f (List.mem_of_getElem? hf)
      have XV : Hid (∀ W : World, Below w.heap.size w W → W.cell? ⟨g2, q0 + k, none⟩ = some (.int .i64 v)) := fun W hW => by
        obtain ⟨g3, q3, h1, h2⟩ := HRV.out W hW k v hv
        injection h1 with h1
        injection h1 with h1 h4
        subst h1 h4
        exact h2
      have XF : Hid (∀ W : World, Below w.heap.size w W → W.cell? ⟨g, o0 + k * 2 + 1, none⟩ = some (.int .i64 f.2)) := fun W hW => by
        obtain ⟨g3, q3, h1, -, h2⟩ := HR.out W hW k f hf
        injection h1 with h1
        injection h1 with h1 h4
        subst h1 h4
        exact h2
      obtain ⟨x, bi⟩ := f
      obtain ⟨b, rfl⟩ : ∃ b : Nat, bi = (b : Int) := ⟨bi.toNat, by simp only at hbits; omega⟩
      simp only [Int.toNat_natCast] at hstep hbits XF
      have hb32 : b ≤ 32 := by omega
      have HSTEP : Hid ((if 0 ≤ v ∧ v ≤ ((2 ^ b - 1 : Nat) : Int) then pkF (L.drop (k + 1)) (V.drop (k + 1)) (acc ++ digL b v.toNat 0) else ([], 42)) = R) := hstep
      have HP2 : Hid (2 ^ b ≤ 2 ^ 32) := Nat.pow_le_pow_right (by decide) hb32
      have HTP : Hid (∀ W : World, Calls Tryz.prog 25 #[.int .i64 (b : Int)] W fun e w' => e = .returned (.int .i64 ((2 ^ b - 1 : Nat) : Int)) ∧ w' = W) := fun W => top_any b hb32 W
      obtain ⟨tp, htp⟩ : ∃ t : Nat, 2 ^ b - 1 = t := ⟨_, rfl⟩
      have htp2 : tp < 4294967296 := by have := HP2.out; omega
      rw [htp] at HSTEP
      simp only [htp] at HTP
      clear hrun hf hv hstep htp
      by_cases hv0 : v < 0
      · have hres : Hid (R = ([], 42)) := by unfold Hid; rw [← HSTEP.out, if_neg (by omega)]
        clear HSTEP
        go_wp2_with fail
        refine quiet_lit3 (C := fun W => Below w.heap.size w W) (by kernel_rfl) (by kernel_rfl) (show Below _ _ _ from hB.drew) ?_
        go_big_quiet_want
        go_big_quiet_op
        go_big_quiet_on
        go_big_quiet_want
        go_big_quiet_op
        go_big_quiet_on
        go_big_quiet_want
        refine ⟨.pointer (some ⟨g2, q0 + k, none⟩), fun W hW => ?_, ?_⟩
        · go_simp
        go_big_quiet_on
        simp only [Act.put, List.setIfInBounds_toArray, List.set_cons_zero, List.set_cons_succ]
        go_big_quiet_want
        refine ⟨.int .i64 v, fun W hW => ?_, ?_⟩
        · have z0 := XV.out W hW
          go_simp
        go_big_quiet_on
        simp only [Act.put, List.setIfInBounds_toArray, List.set_cons_zero, List.set_cons_succ]
        go_big_quiet_want
        refine ⟨.bool true, fun W hW => ?_, ?_⟩
        · go_simp
        go_big_quiet_on
        simp only [Act.put, List.setIfInBounds_toArray, List.set_cons_zero, List.set_cons_succ]
        go_big_quiet_want
        go_big_quiet_op
        go_big_quiet_on
        go_big_quiet_skip
        go_big_quiet_skip
        go_big_quiet_skip
        go_big_quiet_skip
        go_big_quiet_skip
        go_big_quiet_skip
        go_big_quiet_skip
        go_big_quiet_skip
        go_big_quiet_skip
        go_big_quiet_skip
        go_big_quiet_skip
        go_big_quiet_want
        refine ⟨.bool true, fun W hW => ?_, ?_⟩
        · go_simp
        go_big_quiet_on
        simp only [Act.put, List.setIfInBounds_toArray, List.set_cons_zero, List.set_cons_succ]
        refine wpQuiet_nil ?_
        intro W hW
        go_wp2_with fail
        refine bodyPost_ret (results_tmp2 rfl _ _ _) rfl ?_
        exact ⟨by rw [hres.out]; rfl, hW⟩
      by_cases hvt : (tp : Int) < v
      · have hres : Hid (R = ([], 42)) := by unfold Hid; rw [← HSTEP.out, if_neg (by omega)]
        clear HSTEP
        go_wp2_with fail
        refine quiet_lit3 (C := fun W => Below w.heap.size w W) (by kernel_rfl) (by kernel_rfl) (show Below _ _ _ from hB.drew) ?_
        go_big_quiet_want
        go_big_quiet_op
        go_big_quiet_on
        go_big_quiet_want
        go_big_quiet_op
        go_big_quiet_on
        go_big_quiet_want
        refine ⟨.pointer (some ⟨g2, q0 + k, none⟩), fun W hW => ?_, ?_⟩
        · go_simp
        go_big_quiet_on
        simp only [Act.put, List.setIfInBounds_toArray, List.set_cons_zero, List.set_cons_succ]
        go_big_quiet_want
        refine ⟨.int .i64 v, fun W hW => ?_, ?_⟩
        · have z0 := XV.out W hW
          go_simp
        go_big_quiet_on
        simp only [Act.put, List.setIfInBounds_toArray, List.set_cons_zero, List.set_cons_succ]
        go_big_quiet_want
        refine ⟨.bool false, fun W hW => ?_, ?_⟩
        · go_simp
          try omega
        go_big_quiet_on
        simp only [Act.put, List.setIfInBounds_toArray, List.set_cons_zero, List.set_cons_succ]
        go_big_quiet_want
        go_big_quiet_op
        go_big_quiet_on
        go_big_quiet_want
        go_big_quiet_op
        go_big_quiet_on
        go_big_quiet_want
        go_big_quiet_op
        go_big_quiet_on
        go_big_quiet_want
        refine ⟨.pointer (some ⟨g2, q0 + k, none⟩), fun W hW => ?_, ?_⟩
        · go_simp
        go_big_quiet_on
        simp only [Act.put, List.setIfInBounds_toArray, List.set_cons_zero, List.set_cons_succ]
        go_big_quiet_want
        refine ⟨.int .i64 v, fun W hW => ?_, ?_⟩
        · have z0 := XV.out W hW
          go_simp
        go_big_quiet_on
        simp only [Act.put, List.setIfInBounds_toArray, List.set_cons_zero, List.set_cons_succ]
        go_big_quiet_want
        go_big_quiet_op
        go_big_quiet_on
        go_big_quiet_want
        go_big_quiet_op
        go_big_quiet_on
        go_big_quiet_want
        refine ⟨.pointer (some ⟨g, o0 + k * 2, none⟩), fun W hW => ?_, ?_⟩
        · go_simp
        go_big_quiet_on
        simp only [Act.put, List.setIfInBounds_toArray, List.set_cons_zero, List.set_cons_succ]
        go_big_quiet_want
        refine ⟨.pointer (some ⟨g, o0 + k * 2 + 1, none⟩), fun W hW => ?_, ?_⟩
        · go_simp
        go_big_quiet_on
        simp only [Act.put, List.setIfInBounds_toArray, List.set_cons_zero, List.set_cons_succ]
        go_big_quiet_want
        refine ⟨.int .i64 (b : Int), fun W hW => ?_, ?_⟩
        · have z0 := XF.out W hW
          go_simp
        go_big_quiet_on
        simp only [Act.put, List.setIfInBounds_toArray, List.set_cons_zero, List.set_cons_succ]
        go_big_quiet_want
        refine ⟨.int .i64 (tp : Int), fun W hW => ?_, ?_⟩
        · go_simp
          refine (HTP.out W).mono ?_
          rintro e w7 ⟨rfl, rfl⟩
          exact ⟨rfl, by simpa using hW⟩
        go_big_quiet_on
        simp only [Act.put, List.setIfInBounds_toArray, List.set_cons_zero, List.set_cons_succ]
        go_big_quiet_want
        refine ⟨.bool true, fun W hW => ?_, ?_⟩
        · go_simp
          try omega
        go_big_quiet_on
        simp only [Act.put, List.setIfInBounds_toArray, List.set_cons_zero, List.set_cons_succ]
        go_big_quiet_want
        refine ⟨.bool true, fun W hW => ?_, ?_⟩
        · go_simp
        go_big_quiet_on
        simp only [Act.put, List.setIfInBounds_toArray, List.set_cons_zero, List.set_cons_succ]
        refine wpQuiet_nil ?_
        intro W hW
        go_wp2_with fail
        refine bodyPost_ret (results_tmp2 rfl _ _ _) rfl ?_
        exact ⟨by rw [hres.out]; rfl, hW⟩
      have hgo : Hid (pkF (L.drop (k + 1)) (V.drop (k + 1)) (acc ++ digL b v.toNat 0) = R) := by unfold Hid; rw [← HSTEP.out, if_pos (by omega)]
      obtain ⟨vn, rfl⟩ : ∃ vn : Nat, v = (vn : Int) := ⟨v.toNat, by omega⟩
      rw [Int.toNat_natCast] at hgo
      have HDG : Hid (∀ W : World, Calls Tryz.prog 26 #[.int .i64 (vn : Int), .int .i64 (b : Int)] W fun e w' => e = .returned (.string ⟨(digL b vn 0).toArray⟩) ∧ Below W.heap.size W w') := fun W => by
        have := rdigits_any vn b hb32 (by omega) W
        rw [digL0] at this
        exact this
      have hDl := digL_len b vn 0 (Nat.zero_le _)
      obtain ⟨D, hD⟩ : ∃ D, digL b vn 0 = D := ⟨_, rfl⟩
      rw [hD] at hgo hDl
      simp only [hD] at HDG
      have HDL : Hid (D.length = b) := hDl
      clear HSTEP hD hDl
      go_wp2_with fail
      refine quiet_lit3 (C := fun W => Below w.heap.size w W) (by kernel_rfl) (by kernel_rfl) (show Below _ _ _ from hB.drew) ?_
      go_big_quiet_want
      go_big_quiet_op
      go_big_quiet_on
      go_big_quiet_want
      go_big_quiet_op
      go_big_quiet_on
      go_big_quiet_want
      refine ⟨.pointer (some ⟨g2, q0 + k, none⟩), fun W hW => ?_, ?_⟩
      · go_simp
      go_big_quiet_on
      simp only [Act.put, List.setIfInBounds_toArray, List.set_cons_zero, List.set_cons_succ]
      go_big_quiet_want
      refine ⟨.int .i64 (vn : Int), fun W hW => ?_, ?_⟩
      · have z0 := XV.out W hW
        go_simp
      go_big_quiet_on
      simp only [Act.put, List.setIfInBounds_toArray, List.set_cons_zero, List.set_cons_succ]
      go_big_quiet_want
      refine ⟨.bool false, fun W hW => ?_, ?_⟩
      · go_simp
        try omega
      go_big_quiet_on
      simp only [Act.put, List.setIfInBounds_toArray, List.set_cons_zero, List.set_cons_succ]
      go_big_quiet_want
      go_big_quiet_op
      go_big_quiet_on
      go_big_quiet_want
      go_big_quiet_op
      go_big_quiet_on
      go_big_quiet_want
      go_big_quiet_op
      go_big_quiet_on
      go_big_quiet_want
      refine ⟨.pointer (some ⟨g2, q0 + k, none⟩), fun W hW => ?_, ?_⟩
      · go_simp
      go_big_quiet_on
      simp only [Act.put, List.setIfInBounds_toArray, List.set_cons_zero, List.set_cons_succ]
      go_big_quiet_want
      refine ⟨.int .i64 (vn : Int), fun W hW => ?_, ?_⟩
      · have z0 := XV.out W hW
        go_simp
      go_big_quiet_on
      simp only [Act.put, List.setIfInBounds_toArray, List.set_cons_zero, List.set_cons_succ]
      go_big_quiet_want
      go_big_quiet_op
      go_big_quiet_on
      go_big_quiet_want
      go_big_quiet_op
      go_big_quiet_on
      go_big_quiet_want
      refine ⟨.pointer (some ⟨g, o0 + k * 2, none⟩), fun W hW => ?_, ?_⟩
      · go_simp
      go_big_quiet_on
      simp only [Act.put, List.setIfInBounds_toArray, List.set_cons_zero, List.set_cons_succ]
      go_big_quiet_want
      refine ⟨.pointer (some ⟨g, o0 + k * 2 + 1, none⟩), fun W hW => ?_, ?_⟩
      · go_simp
      go_big_quiet_on
      simp only [Act.put, List.setIfInBounds_toArray, List.set_cons_zero, List.set_cons_succ]
      go_big_quiet_want
      refine ⟨.int .i64 (b : Int), fun W hW => ?_, ?_⟩
      · have z0 := XF.out W hW
        go_simp
      go_big_quiet_on
      simp only [Act.put, List.setIfInBounds_toArray, List.set_cons_zero, List.set_cons_succ]
      go_big_quiet_want
      refine ⟨.int .i64 (tp : Int), fun W hW => ?_, ?_⟩
      · go_simp
        refine (HTP.out W).mono ?_
        rintro e w7 ⟨rfl, rfl⟩
        exact ⟨rfl, by simpa using hW⟩
      go_big_quiet_on
      simp only [Act.put, List.setIfInBounds_toArray, List.set_cons_zero, List.set_cons_succ]
      go_big_quiet_want
      refine ⟨.bool false, fun W hW => ?_, ?_⟩
      · go_simp
        try omega
      go_big_quiet_on
      simp only [Act.put, List.setIfInBounds_toArray, List.set_cons_zero, List.set_cons_succ]
      go_big_quiet_want
      refine ⟨.bool false, fun W hW => ?_, ?_⟩
      · go_simp
      go_big_quiet_on
      simp only [Act.put, List.setIfInBounds_toArray, List.set_cons_zero, List.set_cons_succ]
      refine wpQuiet_nil ?_
      intro W hW
      have hB2 : Below w.heap.size w W := hW
      clear hB hW
      go_wp2_with fail
      refine quiet_lit3 (C := fun Wz => Below w.heap.size w Wz) (by kernel_rfl) (by kernel_rfl) (show Below _ _ _ from hB2.drew) ?_
      go_big_quiet_want
      go_big_quiet_op
      go_big_quiet_on
      go_big_quiet_want
      go_big_quiet_op
      go_big_quiet_on
      go_big_quiet_want
      go_big_quiet_op
      go_big_quiet_on
      go_big_quiet_want
      refine ⟨.pointer (some ⟨g2, q0 + k, none⟩), fun W hW => ?_, ?_⟩
      · go_simp
      go_big_quiet_on
      simp only [Act.put, List.setIfInBounds_toArray, List.set_cons_zero, List.set_cons_succ]
      go_big_quiet_want
      refine ⟨.int .i64 (vn : Int), fun W hW => ?_, ?_⟩
      · have z0 := XV.out W hW
        go_simp
      go_big_quiet_on
      simp only [Act.put, List.setIfInBounds_toArray, List.set_cons_zero, List.set_cons_succ]
      go_big_quiet_want
      go_big_quiet_op
      go_big_quiet_on
      go_big_quiet_want
      go_big_quiet_op
      go_big_quiet_on
      go_big_quiet_want
      refine ⟨.pointer (some ⟨g, o0 + k * 2, none⟩), fun W hW => ?_, ?_⟩
      · go_simp
      go_big_quiet_on
      simp only [Act.put, List.setIfInBounds_toArray, List.set_cons_zero, List.set_cons_succ]
      go_big_quiet_want
      refine ⟨.pointer (some ⟨g, o0 + k * 2 + 1, none⟩), fun W hW => ?_, ?_⟩
      · go_simp
      go_big_quiet_on
      simp only [Act.put, List.setIfInBounds_toArray, List.set_cons_zero, List.set_cons_succ]
      go_big_quiet_want
      refine ⟨.int .i64 (b : Int), fun W hW => ?_, ?_⟩
      · have z0 := XF.out W hW
        go_simp
      go_big_quiet_on
      simp only [Act.put, List.setIfInBounds_toArray, List.set_cons_zero, List.set_cons_succ]
      go_big_quiet_want
      refine ⟨.string ⟨D.toArray⟩, fun W hW => ?_, ?_⟩
      · go_simp
        refine (HDG.out W).mono ?_
        rintro e w7 ⟨rfl, hb⟩
        exact ⟨rfl, bel0 hW hb⟩
      go_big_quiet_on
      simp only [Act.put, List.setIfInBounds_toArray, List.set_cons_zero, List.set_cons_succ]
      go_big_quiet_want
      refine ⟨.string ⟨(acc ++ D).toArray⟩, fun W hW => ?_, ?_⟩
      · go_simp
        rw [if_neg (by rw [HDL.out]; omega)]
        exact ⟨rfl, by rw [cat_bytes]⟩
      go_big_quiet_on
      simp only [Act.put, List.setIfInBounds_toArray, List.set_cons_zero, List.set_cons_succ]
      go_big_quiet_want
      go_big_quiet_op
      go_big_quiet_on
      refine wpQuiet_nil ?_
      intro W2 hW2
      go_wp2_with fail
      go_roundw
      case rel => exact ⟨k + 1, acc ++ D, by go_num, by omega, rfl, by rw [List.length_append, HDL.out]; omega, hgo, hW2⟩
      case measure => simp [intOf]; omega
    · have j1 : ¬ (k : Int) < (L.length : Int) := by omega
      have hres : Hid (R = (acc, 0)) := by
        unfold Hid
        rw [← hrun.out, pkF_end (by omega)]
      clear hrun
      go_wp2_with fail
      refine bodyPost_ret (results_tmp2 rfl _ _ _) rfl ?_
      exact ⟨by rw [hres.out]; rfl, hB⟩
set_option maxRecDepth 100000 in
set_option maxHeartbeats 2000000 in
theorem alike_any (V : List Int) (o1 o2 : Option Addr) (c1 c2 : Nat) (w : World) (hL : V.length ≤ 281474976710656) (h1 : IRV w o1 V) (h2 : IRV w o2 V) :
    Calls Tryz.prog 14 #[.slice o1 V.length c1, .slice o2 V.length c2] w fun e w' => e = .returned (.bool true) ∧ Below w.heap.size w w' := by
  have x1 : Hid (IRV w o1 V) := h1
  have x2 : Hid (IRV w o2 V) := h2
  clear h1 h2
  go_enter Tryz.func14, Tryz.ntmps14
  go_wp2_with fail
  go_loopw [5] (fun i wr => ∃ k : Nat, k ≤ V.length ∧ i = .int .i64 k ∧ Below w.heap.size w wr) (fun i _ => V.length - (intOf i).toNat)
  case atStart => exact ⟨0, Nat.zero_le _, rfl, Below.refl _ _⟩
  case round =>
    obtain ⟨k, hk, rfl, hB⟩ := hrel
    by_cases hlt : k < V.length
    · have j1 : (k : Int) < (V.length : Int) := by omega
      have j0 : (0 : Int) ≤ (k : Int) := by omega
      obtain ⟨f, hf⟩ : ∃ f, V[k]? = some f := ⟨_, List.getElem?_eq_getElem hlt⟩
      obtain ⟨G1, Q1, rfl, -⟩ := x1.out w (Below.refl _ _) k f hf
      obtain ⟨G2, Q2, rfl, -⟩ := x2.out w (Below.refl _ _) k f hf
      have X1 : Hid (∀ W, Below w.heap.size w W → W.cell? ⟨G1, Q1 + k, none⟩ = some (.int .i64 f)) := fun W hW => by
        obtain ⟨g2, q2, e, h⟩ := x1.out W hW k f hf
        injection e with e
        injection e with e1 e2
        subst e1 e2
        exact h
      have X2 : Hid (∀ W, Below w.heap.size w W → W.cell? ⟨G2, Q2 + k, none⟩ = some (.int .i64 f)) := fun W hW => by
        obtain ⟨g2, q2, e, h⟩ := x2.out W hW k f hf
        injection e with e
        injection e with e1 e2
        subst e1 e2
        exact h
      clear x1 x2 hf
      go_wp2_with fail
      refine quiet_lit3 (C := fun W => Below w.heap.size w W) (by kernel_rfl) (by kernel_rfl) (show Below _ _ _ from hB.drew) ?_
      go_big_quiet_want
      go_big_quiet_op
      go_big_quiet_on
      go_big_quiet_want
      go_big_quiet_op
      go_big_quiet_on
      go_big_quiet_want
      refine ⟨.pointer (some ⟨G1, Q1 + k, none⟩), fun W hW => ?_, ?_⟩
      · go_simp
      go_big_quiet_on
      simp only [Act.put, List.setIfInBounds_toArray, List.set_cons_zero, List.set_cons_succ]
      go_big_quiet_want
      refine ⟨.int .i64 f, fun W hW => ?_, ?_⟩
      · have z0 := X1.out W hW
        go_simp
      go_big_quiet_on
      simp only [Act.put, List.setIfInBounds_toArray, List.set_cons_zero, List.set_cons_succ]
      go_big_quiet_want
      go_big_quiet_op
      go_big_quiet_on
      go_big_quiet_want
      go_big_quiet_op
      go_big_quiet_on
      go_big_quiet_want
      refine ⟨.pointer (some ⟨G2, Q2 + k, none⟩), fun W hW => ?_, ?_⟩
      · go_simp
      go_big_quiet_on
      simp only [Act.put, List.setIfInBounds_toArray, List.set_cons_zero, List.set_cons_succ]
      go_big_quiet_want
      refine ⟨.int .i64 f, fun W hW => ?_, ?_⟩
      · have z0 := X2.out W hW
        go_simp
      go_big_quiet_on
      simp only [Act.put, List.setIfInBounds_toArray, List.set_cons_zero, List.set_cons_succ]
      go_big_quiet_want
      refine ⟨.bool false, fun W hW => ?_, ?_⟩
      · go_simp
      go_big_quiet_on
      simp only [Act.put, List.setIfInBounds_toArray, List.set_cons_zero, List.set_cons_succ]
      refine wpQuiet_nil ?_
      intro W hW
      go_wp2_with fail
      go_roundw
      case rel => exact ⟨k + 1, by omega, by go_num, hW⟩
      case measure => simp [intOf]; omega
    · have j1 : ¬ (k : Int) < (V.length : Int) := by omega
      go_wp2_with fail
      go_ret
      exact ⟨rfl, hB⟩
end Go.Proofs.YtealpmimffcpdaaGreatDoor
namespace Go.Proofs.YtealpmimffcpdaaGreatDoor
open Go.RowKit Go.Shelf
set_option maxRecDepth 100000 in
set_option maxHeartbeats 2000000 in
theorem refWidth_any (L : List IFld) (o : Option Addr) (c : Nat) (w : World) (hL : L.length ≤ 4096) (hf : ∀ f ∈ L, 0 ≤ f.2 ∧ f.2 ≤ 32) (hr : IRF w o L) :
    Calls Tryz.prog 34 #[.slice o L.length c] w fun e w' => e = .returned (.int .i64 (sumB L)) ∧ Below w.heap.size w w' := by
  have HR : Hid (IRF w o L) := hr
  have HF : Hid (∀ f ∈ L, 0 ≤ f.2 ∧ f.2 ≤ 32) := hf
  clear hr hf
  go_enter Tryz.func34, Tryz.ntmps34
  go_wp2_with fail
  go_loopw [3, 4] (fun vs vk wr => ∃ k : Nat, vk = .int .i64 k ∧ k ≤ L.length ∧ vs = .int .i64 (sumB (L.take k)) ∧ Below w.heap.size w wr) (fun _ vk _ => L.length - (intOf vk).toNat)
  case atStart => exact ⟨0, rfl, Nat.zero_le _, rfl, Below.refl _ _⟩
  case round =>
    obtain ⟨k, rfl, hk, rfl, hB⟩ := hrel
    by_cases hlt : k < L.length
    · have j1 : (k : Int) < (L.length : Int) := by omega
      have j0 : (0 : Int) ≤ (k : Int) := by omega
      obtain ⟨f, hf⟩ : ∃ f, L[k]? = some f := ⟨_, List.getElem?_eq_getElem hlt⟩
      obtain ⟨g, o0, rfl, p0, p1⟩ := HR.out wr hB k f hf
      have hs := sumB_take hf
      have hbd := sumB_bound (L.take k) (fun g hg => HF.out g (List.mem_of_mem_take hg))
      have hfb := HF.out f (List.mem_of_getElem? hf)
      have hlen : (L.take k).length = k := by rw [List.length_take]; omega
      rw [hlen] at hbd
      obtain ⟨y, n⟩ := f
      simp only at p0 p1 hs hfb
      obtain ⟨s, hs0⟩ : ∃ s, sumB (L.take k) = s := ⟨_, rfl⟩
      rw [hs0] at hs hbd
      have HS : Hid (sumB (L.take (k + 1)) = s + n) := hs
      rw [hs0]
      clear hf hs hlen hs0
      have e1 : IntKind.i64.wrap (s + n) = s + n := by rw [IntKind.wrap_i64]; omega
      go_wp2_with fail
      go_roundw
      case rel => exact ⟨k + 1, by go_num, by omega, by rw [HS.out], hB⟩
      case measure => simp [intOf]; omega
    · have j1 : ¬ (k : Int) < (L.length : Int) := by omega
      rw [List.take_of_length_le (by omega)]
      go_wp2_with fail
      go_ret
      exact ⟨rfl, hB⟩
/-- where a field's places begin, and its number -/
def plM (L : List IFld) (x : List UInt8) : Int × Int := if idxF L x < 0 then (-1, -1) else (sumB (L.take (idxF L x).toNat), idxF L x)
set_option maxRecDepth 100000 in
set_option maxHeartbeats 4000000 in
theorem refPlace_any (L : List IFld) (o : Option Addr) (c : Nat) (x : List UInt8) (w : World) (hL : L.length ≤ 4096) (hf : ∀ f ∈ L, 0 ≤ f.2 ∧ f.2 ≤ 32) (hr : IRF w o L) :
    Calls Tryz.prog 35 #[.slice o L.length c, .string ⟨x.toArray⟩] w fun e w' => e = .returned (.tuple #[.int .i64 (plM L x).1, .int .i64 (plM L x).2]) ∧ Below w.heap.size w w' := by
  have HR : Hid (IRF w o L) := hr
  have HF : Hid (∀ f ∈ L, 0 ≤ f.2 ∧ f.2 ≤ 32) := hf
  obtain ⟨R, hR⟩ : ∃ R, plM L x = R := ⟨_, rfl⟩
  rw [hR]
  have HI0 : Hid (idxG 0 (L.drop 0) x = idxF L x) := rfl
  have HRR : Hid (plM L x = R) := hR
  clear hr hf hR
  go_enter Tryz.func35, Tryz.ntmps35
  go_wp2_with fail
  go_loopw [6, 7] (fun vs vk wr => ∃ k : Nat, vk = .int .i64 k ∧ k ≤ L.length ∧ vs = .int .i64 (sumB (L.take k)) ∧ Hid (idxG k (L.drop k) x = idxF L x) ∧ Below w.heap.size w wr) (fun _ vk _ => L.length - (intOf vk).toNat)
  case atStart => exact ⟨0, rfl, Nat.zero_le _, rfl, HI0, Below.refl _ _⟩
  case round =>
    clear HI0
    obtain ⟨k, rfl, hk, rfl, hidx, hB⟩ := hrel
    by_cases hlt : k < L.length
    · have j1 : (k : Int) < (L.length : Int) := by omega
      have j0 : (0 : Int) ≤ (k : Int) := by omega
      obtain ⟨f, hf⟩ : ∃ f, L[k]? = some f := ⟨_, List.getElem?_eq_getElem hlt⟩
      obtain ⟨g, o0, rfl, p0, p1⟩ := HR.out wr hB k f hf
      have hs := sumB_take hf
      have hbd := sumB_bound (L.take k) (fun g hg => HF.out g (List.mem_of_mem_take hg))
      have hfb := HF.out f (List.mem_of_getElem? hf)
      have hlen : (L.take k).length = k := by rw [List.length_take]; omega
      rw [hlen] at hbd
      have hx2 := hidx.out
      rw [idxG_step hf] at hx2
      obtain ⟨y, n⟩ := f
      simp only at p0 p1 hs hfb hx2
      by_cases hy : y = x
      · rw [if_pos hy] at hx2
        have HRES : Hid (R = (sumB (L.take k), (k : Int))) := by
          unfold Hid
          rw [← HRR.out]
          unfold plM
          rw [← hx2, if_neg (by omega), Int.toNat_natCast]
        have y0 : (y == x) = true := beq_iff_eq.2 hy
        obtain ⟨s, hs0⟩ : ∃ s, sumB (L.take k) = s := ⟨_, rfl⟩
        rw [hs0] at HRES
        rw [hs0]
        clear hf hs hlen hs0 hx2 hidx hy hbd
        go_wp2_with fail
        refine bodyPost_ret (results_tmp2 rfl _ _ _) rfl ?_
        exact ⟨by rw [HRES.out]; rfl, hB⟩
      · rw [if_neg hy] at hx2
        have y0 : (y == x) = false := beq_eq_false_iff_ne.2 hy
        have HX : Hid (idxG (k + 1) (L.drop (k + 1)) x = idxF L x) := hx2
        obtain ⟨s, hs0⟩ : ∃ s, sumB (L.take k) = s := ⟨_, rfl⟩
        rw [hs0] at hs hbd
        have HS : Hid (sumB (L.take (k + 1)) = s + n) := hs
        rw [hs0]
        clear hf hs hlen hs0 hx2 hidx hy
        have e1 : IntKind.i64.wrap (s + n) = s + n := by rw [IntKind.wrap_i64]; omega
        go_wp2_with fail
        go_roundw
        case rel => exact ⟨k + 1, by go_num, by omega, by rw [HS.out], HX, hB⟩
        case measure => simp [intOf]; omega
    · have j1 : ¬ (k : Int) < (L.length : Int) := by omega
      have HRES : Hid (R = (-1, -1)) := by
        unfold Hid
        rw [← HRR.out]
        unfold plM
        rw [← hidx.out, List.drop_eq_nil_of_le (by omega)]
        exact if_pos (show (-1 : Int) < 0 by decide)
      clear hidx
      go_wp2_with fail
      refine bodyPost_ret (results_tmp2 rfl _ _ _) rfl ?_
      exact ⟨by rw [HRES.out]; rfl, hB⟩
theorem putL_eq {acc D : List UInt8} {p : Nat} (h : p + D.length ≤ acc.length) : (acc.take p ++ D) ++ acc.drop (p + D.length) = putL acc p D := by
  have e : acc = acc.take p ++ ((acc.drop p).take D.length ++ acc.drop (p + D.length)) := by
    rw [← List.drop_drop, List.take_append_drop, List.take_append_drop]
  have hl : (acc.take p).length = p := by rw [List.length_take]; omega
  have := putL_mid D (acc.take p) ((acc.drop p).take D.length) (acc.drop (p + D.length)) (by rw [List.length_take, List.length_drop]; omega)
  rw [← e, hl] at this
  rw [this, List.append_assoc]
set_option maxRecDepth 100000 in
set_option maxHeartbeats 8000000 in
theorem refWord_any (L : List IFld) (o : Option Addr) (c : Nat) (S : List IFld) (o2 : Option Addr) (c2 : Nat) (w : World) (hL : L.length ≤ 281474976710656) (hx : ∀ f ∈ L, f.1.length ≤ 281474976710656) (hr : IRF w o L) (hrs : IRF w o2 S) :
    Calls Tryz.prog 16 #[.slice o L.length c, .slice o2 S.length c2] w fun e w' => e = .returned (.tuple #[.string ⟨(wdM L S).1.toArray⟩, .int .i64 (wdM L S).2]) ∧ Below w.heap.size w w' := by
  obtain ⟨R, hR⟩ : ∃ R, wdM L S = R := ⟨_, rfl⟩
  rw [hR]
  by_cases hbig : 12 < S.length
  · have i1 : (12 : Int) < (S.length : Int) := by omega
    have hres : Hid (R = ([], 2)) := by unfold Hid; rw [← hR]; unfold wdM; rw [if_pos hbig]
    clear hx hr hrs hR
    go_enter Tryz.func16, Tryz.ntmps16
    go_wp2_with fail
    refine bodyPost_ret (results_tmp2 rfl _ _ _) rfl ?_
    exact ⟨by rw [hres.out]; rfl, Below.refl _ _⟩
  have i1 : ¬ (12 : Int) < (S.length : Int) := by omega
  have HC := refCheck_any L o c w hL hx hr
  by_cases h0 : ¬ (chkM L).1 = 0
  · have hres : Hid (R = ([], (chkM L).1)) := by unfold Hid; rw [← hR]; unfold wdM; rw [if_neg hbig, if_pos h0]
    obtain ⟨ce, hce⟩ : ∃ x, (chkM L).1 = x := ⟨_, rfl⟩
    rw [hce] at HC h0 hres
    have y1 : (ce != 0) = true := by simpa using h0
    clear hx hr hrs hR hce
    go_enter Tryz.func16, Tryz.ntmps16
    go_wp2_with fail
    refine HC.mono ?_
    rintro e W1 ⟨rfl, hb1⟩
    go_wp2_with fail
    refine bodyPost_ret (results_tmp2 rfl _ _ _) rfl ?_
    exact ⟨by rw [hres.out]; rfl, hb1⟩
  replace h0 := Classical.not_not.1 h0
  rw [h0] at HC
  obtain ⟨k1, k2, k3, k4⟩ := chk_ok h0
  have hb0 : ∀ f ∈ L, 0 ≤ f.2 ∧ f.2 ≤ 32 := fun f hf => by have := k3 f hf; omega
  obtain ⟨n, hn⟩ : ∃ n : Nat, sumB L = (n : Int) := ⟨(sumB L).toNat, by have := (sumB_bound L hb0).1; omega⟩
  have hn256 : n ≤ 256 := by omega
  have HRF : Hid (wdF L (S.take 0) (S.drop 0) (List.replicate n 120) = R) := by unfold Hid; rw [← hR]; unfold wdM; rw [if_neg hbig, if_neg (fun h => h h0), hn]; rfl
  obtain ⟨f0, hf0⟩ : ∃ f, L[0]? = some f := ⟨_, List.getElem?_eq_getElem k1⟩
  obtain ⟨g, o0, rfl, -⟩ := hr w (Below.refl _ _) 0 f0 hf0
  have HR : Hid (IRF w (some ⟨g, o0, none⟩) L) := hr
  have HRS : Hid (IRF w o2 S) := hrs
  have HK3 : Hid (∀ f ∈ L, 1 ≤ f.2 ∧ f.2 ≤ 32) := k3
  have HB0 : Hid (∀ f ∈ L, 0 ≤ f.2 ∧ f.2 ≤ 32) := hb0
  have HN : Hid (sumB L = (n : Int)) := hn
  have HWD : Hid (∀ W : World, Below w.heap.size w W → Calls Tryz.prog 34 #[.slice (some ⟨g, o0, none⟩) L.length c] W fun e w' => e = .returned (.int .i64 (n : Int)) ∧ Below W.heap.size W w') := fun W hW => by
    have := refWidth_any L (some ⟨g, o0, none⟩) c W (by omega) hb0 (hr.later hW)
    rw [hn] at this
    exact this
  have HXS : Hid (∀ W : World, Calls Tryz.prog 33 #[.int .i64 (n : Int)] W fun e w' => e = .returned (.string ⟨(List.replicate n 120).toArray⟩) ∧ Below W.heap.size W w') := fun W => xs_any n (by omega) W
  obtain ⟨T0, hT0⟩ : ∃ T0 : List UInt8, List.replicate n 120 = T0 := ⟨_, rfl⟩
  have hT0l : Hid (T0.length = n) := by unfold Hid; rw [← hT0]; simp
  rw [hT0] at HRF
  simp only [hT0] at HXS
  clear hx hr hrs hR h0 k3 k4 hb0 hn hf0 hT0
  go_enter Tryz.func16, Tryz.ntmps16
  go_wp2_with fail
  refine HC.mono ?_
  rintro e W1 ⟨rfl, hb1⟩
  go_wp2_with fail
  refine (HWD.out _ hb1).mono ?_
  rintro e W2 ⟨rfl, hb2⟩
  go_wp2_with fail
  refine (HXS.out _).mono ?_
  rintro e W3 ⟨rfl, hb3⟩
  have hB3 := bel0 (bel0 hb1 hb2) hb3
  clear HC HWD HXS hb1 hb2 hb3
  go_wp2_with fail
  go_loopw [8, 9] (fun vs vk wr => ∃ (k : Nat) (acc : List UInt8), vk = .int .i64 k ∧ k ≤ S.length ∧ vs = .string ⟨acc.toArray⟩ ∧ Hid (acc.length = n) ∧ Hid (wdF L (S.take k) (S.drop k) acc = R) ∧ Below w.heap.size w wr) (fun _ vk _ => S.length - (intOf vk).toNat)
  case atStart => exact ⟨0, T0, rfl, Nat.zero_le _, rfl, hT0l, HRF, hB3⟩
  case round =>
    clear HRF hB3
    obtain ⟨k, acc, rfl, hk, rfl, hal, hrun, hB⟩ := hrel
    by_cases hlt : k < S.length
    · have j1 : (k : Int) < (S.length : Int) := by omega
      have j0 : (0 : Int) ≤ (k : Int) := by omega
      obtain ⟨s, hs⟩ : ∃ s, S[k]? = some s := ⟨_, List.getElem?_eq_getElem hlt⟩
      obtain ⟨g2, q0, rfl, p0, p1⟩ := HRS.out wr hB k s hs
      have hstep := hrun.out
      rw [wdF_step hs] at hstep
      have HPL : Hid (∀ W : World, Below w.heap.size w W → Calls Tryz.prog 35 #[.slice (some ⟨g, o0, none⟩) L.length c, .string ⟨s.1.toArray⟩] W fun e w' => e = .returned (.tuple #[.int .i64 (plM L s.1).1, .int .i64 (plM L s.1).2]) ∧ Below W.heap.size W w') := fun W hW => refPlace_any L (some ⟨g, o0, none⟩) c s.1 W (by omega) HB0.out (HR.out.later hW)
      have HIX : Hid (0 ≤ idxF (S.take k) s.1 ↔ ∃ i h, i < k ∧ S[i]? = some h ∧ h.1 = s.1) := by
        unfold Hid
        rw [idxF_ge]
        constructor
        · rintro ⟨h, hm, he⟩
          obtain ⟨i, hi⟩ := List.getElem?_of_mem hm
          rw [List.getElem?_take] at hi
          split at hi
          · rename_i hik; exact ⟨i, h, hik, hi, he⟩
          · cases hi
        · rintro ⟨i, h, hik, hi, he⟩
          refine ⟨h, List.mem_of_getElem? (i := i) ?_, he⟩
          rw [List.getElem?_take, if_pos hik]
          exact hi
      have XS : Hid (∀ W : World, Below w.heap.size w W → W.cell? ⟨g2, q0 + k * 2, none⟩ = some (.string ⟨s.1.toArray⟩) ∧ W.cell? ⟨g2, q0 + k * 2 + 1, none⟩ = some (.int .i64 s.2)) := fun W hW => by
        obtain ⟨g3, q3, h1, h2⟩ := HRS.out W hW k s hs
        injection h1 with h1
        injection h1 with h1 h4
        subst h1 h4
        exact h2
      have hix := idxG_ge L 0 s.1
      obtain ⟨x, sv⟩ := s
      simp only at p0 p1 hstep HPL hix XS HIX
      rcases hix with hix | ⟨i, f, hix, hfi, hfx⟩
      · have hix2 : idxF L x = -1 := hix
        have hres : Hid (R = ([], 41)) := by unfold Hid; rw [← hstep, hix2, if_pos (by decide)]
        have hpl : plM L x = (-1, -1) := by unfold plM; rw [hix2, if_pos (by decide)]
        rw [hpl] at HPL
        clear hstep hix hix2 hrun hs hpl
        go_wp2_with fail
        refine (HPL.out _ hB).mono ?_
        rintro e W3 ⟨rfl, hb3⟩
        go_wp2_with fail
        refine bodyPost_ret (results_tmp2 rfl _ _ _) rfl ?_
        exact ⟨by rw [hres.out]; rfl, bel0 hB hb3⟩
      have hix2 : idxF L x = (i : Int) := by
        unfold idxF
        rw [hix, Nat.zero_add]
      have hgd : L.getD i ([], 0) = f := by simp [List.getD, hfi]
      rw [hix2, if_neg (by omega), Int.toNat_natCast, hgd] at hstep
      have hil : i < L.length := (List.getElem?_eq_some_iff.1 hfi).1
      have l1 : (i : Int) < (L.length : Int) := by omega
      have l0 : (0 : Int) ≤ (i : Int) := by omega
      have l2 : ¬ (i : Int) < 0 := by omega
      have hbits := HK3.out f (List.mem_of_getElem? hfi)
      have hst := sumB_take hfi
      have hpb := (sumB_bound (L.take i) (fun f hf => HB0.out f (List.mem_of_mem_take hf))).1
      obtain ⟨p, hp⟩ : ∃ p : Nat, sumB (L.take i) = (p : Int) := ⟨(sumB (L.take i)).toNat, by omega⟩
      have hpl : plM L x = ((p : Int), (i : Int)) := by unfold plM; rw [hix2, if_neg (by omega), Int.toNat_natCast, hp]
      rw [hpl] at HPL
      have hle := sumB_take_le HB0.out (i + 1)
      rw [hst, HN.out, hp] at hle
      rw [hp, Int.toNat_natCast] at hstep
      have XF : Hid (∀ W : World, Below w.heap.size w W → W.cell? ⟨g, o0 + i * 2 + 1, none⟩ = some (.int .i64 f.2)) := fun W hW => by
        obtain ⟨g3, q3, h1, -, h2⟩ := HR.out W hW i f hfi
        injection h1 with h1
        injection h1 with h1 h4
        subst h1 h4
        exact h2
      obtain ⟨fx, bi⟩ := f
      obtain ⟨b, rfl⟩ : ∃ b : Nat, bi = (b : Int) := ⟨bi.toNat, by simp only at hbits; omega⟩
      simp only [Int.toNat_natCast] at hstep hbits hle XF
      have hb1 : 1 ≤ b := by omega
      have hb32 : b ≤ 32 := by omega
      have HP2 : Hid (2 ^ b ≤ 2 ^ 32) := Nat.pow_le_pow_right (by decide) hb32
      have HSTEP : Hid ((if 0 ≤ idxF (S.take k) x then ([], 45) else if 0 ≤ sv ∧ sv ≤ ((2 ^ b - 1 : Nat) : Int) then wdF L (S.take (k + 1)) (S.drop (k + 1)) (putL acc p (digL b sv.toNat 0)) else ([], 42)) = R) := hstep
      clear hstep hix hix2 hrun hs hgd hst hpb hfi hfx hp hpl
      go_wp2_with fail
      refine (HPL.out _ hB).mono ?_
      rintro e W3 ⟨rfl, hb3⟩
      have hB3 := bel0 hB hb3
      clear HPL p0 p1 hb3 hB
      go_wp2_with fail
      go_loopw [12] (fun vj wi => ∃ j : Nat, vj = .int .i64 j ∧ j ≤ k ∧ Hid (∀ i h, i < j → S[i]? = some h → h.1 ≠ x) ∧ Below w.heap.size w wi) (fun vj _ => k - (intOf vj).toNat)
      case atStart => exact ⟨0, rfl, Nat.zero_le _, fun i h hi => by omega, hB3⟩
      case round =>
        clear hB3
        obtain ⟨j, rfl, hj, hno, hB⟩ := hrel
        by_cases hjk : j < k
        · have q1 : (j : Int) < (k : Int) := by omega
          have q00 : (0 : Int) ≤ (j : Int) := by omega
          have q2 : (j : Int) < (S.length : Int) := by omega
          obtain ⟨h, hh⟩ : ∃ h, S[j]? = some h := ⟨_, List.getElem?_eq_getElem (by omega)⟩
          have XH : Hid (∀ W : World, Below w.heap.size w W → W.cell? ⟨g2, q0 + j * 2, none⟩ = some (.string ⟨h.1.toArray⟩)) := fun W hW => by
            obtain ⟨g3, q3, e1, e2, -⟩ := HRS.out W hW j h hh
            injection e1 with e1
            injection e1 with e1 e3
            subst e1 e3
            exact e2
          have HEQ : Hid (h.1 = x → R = ([], 45)) := fun e => by rw [← HSTEP.out, if_pos (HIX.out.2 ⟨j, h, hjk, hh, e⟩)]
          have HNX : Hid (h.1 ≠ x → ∀ i h, i < j + 1 → S[i]? = some h → h.1 ≠ x) := fun hne i h' hi hh' => by
            rcases Nat.lt_or_ge i j with h1 | h1
            · exact hno.out i h' h1 hh'
            · obtain rfl : i = j := by omega
              rw [hh] at hh'
              rw [← Option.some.inj hh']
              exact hne
          obtain ⟨y, bb⟩ := h
          simp only at XH HEQ HNX
          clear hh hno
          obtain ⟨e0, he0⟩ : ∃ e, (y == x) = e := ⟨_, rfl⟩
          go_wp2_with fail
          refine quiet_lit3 (C := fun W => Below w.heap.size w W) (by kernel_rfl) (by kernel_rfl) (show Below _ _ _ from hB.drew) ?_
          go_big_quiet_want
          go_big_quiet_op
          go_big_quiet_on
          go_big_quiet_want
          go_big_quiet_op
          go_big_quiet_on
          go_big_quiet_want
          refine ⟨.pointer (some ⟨g2, q0 + j * 2, none⟩), fun W hW => ?_, ?_⟩
          · go_simp
          go_big_quiet_on
          simp only [Act.put, List.setIfInBounds_toArray, List.set_cons_zero, List.set_cons_succ]
          go_big_quiet_want
          refine ⟨.pointer (some ⟨g2, q0 + j * 2, none⟩), fun W hW => ?_, ?_⟩
          · go_simp
          go_big_quiet_on
          simp only [Act.put, List.setIfInBounds_toArray, List.set_cons_zero, List.set_cons_succ]
          go_big_quiet_want
          refine ⟨.string ⟨y.toArray⟩, fun W hW => ?_, ?_⟩
          · have z0 := XH.out W hW
            go_simp
          go_big_quiet_on
          simp only [Act.put, List.setIfInBounds_toArray, List.set_cons_zero, List.set_cons_succ]
          go_big_quiet_want
          go_big_quiet_op
          go_big_quiet_on
          go_big_quiet_want
          go_big_quiet_op
          go_big_quiet_on
          go_big_quiet_want
          refine ⟨.pointer (some ⟨g2, q0 + k * 2, none⟩), fun W hW => ?_, ?_⟩
          · go_simp
          go_big_quiet_on
          simp only [Act.put, List.setIfInBounds_toArray, List.set_cons_zero, List.set_cons_succ]
          go_big_quiet_want
          refine ⟨.pointer (some ⟨g2, q0 + k * 2, none⟩), fun W hW => ?_, ?_⟩
          · go_simp
          go_big_quiet_on
          simp only [Act.put, List.setIfInBounds_toArray, List.set_cons_zero, List.set_cons_succ]
          go_big_quiet_want
          refine ⟨.string ⟨x.toArray⟩, fun W hW => ?_, ?_⟩
          · obtain ⟨z0, z1⟩ := XS.out W hW
            go_simp
          go_big_quiet_on
          simp only [Act.put, List.setIfInBounds_toArray, List.set_cons_zero, List.set_cons_succ]
          go_big_quiet_want
          refine ⟨.bool e0, fun W hW => ?_, ?_⟩
          · go_simp
          go_big_quiet_on
          simp only [Act.put, List.setIfInBounds_toArray, List.set_cons_zero, List.set_cons_succ]
          refine wpQuiet_nil ?_
          intro W hW
          cases e0 with
          | true =>
            have HRES : Hid (R = ([], 45)) := HEQ.out (beq_iff_eq.1 he0)
            clear HEQ HNX he0
            go_wp2_with fail
            refine bodyPost_ret (results_tmp2 rfl _ _ _) rfl ?_
            exact ⟨by rw [HRES.out]; rfl, hW⟩
          | false =>
            have HN2 : Hid (∀ i h, i < j + 1 → S[i]? = some h → h.1 ≠ x) := HNX.out (beq_eq_false_iff_ne.1 he0)
            clear HEQ HNX he0
            go_wp2_with fail
            go_roundw
            case rel => exact ⟨j + 1, by go_num, by omega, HN2, hW⟩
            case measure => simp [intOf]; omega
        · have q1 : ¬ (j : Int) < (k : Int) := by omega
          obtain rfl : j = k := by omega
          have hnx : ¬ 0 ≤ idxF (S.take j) x := by
            rw [HIX.out]
            rintro ⟨i, h, hi, hh, he⟩
            exact hno.out i h hi hh he
          have HTP : Hid (∀ W : World, Calls Tryz.prog 25 #[.int .i64 (b : Int)] W fun e w' => e = .returned (.int .i64 ((2 ^ b - 1 : Nat) : Int)) ∧ w' = W) := fun W => top_any b hb32 W
          have HST2 : Hid ((if 0 ≤ sv ∧ sv ≤ ((2 ^ b - 1 : Nat) : Int) then wdF L (S.take (j + 1)) (S.drop (j + 1)) (putL acc p (digL b sv.toNat 0)) else ([], 42)) = R) := by unfold Hid; rw [← HSTEP.out, if_neg hnx]
          obtain ⟨tp, htp⟩ : ∃ t : Nat, 2 ^ b - 1 = t := ⟨_, rfl⟩
          have htp2 : tp < 4294967296 := by have := HP2.out; omega
          rw [htp] at HST2
          simp only [htp] at HTP
          have z9 := XF.out _ hB
          clear HSTEP hnx hno htp
          by_cases hv0 : sv < 0
          · have hres : Hid (R = ([], 42)) := by unfold Hid; rw [← HST2.out, if_neg (by omega)]
            clear HST2
            go_wp2_with fail
            refine quiet_lit3 (C := fun W => Below w.heap.size w W) (by kernel_rfl) (by kernel_rfl) (show Below _ _ _ from hB.drew) ?_
            go_big_quiet_want
            go_big_quiet_op
            go_big_quiet_on
            go_big_quiet_want
            go_big_quiet_op
            go_big_quiet_on
            go_big_quiet_want
            refine ⟨.pointer (some ⟨g2, q0 + j * 2, none⟩), fun W hW => ?_, ?_⟩
            · go_simp
            go_big_quiet_on
            simp only [Act.put, List.setIfInBounds_toArray, List.set_cons_zero, List.set_cons_succ]
            go_big_quiet_want
            refine ⟨.pointer (some ⟨g2, q0 + j * 2 + 1, none⟩), fun W hW => ?_, ?_⟩
            · go_simp
            go_big_quiet_on
            simp only [Act.put, List.setIfInBounds_toArray, List.set_cons_zero, List.set_cons_succ]
            go_big_quiet_want
            refine ⟨.int .i64 sv, fun W hW => ?_, ?_⟩
            · obtain ⟨z0, z1⟩ := XS.out W hW
              go_simp
            go_big_quiet_on
            simp only [Act.put, List.setIfInBounds_toArray, List.set_cons_zero, List.set_cons_succ]
            go_big_quiet_want
            refine ⟨.bool true, fun W hW => ?_, ?_⟩
            · go_simp
            go_big_quiet_on
            simp only [Act.put, List.setIfInBounds_toArray, List.set_cons_zero, List.set_cons_succ]
            go_big_quiet_want
            go_big_quiet_op
            go_big_quiet_on
            go_big_quiet_skip
            go_big_quiet_skip
            go_big_quiet_skip
            go_big_quiet_skip
            go_big_quiet_skip
            go_big_quiet_skip
            go_big_quiet_skip
            go_big_quiet_skip
            go_big_quiet_want
            refine ⟨.bool true, fun W hW => ?_, ?_⟩
            · go_simp
            go_big_quiet_on
            simp only [Act.put, List.setIfInBounds_toArray, List.set_cons_zero, List.set_cons_succ]
            refine wpQuiet_nil ?_
            intro W hW
            go_wp2_with fail
            refine bodyPost_ret (results_tmp2 rfl _ _ _) rfl ?_
            exact ⟨by rw [hres.out]; rfl, hW⟩
          by_cases hvt : (tp : Int) < sv
          · have hres : Hid (R = ([], 42)) := by unfold Hid; rw [← HST2.out, if_neg (by omega)]
            clear HST2
            go_wp2_with fail
            refine quiet_lit3 (C := fun W => Below w.heap.size w W) (by kernel_rfl) (by kernel_rfl) (show Below _ _ _ from hB.drew) ?_
            go_big_quiet_want
            go_big_quiet_op
            go_big_quiet_on
            go_big_quiet_want
            go_big_quiet_op
            go_big_quiet_on
            go_big_quiet_want
            refine ⟨.pointer (some ⟨g2, q0 + j * 2, none⟩), fun W hW => ?_, ?_⟩
            · go_simp
            go_big_quiet_on
            simp only [Act.put, List.setIfInBounds_toArray, List.set_cons_zero, List.set_cons_succ]
            go_big_quiet_want
            refine ⟨.pointer (some ⟨g2, q0 + j * 2 + 1, none⟩), fun W hW => ?_, ?_⟩
            · go_simp
            go_big_quiet_on
            simp only [Act.put, List.setIfInBounds_toArray, List.set_cons_zero, List.set_cons_succ]
            go_big_quiet_want
            refine ⟨.int .i64 sv, fun W hW => ?_, ?_⟩
            · obtain ⟨z0, z1⟩ := XS.out W hW
              go_simp
            go_big_quiet_on
            simp only [Act.put, List.setIfInBounds_toArray, List.set_cons_zero, List.set_cons_succ]
            go_big_quiet_want
            refine ⟨.bool false, fun W hW => ?_, ?_⟩
            · go_simp
              try omega
            go_big_quiet_on
            simp only [Act.put, List.setIfInBounds_toArray, List.set_cons_zero, List.set_cons_succ]
            go_big_quiet_want
            go_big_quiet_op
            go_big_quiet_on
            go_big_quiet_want
            go_big_quiet_op
            go_big_quiet_on
            go_big_quiet_want
            go_big_quiet_op
            go_big_quiet_on
            go_big_quiet_want
            refine ⟨.pointer (some ⟨g2, q0 + j * 2, none⟩), fun W hW => ?_, ?_⟩
            · go_simp
            go_big_quiet_on
            simp only [Act.put, List.setIfInBounds_toArray, List.set_cons_zero, List.set_cons_succ]
            go_big_quiet_want
            refine ⟨.pointer (some ⟨g2, q0 + j * 2 + 1, none⟩), fun W hW => ?_, ?_⟩
            · go_simp
            go_big_quiet_on
            simp only [Act.put, List.setIfInBounds_toArray, List.set_cons_zero, List.set_cons_succ]
            go_big_quiet_want
            refine ⟨.int .i64 sv, fun W hW => ?_, ?_⟩
            · obtain ⟨z0, z1⟩ := XS.out W hW
              go_simp
            go_big_quiet_on
            simp only [Act.put, List.setIfInBounds_toArray, List.set_cons_zero, List.set_cons_succ]
            go_big_quiet_want
            go_big_quiet_op
            go_big_quiet_on
            go_big_quiet_want
            refine ⟨.int .i64 (tp : Int), fun W hW => ?_, ?_⟩
            · go_simp
              refine (HTP.out W).mono ?_
              rintro e w7 ⟨rfl, rfl⟩
              exact ⟨rfl, by simpa using hW⟩
            go_big_quiet_on
            simp only [Act.put, List.setIfInBounds_toArray, List.set_cons_zero, List.set_cons_succ]
            go_big_quiet_want
            refine ⟨.bool true, fun W hW => ?_, ?_⟩
            · go_simp
              try omega
            go_big_quiet_on
            simp only [Act.put, List.setIfInBounds_toArray, List.set_cons_zero, List.set_cons_succ]
            go_big_quiet_want
            refine ⟨.bool true, fun W hW => ?_, ?_⟩
            · go_simp
            go_big_quiet_on
            simp only [Act.put, List.setIfInBounds_toArray, List.set_cons_zero, List.set_cons_succ]
            refine wpQuiet_nil ?_
            intro W hW
            go_wp2_with fail
            refine bodyPost_ret (results_tmp2 rfl _ _ _) rfl ?_
            exact ⟨by rw [hres.out]; rfl, hW⟩
          have hgo : Hid (wdF L (S.take (j + 1)) (S.drop (j + 1)) (putL acc p (digL b sv.toNat 0)) = R) := by unfold Hid; rw [← HST2.out, if_pos (by omega)]
          obtain ⟨vn, rfl⟩ : ∃ vn : Nat, sv = (vn : Int) := ⟨sv.toNat, by omega⟩
          rw [Int.toNat_natCast] at hgo
          have HDG : Hid (∀ W : World, Calls Tryz.prog 26 #[.int .i64 (vn : Int), .int .i64 (b : Int)] W fun e w' => e = .returned (.string ⟨(digL b vn 0).toArray⟩) ∧ Below W.heap.size W w') := fun W => by
            have := rdigits_any vn b hb32 (by omega) W
            rw [digL0] at this
            exact this
          have hDl := digL_len b vn 0 (Nat.zero_le _)
          obtain ⟨D, hD⟩ : ∃ D, digL b vn 0 = D := ⟨_, rfl⟩
          rw [hD] at hgo hDl
          simp only [hD] at HDG
          have HDL : Hid (D.length = b) := hDl
          have HAC : Hid ((acc.take p ++ D) ++ acc.drop (p + b) = putL acc p D) := by
            have := putL_eq (acc := acc) (D := D) (p := p) (by rw [hDl, hal.out]; omega)
            rw [hDl] at this
            exact this
          have m1 : (p : Int) ≤ (acc.length : Int) := by rw [hal.out]; omega
          have m0 : (0 : Int) ≤ (p : Int) := by omega
          have m2 : (p : Int) + (b : Int) ≤ (acc.length : Int) := by rw [hal.out]; omega
          have m3 : (0 : Int) ≤ (p : Int) + (b : Int) := by omega
          have e9 : IntKind.i64.wrap ((p : Int) + (b : Int)) = (p : Int) + (b : Int) := by rw [IntKind.wrap_i64]; omega
          have t9 : ((p : Int) + (b : Int)).toNat = p + b := by omega
          have HAL : Hid ((putL acc p D).length = n) := by unfold Hid; rw [putL_len]; exact hal.out
          clear HST2 hD hDl
          go_wp2_with fail
          refine quiet_lit3 (C := fun W => Below w.heap.size w W) (by kernel_rfl) (by kernel_rfl) (show Below _ _ _ from hB.drew) ?_
          go_big_quiet_want
          go_big_quiet_op
          go_big_quiet_on
          go_big_quiet_want
          go_big_quiet_op
          go_big_quiet_on
          go_big_quiet_want
          refine ⟨.pointer (some ⟨g2, q0 + j * 2, none⟩), fun W hW => ?_, ?_⟩
          · go_simp
          go_big_quiet_on
          simp only [Act.put, List.setIfInBounds_toArray, List.set_cons_zero, List.set_cons_succ]
          go_big_quiet_want
          refine ⟨.pointer (some ⟨g2, q0 + j * 2 + 1, none⟩), fun W hW => ?_, ?_⟩
          · go_simp
          go_big_quiet_on
          simp only [Act.put, List.setIfInBounds_toArray, List.set_cons_zero, List.set_cons_succ]
          go_big_quiet_want
          refine ⟨.int .i64 (vn : Int), fun W hW => ?_, ?_⟩
          · obtain ⟨z0, z1⟩ := XS.out W hW
            go_simp
          go_big_quiet_on
          simp only [Act.put, List.setIfInBounds_toArray, List.set_cons_zero, List.set_cons_succ]
          go_big_quiet_want
          refine ⟨.bool false, fun W hW => ?_, ?_⟩
          · go_simp
            try omega
          go_big_quiet_on
          simp only [Act.put, List.setIfInBounds_toArray, List.set_cons_zero, List.set_cons_succ]
          go_big_quiet_want
          go_big_quiet_op
          go_big_quiet_on
          go_big_quiet_want
          go_big_quiet_op
          go_big_quiet_on
          go_big_quiet_want
          go_big_quiet_op
          go_big_quiet_on
          go_big_quiet_want
          refine ⟨.pointer (some ⟨g2, q0 + j * 2, none⟩), fun W hW => ?_, ?_⟩
          · go_simp
          go_big_quiet_on
          simp only [Act.put, List.setIfInBounds_toArray, List.set_cons_zero, List.set_cons_succ]
          go_big_quiet_want
          refine ⟨.pointer (some ⟨g2, q0 + j * 2 + 1, none⟩), fun W hW => ?_, ?_⟩
          · go_simp
          go_big_quiet_on
          simp only [Act.put, List.setIfInBounds_toArray, List.set_cons_zero, List.set_cons_succ]
          go_big_quiet_want
          refine ⟨.int .i64 (vn : Int), fun W hW => ?_, ?_⟩
          · obtain ⟨z0, z1⟩ := XS.out W hW
            go_simp
          go_big_quiet_on
          simp only [Act.put, List.setIfInBounds_toArray, List.set_cons_zero, List.set_cons_succ]
          go_big_quiet_want
          go_big_quiet_op
          go_big_quiet_on
          go_big_quiet_want
          refine ⟨.int .i64 (tp : Int), fun W hW => ?_, ?_⟩
          · go_simp
            refine (HTP.out W).mono ?_
            rintro e w7 ⟨rfl, rfl⟩
            exact ⟨rfl, by simpa using hW⟩
          go_big_quiet_on
          simp only [Act.put, List.setIfInBounds_toArray, List.set_cons_zero, List.set_cons_succ]
          go_big_quiet_want
          refine ⟨.bool false, fun W hW => ?_, ?_⟩
          · go_simp
            try omega
          go_big_quiet_on
          simp only [Act.put, List.setIfInBounds_toArray, List.set_cons_zero, List.set_cons_succ]
          go_big_quiet_want
          refine ⟨.bool false, fun W hW => ?_, ?_⟩
          · go_simp
          go_big_quiet_on
          simp only [Act.put, List.setIfInBounds_toArray, List.set_cons_zero, List.set_cons_succ]
          refine wpQuiet_nil ?_
          intro W8 h8
          clear hB
          go_wp2_with fail
          refine quiet_lit3 (C := fun Wz => Below w.heap.size w Wz) (by kernel_rfl) (by kernel_rfl) (show Below _ _ _ from Below.drew h8) ?_
          go_big_quiet_want
          go_big_quiet_op
          go_big_quiet_on
          go_big_quiet_want
          go_big_quiet_op
          go_big_quiet_on
          go_big_quiet_want
          refine ⟨.string ⟨(acc.take p).toArray⟩, fun W hW => ?_, ?_⟩
          · go_simp
            try exact ext_take _ _
          go_big_quiet_on
          simp only [Act.put, List.setIfInBounds_toArray, List.set_cons_zero, List.set_cons_succ]
          go_big_quiet_want
          go_big_quiet_op
          go_big_quiet_on
          go_big_quiet_want
          go_big_quiet_op
          go_big_quiet_on
          go_big_quiet_want
          refine ⟨.pointer (some ⟨g2, q0 + j * 2, none⟩), fun W hW => ?_, ?_⟩
          · go_simp
          go_big_quiet_on
          simp only [Act.put, List.setIfInBounds_toArray, List.set_cons_zero, List.set_cons_succ]
          go_big_quiet_want
          refine ⟨.pointer (some ⟨g2, q0 + j * 2 + 1, none⟩), fun W hW => ?_, ?_⟩
          · go_simp
          go_big_quiet_on
          simp only [Act.put, List.setIfInBounds_toArray, List.set_cons_zero, List.set_cons_succ]
          go_big_quiet_want
          refine ⟨.int .i64 (vn : Int), fun W hW => ?_, ?_⟩
          · obtain ⟨z0, z1⟩ := XS.out W hW
            go_simp
          go_big_quiet_on
          simp only [Act.put, List.setIfInBounds_toArray, List.set_cons_zero, List.set_cons_succ]
          go_big_quiet_want
          go_big_quiet_op
          go_big_quiet_on
          go_big_quiet_want
          refine ⟨.string ⟨D.toArray⟩, fun W hW => ?_, ?_⟩
          · go_simp
            refine (HDG.out W).mono ?_
            rintro e w7 ⟨rfl, hb⟩
            exact ⟨rfl, bel0 hW hb⟩
          go_big_quiet_on
          simp only [Act.put, List.setIfInBounds_toArray, List.set_cons_zero, List.set_cons_succ]
          go_big_quiet_want
          refine ⟨.string ⟨(acc.take p ++ D).toArray⟩, fun W hW => ?_, ?_⟩
          · go_simp
            rw [if_neg (by simp only [HDL.out, hal.out]; omega)]
            exact ⟨rfl, by rw [cat_bytes]; first | done | rw [List.append_assoc]⟩
          go_big_quiet_on
          simp only [Act.put, List.setIfInBounds_toArray, List.set_cons_zero, List.set_cons_succ]
          go_big_quiet_want
          go_big_quiet_op
          go_big_quiet_on
          go_big_quiet_want
          go_big_quiet_op
          go_big_quiet_on
          go_big_quiet_want
          go_big_quiet_op
          go_big_quiet_on
          go_big_quiet_want
          refine ⟨.int .i64 ((p : Int) + (b : Int)), fun W hW => ?_, ?_⟩
          · go_simp
          go_big_quiet_on
          simp only [Act.put, List.setIfInBounds_toArray, List.set_cons_zero, List.set_cons_succ]
          go_big_quiet_want
          refine ⟨.string ⟨(acc.drop (p + b)).toArray⟩, fun W hW => ?_, ?_⟩
          · go_simp
            try exact ext_drop _ _
          go_big_quiet_on
          simp only [Act.put, List.setIfInBounds_toArray, List.set_cons_zero, List.set_cons_succ]
          go_big_quiet_want
          refine ⟨.string ⟨((acc.take p ++ D) ++ acc.drop (p + b)).toArray⟩, fun W hW => ?_, ?_⟩
          · go_simp
            rw [if_neg (by simp only [HDL.out, hal.out]; omega)]
            exact ⟨rfl, by rw [cat_bytes]; first | done | rw [List.append_assoc]⟩
          go_big_quiet_on
          simp only [Act.put, List.setIfInBounds_toArray, List.set_cons_zero, List.set_cons_succ]
          go_big_quiet_want
          go_big_quiet_op
          go_big_quiet_on
          refine wpQuiet_nil ?_
          intro W9 h9
          go_wp2_with fail
          go_roundw
          case rel => exact ⟨j + 1, putL acc p D, by go_num, by omega, by rw [← HAC.out], HAL, hgo, h9⟩
          case measure => simp [intOf]; omega
    · have j1 : ¬ (k : Int) < (S.length : Int) := by omega
      have hres : Hid (R = (acc, 0)) := by
        unfold Hid
        rw [← hrun.out, List.drop_eq_nil_of_le (by omega)]
        rfl
      clear hrun
      go_wp2_with fail
      refine bodyPost_ret (results_tmp2 rfl _ _ _) rfl ?_
      exact ⟨by rw [hres.out]; rfl, hB⟩
end Go.Proofs.YtealpmimffcpdaaGreatDoor
namespace Go.Proofs.YtealpmimffcpdaaGreatDoor
open Go.RowKit Go.Shelf
theorem and0 (x : Int) : bits .and .u64 0 x = 0 := by
  show IntKind.u64.wrap ((BitVec.ofInt 64 0 &&& BitVec.ofInt 64 x).toNat : Int) = 0
  rw [show BitVec.ofInt 64 0 = 0#64 from rfl, BitVec.zero_and]
  rfl
theorem at_x (n p : Nat) (w : World) (h1 : p < 256) : Calls Tryz.prog 51 #[.agg #[.int .i64 (n : Int), .int .u64 0, .int .u64 0, .int .u64 0, .int .u64 0, .int .u64 0, .int .u64 0, .int .u64 0, .int .u64 0], .int .i64 (p : Int)] w fun e w' => e = .returned (.int .u8 120) ∧ Below w.heap.size w w' := by
  have e : ∀ r : Nat, (bits .and .u64 0 ((2 ^ r : Nat) : Int) == 0) = true := fun r => by rw [and0]; rfl
  have hr : p % 64 < 64 := Nat.mod_lt _ (by decide)
  rcases (show p / 64 = 0 ∨ p / 64 = 1 ∨ p / 64 = 2 ∨ p / 64 = 3 by omega) with h | h | h | h
  · have := at_0 n 0 0 0 0 0 0 0 0 p (p % 64) w hr (by omega)
    rw [if_pos (e _)] at this
    exact this
  · have := at_1 n 0 0 0 0 0 0 0 0 p (p % 64) w hr (by omega)
    rw [if_pos (e _)] at this
    exact this
  · have := at_2 n 0 0 0 0 0 0 0 0 p (p % 64) w hr (by omega)
    rw [if_pos (e _)] at this
    exact this
  · have := at_3 n 0 0 0 0 0 0 0 0 p (p % 64) w hr (by omega)
    rw [if_pos (e _)] at this
    exact this
/-- a digit of a header -/
def dg01 (c : UInt8) : Bool := c == 48 || c == 49
/-- is it a header of that width -/
def hdB (n : Nat) (s : List UInt8) : Bool := decide (s.length = n) && s.all dg01
theorem hdB_no {n : Nat} {s : List UInt8} {k : Nat} {c : UInt8} (h : s[k]? = some c) (hc : dg01 c = false) : hdB n s = false := by
  cases hb : hdB n s with
  | false => rfl
  | true =>
    unfold hdB at hb
    rw [Bool.and_eq_true] at hb
    have := List.all_eq_true.1 hb.2 c (List.mem_of_getElem? h)
    rw [hc] at this
    cases this
theorem hdB_yes {n : Nat} {s : List UInt8} (hl : s.length = n) (h : ∀ (k : Nat) (c : UInt8), s[k]? = some c → dg01 c = true) : hdB n s = true := by
  unfold hdB
  rw [decide_eq_true hl, Bool.true_and, List.all_eq_true]
  intro c hc
  obtain ⟨k, hk⟩ := List.getElem?_of_mem hc
  exact h k c hk
set_option maxRecDepth 100000 in
set_option maxHeartbeats 8000000 in
theorem has_x (n : Nat) (s : List UInt8) (w : World) (h1 : 1 ≤ n) (h2 : n ≤ 256) : Calls Tryz.prog 40 #[.agg #[.int .i64 (n : Int), .int .u64 0, .int .u64 0, .int .u64 0, .int .u64 0, .int .u64 0, .int .u64 0, .int .u64 0, .int .u64 0], .string ⟨s.toArray⟩] w fun e w' => e = .returned (.bool (hdB n s)) ∧ Below w.heap.size w w' := by
  obtain ⟨V, hV⟩ : ∃ V : World, w.alloc (Obj.cells #[.int .i64 (n : Int), .int .u64 0, .int .u64 0, .int .u64 0, .int .u64 0, .int .u64 0, .int .u64 0, .int .u64 0, .int .u64 0] 77) = V := ⟨_, rfl⟩
  have vB : Below w.heap.size w V := by rw [← hV]; exact (Below.refl _ _).alloc (Nat.le_refl _) _
  have v0 : V.heap[w.heap.size]? = some (.cells #[.int .i64 (n : Int), .int .u64 0, .int .u64 0, .int .u64 0, .int .u64 0, .int .u64 0, .int .u64 0, .int .u64 0, .int .u64 0] 77) := by rw [← hV]; exact alloc_get _ _
  obtain ⟨S0, hS0⟩ : ∃ S0, w.heap.size = S0 := ⟨_, rfl⟩
  have XC : Hid (∀ W : World, Below V.heap.size V W → W.heap[S0]? = some (.cells #[.int .i64 (n : Int), .int .u64 0, .int .u64 0, .int .u64 0, .int .u64 0, .int .u64 0, .int .u64 0, .int .u64 0, .int .u64 0] 77)) := fun W hW => by rw [← hS0]; exact keepblk hW v0
  have n0 : V.cell? ⟨S0, 0, none⟩ = some (.int .i64 (n : Int)) := by rw [← hS0]; exact cell_of_row _ _ 0 _ _ _ v0
  have HAT : Hid (∀ (p : Nat) (W : World), p < 256 → Calls Tryz.prog 51 #[.agg #[.int .i64 (n : Int), .int .u64 0, .int .u64 0, .int .u64 0, .int .u64 0, .int .u64 0, .int .u64 0, .int .u64 0, .int .u64 0], .int .i64 (p : Int)] W fun e w' => e = .returned (.int .u8 120) ∧ Below W.heap.size W w') := fun p W hp => at_x n p W hp
  have i0 : ((n : Int) == 0) = false := beq_eq_false_iff_ne.2 (by omega)
  clear v0
  by_cases hl : s.length = n
  · have i1 : ((s.length : Int) != (n : Int)) = false := by rw [hl]; simp
    obtain ⟨q, hq⟩ : ∃ q, hdB n s = q := ⟨_, rfl⟩
    rw [hq]
    have HNO : Hid (∀ (k : Nat) (c : UInt8), s[k]? = some c → dg01 c = false → q = false) := fun k c h hc => by rw [← hq]; exact hdB_no h hc
    have HYES : Hid ((∀ (k : Nat) (c : UInt8), s[k]? = some c → dg01 c = true) → q = true) := fun h => by rw [← hq]; exact hdB_yes hl h
    have HL : Hid (s.length = n) := hl
    have HVB : Hid (Below w.heap.size w V) := vB
    clear hq hl vB
    go_enter Tryz.func40, Tryz.ntmps40
    go_wp2_with fail
    go_loopw [20] (fun vk wr => ∃ k : Nat, vk = .int .i64 k ∧ k ≤ n ∧ Hid (∀ (j : Nat) (c : UInt8), j < k → s[j]? = some c → dg01 c = true) ∧ Below V.heap.size V wr) (fun vk _ => n - (intOf vk).toNat)
    case atStart => exact ⟨0, rfl, Nat.zero_le _, fun j c hj => by omega, Below.refl _ _⟩
    case round =>
      obtain ⟨k, rfl, hk, hno, hB⟩ := hrel
      by_cases hlt : k < n
      · have j0 : (0 : Int) ≤ (k : Int) := by omega
        have j1 : (k : Int) < (n : Int) := by omega
        have j2 : (k : Int) < (s.length : Int) := by rw [HL.out]; omega
        obtain ⟨c, hc, hlc⟩ := byte_get s k (by rw [HL.out]; exact hlt)
        have hk256 : k < 256 := by omega
        have HNK : Hid (dg01 c = false → q = false) := HNO.out k c hlc
        have HNX : Hid (dg01 c = true → ∀ (j : Nat) (d : UInt8), j < k + 1 → s[j]? = some d → dg01 d = true) := fun h j d hj hd => by
          rcases Nat.lt_or_ge j k with h3 | h3
          · exact hno.out j d h3 hd
          · obtain rfl : j = k := by omega
            rw [hlc] at hd
            rw [← Option.some.inj hd]
            exact h
        clear hlc hno
        go_wp2_with fail
        refine quiet_lit3 (C := fun W => Below V.heap.size V W) (by kernel_rfl) (by kernel_rfl) (show Below _ _ _ from hB.drew) ?_
        go_big_quiet_want
        go_big_quiet_op
        go_big_quiet_on
        go_big_quiet_want
        go_big_quiet_op
        go_big_quiet_on
        go_big_quiet_want
        refine ⟨.int .u8 (c.toNat : Int), fun W hW => ?_, ?_⟩
        · go_simp
        go_big_quiet_on
        simp only [Act.put, List.setIfInBounds_toArray, List.set_cons_zero, List.set_cons_succ]
        go_big_quiet_want
        refine ⟨.agg #[.int .i64 (n : Int), .int .u64 0, .int .u64 0, .int .u64 0, .int .u64 0, .int .u64 0, .int .u64 0, .int .u64 0, .int .u64 0], fun W hW => ?_, ?_⟩
        · have hx := XC.out W hW
          have z : ∀ j, W.cell? ⟨S0, j, none⟩ = (#[.int .i64 (n : Int), .int .u64 0, .int .u64 0, .int .u64 0, .int .u64 0, .int .u64 0, .int .u64 0, .int .u64 0, .int .u64 0] : Array Value)[j]? := fun j => cell_of_row _ _ j _ _ _ hx
          go_simp
        go_big_quiet_on
        simp only [Act.put, List.setIfInBounds_toArray, List.set_cons_zero, List.set_cons_succ]
        go_big_quiet_want
        go_big_quiet_op
        go_big_quiet_on
        go_big_quiet_want
        refine ⟨.int .u8 120, fun W hW => ?_, ?_⟩
        · go_simp
          refine (HAT.out k W hk256).mono ?_
          rintro e w7 ⟨rfl, hb⟩
          exact ⟨rfl, bel0 hW hb⟩
        go_big_quiet_on
        simp only [Act.put, List.setIfInBounds_toArray, List.set_cons_zero, List.set_cons_succ]
        go_big_quiet_want
        go_big_quiet_op
        go_big_quiet_on
        go_big_quiet_want
        go_big_quiet_op
        go_big_quiet_on
        refine wpQuiet_nil ?_
        intro W hW
        by_cases c48 : c = 48
        · have HN2 : Hid (∀ (j : Nat) (d : UInt8), j < k + 1 → s[j]? = some d → dg01 d = true) := HNX.out (by rw [c48]; rfl)
          subst c48
          clear HNX HNK
          go_wp2_with fail
          go_roundw
          case rel => exact ⟨k + 1, by go_num, by omega, HN2, hW⟩
          case measure => simp [intOf]; omega
        · have d48 : ((c.toNat : Int) == 48) = false := u8_ne (d := 48) c48
          have e48 : ((c.toNat : Int) != 48) = true := by rw [bne, d48]; rfl
          by_cases c49 : c = 49
          · have HN2 : Hid (∀ (j : Nat) (d : UInt8), j < k + 1 → s[j]? = some d → dg01 d = true) := HNX.out (by rw [c49]; rfl)
            subst c49
            clear HNX HNK
            go_wp2_with fail
            go_roundw
            case rel => exact ⟨k + 1, by go_num, by omega, HN2, hW⟩
            case measure => simp [intOf]; omega
          · have d49 : ((c.toNat : Int) == 49) = false := u8_ne (d := 49) c49
            have e49 : ((c.toNat : Int) != 49) = true := by rw [bne, d49]; rfl
            obtain rfl : q = false := HNK.out (by unfold dg01; rw [beq_eq_false_iff_ne.2 c48, beq_eq_false_iff_ne.2 c49]; rfl)
            clear HNX HNK
            go_wp2_with fail
            go_ret
            exact ⟨rfl, by first | exact bel0 HVB.out hW | (rw [← hS0]; exact bel0 HVB.out hW)⟩
      · have j1 : ¬ (k : Int) < (n : Int) := by omega
        obtain rfl : q = true := HYES.out (fun j d hd => hno.out j d (by have := (List.getElem?_eq_some_iff.1 hd).1; rw [HL.out] at this; omega) hd)
        go_wp2_with fail
        go_ret
        exact ⟨rfl, by first | exact bel0 HVB.out hB | (rw [← hS0]; exact bel0 HVB.out hB)⟩
  · have i1 : ((s.length : Int) != (n : Int)) = true := by simp only [bne_iff_ne]; omega
    have hr : Hid (hdB n s = false) := by unfold Hid hdB; rw [decide_eq_false hl]; rfl
    clear XC HAT
    go_enter Tryz.func40, Tryz.ntmps40
    go_wp2_with fail
    go_ret
    exact ⟨by rw [hr.out]; rfl, by first | exact vB | (rw [← hS0]; exact vB)⟩
/-- the number of digits -/
def valF : Nat → List UInt8 → Nat
  | v, [] => v
  | v, c :: r => valF (2 * v + (if c = 49 then 1 else 0)) r
theorem valF_step {s : List UInt8} {k : Nat} {c : UInt8} (h : s[k]? = some c) (v : Nat) : valF v (s.drop k) = valF (2 * v + (if c = 49 then 1 else 0)) (s.drop (k + 1)) := by
  obtain ⟨hk, e⟩ := List.getElem?_eq_some_iff.1 h
  rw [List.drop_eq_getElem_cons hk, e, valF]
set_option maxRecDepth 100000 in
set_option maxHeartbeats 4000000 in
theorem refValue_any (s : List UInt8) (w : World) (hs : s.length ≤ 32) : Calls Tryz.prog 38 #[.string ⟨s.toArray⟩] w fun e w' => e = .returned (.int .i64 (valF 0 s : Int)) ∧ w' = w := by
  obtain ⟨q, hq⟩ : ∃ q, valF 0 s = q := ⟨_, rfl⟩
  have HQ : Hid (valF 0 (s.drop 0) = q) := hq
  rw [hq]
  clear hq
  go_enter Tryz.func38, Tryz.ntmps38
  go_wp2_with fail
  go_loopw [3, 4] (fun vs vk wr => ∃ (k v : Nat), vk = .int .i64 k ∧ k ≤ s.length ∧ vs = .int .i64 v ∧ v < 2 ^ k ∧ Hid (valF v (s.drop k) = q) ∧ wr = w) (fun _ vk _ => s.length - (intOf vk).toNat)
  case atStart => exact ⟨0, 0, rfl, Nat.zero_le _, rfl, by decide, HQ, rfl⟩
  case round =>
    clear HQ
    obtain ⟨k, v, rfl, hk, rfl, hv, hrun, rfl⟩ := hrel
    have hp : 2 ^ k ≤ 2 ^ 32 := Nat.pow_le_pow_right (by decide) (by omega)
    have hp1 : 2 ^ (k + 1) = 2 * 2 ^ k := by rw [Nat.pow_succ, Nat.mul_comm]
    by_cases hlt : k < s.length
    · have j0 : (0 : Int) ≤ (k : Int) := by omega
      have j1 : (k : Int) < (s.length : Int) := by omega
      obtain ⟨c, hc, hlc⟩ := byte_get s k hlt
      have hst := hrun.out
      rw [valF_step hlc] at hst
      have e1 : IntKind.i64.wrap (2 * (v : Int)) = 2 * (v : Int) := by rw [IntKind.wrap_i64]; omega
      have e2 : IntKind.i64.wrap (2 * (v : Int) + 1) = 2 * (v : Int) + 1 := by rw [IntKind.wrap_i64]; omega
      by_cases c49 : c = 49
      · rw [if_pos c49] at hst
        have HST : Hid (valF (2 * v + 1) (s.drop (k + 1)) = q) := hst
        subst c49
        clear hst hrun hlc
        go_wp2_with fail
        go_roundw
        case rel => exact ⟨k + 1, 2 * v + 1, by go_num, by omega, by go_num, by omega, HST, by first | rfl | trivial⟩
        case measure => simp [intOf]; omega
      · rw [if_neg c49] at hst
        have HST : Hid (valF (2 * v + 0) (s.drop (k + 1)) = q) := hst
        have d49 : ((c.toNat : Int) == 49) = false := u8_ne (d := 49) c49
        clear hst hrun hlc
        go_wp2_with fail
        go_roundw
        case rel => exact ⟨k + 1, 2 * v + 0, by go_num, by omega, by go_num, by omega, HST, by first | rfl | trivial⟩
        case measure => simp [intOf]; omega
    · have j1 : ¬ (k : Int) < (s.length : Int) := by omega
      obtain rfl : v = q := by rw [← hrun.out, List.drop_eq_nil_of_le (by omega)]; rfl
      clear hrun
      go_wp2_with fail
      go_ret
      exact ⟨rfl, rfl⟩
end Go.Proofs.YtealpmimffcpdaaGreatDoor
namespace Go.Proofs.YtealpmimffcpdaaGreatDoor
open Go.RowKit Go.Shelf
set_option maxRecDepth 100000 in
set_option maxHeartbeats 4000000 in
theorem fvalue_any (s : List UInt8) (w : World) (hs : s.length ≤ 32) (hd : s.all dg01 = true) : Calls Tryz.prog 41 #[.string ⟨s.toArray⟩] w fun e w' => e = .returned (.int .i64 (valF 0 s : Int)) ∧ Below w.heap.size w w' := by
  obtain ⟨q, hq⟩ : ∃ q, valF 0 s = q := ⟨_, rfl⟩
  have HQ : Hid (valF 0 (s.drop 0) = q) := hq
  have HD : Hid (s.all dg01 = true) := hd
  rw [hq]
  clear hq hd
  obtain ⟨KB, hKB⟩ : ∃ KB, w.heap.size = KB := ⟨_, rfl⟩
  have Hk0 : (w.iter ⟨s.toArray⟩ 0).heap[KB]? = some (.stringIter ⟨s.toArray⟩ 0) := by rw [← hKB]; exact World.iter_heap _ _ _
  have Hb0 : Below w.heap.size w (w.iter ⟨s.toArray⟩ 0) := (Below.refl _ _).alloc (Nat.le_refl _) _
  have hKw : w.heap.size ≤ KB := Nat.le_of_eq hKB
  go_enter Tryz.func41, Tryz.ntmps41
  go_wp2_with fail
  try simp only [hKB]
  go_loopw [3] (fun vs wr => ∃ (k v : Nat), k ≤ s.length ∧ vs = .int .i64 v ∧ v < 2 ^ k ∧ Hid (valF v (s.drop k) = q) ∧ wr.heap[KB]? = some (.stringIter ⟨s.toArray⟩ k) ∧ Below w.heap.size w wr) (fun _ wr => s.length - wr.iterPos KB)
  case atStart => exact ⟨0, 0, Nat.zero_le _, rfl, by decide, HQ, Hk0, Hb0⟩
  case round =>
    clear HQ Hk0 Hb0
    obtain ⟨k, v, hk, rfl, hv, hrun, hkb, hB⟩ := hrel
    have hp : 2 ^ k ≤ 2 ^ 32 := Nat.pow_le_pow_right (by decide) (by omega)
    have hp1 : 2 ^ (k + 1) = 2 * 2 ^ k := by rw [Nat.pow_succ, Nat.mul_comm]
    by_cases hlt : k < s.length
    · obtain ⟨c, hc, hlc⟩ := byte_get s k hlt
      have hc01 := List.all_eq_true.1 HD.out c (List.mem_of_getElem? hlc)
      have hsz : k < (⟨s.toArray⟩ : ByteArray).size := by simpa [ByteArray.size] using hlt
      have hcl : c.toNat < 128 := by
        unfold dg01 at hc01
        rw [Bool.or_eq_true, beq_iff_eq, beq_iff_eq] at hc01
        rcases hc01 with e | e <;> rw [e] <;> decide
      have hnx0 := fun ty => Lib.run_next_ascii_at (P := Tryz.prog) wr KB ⟨s.toArray⟩ k ty hkb hsz (by rw [hc hsz]; exact hcl)
      simp only [hc hsz] at hnx0
      have hk2 := Lib.iterAt_heap wr KB ⟨s.toArray⟩ k (k + 1) hkb
      have hb2 := Lib.below_iterAt hB hKw ⟨s.toArray⟩ (k + 1)
      obtain ⟨W2, hW2⟩ : ∃ W2, wr.iterAt KB ⟨s.toArray⟩ (k + 1) = W2 := ⟨_, rfl⟩
      rw [hW2] at hk2 hb2
      have hnx : ∀ ty, (Instr.next (.pointer (some ⟨KB, 0, none⟩)) true ty).run Tryz.prog wr = .ok (.tuple #[.bool true, .int .i64 (k : Int), .int .i32 (c.toNat : Int)]) W2 := fun ty => by rw [← hW2]; exact hnx0 ty
      have hst := hrun.out
      rw [valF_step hlc] at hst
      have hm5 : W2.iterPos KB = k + 1 := iterPos_of hk2
      have hm0 : wr.iterPos KB = k := iterPos_of hkb
      have HM : Hid (s.length - W2.iterPos KB < s.length - wr.iterPos KB) := by unfold Hid; rw [hm5, hm0]; omega
      clear hnx0 hW2 hm5 hm0 hrun hlc hkb hB
      have e1 : wrap64 ((v : Int) * 2) = 2 * (v : Int) := by rw [w64 (by omega) (by omega)]; omega
      have e2 : IntKind.i64.wrap (2 * (v : Int) + 1) = 2 * (v : Int) + 1 := by rw [IntKind.wrap_i64]; omega
      by_cases c49 : c = 49
      · rw [if_pos c49] at hst
        have HST : Hid (valF (2 * v + 1) (s.drop (k + 1)) = q) := hst
        subst c49
        clear hst
        go_wp2_with fail
        go_roundw
        case rel => exact ⟨k + 1, 2 * v + 1, by omega, by go_num, by omega, HST, hk2, hb2⟩
        case measure => exact HM.out
      · rw [if_neg c49] at hst
        have HST : Hid (valF (2 * v + 0) (s.drop (k + 1)) = q) := hst
        have d49 : ((c.toNat : Int) == 49) = false := u8_ne (d := 49) c49
        clear hst
        go_wp2_with fail
        go_roundw
        case rel => exact ⟨k + 1, 2 * v + 0, by omega, by go_num, by omega, HST, hk2, hb2⟩
        case measure => exact HM.out
    · obtain rfl : v = q := by rw [← hrun.out, List.drop_eq_nil_of_le (by omega)]; rfl
      have hnx := fun ty => Lib.run_next_end_at (P := Tryz.prog) wr KB ⟨s.toArray⟩ k ty hkb (by simpa [ByteArray.size] using hlt)
      clear hrun hkb
      go_wp2_with fail
      go_ret
      exact ⟨rfl, by first | exact hB | (rw [← hKB]; exact hB)⟩
set_option maxRecDepth 100000 in
set_option maxHeartbeats 4000000 in
theorem part_any (s : List UInt8) (L : List IFld) (g o0 c i : Nat) (x : List UInt8) (b p : Nat) (w : World) (hfi : L[i]? = some (x, (b : Int))) (hp : sumB (L.take i) = (p : Int)) (hpb : p + b ≤ s.length) (hn : s.length ≤ 256) (hc : L.length ≤ c) (hL : L.length ≤ 4096) (hf : ∀ f ∈ L, 0 ≤ f.2 ∧ f.2 ≤ 32) (hr : IRF w (some ⟨g, o0, none⟩) L) :
    Calls Tryz.prog 42 #[.string ⟨s.toArray⟩, .slice (some ⟨g, o0, none⟩) L.length c, .int .i64 (i : Int)] w fun e w' => e = .returned (.string ⟨(subL s p (p + b)).toArray⟩) ∧ Below w.heap.size w w' := by
  have hil : i < L.length := (List.getElem?_eq_some_iff.1 hfi).1
  have htl : (L.take i).length = i := by rw [List.length_take]; omega
  have HW := widthOf_any (L.take i) (some ⟨g, o0, none⟩) c w (by omega) (fun f hf' => hf f (List.mem_of_mem_take hf')) (hr.take i)
  rw [hp, htl] at HW
  have j0 : (0 : Int) ≤ (i : Int) := by omega
  have j1 : (i : Int) ≤ (c : Int) := by omega
  have j2 : (i : Int) < (L.length : Int) := by omega
  have m0 : (0 : Int) ≤ (p : Int) := by omega
  have m1 : (p : Int) ≤ (p : Int) + (b : Int) := by omega
  have m2 : (p : Int) + (b : Int) ≤ (s.length : Int) := by omega
  have e9 : IntKind.i64.wrap ((p : Int) + (b : Int)) = (p : Int) + (b : Int) := by rw [IntKind.wrap_i64]; omega
  have t9 : ((p : Int) + (b : Int)).toNat = p + b := by omega
  have XF : Hid (∀ W : World, Below w.heap.size w W → W.cell? ⟨g, o0 + i * 2 + 1, none⟩ = some (.int .i64 (b : Int))) := fun W hW => by
    obtain ⟨g3, q3, h1, -, h2⟩ := hr W hW i _ hfi
    injection h1 with h1
    injection h1 with h1 h4
    subst h1 h4
    exact h2
  have hE := ext_sub s p (p + b)
  obtain ⟨Y, hY⟩ : ∃ Y, subL s p (p + b) = Y := ⟨_, rfl⟩
  rw [hY] at hE ⊢
  clear hY hf hr hfi hp htl
  go_enter Tryz.func42, Tryz.ntmps42
  go_wp2_with fail
  refine HW.mono ?_
  rintro e W1 ⟨rfl, hb1⟩
  have z0 := XF.out W1 hb1
  go_wp2_with fail
  go_ret
  exact ⟨by first | rfl | (rw [← hE]; rfl), hb1⟩
end Go.Proofs.YtealpmimffcpdaaGreatDoor
namespace Go.Proofs.YtealpmimffcpdaaGreatDoor
open Go.RowKit Go.Shelf
theorem info_int : (Tryz.prog.info? 3).map (fun i => (i.zero, i.size, i.bytes)) = some (some (.int .i64 0), 1, 8) := by kernel_rfl
def ivs (V : List Int) : List Value := V.map fun v => .int .i64 v
theorem IRV_own {W : World} {B n : Nat} {o : Option Addr} {c : Nat} {V : List Int} (h : W.ownsRow B 3 1 (.slice o n c) n (ivs V)) (hn : V.length = n) : IRV W o V := fun W' hW k f hf => by
  have hk := (List.getElem?_eq_some_iff.1 hf).1
  obtain ⟨g, rfl⟩ := own_at h (by omega)
  have h2 := owns_below h hW
  exact ⟨g, 0, rfl, by rw [Nat.zero_add]; exact (h2.cellAt k (by omega)).trans (by simp [ivs, hf])⟩
set_option maxRecDepth 100000 in
set_option maxHeartbeats 8000000 in
theorem fieldPacks_walk (L : List IFld) (n : Nat) (ad : Option Addr) (cap : Nat) (V : List Int) (m : Nat) (ad2 : Option Addr) (cap2 : Nat) (w : World) (hLn : L.length = n) (hcap : n ≤ cap) (hlb : n * 24 ≤ 140737488355328) (hstr : ∀ f ∈ L, f.1.length ≤ 281474976710656) (hcell : IRF w ad L) (hVn : V.length = m) (hvb : m * 8 ≤ 140737488355328) (hvc : IRV w ad2 V) (hv1 : SH w) (hdb : DB w) (hv4 : SG w) (hv5 : VW w) :
    Calls Tryz.prog 4 #[.slice ad n cap, .slice ad2 m cap2] w fun e w' => e = .returned (.bool true) ∧ Below w.heap.size w w' := by
  obtain ⟨i0, hi, hz0, hz1, hz2⟩ := info_parts info_int
  obtain ⟨r, hr⟩ : ∃ r, pkM L V = r := ⟨_, rfl⟩
  have HR : Hid (∀ W : World, Below w.heap.size w W → IRF W ad L) := fun W hW => hcell.later hW
  have HRV : Hid (∀ W : World, Below w.heap.size w W → IRV W ad2 V) := fun W hW => hvc.later hW
  have HRC : Hid (Calls Tryz.prog 12 #[.slice ad n cap, .slice ad2 m cap2] w fun e w' => e = .returned (.tuple #[.string ⟨r.1.toArray⟩, .int .i64 r.2]) ∧ Below w.heap.size w w') := by
    unfold Hid
    rw [← hLn, ← hVn, ← hr]
    exact refPack_any L ad cap V ad2 cap2 w (by omega) hstr hcell hvc
  have HCP : Hid (∀ W : World, Below w.heap.size w W → Calls Tryz.prog 8 #[.slice ad n cap] W fun e w' => ∃ v, e = .returned v ∧ w'.ownsRow W.heap.size 52 2 v n (fels L) ∧ Below W.heap.size W w') := fun W hW => by
    rw [← hLn]
    exact copyFields_any L ad cap W (by omega) (hcell.later hW)
  have HCK : Hid (∀ W : World, Below w.heap.size w W → Calls Tryz.prog 13 #[.slice ad n cap, .slice ad2 m cap2] W fun e w' => e = .returned (.tuple #[.string ⟨r.1.toArray⟩, .int .i64 r.2]) ∧ Below W.heap.size W w') := fun W hW => by
    rw [← hLn, ← hVn, ← hr]
    exact pack_any L ad cap V ad2 cap2 W (by omega) (by omega) hstr (hcell.later hW) (hvc.later hW) (hv1.below hW) (hv4.below hW) (hv5.below hW)
  have HUN : Hid (∀ (W : World) (o2 : Option Addr) (c2 : Nat), IRF W ad L → IRF W o2 L → Calls Tryz.prog 11 #[.slice ad n cap, .slice o2 n c2] W fun e w' => e = .returned (.bool false) ∧ Below W.heap.size W w') := fun W o2 c2 i1 i2 => by
    rw [← hLn]
    exact unlike_any L ad o2 cap c2 W (by omega) i1 i2
  have HAL : Hid (∀ (W : World) (o2 : Option Addr) (c2 : Nat), IRV W ad2 V → IRV W o2 V → Calls Tryz.prog 14 #[.slice ad2 m cap2, .slice o2 m c2] W fun e w' => e = .returned (.bool true) ∧ Below W.heap.size W w') := fun W o2 c2 i1 i2 => by
    rw [← hVn]
    exact alike_any V ad2 o2 cap2 c2 W (by omega) i1 i2
  have HKN : Hid (∀ W : World, Below w.heap.size w W → Calls Tryz.prog 15 #[] W fun e w' => e = .returned (.bool true) ∧ Below W.heap.size W w') := fun W hW => known_any W (hdb.below hW)
  have HLN : Hid (L.length = n) := hLn
  have HVN : Hid (V.length = m) := hVn
  obtain ⟨e0, a0⟩ := r
  have y1 : (a0 == a0) = true := beq_self_eq_true a0
  have y2 : (e0 == e0) = true := beq_self_eq_true e0
  simp only at HRC HCK
  clear hr hLn hVn hcell hvc hstr hv1 hv4 hv5 hdb
  go_enter Tryz.func4, Tryz.ntmps4
  go_wp2_with fail
  refine HRC.out.mono ?_
  rintro e W1 ⟨rfl, hb1⟩
  go_wp2_with fail
  refine (HCP.out _ hb1).mono ?_
  rintro e W2 ⟨v, rfl, hown, hb2⟩
  have hB2 := bel0 hb1 hb2
  obtain ⟨pv, cv, rfl⟩ := shapeP hown
  have HO : Hid (∀ W : World, Below W2.heap.size W2 W → IRF W pv L) := fun W hW => (IRF_own hown HLN.out).later hW
  clear hown HCP HRC hb1 hb2
  go_wp2_with fail
  go_loopw [8, 9] (fun v vk wr => ∃ k : Nat, vk = .int .i64 k ∧ k ≤ m ∧ wr.ownsRow W2.heap.size 3 1 v k (ivs (V.take k)) ∧ Below W2.heap.size W2 wr) (fun _ vk _ => m - (intOf vk).toNat)
  case atStart => exact ⟨0, rfl, Nat.zero_le _, World.ownsRow_nil _ _ _ _, Below.refl _ _⟩
  case round =>
    obtain ⟨k, rfl, hk, hown, hBr⟩ := hrel
    have hBw := bel0 hB2 hBr
    by_cases hlt : k < m
    · have j1 : (k : Int) < (m : Int) := by omega
      have j0 : (0 : Int) ≤ (k : Int) := by omega
      obtain ⟨f, hf⟩ : ∃ f, V[k]? = some f := ⟨_, List.getElem?_eq_getElem (by rw [HVN.out]; exact hlt)⟩
      obtain ⟨g, q0, rfl, p0⟩ := (HRV.out wr hBw) wr (Below.refl _ _) k f hf
      have HTK : Hid (ivs (V.take (k + 1)) = ivs (V.take k) ++ [.int .i64 f]) := by unfold Hid ivs; rw [List.take_add_one, hf]; simp
      have hBs := hBr.size
      obtain ⟨pv2, cv2, rfl⟩ := shapeP hown
      clear hf
      go_wp2_with (at_builtin; refine wpList_append_own _ rfl _ _ 32 rfl W2.heap.size 3 i0 _ 1 8 Tryz.underlying32 hi hz0 hz1 hz2 rfl (by decide) _ _ _ rfl (hown.alloc _) ⟨wr.heap.size, 0, none⟩ 1 1 [.int .i64 f] rfl rfl (World.news_of_block (cs := #[.int .i64 f]) (t := 3) (fr := (0, 0)) (alloc_get _ _)) (by simp [Value.oneCell']) (by unfold maxLen; omega) (by omega) (by simp; omega) ?_; intro v5 w5 oB hg5 _)
      go_roundw
      case rel => exact ⟨k + 1, by go_num, by omega, by rw [HTK.out]; exact oB, (hBr.alloc hBs _).grown hg5 (by simp; omega) (fun k e => (hown.lt k e).1)⟩
      case measure => simp [intOf]; omega
    · have j1 : ¬ (k : Int) < (m : Int) := by omega
      obtain rfl : k = m := by omega
      rw [List.take_of_length_le (by rw [HVN.out]; exact Nat.le_refl _)] at hown
      obtain ⟨pv2, cv2, rfl⟩ := shapeP hown
      have HO2 : Hid (∀ W : World, Below wr.heap.size wr W → IRV W pv2 V) := fun W hW => (IRV_own hown HVN.out).later hW
      clear hown
      go_wp2_with fail
      refine (HCK.out _ hBw).mono ?_
      rintro e W3 ⟨rfl, hb3⟩
      have hB3 := bel0 hBw hb3
      have hC3 := bel0 hBr hb3
      go_wp2_with fail
      refine (num_any a0 _).mono ?_
      rintro e W5 ⟨rfl, rfl⟩
      go_wp2_with fail
      refine (HUN.out _ pv cv (HR.out _ hB3) (HO.out _ hC3)).mono ?_
      rintro e W6 ⟨rfl, hb6⟩
      have hB6 := bel0 hB3 hb6
      have hD6 := bel0 hb3 hb6
      go_wp2_with fail
      refine (HAL.out _ pv2 cv2 (HRV.out _ hB6) (HO2.out _ hD6)).mono ?_
      rintro e W7 ⟨rfl, hb7⟩
      have hB7 := bel0 hB6 hb7
      go_wp2_with fail
      refine (HKN.out _ hB7).mono ?_
      rintro e W8 ⟨rfl, hb8⟩
      go_wp2_with fail
      go_ret
      exact ⟨rfl, bel0 hB7 hb8⟩
end Go.Proofs.YtealpmimffcpdaaGreatDoor
namespace Go.Proofs.YtealpmimffcpdaaGreatDoor
open Go.RowKit Go.Shelf
set_option maxRecDepth 100000 in
set_option maxHeartbeats 8000000 in
theorem refOf_any (n : Nat) (s : List UInt8) (w : World) (h2 : n ≤ 256) : Calls Tryz.prog 37 #[.string ⟨s.toArray⟩, .string ⟨#[48, 49]⟩, .int .i64 (n : Int)] w fun e w' => e = .returned (.bool (hdB n s)) ∧ Below w.heap.size w w' := by
  by_cases hl : ¬ s.length = n
  · have i1 : ((s.length : Int) != (n : Int)) = true := by simp only [bne_iff_ne]; omega
    have hr : Hid (hdB n s = false) := by unfold Hid hdB; rw [decide_eq_false hl]; rfl
    go_enter Tryz.func37, Tryz.ntmps37
    go_wp2_with fail
    go_ret
    exact ⟨by rw [hr.out]; rfl, Below.refl _ _⟩
  replace hl := Classical.not_not.1 hl
  have i1 : ((s.length : Int) != (n : Int)) = false := by rw [hl]; simp
  obtain ⟨q, hq⟩ : ∃ q, hdB n s = q := ⟨_, rfl⟩
  rw [hq]
  have HNO : Hid (∀ (k : Nat) (c : UInt8), s[k]? = some c → dg01 c = false → q = false) := fun k c h hc => by rw [← hq]; exact hdB_no h hc
  have HYES : Hid ((∀ (k : Nat) (c : UInt8), s[k]? = some c → dg01 c = true) → q = true) := fun h => by rw [← hq]; exact hdB_yes hl h
  have HL : Hid (s.length = n) := hl
  have hs256 : s.length ≤ 256 := by omega
  clear hq hl
  go_enter Tryz.func37, Tryz.ntmps37
  go_wp2_with fail
  go_loopw [7] (fun vk wr => ∃ k : Nat, vk = .int .i64 k ∧ k ≤ s.length ∧ Hid (∀ (j : Nat) (c : UInt8), j < k → s[j]? = some c → dg01 c = true) ∧ Below w.heap.size w wr) (fun vk _ => s.length - (intOf vk).toNat)
  case atStart => exact ⟨0, rfl, Nat.zero_le _, fun j c hj => by omega, Below.refl _ _⟩
  case round =>
    obtain ⟨k, rfl, hk, hno, hB⟩ := hrel
    by_cases hlt : k < s.length
    · have j0 : (0 : Int) ≤ (k : Int) := by omega
      have j1 : (k : Int) < (s.length : Int) := by omega
      obtain ⟨c, hc, hlc⟩ := byte_get s k hlt
      have HNK : Hid (dg01 c = false → q = false) := HNO.out k c hlc
      have HNX : Hid (dg01 c = true → ∀ (j : Nat) (d : UInt8), j < k + 1 → s[j]? = some d → dg01 d = true) := fun h j d hj hd => by
        rcases Nat.lt_or_ge j k with h3 | h3
        · exact hno.out j d h3 hd
        · obtain rfl : j = k := by omega
          rw [hlc] at hd
          rw [← Option.some.inj hd]
          exact h
      clear hlc hno
      go_wp2_with fail
      go_loopw [8, 9] (fun vf vj wi => ∃ (j : Nat) (f : Bool), vj = .int .i64 j ∧ j ≤ 2 ∧ vf = .bool f ∧ Hid ((j = 0 → f = false) ∧ (j = 1 → f = (c == 48)) ∧ (j = 2 → f = dg01 c)) ∧ Below w.heap.size w wi) (fun _ vj _ => 2 - (intOf vj).toNat)
      case atStart => exact ⟨0, false, rfl, by omega, rfl, ⟨fun _ => rfl, fun h => by omega, fun h => by omega⟩, hB⟩
      case round =>
        clear hB
        obtain ⟨j, f, rfl, hj, rfl, hf, hB⟩ := hrel
        rcases (show j = 0 ∨ j = 1 ∨ j = 2 by omega) with hj0 | hj1 | hj2
        · obtain rfl : f = false := hf.out.1 hj0
          have q0 : (j : Int) < 2 := by omega
          have q1 : (0 : Int) ≤ (j : Int) := by omega
          have HJ : Hid (j = 0) := hj0
          obtain ⟨e0, he0⟩ : ∃ e, (c == 48) = e := ⟨_, rfl⟩
          have HE : Hid ((((c.toNat : Int)) == 48) = e0) := by
            unfold Hid
            rw [← he0, Bool.eq_iff_iff, beq_iff_eq, beq_iff_eq]
            exact ⟨fun h => UInt8.toNat_inj.1 (by show c.toNat = 48; omega), fun h => by rw [h]; rfl⟩
          have HF2 : Hid ((j + 1 = 0 → e0 = false) ∧ (j + 1 = 1 → e0 = (c == 48)) ∧ (j + 1 = 2 → e0 = dg01 c)) := ⟨fun h => by omega, fun _ => he0.symm, fun h => by have := HJ.out; omega⟩
          clear hf hj0 he0
          go_wp2_with fail
          refine quiet_lit3 (C := fun W => Below w.heap.size w W) (by kernel_rfl) (by kernel_rfl) (show Below _ _ _ from hB.drew) ?_
          go_big_quiet_want
          go_big_quiet_op
          go_big_quiet_on
          go_big_quiet_want
          go_big_quiet_op
          go_big_quiet_on
          go_big_quiet_want
          go_big_quiet_op
          go_big_quiet_on
          go_big_quiet_want
          go_big_quiet_op
          go_big_quiet_on
          go_big_quiet_want
          refine ⟨.int .u8 (c.toNat : Int), fun W hW => ?_, ?_⟩
          · go_simp
          go_big_quiet_on
          simp only [Act.put, List.setIfInBounds_toArray, List.set_cons_zero, List.set_cons_succ]
          go_big_quiet_want
          go_big_quiet_op
          go_big_quiet_on
          go_big_quiet_want
          go_big_quiet_op
          go_big_quiet_on
          go_big_quiet_want
          refine ⟨.int .u8 48, fun W hW => ?_, ?_⟩
          · have hj0 := HJ.out
            subst hj0
            go_simp
            rfl
          go_big_quiet_on
          simp only [Act.put, List.setIfInBounds_toArray, List.set_cons_zero, List.set_cons_succ]
          go_big_quiet_want
          refine ⟨.bool e0, fun W hW => ?_, ?_⟩
          · go_simp
            exact HE.out
          go_big_quiet_on
          simp only [Act.put, List.setIfInBounds_toArray, List.set_cons_zero, List.set_cons_succ]
          go_big_quiet_want
          refine ⟨.bool e0, fun W hW => ?_, ?_⟩
          · go_simp
          go_big_quiet_on
          simp only [Act.put, List.setIfInBounds_toArray, List.set_cons_zero, List.set_cons_succ]
          go_big_quiet_want
          go_big_quiet_op
          go_big_quiet_on
          refine wpQuiet_nil ?_
          intro W hW
          go_wp2_with fail
          go_roundw
          case rel => exact ⟨j + 1, e0, by go_num, by have := HJ.out; omega, rfl, HF2, hW⟩
          case measure => simp [intOf]; omega
        · have hf1 : f = (c == 48) := hf.out.2.1 hj1
          have q0 : (j : Int) < 2 := by omega
          have q1 : (0 : Int) ≤ (j : Int) := by omega
          have HJ : Hid (j = 1) := hj1
          cases f with
          | true =>
            have HF2 : Hid ((j + 1 = 0 → true = false) ∧ (j + 1 = 1 → true = (c == 48)) ∧ (j + 1 = 2 → true = dg01 c)) := ⟨fun h => by omega, fun h => by have := HJ.out; omega, fun _ => by unfold dg01; rw [← hf1]; rfl⟩
            clear hf hj1 hf1
            go_wp2_with fail
            refine quiet_lit3 (C := fun W => Below w.heap.size w W) (by kernel_rfl) (by kernel_rfl) (show Below _ _ _ from hB.drew) ?_
            go_big_quiet_want
            go_big_quiet_op
            go_big_quiet_on
            go_big_quiet_want
            go_big_quiet_op
            go_big_quiet_on
            go_big_quiet_skip
            go_big_quiet_skip
            go_big_quiet_skip
            go_big_quiet_skip
            go_big_quiet_skip
            go_big_quiet_skip
            go_big_quiet_skip
            go_big_quiet_want
            refine ⟨.bool true, fun W hW => ?_, ?_⟩
            · go_simp
            go_big_quiet_on
            simp only [Act.put, List.setIfInBounds_toArray, List.set_cons_zero, List.set_cons_succ]
            go_big_quiet_want
            go_big_quiet_op
            go_big_quiet_on
            refine wpQuiet_nil ?_
            intro W hW
            go_wp2_with fail
            go_roundw
            case rel => exact ⟨j + 1, true, by go_num, by have := HJ.out; omega, rfl, HF2, hW⟩
            case measure => simp [intOf]; omega
          | false =>
            obtain ⟨e0, he0⟩ : ∃ e, (c == 49) = e := ⟨_, rfl⟩
            have HE : Hid ((((c.toNat : Int)) == 49) = e0) := by
              unfold Hid
              rw [← he0, Bool.eq_iff_iff, beq_iff_eq, beq_iff_eq]
              exact ⟨fun h => UInt8.toNat_inj.1 (by show c.toNat = 49; omega), fun h => by rw [h]; rfl⟩
            have HF2 : Hid ((j + 1 = 0 → e0 = false) ∧ (j + 1 = 1 → e0 = (c == 48)) ∧ (j + 1 = 2 → e0 = dg01 c)) := ⟨fun h => by omega, fun h => by have := HJ.out; omega, fun _ => by unfold dg01; rw [← hf1, he0]; rfl⟩
            clear hf hj1 hf1 he0
            go_wp2_with fail
            refine quiet_lit3 (C := fun W => Below w.heap.size w W) (by kernel_rfl) (by kernel_rfl) (show Below _ _ _ from hB.drew) ?_
            go_big_quiet_want
            go_big_quiet_op
            go_big_quiet_on
            go_big_quiet_want
            go_big_quiet_op
            go_big_quiet_on
            go_big_quiet_want
            go_big_quiet_op
            go_big_quiet_on
            go_big_quiet_want
            go_big_quiet_op
            go_big_quiet_on
            go_big_quiet_want
            refine ⟨.int .u8 (c.toNat : Int), fun W hW => ?_, ?_⟩
            · go_simp
            go_big_quiet_on
            simp only [Act.put, List.setIfInBounds_toArray, List.set_cons_zero, List.set_cons_succ]
            go_big_quiet_want
            go_big_quiet_op
            go_big_quiet_on
            go_big_quiet_want
            go_big_quiet_op
            go_big_quiet_on
            go_big_quiet_want
            refine ⟨.int .u8 49, fun W hW => ?_, ?_⟩
            · have hj0 := HJ.out
              subst hj0
              go_simp
              rfl
            go_big_quiet_on
            simp only [Act.put, List.setIfInBounds_toArray, List.set_cons_zero, List.set_cons_succ]
            go_big_quiet_want
            refine ⟨.bool e0, fun W hW => ?_, ?_⟩
            · go_simp
              exact HE.out
            go_big_quiet_on
            simp only [Act.put, List.setIfInBounds_toArray, List.set_cons_zero, List.set_cons_succ]
            go_big_quiet_want
            refine ⟨.bool e0, fun W hW => ?_, ?_⟩
            · go_simp
            go_big_quiet_on
            simp only [Act.put, List.setIfInBounds_toArray, List.set_cons_zero, List.set_cons_succ]
            go_big_quiet_want
            go_big_quiet_op
            go_big_quiet_on
            refine wpQuiet_nil ?_
            intro W hW
            go_wp2_with fail
            go_roundw
            case rel => exact ⟨j + 1, e0, by go_num, by have := HJ.out; omega, rfl, HF2, hW⟩
            case measure => simp [intOf]; omega
        · have hf2 : f = dg01 c := hf.out.2.2 hj2
          have q0 : ¬ (j : Int) < 2 := by omega
          clear hf hj2
          cases f with
          | true =>
            have HN2 : Hid (∀ (j : Nat) (d : UInt8), j < k + 1 → s[j]? = some d → dg01 d = true) := HNX.out hf2.symm
            clear HNX HNK hf2
            go_wp2_with fail
            go_roundw
            case rel => exact ⟨k + 1, by go_num, by omega, HN2, hB⟩
            case measure => simp [intOf]; omega
          | false =>
            obtain rfl : q = false := HNK.out hf2.symm
            clear HNX HNK hf2
            go_wp2_with fail
            go_ret
            exact ⟨rfl, hB⟩
    · have j1 : ¬ (k : Int) < (s.length : Int) := by omega
      obtain rfl : q = true := HYES.out (fun j d hd => hno.out j d (by have := (List.getElem?_eq_some_iff.1 hd).1; omega) hd)
      go_wp2_with fail
      go_ret
      exact ⟨rfl, hB⟩
/-- where a field's places begin -/
def plN (L : List IFld) (i : Nat) : Nat := (sumB (L.take i)).toNat
/-- the values of a header's fields -/
def uvL (L : List IFld) (s : List UInt8) : List Int := (List.range L.length).map fun i => (valF 0 (subL s (plN L i) (plN L i + (L.getD i ([], 0)).2.toNat)) : Int)
/-- what Unpack answers -/
def unM (L : List IFld) (s : List UInt8) : List Int × Int := if (chkM L).1 ≠ 0 then ([], (chkM L).1) else if hdB (sumB L).toNat s = false then ([], 46) else (uvL L s, 0)
theorem uvL_len (L : List IFld) (s : List UInt8) : (uvL L s).length = L.length := by simp [uvL]
theorem uvL_at {L : List IFld} {s : List UInt8} {k p b : Nat} {x : List UInt8} (hf : L[k]? = some (x, (b : Int))) (hp : sumB (L.take k) = (p : Int)) : (uvL L s)[k]? = some (valF 0 (subL s p (p + b)) : Int) := by
  have hk := (List.getElem?_eq_some_iff.1 hf).1
  unfold uvL plN
  rw [List.getElem?_map, List.getElem?_range hk, Option.map_some, hp, Int.toNat_natCast]
  simp [List.getD, hf]
def unR (w : World) (R : List Int × Int) (e : Ending) (w' : World) : Prop := ∃ v, e = .returned (.tuple #[v, .int .i64 R.2]) ∧ w'.ownsRow w.heap.size 3 1 v R.1.length (ivs R.1) ∧ Below w.heap.size w w'
theorem ivs_set (V : List Int) (k m : Nat) {v : Int} (hv : V[k]? = some v) : (ivs (V.take k ++ List.replicate (m + 1) 0)).set k (.int .i64 v) = ivs (V.take (k + 1) ++ List.replicate m 0) := by
  have hk := (List.getElem?_eq_some_iff.1 hv).1
  have hl : (V.take k).length = k := by rw [List.length_take]; omega
  unfold ivs
  rw [← List.map_set, List.set_append_right _ _ (by omega), hl, Nat.sub_self, List.replicate_succ, List.set_cons_zero, List.take_add_one, hv, List.append_assoc]
  rfl
theorem sub_all {s : List UInt8} {a b : Nat} (h : s.all dg01 = true) : (subL s a b).all dg01 = true := by
  rw [List.all_eq_true] at h ⊢
  intro c hc
  unfold subL at hc
  exact h c (List.mem_of_mem_drop (List.mem_of_mem_take hc))
set_option maxRecDepth 100000 in
set_option maxHeartbeats 8000000 in
theorem unpack_any (L : List IFld) (o : Option Addr) (c : Nat) (s : List UInt8) (w : World) (hL : L.length ≤ 281474976710656) (hc : L.length ≤ c) (hx : ∀ f ∈ L, f.1.length ≤ 281474976710656) (hr : IRF w o L) (hv1 : SH w) (hv4 : SG w) (hv5 : VW w) :
    Calls Tryz.prog 19 #[.slice o L.length c, .string ⟨s.toArray⟩] w fun e w' => unR w (unM L s) e w' := by
  have HC := check_any L o c w hL hc hx hr hv1 hv4 hv5
  obtain ⟨R, hR⟩ : ∃ R, unM L s = R := ⟨_, rfl⟩
  rw [hR]
  by_cases h0 : ¬ (chkM L).1 = 0
  · have hres : Hid (R = ([], (chkM L).1)) := by unfold Hid; rw [← hR]; unfold unM; rw [if_pos h0]
    obtain ⟨ce, hce⟩ : ∃ x, (chkM L).1 = x := ⟨_, rfl⟩
    rw [hce] at HC h0 hres
    have y1 : (ce != 0) = true := by simpa using h0
    clear hx hr hv1 hv4 hv5 hR hce
    go_enter Tryz.func19, Tryz.ntmps19
    go_wp2_with fail
    refine HC.mono ?_
    rintro e W1 ⟨rfl, hb1⟩
    go_wp2_with fail
    refine bodyPost_ret (results_tmp2 rfl _ _ _) rfl ?_
    refine ⟨.slice none 0 0, ?_, ?_, hb1⟩
    · rw [hres.out]
      rfl
    · rw [hres.out]
      exact World.ownsRow_nil _ _ _ _
  replace h0 := Classical.not_not.1 h0
  rw [h0] at HC
  obtain ⟨k1, k2, k3, k4⟩ := chk_ok h0
  have hb0 : ∀ f ∈ L, 0 ≤ f.2 ∧ f.2 ≤ 32 := fun f hf => by have := k3 f hf; omega
  obtain ⟨n, hn⟩ : ∃ n : Nat, sumB L = (n : Int) := ⟨(sumB L).toNat, by have := (sumB_bound L hb0).1; omega⟩
  have hn256 : n ≤ 256 := by omega
  have hn1 : 1 ≤ n := by
    obtain ⟨f0, hf0⟩ : ∃ f, L[0]? = some f := ⟨_, List.getElem?_eq_getElem k1⟩
    have h1 := sumB_take hf0
    have h2 := sumB_take_le hb0 (0 + 1)
    have h3 := k3 f0 (List.mem_of_getElem? hf0)
    have h4 : sumB (L.take 0) = 0 := rfl
    omega
  have HRR : Hid (unM L s = R) := hR
  have hun : unM L s = if hdB n s = false then ([], 46) else (uvL L s, 0) := by unfold unM; rw [if_neg (fun h => h h0), hn, Int.toNat_natCast]
  obtain ⟨f0, hf0⟩ : ∃ f, L[0]? = some f := ⟨_, List.getElem?_eq_getElem k1⟩
  obtain ⟨g, o0, rfl, -⟩ := hr w (Below.refl _ _) 0 f0 hf0
  have HR : Hid (IRF w (some ⟨g, o0, none⟩) L) := hr
  have HK3 : Hid (∀ f ∈ L, 1 ≤ f.2 ∧ f.2 ≤ 32) := k3
  have HB0 : Hid (∀ f ∈ L, 0 ≤ f.2 ∧ f.2 ≤ 32) := hb0
  have HN : Hid (sumB L = (n : Int)) := hn
  obtain ⟨i0, hi, hz0, hz1, hz2⟩ := info_parts info_int
  have HWD : Hid (∀ W : World, Below w.heap.size w W → Calls Tryz.prog 24 #[.slice (some ⟨g, o0, none⟩) L.length c] W fun e w' => e = .returned (.int .i64 (n : Int)) ∧ Below W.heap.size W w') := fun W hW => by
    have := widthOf_any L (some ⟨g, o0, none⟩) c W (by omega) hb0 (hr.later hW)
    rw [hn] at this
    exact this
  have HAL : Hid (∀ W : World, Calls Tryz.prog 39 #[.int .i64 (n : Int)] W fun e w' => e = .returned (.agg #[.int .i64 (n : Int), .int .u64 0, .int .u64 0, .int .u64 0, .int .u64 0, .int .u64 0, .int .u64 0, .int .u64 0, .int .u64 0]) ∧ Below W.heap.size W w') := fun W => all_yes n W (by omega) (by omega)
  have HHS : Hid (∀ W : World, Calls Tryz.prog 40 #[.agg #[.int .i64 (n : Int), .int .u64 0, .int .u64 0, .int .u64 0, .int .u64 0, .int .u64 0, .int .u64 0, .int .u64 0, .int .u64 0], .string ⟨s.toArray⟩] W fun e w' => e = .returned (.bool (hdB n s)) ∧ Below W.heap.size W w') := fun W => has_x n s W hn1 hn256
  cases hh : hdB n s with
  | false =>
    have hres : Hid (R = ([], 46)) := by unfold Hid; rw [← hR, hun, hh, if_pos rfl]
    simp only [hh] at HHS
    clear hx hr hv1 hv4 hv5 hR h0 k3 k4 hb0 hn hf0 hun hh
    go_enter Tryz.func19, Tryz.ntmps19
    go_wp2_with fail
    refine HC.mono ?_
    rintro e W1 ⟨rfl, hb1⟩
    go_wp2_with fail
    refine (HWD.out _ hb1).mono ?_
    rintro e W2 ⟨rfl, hb2⟩
    go_wp2_with fail
    refine (HAL.out _).mono ?_
    rintro e W3 ⟨rfl, hb3⟩
    go_wp2_with fail
    refine (HHS.out _).mono ?_
    rintro e W4 ⟨rfl, hb4⟩
    go_wp2_with fail
    refine bodyPost_ret (results_tmp2 rfl _ _ _) rfl ?_
    refine ⟨.slice none 0 0, ?_, ?_, bel0 (bel0 (bel0 hb1 hb2) hb3) hb4⟩
    · rw [hres.out]
      rfl
    · rw [hres.out]
      exact World.ownsRow_nil _ _ _ _
  | true =>
    have hres : Hid (R = (uvL L s, 0)) := by unfold Hid; rw [← hR, hun, hh, if_neg (by decide)]
    have hh2 := hh
    unfold hdB at hh2
    rw [Bool.and_eq_true, decide_eq_true_eq] at hh2
    have HSL : Hid (s.length = n) := hh2.1
    have HSA : Hid (s.all dg01 = true) := hh2.2
    simp only [hh] at HHS
    clear hx hr hv1 hv4 hv5 hR h0 k3 k4 hb0 hn hf0 hun hh hh2
    go_enter Tryz.func19, Tryz.ntmps19
    go_wp2_with fail
    refine HC.mono ?_
    rintro e W1 ⟨rfl, hb1⟩
    go_wp2_with fail
    refine (HWD.out _ hb1).mono ?_
    rintro e W2 ⟨rfl, hb2⟩
    go_wp2_with fail
    refine (HAL.out _).mono ?_
    rintro e W3 ⟨rfl, hb3⟩
    go_wp2_with fail
    refine (HHS.out _).mono ?_
    rintro e W4 ⟨rfl, hb4⟩
    have hB4 := bel0 (bel0 (bel0 hb1 hb2) hb3) hb4
    have hsz4 := hB4.size
    clear HC HWD HAL HHS hb1 hb2 hb3 hb4
    go_wp2_with (at_make; refine wpList_make_full _ rfl _ _ 32 rfl w.heap.size 3 i0 (.int .i64 0) 1 Tryz.underlying32 hi hz0 hz1 .i64 .i64 _ _ L.length rfl rfl rfl rfl (by rw [hz2]; omega) (by unfold maxLen; omega) hsz4 ?_; intro w5 hO5 hg5)
    have hz5 : (madeCells (Value.int .i64 0).cells (L.length * 1)).toList = ivs (List.replicate L.length 0) := by
      rw [Nat.mul_one]
      have := toList_madeCells_one (.int .i64 0) L.length
      unfold ivs
      rw [List.map_replicate]
      exact this
    rw [hz5] at hO5
    have O5 : Hid (w5.ownsRow w.heap.size 3 1 (.slice (some ⟨W4.heap.size, 0, none⟩) L.length L.length) L.length (ivs (List.replicate L.length 0))) := hO5
    have B5 : Hid (Below w.heap.size w w5) := hB4.grown hg5 hsz4 (fun k e => by cases e)
    clear hO5 hg5 hz5 hB4
    obtain ⟨G, hG⟩ : ∃ G, W4.heap.size = G := ⟨_, rfl⟩
    rw [hG] at O5 hsz4
    try rw [hG]
    go_loopw [29] (fun vk wr => ∃ k : Nat, k ≤ L.length ∧ vk = .int .i64 k ∧ wr.ownsRow w.heap.size 3 1 (.slice (some ⟨G, 0, none⟩) L.length L.length) L.length (ivs ((uvL L s).take k ++ List.replicate (L.length - k) 0)) ∧ Below w.heap.size w wr) (fun vk _ => L.length - (intOf vk).toNat)
    case atStart => exact ⟨0, Nat.zero_le _, rfl, O5.out, B5.out⟩
    case round =>
      clear O5 B5
      obtain ⟨k, hk, rfl, hown, hB⟩ := hrel
      by_cases hlt : k < L.length
      · have j1 : (k : Int) < (L.length : Int) := by omega
        have j0 : (0 : Int) ≤ (k : Int) := by omega
        obtain ⟨f, hf⟩ : ∃ f, L[k]? = some f := ⟨_, List.getElem?_eq_getElem hlt⟩
        have hbits := HK3.out f (List.mem_of_getElem? hf)
        have hst := sumB_take hf
        have hpb := (sumB_bound (L.take k) (fun f hf => HB0.out f (List.mem_of_mem_take hf))).1
        obtain ⟨p, hp⟩ : ∃ p : Nat, sumB (L.take k) = (p : Int) := ⟨(sumB (L.take k)).toNat, by omega⟩
        have hle := sumB_take_le HB0.out (k + 1)
        rw [hst, HN.out, hp] at hle
        obtain ⟨x, bi⟩ := f
        obtain ⟨b, rfl⟩ : ∃ b : Nat, bi = (b : Int) := ⟨bi.toNat, by simp only at hbits; omega⟩
        simp only at hbits hle
        have hU := uvL_at (s := s) hf hp
        have HPT : Hid (∀ W : World, Below w.heap.size w W → Calls Tryz.prog 42 #[.string ⟨s.toArray⟩, .slice (some ⟨g, o0, none⟩) L.length c, .int .i64 (k : Int)] W fun e w' => e = .returned (.string ⟨(subL s p (p + b)).toArray⟩) ∧ Below W.heap.size W w') := fun W hW => part_any s L g o0 c k x b p W hf hp (by rw [HSL.out]; omega) (by rw [HSL.out]; omega) hc (by omega) HB0.out (HR.out.later hW)
        have hYl : (subL s p (p + b)).length ≤ 32 := by unfold subL; rw [List.length_take]; omega
        have HVO : Hid (∀ W : World, Calls Tryz.prog 41 #[.string ⟨(subL s p (p + b)).toArray⟩] W fun e w' => e = .returned (.int .i64 (valF 0 (subL s p (p + b)) : Int)) ∧ Below W.heap.size W w') := fun W => fvalue_any _ W hYl (sub_all HSA.out)
        have e1 : L.length - k = (L.length - (k + 1)) + 1 := by omega
        have hset := ivs_set (uvL L s) k (L.length - (k + 1)) hU
        rw [← e1] at hset
        obtain ⟨Y, hY⟩ : ∃ Y, subL s p (p + b) = Y := ⟨_, rfl⟩
        obtain ⟨vv, hvv⟩ : ∃ v : Nat, valF 0 Y = v := ⟨_, rfl⟩
        simp only [hY] at HPT
        simp only [hY, hvv] at HVO
        rw [hY, hvv] at hset
        have HSET : Hid ((ivs ((uvL L s).take k ++ List.replicate (L.length - k) 0)).set k (.int .i64 (vv : Int)) = ivs ((uvL L s).take (k + 1) ++ List.replicate (L.length - (k + 1)) 0)) := hset
        have HLL : Hid ((ivs ((uvL L s).take k ++ List.replicate (L.length - k) 0)).length = L.length) := by
          unfold Hid ivs
          rw [List.length_map, List.length_append, List.length_take, List.length_replicate, uvL_len]
          omega
        have HO : Hid (wr.ownsRow w.heap.size 3 1 (.slice (some ⟨G, 0, none⟩) L.length L.length) L.length (ivs ((uvL L s).take k ++ List.replicate (L.length - k) 0))) := hown
        clear hf hst hpb hp hU hset hY hvv hown e1 hYl
        go_wp2_with fail
        refine (HPT.out _ hB).mono ?_
        rintro e W6 ⟨rfl, hb6⟩
        go_wp2_with fail
        refine (HVO.out _).mono ?_
        rintro e W7 ⟨rfl, hb7⟩
        have hb67 := bel0 hb6 hb7
        have hB7 := bel0 hB hb67
        have o7 := owns_below HO.out hb67
        have fr : ∀ j, W7.frozen? ⟨G, j, none⟩ = false := o7.frozenAt
        obtain ⟨z, hz⟩ : ∃ z, W7.cell? ⟨G, k, none⟩ = some z := ⟨_, (o7.cellAt k (by omega)).trans (List.getElem?_eq_getElem (by rw [HLL.out]; exact hlt))⟩
        have st := o7.stored k (.int .i64 (vv : Int))
        rw [HSET.out] at st
        have Q1 : Hid ((W7.setCell ⟨G, k, none⟩ (.int .i64 (vv : Int))).ownsRow w.heap.size 3 1 (.slice (some ⟨G, 0, none⟩) L.length L.length) L.length (ivs ((uvL L s).take (k + 1) ++ List.replicate (L.length - (k + 1)) 0))) := st.1
        have Q2 : Hid (Below w.heap.size w (W7.setCell ⟨G, k, none⟩ (.int .i64 (vv : Int)))) := hB7.setCell (p := ⟨G, k, none⟩) hsz4 _
        clear o7 st HPT HVO HO HSET HLL hb6 hb7 hb67 hB7 hB
        go_wp2_with fail
        go_roundw
        case rel => exact ⟨k + 1, by omega, by go_num, Q1.out, Q2.out⟩
        case measure => simp [intOf]; omega
      · have j1 : ¬ (k : Int) < (L.length : Int) := by omega
        obtain rfl : k = L.length := by omega
        rw [Nat.sub_self, List.replicate_zero, List.append_nil, List.take_of_length_le (by rw [uvL_len]; exact Nat.le_refl _)] at hown
        have HO : Hid (wr.ownsRow w.heap.size 3 1 (.slice (some ⟨G, 0, none⟩) L.length L.length) L.length (ivs (uvL L s))) := hown
        clear hown
        go_wp2_with fail
        refine bodyPost_ret (results_tmp2 rfl _ _ _) rfl ?_
        refine ⟨.slice (some ⟨G, 0, none⟩) L.length L.length, ?_, ?_, hB⟩
        · rw [hres.out]
          rfl
        · rw [hres.out]
          show wr.ownsRow _ _ _ _ (uvL L s).length _
          rw [uvL_len]
          exact HO.out
set_option maxRecDepth 100000 in
set_option maxHeartbeats 8000000 in
theorem refUnpack_any (L : List IFld) (o : Option Addr) (c : Nat) (s : List UInt8) (w : World) (hL : L.length ≤ 281474976710656) (hx : ∀ f ∈ L, f.1.length ≤ 281474976710656) (hr : IRF w o L) :
    Calls Tryz.prog 18 #[.slice o L.length c, .string ⟨s.toArray⟩] w fun e w' => unR w (unM L s) e w' := by
  have HC := refCheck_any L o c w hL hx hr
  obtain ⟨R, hR⟩ : ∃ R, unM L s = R := ⟨_, rfl⟩
  rw [hR]
  by_cases h0 : ¬ (chkM L).1 = 0
  · have hres : Hid (R = ([], (chkM L).1)) := by unfold Hid; rw [← hR]; unfold unM; rw [if_pos h0]
    obtain ⟨ce, hce⟩ : ∃ x, (chkM L).1 = x := ⟨_, rfl⟩
    rw [hce] at HC h0 hres
    have y1 : (ce != 0) = true := by simpa using h0
    clear hx hr hR hce
    go_enter Tryz.func18, Tryz.ntmps18
    go_wp2_with fail
    refine HC.mono ?_
    rintro e W1 ⟨rfl, hb1⟩
    go_wp2_with fail
    refine bodyPost_ret (results_tmp2 rfl _ _ _) rfl ?_
    refine ⟨.slice none 0 0, ?_, ?_, hb1⟩
    · rw [hres.out]
      rfl
    · rw [hres.out]
      exact World.ownsRow_nil _ _ _ _
  replace h0 := Classical.not_not.1 h0
  rw [h0] at HC
  obtain ⟨k1, k2, k3, k4⟩ := chk_ok h0
  have hb0 : ∀ f ∈ L, 0 ≤ f.2 ∧ f.2 ≤ 32 := fun f hf => by have := k3 f hf; omega
  obtain ⟨n, hn⟩ : ∃ n : Nat, sumB L = (n : Int) := ⟨(sumB L).toNat, by have := (sumB_bound L hb0).1; omega⟩
  have hn256 : n ≤ 256 := by omega
  have hn1 : 1 ≤ n := by
    obtain ⟨f0, hf0⟩ : ∃ f, L[0]? = some f := ⟨_, List.getElem?_eq_getElem k1⟩
    have h1 := sumB_take hf0
    have h2 := sumB_take_le hb0 (0 + 1)
    have h3 := k3 f0 (List.mem_of_getElem? hf0)
    have h4 : sumB (L.take 0) = 0 := rfl
    omega
  have HRR : Hid (unM L s = R) := hR
  have hun : unM L s = if hdB n s = false then ([], 46) else (uvL L s, 0) := by unfold unM; rw [if_neg (fun h => h h0), hn, Int.toNat_natCast]
  obtain ⟨f0, hf0⟩ : ∃ f, L[0]? = some f := ⟨_, List.getElem?_eq_getElem k1⟩
  obtain ⟨g, o0, rfl, -⟩ := hr w (Below.refl _ _) 0 f0 hf0
  have HR : Hid (IRF w (some ⟨g, o0, none⟩) L) := hr
  have HK3 : Hid (∀ f ∈ L, 1 ≤ f.2 ∧ f.2 ≤ 32) := k3
  have HB0 : Hid (∀ f ∈ L, 0 ≤ f.2 ∧ f.2 ≤ 32) := hb0
  have HN : Hid (sumB L = (n : Int)) := hn
  obtain ⟨i0, hi, hz0, hz1, hz2⟩ := info_parts info_int
  have HWD : Hid (∀ W : World, Below w.heap.size w W → Calls Tryz.prog 34 #[.slice (some ⟨g, o0, none⟩) L.length c] W fun e w' => e = .returned (.int .i64 (n : Int)) ∧ Below W.heap.size W w') := fun W hW => by
    have := refWidth_any L (some ⟨g, o0, none⟩) c W (by omega) hb0 (hr.later hW)
    rw [hn] at this
    exact this
  have HHS : Hid (∀ W : World, Calls Tryz.prog 37 #[.string ⟨s.toArray⟩, .string ⟨#[48, 49]⟩, .int .i64 (n : Int)] W fun e w' => e = .returned (.bool (hdB n s)) ∧ Below W.heap.size W w') := fun W => refOf_any n s W hn256
  cases hh : hdB n s with
  | false =>
    have hres : Hid (R = ([], 46)) := by unfold Hid; rw [← hR, hun, hh, if_pos rfl]
    simp only [hh] at HHS
    clear hx hr hR h0 k3 k4 hb0 hn hf0 hun hh
    go_enter Tryz.func18, Tryz.ntmps18
    go_wp2_with fail
    refine HC.mono ?_
    rintro e W1 ⟨rfl, hb1⟩
    go_wp2_with fail
    refine (HWD.out _ hb1).mono ?_
    rintro e W2 ⟨rfl, hb2⟩
    go_wp2_with fail
    refine (HHS.out _).mono ?_
    rintro e W4 ⟨rfl, hb4⟩
    go_wp2_with fail
    refine bodyPost_ret (results_tmp2 rfl _ _ _) rfl ?_
    refine ⟨.slice none 0 0, ?_, ?_, bel0 (bel0 hb1 hb2) hb4⟩
    · rw [hres.out]
      rfl
    · rw [hres.out]
      exact World.ownsRow_nil _ _ _ _
  | true =>
    have hres : Hid (R = (uvL L s, 0)) := by unfold Hid; rw [← hR, hun, hh, if_neg (by decide)]
    have hh2 := hh
    unfold hdB at hh2
    rw [Bool.and_eq_true, decide_eq_true_eq] at hh2
    have HSL : Hid (s.length = n) := hh2.1
    simp only [hh] at HHS
    clear hx hr hR h0 k3 k4 hb0 hn hf0 hun hh hh2
    go_enter Tryz.func18, Tryz.ntmps18
    go_wp2_with fail
    refine HC.mono ?_
    rintro e W1 ⟨rfl, hb1⟩
    go_wp2_with fail
    refine (HWD.out _ hb1).mono ?_
    rintro e W2 ⟨rfl, hb2⟩
    go_wp2_with fail
    refine (HHS.out _).mono ?_
    rintro e W4 ⟨rfl, hb4⟩
    have hB4 := bel0 (bel0 hb1 hb2) hb4
    clear HC HWD HHS hb1 hb2 hb4
    go_wp2_with fail
    go_loopw [9, 10, 11] (fun v vp vk wr => ∃ (k p : Nat), vk = .int .i64 k ∧ k ≤ L.length ∧ vp = .int .i64 p ∧ Hid (sumB (L.take k) = (p : Int)) ∧ wr.ownsRow w.heap.size 3 1 v k (ivs ((uvL L s).take k)) ∧ Below w.heap.size w wr) (fun _ _ vk _ => L.length - (intOf vk).toNat)
    case atStart => exact ⟨0, 0, rfl, Nat.zero_le _, rfl, rfl, World.ownsRow_nil _ _ _ _, hB4⟩
    case round =>
      clear hB4
      obtain ⟨k, p, rfl, hk, rfl, hp, hown, hB⟩ := hrel
      by_cases hlt : k < L.length
      · have j1 : (k : Int) < (L.length : Int) := by omega
        have j0 : (0 : Int) ≤ (k : Int) := by omega
        obtain ⟨f, hf⟩ : ∃ f, L[k]? = some f := ⟨_, List.getElem?_eq_getElem hlt⟩
        have hbits := HK3.out f (List.mem_of_getElem? hf)
        have hst := sumB_take hf
        have hle := sumB_take_le HB0.out (k + 1)
        rw [hst, HN.out, hp.out] at hle
        rw [hp.out] at hst
        have XF : Hid (∀ W : World, Below w.heap.size w W → W.cell? ⟨g, o0 + k * 2 + 1, none⟩ = some (.int .i64 f.2)) := fun W hW => by
          obtain ⟨g3, q3, h1, -, h2⟩ := HR.out W hW k f hf
          injection h1 with h1
          injection h1 with h1 h4
          subst h1 h4
          exact h2
        obtain ⟨x, bi⟩ := f
        obtain ⟨b, rfl⟩ : ∃ b : Nat, bi = (b : Int) := ⟨bi.toNat, by simp only at hbits; omega⟩
        simp only at hbits hle hst XF
        have hU := uvL_at (s := s) hf hp.out
        have hYl : (subL s p (p + b)).length ≤ 32 := by unfold subL; rw [List.length_take]; omega
        have HVO : Hid (∀ W : World, Calls Tryz.prog 38 #[.string ⟨(subL s p (p + b)).toArray⟩] W fun e w' => e = .returned (.int .i64 (valF 0 (subL s p (p + b)) : Int)) ∧ w' = W) := fun W => refValue_any _ W hYl
        have HTK : Hid (ivs ((uvL L s).take (k + 1)) = ivs ((uvL L s).take k) ++ [.int .i64 (valF 0 (subL s p (p + b)) : Int)]) := by unfold Hid ivs; rw [List.take_add_one, hU]; simp
        have hE := ext_sub s p (p + b)
        obtain ⟨Y, hY⟩ : ∃ Y, subL s p (p + b) = Y := ⟨_, rfl⟩
        obtain ⟨vv, hvv⟩ : ∃ v : Nat, valF 0 Y = v := ⟨_, rfl⟩
        simp only [hY, hvv] at HVO HTK
        rw [hY] at hE
        have HST : Hid (sumB (L.take (k + 1)) = ((p + b : Nat) : Int)) := by unfold Hid; rw [hst]; omega
        have m0 : (0 : Int) ≤ (p : Int) := by omega
        have m1 : (p : Int) ≤ (p : Int) + (b : Int) := by omega
        have m2 : (p : Int) + (b : Int) ≤ (s.length : Int) := by rw [HSL.out]; omega
        have e9 : IntKind.i64.wrap ((p : Int) + (b : Int)) = (p : Int) + (b : Int) := by rw [IntKind.wrap_i64]; omega
        have t9 : ((p : Int) + (b : Int)).toNat = p + b := by omega
        have z1 := XF.out wr hB
        have hBs := hB.size
        obtain ⟨pv2, cv2, rfl⟩ := shapeP hown
        clear hf hst hU hY hvv hYl hp
        go_wp2_with fail
        refine (HVO.out _).mono ?_
        rintro e W6 ⟨rfl, rfl⟩
        go_wp2_with (at_builtin; refine wpList_append_own _ rfl _ _ 32 rfl w.heap.size 3 i0 _ 1 8 Tryz.underlying32 hi hz0 hz1 hz2 rfl (by decide) _ _ _ rfl (hown.alloc _) ⟨_, 0, none⟩ 1 1 [.int .i64 (vv : Int)] rfl rfl (World.news_of_block (cs := #[.int .i64 (vv : Int)]) (t := 3) (fr := (0, 0)) (alloc_get _ _)) (by simp [Value.oneCell']) (by unfold maxLen; omega) (by omega) (by simp; omega) ?_; intro v5 w5 oB hg5 _; have hB5 := (hB.alloc hBs _).grown hg5 (by simp; omega) (fun k e => (hown.lt k e).1); have z5 := XF.out w5 hB5)
        go_roundw
        case rel => exact ⟨k + 1, p + b, by go_num, by omega, by go_num, HST, by rw [HTK.out]; exact oB, hB5⟩
        case measure => simp [intOf]; omega
      · have j1 : ¬ (k : Int) < (L.length : Int) := by omega
        obtain rfl : k = L.length := by omega
        rw [List.take_of_length_le (by rw [uvL_len]; exact Nat.le_refl _)] at hown
        obtain ⟨pv2, cv2, rfl⟩ := shapeP hown
        have HO : Hid (wr.ownsRow w.heap.size 3 1 (.slice pv2 L.length cv2) L.length (ivs (uvL L s))) := hown
        clear hown
        go_wp2_with fail
        refine bodyPost_ret (results_tmp2 rfl _ _ _) rfl ?_
        refine ⟨.slice pv2 L.length cv2, ?_, ?_, hB⟩
        · rw [hres.out]
          rfl
        · rw [hres.out]
          show wr.ownsRow _ _ _ _ (uvL L s).length _
          rw [uvL_len]
          exact HO.out
end Go.Proofs.YtealpmimffcpdaaGreatDoor
namespace Go.Proofs.YtealpmimffcpdaaGreatDoor
open Go.RowKit Go.Shelf
theorem IRV_ownL {W : World} {B : Nat} {o : Option Addr} {c m : Nat} {V : List Int} (h : W.ownsRow B 3 1 (.slice o m c) m (ivs V)) (hm : V.length = m) : IRV W o V := IRV_own h hm
theorem unM_len (L : List IFld) (s : List UInt8) : (unM L s).1.length ≤ L.length := by
  unfold unM
  split
  · simp
  · split
    · simp
    · rw [uvL_len]
      exact Nat.le_refl _
set_option maxRecDepth 100000 in
set_option maxHeartbeats 8000000 in
theorem fieldUnpacks_walk (L : List IFld) (n : Nat) (ad : Option Addr) (cap : Nat) (h : ByteArray) (w : World) (hLn : L.length = n) (hcap : n ≤ cap) (hlb : n * 24 ≤ 140737488355328) (hstr : ∀ f ∈ L, f.1.length ≤ 281474976710656) (hcell : IRF w ad L) (_hlim : h.size ≤ 281474976710656) (hv1 : SH w) (hdb : DB w) (hv4 : SG w) (hv5 : VW w) :
    Calls Tryz.prog 6 #[.slice ad n cap, .string h] w fun e w' => e = .returned (.bool true) ∧ Below w.heap.size w w' := by
  obtain ⟨s, rfl⟩ : ∃ s : List UInt8, h = ⟨s.toArray⟩ := ⟨h.data.toList, by simp⟩
  obtain ⟨r, hr⟩ : ∃ r, unM L s = r := ⟨_, rfl⟩
  have hrl := unM_len L s
  rw [hr] at hrl
  have HR : Hid (∀ W : World, Below w.heap.size w W → IRF W ad L) := fun W hW => hcell.later hW
  have HRC : Hid (Calls Tryz.prog 18 #[.slice ad n cap, .string ⟨s.toArray⟩] w fun e w' => unR w r e w') := by
    unfold Hid
    rw [← hLn, ← hr]
    exact refUnpack_any L ad cap s w (by omega) hstr hcell
  have HCP : Hid (∀ W : World, Below w.heap.size w W → Calls Tryz.prog 8 #[.slice ad n cap] W fun e w' => ∃ v, e = .returned v ∧ w'.ownsRow W.heap.size 52 2 v n (fels L) ∧ Below W.heap.size W w') := fun W hW => by
    rw [← hLn]
    exact copyFields_any L ad cap W (by omega) (hcell.later hW)
  have HCK : Hid (∀ W : World, Below w.heap.size w W → Calls Tryz.prog 19 #[.slice ad n cap, .string ⟨s.toArray⟩] W fun e w' => unR W r e w') := fun W hW => by
    rw [← hLn, ← hr]
    exact unpack_any L ad cap s W (by omega) (by omega) hstr (hcell.later hW) (hv1.below hW) (hv4.below hW) (hv5.below hW)
  have HUN : Hid (∀ (W : World) (o2 : Option Addr) (c2 : Nat), IRF W ad L → IRF W o2 L → Calls Tryz.prog 11 #[.slice ad n cap, .slice o2 n c2] W fun e w' => e = .returned (.bool false) ∧ Below W.heap.size W w') := fun W o2 c2 i1 i2 => by
    rw [← hLn]
    exact unlike_any L ad o2 cap c2 W (by omega) i1 i2
  have HKN : Hid (∀ W : World, Below w.heap.size w W → Calls Tryz.prog 15 #[] W fun e w' => e = .returned (.bool true) ∧ Below W.heap.size W w') := fun W hW => known_any W (hdb.below hW)
  have HLN : Hid (L.length = n) := hLn
  obtain ⟨U, a0⟩ := r
  simp only at hrl
  obtain ⟨m, hm⟩ : ∃ m, U.length = m := ⟨_, rfl⟩
  have HM : Hid (U.length = m) := hm
  have HAL : Hid (∀ (W : World) (o1 o2 : Option Addr) (c1 c2 : Nat), IRV W o1 U → IRV W o2 U → Calls Tryz.prog 14 #[.slice o1 m c1, .slice o2 m c2] W fun e w' => e = .returned (.bool true) ∧ Below W.heap.size W w') := fun W o1 o2 c1 c2 i1 i2 => by
    rw [← hm]
    exact alike_any U o1 o2 c1 c2 W (by omega) i1 i2
  have y1 : (a0 == a0) = true := beq_self_eq_true a0
  clear hr hLn hm hcell hstr hv1 hv4 hv5 hdb
  go_enter Tryz.func6, Tryz.ntmps6
  go_wp2_with fail
  refine HRC.out.mono ?_
  rintro e W1 ⟨v1, rfl, hown1, hb1⟩
  simp only [HM.out] at hown1
  obtain ⟨p1, c1, rfl⟩ := shapeP hown1
  have HO1 : Hid (∀ W : World, Below W1.heap.size W1 W → IRV W p1 U) := fun W hW => (IRV_ownL hown1 HM.out).later hW
  clear hown1
  go_wp2_with fail
  refine (HCP.out _ hb1).mono ?_
  rintro e W2 ⟨v, rfl, hown, hb2⟩
  have hB2 := bel0 hb1 hb2
  obtain ⟨pv, cv, rfl⟩ := shapeP hown
  have HO : Hid (∀ W : World, Below W2.heap.size W2 W → IRF W pv L) := fun W hW => (IRF_own hown HLN.out).later hW
  clear hown
  go_wp2_with fail
  refine (HCK.out _ hB2).mono ?_
  rintro e W3 ⟨v3, rfl, hown3, hb3⟩
  simp only [HM.out] at hown3
  obtain ⟨p3, c3, rfl⟩ := shapeP hown3
  have hB3 := bel0 hB2 hb3
  have hD3 := bel0 hb2 hb3
  have I3 : Hid (IRV W3 p3 U) := IRV_ownL hown3 HM.out
  clear hown3
  go_wp2_with fail
  refine (num_any a0 _).mono ?_
  rintro e W5 ⟨rfl, rfl⟩
  go_wp2_with fail
  refine (HAL.out _ p3 p1 c3 c1 I3.out (HO1.out _ hD3)).mono ?_
  rintro e W6 ⟨rfl, hb6⟩
  have hB6 := bel0 hB3 hb6
  have hE6 := bel0 hb3 hb6
  go_wp2_with fail
  refine (HUN.out _ pv cv (HR.out _ hB6) (HO.out _ hE6)).mono ?_
  rintro e W7 ⟨rfl, hb7⟩
  have hB7 := bel0 hB6 hb7
  go_wp2_with fail
  refine (HKN.out _ hB7).mono ?_
  rintro e W8 ⟨rfl, hb8⟩
  go_wp2_with fail
  go_ret
  exact ⟨rfl, bel0 hB7 hb8⟩
end Go.Proofs.YtealpmimffcpdaaGreatDoor
