import Derived.Test.YtfcdaljhbeogeaaChecked
import Derived.WalkKit
import Derived.Below
import Derived.BigQuiet
import Derived.OwnWalk
import Derived.Lib.TrailingZeros
import Derived.Lib.BitFns
namespace Go.Proofs.Ytfcdaljhbeogeaa
open Go.RowKit
/-! The fewest prefixes of a range: the greedy list is that of the halves. -/
theorem bitLen_spec (n : Nat) : 0 < n → n < 2 ^ 64 → 2 ^ Lib.bitLen n ≤ 2 * n ∧ n < 2 ^ Lib.bitLen n := by
  induction n using Nat.strongRecOn with
  | ind n ih =>
  intro h0 h
  rw [Lib.bitLen_half n (by omega) h]
  by_cases h1 : n = 1
  · subst h1
    decide
  · obtain ⟨a, b⟩ := ih (n / 2) (by omega) (by omega) (by omega)
    rw [Nat.add_comm 1, Nat.pow_succ]
    omega
/-- the last zeros of a value -/
abbrev cz (a : Nat) : Nat := Lib.ctz 64 a
/-- how far a count reaches -/
abbrev lg (n : Nat) : Nat := Lib.bitLen n - 1
theorem lg_le {n k : Nat} (h0 : 0 < n) (h : n < 2 ^ 64) (hk : 2 ^ k ≤ n) : k ≤ lg n := by
  obtain ⟨_, b⟩ := bitLen_spec n h0 h
  have : k < Lib.bitLen n := (Nat.pow_lt_pow_iff_right (by decide)).1 (Nat.lt_of_le_of_lt hk b)
  show k ≤ Lib.bitLen n - 1
  omega
theorem lg_pow {n : Nat} (h0 : 0 < n) (h : n < 2 ^ 64) : 2 ^ lg n ≤ n := by
  obtain ⟨a, b⟩ := bitLen_spec n h0 h
  have h1 : Lib.bitLen n ≠ 0 := fun e => by rw [e] at b; simp at b; omega
  obtain ⟨m, hm⟩ : ∃ m, Lib.bitLen n = m + 1 := ⟨Lib.bitLen n - 1, by omega⟩
  show 2 ^ (Lib.bitLen n - 1) ≤ n
  rw [hm, Nat.pow_succ] at a
  rw [hm]
  simp only [Nat.add_sub_cancel]
  omega
theorem cz_dvd {a : Nat} (h0 : a ≠ 0) (h : a < 2 ^ 64) : 2 ^ cz a ∣ a := by
  obtain ⟨m, hm, _⟩ := Lib.ctzFrom_spec 64 a (by omega) h
  have e : cz a = Lib.ctzFrom 64 a := if_neg h0
  rw [e]
  exact ⟨_, hm⟩
theorem cz_lt {a k : Nat} (h0 : a ≠ 0) (h : a < 2 ^ 64) (hk : ¬ 2 ^ k ∣ a) : cz a < k := by
  refine Classical.byContradiction (fun hn => hk ?_)
  exact Nat.dvd_trans (Nat.pow_dvd_pow 2 (by omega)) (cz_dvd h0 h)
theorem cz_ge {a k : Nat} (h : a < 2 ^ 64) (hk : 2 ^ k ∣ a) (hk6 : k ≤ 64) : k ≤ cz a := by
  by_cases h0 : a = 0
  · subst h0
    exact hk6
  · obtain ⟨m, hm, _⟩ := Lib.ctzFrom_spec 64 a (by omega) h
    have e : cz a = Lib.ctzFrom 64 a := if_neg h0
    rw [e]
    refine Classical.byContradiction (fun hn => ?_)
    obtain ⟨d, hd⟩ : ∃ d, k = Lib.ctzFrom 64 a + (d + 1) := ⟨k - Lib.ctzFrom 64 a - 1, by omega⟩
    obtain ⟨q, hq⟩ := hk
    rw [hd, Nat.pow_add, Nat.mul_assoc] at hq
    have hp : 0 < 2 ^ Lib.ctzFrom 64 a := Nat.pow_pos (by decide)
    have h1 : 2 * m + 1 = 2 ^ (d + 1) * q := Nat.eq_of_mul_eq_mul_left hp (hm.symm.trans hq)
    rw [Nat.pow_succ, Nat.mul_assoc] at h1
    have h2 : 2 ^ d * (2 * q) = 2 * (2 ^ d * q) := Nat.mul_left_comm _ _ _
    omega
/-- how many places the next prefix leaves free -/
def fre (a e : Nat) : Nat := min (cz a) (lg (e - a + 1))
theorem fre_le {a e : Nat} (h : a ≤ e) (he : e < 2 ^ 63) : 2 ^ fre a e ≤ e - a + 1 :=
  Nat.le_trans (Nat.pow_le_pow_right (by decide) (Nat.min_le_right _ _)) (lg_pow (by omega) (by omega))
/-- the prefixes, greedily -/
def gr (a e : Nat) : List (Nat × Nat) := if a ≤ e then (a, fre a e) :: gr (a + 2 ^ fre a e) e else []
termination_by e + 1 - a
decreasing_by
  have : 0 < 2 ^ fre a e := Nat.pow_pos (by decide)
  omega
theorem gr_le {a e : Nat} (h : a ≤ e) : gr a e = (a, fre a e) :: gr (a + 2 ^ fre a e) e := by rw [gr, if_pos h]
theorem gr_end {a e : Nat} (h : ¬ a ≤ e) : gr a e = [] := by rw [gr, if_neg h]
theorem next_le {a b f : Nat} (ha : 2 ^ f ∣ a) (hb : 2 ^ f ∣ b) (h : a < b) : a + 2 ^ f ≤ b := by
  obtain ⟨x, rfl⟩ := ha
  obtain ⟨y, rfl⟩ := hb
  have hxy : x < y := Nat.lt_of_mul_lt_mul_left h
  have := Nat.mul_le_mul_left (2 ^ f) (show x + 1 ≤ y from hxy)
  rw [Nat.mul_add, Nat.mul_one] at this
  exact this
theorem not_dvd {b a w : Nat} (hb : 2 ^ w ∣ b) (h1 : b < a) (h2 : a < b + 2 ^ w) : ¬ 2 ^ w ∣ a := fun h => by
  have := next_le hb h h1
  omega
theorem fre_in {b a w m e : Nat} (hb : 2 ^ w ∣ b) (h1 : b < a) (h2 : a < m) (hm : m = b + 2 ^ w) (hme : m ≤ e + 1) (he : e < 2 ^ 63) : fre a e = cz a := by
  have hlt := cz_lt (a := a) (k := w) (by omega) (by omega) (not_dvd hb h1 (by omega))
  have hd := cz_dvd (a := a) (by omega) (by omega)
  have hdm : 2 ^ cz a ∣ m := by
    rw [hm]
    exact Nat.dvd_add (Nat.dvd_trans (Nat.pow_dvd_pow 2 (by omega)) hb) (Nat.pow_dvd_pow 2 (by omega))
  have hn := next_le hd hdm h2
  have hl := lg_le (n := e - a + 1) (k := cz a) (by omega) (by omega) (by omega)
  unfold fre
  omega
theorem gr_split_in {b w m e : Nat} (hb : 2 ^ w ∣ b) (hm : m = b + 2 ^ w) (hme : m ≤ e + 1) (he : e < 2 ^ 63) : ∀ (n a : Nat), m - a ≤ n → b < a → a ≤ m → gr a e = gr a (m - 1) ++ gr m e := by
  intro n
  induction n with
  | zero =>
    intro a hn h1 h2
    obtain rfl : a = m := by omega
    rw [gr_end (a := a) (e := a - 1) (by omega)]
    rfl
  | succ n ih =>
    intro a hn h1 h2
    by_cases ham : a = m
    · subst ham
      rw [gr_end (a := a) (e := a - 1) (by omega)]
      rfl
    · have f1 := fre_in hb h1 (by omega) hm hme he
      have f2 := fre_in (e := m - 1) hb h1 (by omega) hm (by omega) (by omega)
      have hp : 0 < 2 ^ cz a := Nat.pow_pos (by decide)
      have hle := fre_le (a := a) (e := m - 1) (by omega) (by omega)
      rw [f2] at hle
      rw [gr_le (a := a) (e := e) (by omega), gr_le (a := a) (e := m - 1) (by omega), f1, f2, ih (a + 2 ^ cz a) (by omega) (by omega) (by omega)]
      rfl
theorem fre_full {b w : Nat} (hb : 2 ^ w ∣ b) (hw : w ≤ 32) (h : b < 2 ^ 62) : fre b (b + 2 ^ w - 1) = w := by
  have hp : 0 < 2 ^ w := Nat.pow_pos (by decide)
  have hp2 : 2 ^ w ≤ 2 ^ 32 := Nat.pow_le_pow_right (by decide) hw
  have e : b + 2 ^ w - 1 - b + 1 = 2 ^ w := by omega
  have h1 := cz_ge (a := b) (k := w) (by omega) hb (by omega)
  have h2 := lg_le (n := 2 ^ w) (k := w) hp (by omega) (Nat.le_refl _)
  have h3 := lg_pow (n := 2 ^ w) hp (by omega)
  have h4 : lg (2 ^ w) ≤ w := (Nat.pow_le_pow_iff_right (by decide)).1 h3
  unfold fre
  rw [e]
  omega
theorem gr_full {b w : Nat} (hb : 2 ^ w ∣ b) (hw : w ≤ 32) (h : b < 2 ^ 62) : gr b (b + 2 ^ w - 1) = [(b, w)] := by
  have hp : 0 < 2 ^ w := Nat.pow_pos (by decide)
  rw [gr_le (by omega), fre_full hb hw h, gr_end (by omega)]
theorem gr_split {b w a e : Nat} (hb : 2 ^ (w + 1) ∣ b) (hw : w < 32) (hb2 : b < 2 ^ 62) (h1 : b ≤ a) (h2 : a < b + 2 ^ w) (h3 : b + 2 ^ w ≤ e) (h4 : e < b + 2 ^ (w + 1)) (hn : ¬ (a = b ∧ e = b + 2 ^ (w + 1) - 1)) : gr a e = gr a (b + 2 ^ w - 1) ++ gr (b + 2 ^ w) e := by
  have hbw : 2 ^ w ∣ b := Nat.dvd_trans (Nat.pow_dvd_pow 2 (by omega)) hb
  have hp : 0 < 2 ^ w := Nat.pow_pos (by decide)
  have hp2 : 2 ^ w ≤ 2 ^ 32 := Nat.pow_le_pow_right (by decide) (by omega)
  rw [Nat.pow_succ] at h4 hn
  by_cases hab : a = b
  · subst hab
    have h5 : e - a + 1 < 2 ^ (w + 1) := by rw [Nat.pow_succ]; omega
    have f1 : fre a e = w := by
      have c1 := cz_ge (a := a) (k := w) (by omega) hbw (by omega)
      have c2 := lg_le (n := e - a + 1) (k := w) (by omega) (by omega) (by omega)
      have c3 := lg_pow (n := e - a + 1) (by omega) (by omega)
      have c4 : lg (e - a + 1) < w + 1 := (Nat.pow_lt_pow_iff_right (a := 2) (by decide)).1 (by omega)
      unfold fre
      omega
    rw [gr_full hbw (by omega) hb2, gr_le (a := a) (e := e) (by omega), f1]
    rfl
  · exact gr_split_in hbw rfl (by omega) (by omega) _ a (Nat.le_refl _) (by omega) (by omega)
/-- the prefixes, by halves -/
def hv : Nat → Nat → Nat → Nat → List (Nat × Nat)
  | 0, b, lo, hi => if lo ≤ b ∧ b + 2 ^ 0 - 1 ≤ hi then [(b, 0)] else []
  | w + 1, b, lo, hi => if lo ≤ b ∧ b + 2 ^ (w + 1) - 1 ≤ hi then [(b, w + 1)] else if hi < b ∨ b + 2 ^ (w + 1) - 1 < lo then [] else hv w b lo hi ++ hv w (b + 2 ^ w) lo hi
theorem hv_gr (lo hi : Nat) (hl : lo ≤ hi) : ∀ (w b : Nat), w ≤ 32 → 2 ^ w ∣ b → b + 2 ^ w ≤ 2 ^ 33 → hv w b lo hi = if max lo b ≤ min hi (b + 2 ^ w - 1) then gr (max lo b) (min hi (b + 2 ^ w - 1)) else [] := by
  intro w
  induction w with
  | zero =>
    intro b hw hd hb
    rw [hv]
    by_cases h : lo ≤ b ∧ b + 2 ^ 0 - 1 ≤ hi
    · rw [if_pos h, if_pos (by omega), Nat.max_eq_right h.1, Nat.min_eq_right h.2, gr_full hd hw (by omega)]
    · rw [if_neg h, if_neg (by omega)]
  | succ w ih =>
    intro b hw hd hb
    have hp : 0 < 2 ^ w := Nat.pow_pos (by decide)
    have hps : 2 ^ (w + 1) = 2 ^ w * 2 := Nat.pow_succ 2 w
    have hdw : 2 ^ w ∣ b := Nat.dvd_trans (Nat.pow_dvd_pow 2 (by omega)) hd
    rw [hv]
    by_cases h : lo ≤ b ∧ b + 2 ^ (w + 1) - 1 ≤ hi
    · rw [if_pos h, if_pos (by omega), Nat.max_eq_right h.1, Nat.min_eq_right h.2, gr_full hd hw (by omega)]
    · rw [if_neg h]
      by_cases h2 : hi < b ∨ b + 2 ^ (w + 1) - 1 < lo
      · rw [if_pos h2, if_neg (by omega)]
      · rw [if_neg h2, ih b (by omega) hdw (by omega), ih (b + 2 ^ w) (by omega) (Nat.dvd_add hdw (Nat.dvd_refl _)) (by omega), if_pos (show max lo b ≤ min hi (b + 2 ^ (w + 1) - 1) by omega)]
        have e1 : b + 2 ^ w + 2 ^ w - 1 = b + 2 ^ (w + 1) - 1 := by omega
        rw [e1]
        by_cases g1 : hi < b + 2 ^ w
        · rw [if_pos (by omega), if_neg (by omega), List.append_nil, Nat.min_eq_left (show hi ≤ b + 2 ^ w - 1 by omega), Nat.min_eq_left (show hi ≤ b + 2 ^ (w + 1) - 1 by omega)]
        · by_cases g2 : b + 2 ^ w ≤ lo
          · rw [if_neg (by omega), if_pos (by omega), List.nil_append, Nat.max_eq_left g2, Nat.max_eq_left (show b ≤ lo by omega)]
          · rw [if_pos (by omega), if_pos (by omega), Nat.min_eq_right (show b + 2 ^ w - 1 ≤ hi by omega), Nat.max_eq_right (show lo ≤ b + 2 ^ w by omega)]
            exact (gr_split hd (by omega) (by omega) (by omega) (by omega) (by omega) (by omega) (by omega)).symm
/-- of all values -/
theorem hv_all (w lo hi : Nat) (hw : w ≤ 32) (hl : lo ≤ hi) (hh : hi < 2 ^ w) : hv w 0 lo hi = gr lo hi := by
  have hp : 2 ^ w ≤ 2 ^ 32 := Nat.pow_le_pow_right (by decide) hw
  rw [hv_gr lo hi hl w 0 hw (Nat.dvd_zero _) (by omega), if_pos (by omega), Nat.max_eq_left (by omega), Nat.min_eq_left (by omega)]
end Go.Proofs.Ytfcdaljhbeogeaa
