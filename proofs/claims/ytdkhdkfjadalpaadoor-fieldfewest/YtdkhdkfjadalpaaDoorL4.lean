import Derived.Test.YtdkhdkfjadalpaaDoorL3
namespace Go.Proofs.YtdkhdkfjadalpaaDoor
open Go.RowKit Go.Shelf
theorem bitB_eq {b a v j : Nat} : bitB b a j = bitB b v j ↔ a / 2 ^ (b - 1 - j) % 2 = v / 2 ^ (b - 1 - j) % 2 := by
  unfold bitB
  rcases Nat.mod_two_eq_zero_or_one (a / 2 ^ (b - 1 - j)) with h | h <;> rcases Nat.mod_two_eq_zero_or_one (v / 2 ^ (b - 1 - j)) with h' | h' <;> rw [h, h'] <;> decide
theorem bits_eq {b a v f : Nat} (ha : a < 2 ^ b) (hv : v < 2 ^ b) (h : ∀ k, f ≤ k → k < b → a / 2 ^ k % 2 = v / 2 ^ k % 2) : a / 2 ^ f = v / 2 ^ f := by
  apply Nat.eq_of_testBit_eq
  intro i
  rw [Nat.testBit_eq_decide_div_mod_eq, Nat.testBit_eq_decide_div_mod_eq, Nat.div_div_eq_div_mul, Nat.div_div_eq_div_mul, ← Nat.pow_add]
  by_cases hk : f + i < b
  · rw [h (f + i) (by omega) hk]
  · have hp : 2 ^ b ≤ 2 ^ (f + i) := Nat.pow_le_pow_right (by decide) (by omega)
    rw [Nat.div_eq_of_lt (by omega), Nat.div_eq_of_lt (by omega)]
/-- a header is in a prefix just if its value is among the prefix's -/
theorem has_iff {b a f v : Nat} (hf : f ≤ b) (ha : 2 ^ f ∣ a) (hab : a < 2 ^ b) (hv : v < 2 ^ b) : (∀ j, j < b - f → bitB b a j = bitB b v j) ↔ (a ≤ v ∧ v < a + 2 ^ f) := by
  have hp : 0 < 2 ^ f := Nat.pow_pos (by decide)
  have hq : (∀ j, j < b - f → bitB b a j = bitB b v j) ↔ a / 2 ^ f = v / 2 ^ f := by
    constructor
    · intro h
      refine bits_eq hab hv (fun k h1 h2 => ?_)
      have := bitB_eq.1 (h (b - 1 - k) (by omega))
      rw [show b - 1 - (b - 1 - k) = k by omega] at this
      exact this
    · intro h j hj
      refine bitB_eq.2 ?_
      obtain ⟨d, hd⟩ : ∃ d, b - 1 - j = f + d := ⟨b - 1 - j - f, by omega⟩
      rw [hd, Nat.pow_add, ← Nat.div_div_eq_div_mul, ← Nat.div_div_eq_div_mul, h]
  rw [hq]
  obtain ⟨q, rfl⟩ := ha
  rw [Nat.mul_div_cancel_left _ hp]
  constructor
  · intro h
    have h1 := Nat.div_add_mod v (2 ^ f)
    have h2 := Nat.mod_lt v hp
    rw [← h] at h1
    omega
  · intro ⟨h1, h2⟩
    have h3 : q ≤ v / 2 ^ f := (Nat.le_div_iff_mul_le hp).2 (by rw [Nat.mul_comm]; exact h1)
    have h4 : v / 2 ^ f < q + 1 := (Nat.div_lt_iff_lt_mul hp).2 (by rw [Nat.add_mul, Nat.one_mul, Nat.mul_comm q]; exact h2)
    omega
theorem fre_dvd {a e : Nat} (h : a < 2 ^ 64) : 2 ^ fre a e ∣ a := by
  by_cases h0 : a = 0
  · subst h0; exact Nat.dvd_zero _
  · exact Nat.dvd_trans (Nat.pow_dvd_pow 2 (Nat.min_le_left _ _)) (cz_dvd h0 h)
/-- the prefixes one by one -/
theorem gr_at (e : Nat) (he : e < 2 ^ 33) : ∀ (i a : Nat) (p : Nat × Nat), (gr a e)[i]? = some p → p.2 = fre p.1 e ∧ a ≤ p.1 ∧ p.1 ≤ e ∧ 2 ^ p.2 ∣ p.1 ∧ p.1 + 2 ^ p.2 ≤ e + 1 := by
  intro i
  induction i with
  | zero =>
    intro a p h
    by_cases hle : a ≤ e
    · rw [gr_le hle] at h
      simp at h
      subst h
      have h1 := fre_le hle (by omega)
      exact ⟨rfl, Nat.le_refl _, hle, fre_dvd (by omega), by simp only; omega⟩
    · rw [gr_end hle] at h; simp at h
  | succ i ih =>
    intro a p h
    by_cases hle : a ≤ e
    · rw [gr_le hle] at h
      obtain ⟨h1, h2, h3⟩ := ih _ p (by simpa using h)
      exact ⟨h1, Nat.le_trans (Nat.le_add_right _ _) h2, h3⟩
    · rw [gr_end hle] at h; simp at h
theorem gr_next (e : Nat) : ∀ (i a : Nat) (p q : Nat × Nat), (gr a e)[i]? = some p → (gr a e)[i + 1]? = some q → q.1 = p.1 + 2 ^ p.2 := by
  intro i
  induction i with
  | zero =>
    intro a p q h h'
    by_cases hle : a ≤ e
    · rw [gr_le hle] at h h'
      simp at h
      subst h
      by_cases hl2 : a + 2 ^ fre a e ≤ e
      · rw [gr_le hl2] at h'
        simp at h'
        subst h'
        rfl
      · rw [gr_end hl2] at h'; simp at h'
    · rw [gr_end hle] at h; simp at h
  | succ i ih =>
    intro a p q h h'
    by_cases hle : a ≤ e
    · rw [gr_le hle] at h h'
      exact ih _ p q (by simpa using h) (by simpa using h')
    · rw [gr_end hle] at h; simp at h
/-- no two neighbours are the halves of one -/
theorem gr_sib {lo e i : Nat} (he : e < 2 ^ 33) {p q : Nat × Nat} (hp : (gr lo e)[i]? = some p) (hq : (gr lo e)[i + 1]? = some q) (h2 : p.2 = q.2) : p.1 / 2 ^ (p.2 + 1) ≠ q.1 / 2 ^ (p.2 + 1) := by
  intro hd
  obtain ⟨p1, p2, p3, p4, p5⟩ := gr_at e he i lo p hp
  obtain ⟨q1, q2, q3, q4, q5⟩ := gr_at e he (i + 1) lo q hq
  have hn := gr_next e i lo p q hp hq
  obtain ⟨x, f⟩ := p
  obtain ⟨y, g⟩ := q
  simp only at *
  subst h2
  have hps : 2 ^ (f + 1) = 2 ^ f * 2 := Nat.pow_succ 2 f
  have hp0 : 0 < 2 ^ f := Nat.pow_pos (by decide)
  obtain ⟨k, rfl⟩ := p4
  rw [hn, show 2 ^ f * k + 2 ^ f = 2 ^ f * (k + 1) by rw [Nat.mul_add, Nat.mul_one], hps, ← Nat.div_div_eq_div_mul, ← Nat.div_div_eq_div_mul, Nat.mul_div_cancel_left _ hp0, Nat.mul_div_cancel_left _ hp0] at hd
  have hk : k % 2 = 0 := by omega
  obtain ⟨m, rfl⟩ : ∃ m, k = 2 * m := ⟨k / 2, by omega⟩
  have hdv : 2 ^ (f + 1) ∣ 2 ^ f * (2 * m) := by rw [hps, ← Nat.mul_assoc]; exact Nat.dvd_mul_right _ _
  have f64 : f + 1 ≤ 64 := by
    have : 2 ^ f < 2 ^ 34 := by omega
    have := (Nat.pow_lt_pow_iff_right (a := 2) (by decide)).1 this
    omega
  have c1 := cz_ge (a := 2 ^ f * (2 * m)) (k := f + 1) (by omega) hdv f64
  have c2 := lg_le (n := e - 2 ^ f * (2 * m) + 1) (k := f + 1) (by omega) (by omega) (by omega)
  unfold fre at p1
  omega
/-- how many of them hold a value -/
def cnt (L : List (Nat × Nat)) (v : Nat) : Nat := (L.filter (fun p => decide (p.1 ≤ v ∧ v < p.1 + 2 ^ p.2))).length
theorem cnt_gr (e v : Nat) (he : e < 2 ^ 63) : ∀ (m a : Nat), e + 1 - a ≤ m → cnt (gr a e) v = if a ≤ v ∧ v ≤ e then 1 else 0 := by
  intro m
  induction m with
  | zero =>
    intro a h
    rw [gr_end (by omega), if_neg (by omega)]
    rfl
  | succ m ih =>
    intro a h
    by_cases hle : a ≤ e
    · have hp : 0 < 2 ^ fre a e := Nat.pow_pos (by decide)
      have hf := fre_le hle he
      have := ih (a + 2 ^ fre a e) (by omega)
      rw [gr_le hle]
      unfold cnt at this ⊢
      rw [List.filter_cons]
      by_cases hv : a ≤ v ∧ v < a + 2 ^ fre a e
      · rw [if_pos (decide_eq_true hv), List.length_cons, this, if_neg (by omega), if_pos (by omega)]
      · rw [if_neg (by rw [decide_eq_true_eq]; exact hv), this]
        by_cases h1 : a + 2 ^ fre a e ≤ v ∧ v ≤ e
        · rw [if_pos h1, if_pos (by omega)]
        · rw [if_neg h1, if_neg (by omega)]
    · rw [gr_end hle, if_neg (by omega)]
      rfl
end Go.Proofs.YtdkhdkfjadalpaaDoor
