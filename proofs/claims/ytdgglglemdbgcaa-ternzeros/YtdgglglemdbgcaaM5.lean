import Derived.Test.YtdgglglemdbgcaaM3
namespace Go.Proofs.Ytdgglglemdbgcaa

/-- a place at which d has a digit and c has x -/
def qual (a b : List UInt8) (p : Nat) : Bool := fx b p && !fx a p
/-- the open places of word w from bit i on -/
def opn (a b : List UInt8) (w i : Nat) : Nat := wd (fun j => decide (i ≤ j) && qual a b (64 * w + j)) 64

theorem opn_lt (a b : List UInt8) (w i : Nat) : opn a b w i < 18446744073709551616 := wd_lt _ 64
theorem opn_bit (a b : List UInt8) (w i j : Nat) : (opn a b w i).testBit j = (decide (j < 64) && (decide (i ≤ j) && qual a b (64 * w + j))) := wd_bit _ _ _

theorem opn_start (a b : List UInt8) (w : Nat) : bits .andNot .u64 (FW b w : Int) (FW a w : Int) = (opn a b w 0 : Nat) := by
  rw [u64_andNot_nat _ _ (FW_lt _ _) (FW_lt _ _)]
  congr 1
  apply Nat.eq_of_testBit_eq
  intro i
  rw [andnot_bit _ _ (FW_lt _ _), FW_bit, FW_bit, opn_bit]
  unfold qual
  by_cases hi : i < 64 <;> simp [hi]

theorem least_bit (O : Nat) (h : O ≠ 0) (hO : O < 18446744073709551616) : ∃ r m, r < 64 ∧ O = 2 ^ (r + 1) * m + 2 ^ r := by
  have key : ∀ n O, O ≠ 0 → O < 2 ^ n → ∃ r m, r < n ∧ O = 2 ^ (r + 1) * m + 2 ^ r := by
    intro n
    induction n with
    | zero => intro O h1 h2; simp at h2; exact absurd h2 h1
    | succ n ih =>
      intro O h1 h2
      by_cases e : O % 2 = 1
      · exact ⟨0, O / 2, by omega, by simp; omega⟩
      · have hp : 2 ^ (n + 1) = 2 * 2 ^ n := by rw [Nat.pow_succ]; omega
        obtain ⟨r, m, hr, hm⟩ := ih (O / 2) (by omega) (by omega)
        refine ⟨r + 1, m, by omega, ?_⟩
        have e1 : O = 2 * (O / 2) := by omega
        rw [e1, hm, Nat.mul_add, ← Nat.mul_assoc, Nat.pow_succ 2 (r + 1), Nat.pow_succ 2 r]
        congr 1
        · rw [Nat.mul_comm 2 (2 ^ r * 2)]
        · omega
  exact key 64 O h hO

theorem odd_bit (r m j : Nat) : (2 ^ (r + 1) * m + 2 ^ r).testBit j = (if j < r then false else if j = r then true else m.testBit (j - (r + 1))) := by
  have hp : 2 ^ r < 2 ^ (r + 1) := Nat.pow_lt_pow_right (by omega) (by omega)
  rw [Nat.testBit_two_pow_mul_add _ hp]
  by_cases h1 : j < r
  · have : j < r + 1 := by omega
    simp only [this, if_true, h1]
    rw [Nat.testBit_two_pow]
    simp; omega
  · by_cases h2 : j = r
    · subst h2
      simp
    · have : ¬ j < r + 1 := by omega
      simp only [this, if_false, h1, h2]
theorem odd_pred_bit (r m j : Nat) : (2 ^ (r + 1) * m + 2 ^ r - 1).testBit j = (if j < r then true else if j = r then false else m.testBit (j - (r + 1))) := by
  have hp : 2 ^ r < 2 ^ (r + 1) := Nat.pow_lt_pow_right (by omega) (by omega)
  have h0 : 0 < 2 ^ r := Nat.two_pow_pos r
  have e : 2 ^ (r + 1) * m + 2 ^ r - 1 = 2 ^ (r + 1) * m + (2 ^ r - 1) := by omega
  rw [e, Nat.testBit_two_pow_mul_add _ (by omega), Nat.testBit_two_pow_sub_one]
  by_cases h1 : j < r
  · have : j < r + 1 := by omega
    simp [this, h1]
  · by_cases h2 : j = r
    · subst h2; simp
    · have : ¬ j < r + 1 := by omega
      simp [this, h1, h2]

/-- what the round of the inner loop does -/
theorem opn_step (a b : List UInt8) (w i : Nat) (h : opn a b w i ≠ 0) : ∃ r, i ≤ r ∧ r < 64 ∧ qual a b (64 * w + r) = true ∧ (∀ j, i ≤ j → j < r → qual a b (64 * w + j) = false) ∧
    opn a b w i &&& (18446744073709551616 - opn a b w i) = 2 ^ r ∧ opn a b w i &&& (opn a b w i - 1) = opn a b w (r + 1) := by
  obtain ⟨r, m, hr, hm⟩ := least_bit _ h (opn_lt a b w i)
  have hb : ∀ j, (opn a b w i).testBit j = (if j < r then false else if j = r then true else m.testBit (j - (r + 1))) := fun j => by rw [hm]; exact odd_bit r m j
  have hpb : ∀ j, (opn a b w i - 1).testBit j = (if j < r then true else if j = r then false else m.testBit (j - (r + 1))) := fun j => by rw [hm]; exact odd_pred_bit r m j
  have hr1 := hb r
  rw [opn_bit] at hr1
  simp [hr] at hr1
  refine ⟨r, hr1.1, hr, hr1.2, ?_, ?_, ?_⟩
  · intro j h1 h2
    have := hb j
    rw [opn_bit] at this
    have h3 : j < 64 := by omega
    simp [h1, h2, h3] at this
    exact this
  · apply Nat.eq_of_testBit_eq
    intro j
    have e : 18446744073709551616 - opn a b w i = 2 ^ 64 - ((opn a b w i - 1) + 1) := by have := opn_lt a b w i; omega
    rw [Nat.testBit_and, e, Nat.testBit_two_pow_sub_succ (by have := opn_lt a b w i; omega), hpb, hb, Nat.testBit_two_pow]
    by_cases h1 : j < r
    · have : ¬ r = j := by omega
      simp [h1, this]
    · by_cases h2 : j = r
      · subst h2; simp [hr]
      · have : ¬ r = j := by omega
        simp [h1, h2, this]
        exact fun h _ => h
  · apply Nat.eq_of_testBit_eq
    intro j
    rw [Nat.testBit_and, hpb, opn_bit, opn_bit]
    by_cases h1 : j < r
    · have h2 : ¬ r + 1 ≤ j := by omega
      have := hb j
      rw [opn_bit] at this
      simp [h1] at this
      simp only [h1, if_true, h2, decide_false, Bool.false_and, Bool.and_false, Bool.and_true]
      simpa using this
    · by_cases h2 : j = r
      · subst h2; simp
        intro _ hx; omega
      · have h3 : r + 1 ≤ j := by omega
        have h4 : i ≤ j := by omega
        have := hb j
        rw [opn_bit] at this
        simp only [h1, h2, if_false, h4, h3, decide_true, Bool.true_and] at this ⊢
        rw [← this]
        simp

/-- c with d's digits at the open places below p -/
def rsT (a b : List UInt8) (p : Nat) : List UInt8 := meetT (a.take p) (b.take p) ++ a.drop p
theorem rs_get (a b : List UInt8) (hl : a.length = b.length) (p k : Nat) (hk : k < a.length) : (rsT a b p)[k]? = some (if k < p then (if a[k] == 120 then b[k]'(by omega) else a[k]) else a[k]) := by
  unfold rsT
  have hm : (meetT (a.take p) (b.take p)).length = min p a.length := by rw [meetT_len _ _ (by simp; omega)]; simp
  by_cases h : k < p
  · rw [List.getElem?_append_left (by omega), meetT_get _ _ (by simp; omega) k (by simp; omega)]
    simp [h]
  · rw [List.getElem?_append_right (by omega), hm, List.getElem?_drop]
    have : p + (k - min p a.length) = k := by omega
    rw [this, List.getElem?_eq_getElem hk]
    simp [h]
theorem rs_len (a b : List UInt8) (hl : a.length = b.length) (p : Nat) : (rsT a b p).length = a.length := by
  unfold rsT
  rw [List.length_append, meetT_len _ _ (by simp; omega)]
  simp; omega
theorem rs_zero (a b : List UInt8) : rsT a b 0 = a := by simp [rsT, meetT]
theorem qual_bytes (a b : List UInt8) (hl : a.length = b.length) (p : Nat) (hp : p < a.length) : qual a b p = (!(b[p]'(by omega) == 120) && (a[p] == 120)) := by
  have hb : p < b.length := by omega
  simp only [qual, fx, List.getElem?_eq_getElem hp, List.getElem?_eq_getElem hb]
  cases e1 : (b[p] == 120) <;> cases e2 : (a[p] == 120) <;> simp_all
theorem qual_lt (a b : List UInt8) (hl : a.length = b.length) (p : Nat) (h : qual a b p = true) : p < a.length := by
  rcases Nat.lt_or_ge p a.length with h1 | h1
  · exact h1
  · simp only [qual, fx] at h
    rw [List.getElem?_eq_none (show b.length ≤ p by omega)] at h
    simp at h
theorem rs_skip (a b : List UInt8) (hl : a.length = b.length) (p q : Nat) (hpq : p ≤ q) (h : ∀ k, p ≤ k → k < q → qual a b k = false) : rsT a b q = rsT a b p := by
  apply List.ext_getElem?
  intro k
  by_cases hk : k < a.length
  · rw [rs_get a b hl q k hk, rs_get a b hl p k hk]
    by_cases h1 : k < p
    · have : k < q := by omega
      simp [h1, this]
    · by_cases h2 : k < q
      · have := h k (by omega) h2
        rw [qual_bytes a b hl k hk] at this
        simp only [h1, h2, if_true, if_false]
        congr 1
        cases e1 : (a[k] == 120)
        · rfl
        · rw [e1] at this
          have e3 : a[k] = 120 := by simpa using e1
          simp at this
          rw [if_pos rfl, this, e3]
      · simp [h1, h2]
  · rw [List.getElem?_eq_none (by rw [rs_len a b hl]; omega), List.getElem?_eq_none (by rw [rs_len a b hl]; omega)]
theorem rs_at (a b : List UInt8) (hl : a.length = b.length) (p : Nat) (h : qual a b p = true) (hp : p < (rsT a b p).length) : (rsT a b p)[p] = 120 := by
  have hpa : p < a.length := qual_lt a b hl p h
  have := rs_get a b hl p p hpa
  rw [List.getElem?_eq_getElem hp] at this
  rw [qual_bytes a b hl p hpa] at h
  simp at this h
  rw [this]; exact h.2
theorem rs_succ (a b : List UInt8) (hl : a.length = b.length) (p : Nat) (h : qual a b p = true) : (rsT a b p).set p (b[p]'(by have := qual_lt a b hl p h; omega)) = rsT a b (p + 1) := by
  have hpa : p < a.length := qual_lt a b hl p h
  apply List.ext_getElem?
  intro k
  by_cases hk : k < a.length
  · rw [rs_get a b hl (p + 1) k hk]
    by_cases e : k = p
    · subst e
      rw [List.getElem?_set_self (by rw [rs_len a b hl]; exact hk)]
      rw [qual_bytes a b hl k hk] at h
      simp at h
      simp [h.2]
    · rw [List.getElem?_set_ne (by omega), rs_get a b hl p k hk]
      by_cases h1 : k < p
      · have : k < p + 1 := by omega
        simp [h1, this]
      · have : ¬ k < p + 1 := by omega
        simp [h1, this]
  · rw [List.getElem?_eq_none (by simp; rw [rs_len a b hl]; omega), List.getElem?_eq_none (by rw [rs_len a b hl]; omega)]
theorem rs_good (a b : List UInt8) (hl : a.length = b.length) (ga : good a = true) (gb : good b = true) (p : Nat) : good (rsT a b p) = true := by
  simp only [good, Bool.and_eq_true, decide_eq_true_eq, List.all_eq_true]
  refine ⟨by rw [rs_len a b hl]; exact good_len ga, ?_⟩
  intro x hx
  obtain ⟨k, hk, rfl⟩ := List.getElem_of_mem hx
  have hka : k < a.length := by rw [rs_len a b hl] at hk; exact hk
  have := rs_get a b hl p k hka
  rw [List.getElem?_eq_getElem hk] at this
  rw [Option.some.inj this]
  have ta := good_tri ga k hka
  have tb := good_tri gb k (by omega)
  repeat' split
  all_goals assumption

/-- the other digit -/
def oth (d : UInt8) : UInt8 := if d == 48 then 49 else 48
/-- the part of Split at an open place -/
def pcT (a b : List UInt8) (p : Nat) : List UInt8 := (rsT a b p).set p (oth (b.getD p 0))
/-- P1.7: the parts at the open places below p -/
def pcs (a b : List UInt8) : Nat → List (List UInt8)
  | 0 => []
  | p + 1 => pcs a b p ++ (if qual a b p then [pcT a b p] else [])
theorem pcs_skip (a b : List UInt8) (p q : Nat) (hpq : p ≤ q) (h : ∀ k, p ≤ k → k < q → qual a b k = false) : pcs a b q = pcs a b p := by
  induction q with
  | zero => have : p = 0 := by omega
            subst this; rfl
  | succ q ih =>
    by_cases e : p = q + 1
    · subst e; rfl
    · conv => lhs; unfold pcs
      rw [h q (by omega) (by omega), ih (by omega) (fun k h1 h2 => h k h1 (by omega))]
      simp
theorem pcs_succ (a b : List UInt8) (p : Nat) (h : qual a b p = true) : pcs a b (p + 1) = pcs a b p ++ [pcT a b p] := by
  conv => lhs; unfold pcs
  rw [h]; rfl
theorem pcs_len (a b : List UInt8) (p : Nat) : (pcs a b p).length ≤ p := by
  induction p with
  | zero => simp [pcs]
  | succ p ih => unfold pcs; split <;> simp <;> omega

theorem dg_own (b : List UInt8) (w r : Nat) (hr : r < 64) (hp : 64 * w + r < b.length) (gb : good b = true) (hx : b[64 * w + r] ≠ 120) : dg (OW b w) r = b[64 * w + r] := by
  unfold dg
  rw [OW_bit]
  have tb := good_tri gb _ hp
  simp only [hr, decide_true, Bool.true_and, on, List.getElem?_eq_getElem hp]
  generalize b[64 * w + r] = y at *
  simp [tri] at tb
  rcases tb with (rfl | rfl) | rfl
  · decide
  · decide
  · exact absurd rfl hx
theorem dg_oth (b : List UInt8) (w r : Nat) (hr : r < 64) (hp : 64 * w + r < b.length) (gb : good b = true) (hx : b[64 * w + r] ≠ 120) : dg (18446744073709551615 - OW b w) r = oth (b[64 * w + r]) := by
  unfold dg
  have e : 18446744073709551615 - OW b w = 2 ^ 64 - (OW b w + 1) := by omega
  rw [e, Nat.testBit_two_pow_sub_succ (OW_lt b w), OW_bit]
  have tb := good_tri gb _ hp
  simp only [hr, decide_true, Bool.true_and, on, List.getElem?_eq_getElem hp]
  generalize b[64 * w + r] = y at *
  simp [tri] at tb
  rcases tb with (rfl | rfl) | rfl
  · decide
  · decide
  · exact absurd rfl hx
end Go.Proofs.Ytdgglglemdbgcaa
