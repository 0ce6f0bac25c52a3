import Derived.Test.YtmblloddhpcdeabY7
import Derived.Test.YtmblloddhpcdeabM4
import Derived.Laws.Cover1
namespace Go.Proofs.Ytmblloddhpcdeab
open Go.RowKit

/-- h is a header of the cube t -/
def inC : List UInt8 → List UInt8 → Prop
  | [], [] => True
  | c :: t, d :: h => (if c == 120 then d = 48 ∨ d = 49 else d = c) ∧ inC t h
  | _, _ => False
theorem inC_len (t h : List UInt8) (hi : inC t h) : t.length = h.length := by
  induction t generalizing h with
  | nil => cases h with
    | nil => rfl
    | cons d h => exact hi.elim
  | cons c t ih => cases h with
    | nil => exact hi.elim
    | cons d h => simp [ih h hi.2]
theorem inC_lst (t : List UInt8) : inC t (lst t) := by
  induction t with
  | nil => trivial
  | cons c t ih =>
    show (if c == 120 then (if c == 120 then 48 else c) = 48 ∨ _ else _) ∧ inC t (lst t)
    refine ⟨?_, ih⟩
    split
    · exact .inl rfl
    · rename_i h
      show (if (c == 120) = true then (48 : UInt8) else c) = c
      rw [if_neg h]
/-- one step: the header stays in the cube, and its number goes down by one -/
theorem nx_step (t h : List UInt8) (hi : inC t h) : inC t (nx t h).1 ∧ ((nx t h).2 = true → rk t (nx t h).1 + 1 = rk t h) ∧ ((nx t h).2 = false → rk t h = 0 ∧ rk t (nx t h).1 + 1 = 2 ^ cnt t) := by
  induction t generalizing h with
  | nil => cases h with
    | nil => exact ⟨trivial, fun h => (by simp [nx] at h), fun _ => ⟨rfl, rfl⟩⟩
    | cons d h => exact hi.elim
  | cons c t ih =>
    cases h with
    | nil => exact hi.elim
    | cons d h =>
      obtain ⟨hd, hi2⟩ := hi
      obtain ⟨a1, a2, a3⟩ := ih h hi2
      by_cases h2 : (nx t h).2 = true
      · have := a2 h2
        simp only [nx, h2, if_true]
        refine ⟨⟨hd, a1⟩, fun _ => ?_, fun e => by cases e⟩
        simp only [rk]
        omega
      · have hf : (nx t h).2 = false := by simpa using h2
        obtain ⟨b1, b2⟩ := a3 hf
        by_cases hc : c = 120
        · subst hc
          have e2 : 2 ^ cnt (120 :: t) = 2 ^ cnt t + 2 ^ cnt t := by simp only [cnt, beq_self_eq_true, if_true]; rw [Nat.add_comm, Nat.pow_succ]; omega
          simp only [beq_self_eq_true, if_true] at hd
          rcases hd with rfl | rfl
          · simp only [nx, hf, Bool.false_eq_true, if_false, beq_self_eq_true, if_true]
            refine ⟨⟨by simp, a1⟩, fun _ => ?_, fun e => by cases e⟩
            have e : ((49 : UInt8) == 48) = false := by decide
            simp only [rk, beq_self_eq_true, Bool.and_self, if_true, e, Bool.and_false, Bool.false_eq_true, if_false]
            omega
          · have e : ((49 : UInt8) == 48) = false := by decide
            simp only [nx, hf, Bool.false_eq_true, if_false, beq_self_eq_true, if_true, e]
            refine ⟨⟨by simp, a1⟩, fun e => (by cases e), fun _ => ?_⟩
            simp only [rk, beq_self_eq_true, Bool.and_self, if_true, e, Bool.and_false, Bool.false_eq_true, if_false, e2]
            omega
        · have hcf : (c == 120) = false := by simpa using hc
          simp only [nx, hf, hcf, Bool.false_eq_true, if_false]
          refine ⟨⟨hd, a1⟩, fun e => (by cases e), fun _ => ?_⟩
          simp only [rk, cnt, hcf, Bool.false_and, Bool.false_eq_true, if_false, Nat.zero_add]
          exact ⟨b1, b2⟩
theorem rk_lst (t : List UInt8) : rk t (lst t) + 1 = 2 ^ cnt t := by
  induction t with
  | nil => rfl
  | cons c t ih =>
    show (if c == 120 && (if c == 120 then (48 : UInt8) else c) == 48 then 2 ^ cnt t else 0) + rk t (lst t) + 1 = 2 ^ ((if c == 120 then 1 else 0) + cnt t)
    by_cases hc : c = 120
    · subst hc
      simp only [beq_self_eq_true, if_true, Bool.and_self]
      rw [Nat.add_comm 1, Nat.pow_succ]
      omega
    · have hcf : (c == 120) = false := by simpa using hc
      simp only [hcf, Bool.false_and, Bool.false_eq_true, if_false, Nat.zero_add]
      exact ih
/-- the number tells the header, and the order of numbers is that of the texts -/
theorem rk_ord (t h g : List UInt8) (hh : inC t h) (hg : inC t g) : (rk t h = rk t g → h = g) ∧ (rk t g < rk t h → Op.bytesLess h g = true) := by
  induction t generalizing h g with
  | nil =>
    cases h with
    | nil => cases g with
      | nil => exact ⟨fun _ => rfl, fun h => by simp [rk] at h⟩
      | cons e g => exact hg.elim
    | cons d h => exact hh.elim
  | cons c t ih =>
    cases h with
    | nil => exact hh.elim
    | cons d h => cases g with
      | nil => exact hg.elim
      | cons e g =>
        obtain ⟨hd, hh2⟩ := hh
        obtain ⟨he, hg2⟩ := hg
        obtain ⟨i1, i2⟩ := ih h g hh2 hg2
        have lh := rk_lt t h
        have lg := rk_lt t g
        have e49 : ((49 : UInt8) == 48) = false := by decide
        by_cases hc : c = 120
        · subst hc
          simp only [beq_self_eq_true, if_true] at hd he
          rcases hd with rfl | rfl <;> rcases he with rfl | rfl
          · simp only [rk, beq_self_eq_true, Bool.and_self, if_true, Op.bytesLess]
            refine ⟨fun q => by rw [i1 (by omega)], fun q => ?_⟩
            simp [i2 (by omega)]
          · simp only [rk, beq_self_eq_true, Bool.and_self, if_true, e49, Bool.and_false, Bool.false_eq_true, if_false, Op.bytesLess]
            exact ⟨fun q => by omega, fun _ => by
              have e : decide ((48 : UInt8) < 49) = true := by decide
              rw [e]; rfl⟩
          · simp only [rk, beq_self_eq_true, Bool.and_self, if_true, e49, Bool.and_false, Bool.false_eq_true, if_false]
            exact ⟨fun q => by omega, fun q => by omega⟩
          · simp only [rk, beq_self_eq_true, e49, Bool.and_false, Bool.false_eq_true, if_false, Op.bytesLess]
            refine ⟨fun q => by rw [i1 (by omega)], fun q => ?_⟩
            simp [i2 (by omega)]
        · have hcf : (c == 120) = false := by simpa using hc
          simp only [hcf, Bool.false_eq_true, if_false] at hd he
          subst hd he
          simp only [rk, hcf, Bool.false_and, Bool.false_eq_true, if_false, Nat.zero_add, Op.bytesLess]
          refine ⟨fun q => by rw [i1 q], fun q => ?_⟩
          simp [i2 q]
theorem less_irr (h g : List UInt8) (hl : Op.bytesLess h g = true) : Op.bytesLess g h = false ∧ (g == h) = false := by
  induction h generalizing g with
  | nil => cases g with
    | nil => simp [Op.bytesLess] at hl
    | cons e g => exact ⟨rfl, rfl⟩
  | cons d h ih => cases g with
    | nil => simp [Op.bytesLess] at hl
    | cons e g =>
      simp only [Op.bytesLess, Bool.or_eq_true, decide_eq_true_eq, Bool.and_eq_true, beq_iff_eq] at hl
      rcases hl with hl | ⟨rfl, hl⟩
      · have h1 : ¬ e < d := by
          intro h2
          have a : d.toNat < e.toNat := hl
          have b : e.toNat < d.toNat := h2
          omega
        have h2 : e ≠ d := by
          intro h2
          have a : d.toNat < e.toNat := hl
          rw [h2] at a
          omega
        simp [Op.bytesLess, h1, h2]
      · obtain ⟨a, b⟩ := ih g hl
        have h1 : ¬ d < d := by
          intro h2
          have b : d.toNat < d.toNat := h2
          omega
        have b' : g ≠ h := by simpa using b
        simp [Op.bytesLess, h1, a, b']
/-- of the headers that have come -/
theorem ms_in (t : List UInt8) (k : Nat) : inC t (ms t k) := by
  induction k with
  | zero => exact inC_lst t
  | succ k ih => exact (nx_step t (ms t k) ih).1
theorem ms_rk (t : List UInt8) (k : Nat) (hl : lv t k) : rk t (ms t k) + k + 1 = 2 ^ cnt t := by
  induction k with
  | zero => exact rk_lst t
  | succ k ih =>
    have := ih hl.1
    have h2 := (nx_step t (ms t k) (ms_in t k)).2.1 hl.2
    show rk t (nx t (ms t k)).1 + (k + 1) + 1 = _
    omega
theorem inC_dig (t h : List UInt8) (hg : t.all tri = true) (hi : inC t h) : h.all dig = true := by
  induction t generalizing h with
  | nil => cases h with
    | nil => rfl
    | cons d h => exact hi.elim
  | cons c t ih => cases h with
    | nil => exact hi.elim
    | cons d h =>
      simp only [List.all_cons, Bool.and_eq_true] at hg ⊢
      refine ⟨?_, ih h hg.2 hi.2⟩
      have h1 := hi.1
      by_cases hc : c = 120
      · subst hc
        simp only [beq_self_eq_true, if_true] at h1
        rcases h1 with rfl | rfl <;> rfl
      · have hcf : (c == 120) = false := by simpa using hc
        simp only [hcf, Bool.false_eq_true, if_false] at h1
        subst h1
        have h3 := hg.1
        simp only [tri, hcf, Bool.or_false] at h3
        exact h3
theorem inC_get (t h : List UInt8) : inC t h ↔ t.length = h.length ∧ ∀ k (hk : k < t.length) (hk2 : k < h.length), (t[k] = 120 → h[k] = 48 ∨ h[k] = 49) ∧ (t[k] ≠ 120 → h[k] = t[k]) := by
  induction t generalizing h with
  | nil => cases h with
    | nil => exact ⟨fun _ => ⟨rfl, fun k hk => by simp at hk⟩, fun _ => trivial⟩
    | cons d h => exact ⟨fun e => e.elim, fun e => by simp at e⟩
  | cons c t ih => cases h with
    | nil => exact ⟨fun e => e.elim, fun e => by simp at e⟩
    | cons d h =>
      constructor
      · rintro ⟨h1, h2⟩
        obtain ⟨a, b⟩ := (ih h).1 h2
        refine ⟨by simp [a], fun k hk hk2 => ?_⟩
        cases k with
        | zero =>
          simp only [List.getElem_cons_zero]
          by_cases hc : c = 120
          · subst hc
            simp only [beq_self_eq_true, if_true] at h1
            exact ⟨fun _ => h1, fun e => absurd rfl e⟩
          · have hcf : (c == 120) = false := by simpa using hc
            simp only [hcf, Bool.false_eq_true, if_false] at h1
            exact ⟨fun e => absurd e hc, fun _ => h1⟩
        | succ k =>
          simp only [List.getElem_cons_succ]
          exact b k (by simpa using hk) (by simpa using hk2)
      · rintro ⟨h1, h2⟩
        refine ⟨?_, (ih h).2 ⟨by simpa using h1, fun k hk hk2 => ?_⟩⟩
        · have := h2 0 (by simp) (by simp)
          simp only [List.getElem_cons_zero] at this
          by_cases hc : c = 120
          · subst hc
            simp only [beq_self_eq_true, if_true]
            exact this.1 rfl
          · have hcf : (c == 120) = false := by simpa using hc
            simp only [hcf, Bool.false_eq_true, if_false]
            exact this.2 hc
        · have := h2 (k + 1) (by simpa using hk) (by simpa using hk2)
          simpa using this
theorem ho_in (t h : List UInt8) (hl : t.length = h.length) (hd : h.all dig = true) : hoB t h = true ↔ inC t h := by
  rw [inC_get]
  unfold hoB
  rw [allTo_iff]
  constructor
  · intro hh
    refine ⟨hl, fun k hk hk2 => ⟨fun _ => dig_at hd k hk2, fun hx => ?_⟩⟩
    have := hh k hk
    simp only [okX, List.getElem?_eq_getElem hk, List.getElem?_eq_getElem hk2, Bool.or_eq_true, beq_iff_eq] at this
    rcases this with h1 | h1
    · exact absurd h1 hx
    · exact h1.symm
  · rintro ⟨_, hh⟩ k hk
    have hk2 : k < h.length := by omega
    simp only [okX, List.getElem?_eq_getElem hk, List.getElem?_eq_getElem hk2, Bool.or_eq_true, beq_iff_eq]
    by_cases hx : t[k] = 120
    · exact .inl hx
    · exact .inr ((hh k hk hk2).2 hx).symm
end Go.Proofs.Ytmblloddhpcdeab
