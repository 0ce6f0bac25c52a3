import Derived.Test.YtnfhhdjgjonbaaaLP0
namespace Go.Proofs.Ytnfhhdjgjonbaaa
theorem encA_snoc (l : List (Nat × List UInt8)) : ∀ (k c : Nat) (t : List UInt8), encA k (l ++ [(c, t)]) = encA k l ++ encL (k + l.length) c t := by
  induction l with
  | nil => intro k c t; simp [encA]
  | cons e l ih =>
    intro k c t
    obtain ⟨d, u⟩ := e
    rw [List.cons_append, encA, encA, ih, List.append_assoc, List.length_cons, show k + 1 + l.length = k + (l.length + 1) by omega]
theorem recA_snoc (l : List (Nat × List UInt8)) : ∀ (k c : Nat) (t : List UInt8), recA k (l ++ [(c, t)]) = recA k l ++ [⟨k + l.length, c, t⟩] := by
  induction l with
  | nil => intro k c t; simp [recA]
  | cons e l ih =>
    intro k c t
    obtain ⟨d, u⟩ := e
    rw [List.cons_append, recA, recA, ih, List.cons_append, List.length_cons, show k + 1 + l.length = k + (l.length + 1) by omega]
theorem recA_len (l : List (Nat × List UInt8)) : ∀ k, (recA k l).length = l.length := by
  induction l with
  | nil => intro k; rfl
  | cons e l ih => intro k; obtain ⟨d, u⟩ := e; rw [recA, List.length_cons, List.length_cons, ih]
theorem okA_of {l : List (Nat × List UInt8)} : ∀ k, 1 ≤ k → k + l.length ≤ 2147483647 → (∀ e ∈ l, 1 ≤ e.1 ∧ e.1 ≤ 4 ∧ e.2.length ≤ 16384) → okA k l := by
  induction l with
  | nil => intro k _ _ _; trivial
  | cons e l ih =>
    intro k h1 h2 h
    obtain ⟨d, u⟩ := e
    rw [List.length_cons] at h2
    obtain ⟨a, b, c⟩ := h (d, u) (List.mem_cons_self ..)
    exact ⟨⟨a, b, h1, by omega⟩, c, ih (k + 1) (by omega) (by omega) (fun x hx => h x (List.mem_cons_of_mem _ hx))⟩
theorem encA_bound {l : List (Nat × List UInt8)} : ∀ k, (∀ e ∈ l, e.2.length ≤ 16384) → (encA k l).length ≤ 16404 * l.length := by
  induction l with
  | nil => intro k _; exact Nat.zero_le _
  | cons e l ih =>
    intro k h
    obtain ⟨d, u⟩ := e
    have := ih (k + 1) (fun x hx => h x (List.mem_cons_of_mem _ hx))
    have hu := h (d, u) (List.mem_cons_self ..)
    simp only at hu
    rw [encA, List.length_append, encL_len, List.length_cons]
    omega
/-- the loop that counts the records -/
theorem cnt_step : ∀ (L : List Rec) (n j : Nat), n ≤ cntA L j → (n < cntA L j ↔ ∃ r, L[n]? = some r ∧ whB (L.take n) + r.text.length + 20 ≤ j) := by
  intro L
  induction L with
  | nil => intro n j h; simp [cntA] at h ⊢
  | cons x L ih =>
    intro n j h
    rw [cntA] at h ⊢
    by_cases hx : x.text.length + 20 ≤ j
    · rw [if_pos hx] at h ⊢
      cases n with
      | zero =>
        constructor
        · intro _; exact ⟨x, rfl, by simp [whB]; omega⟩
        · intro _; omega
      | succ n =>
        have := ih n (j - (x.text.length + 20)) (by omega)
        rw [List.take_succ_cons, whB_cons, List.getElem?_cons_succ]
        constructor
        · intro h2
          obtain ⟨r, h3, h4⟩ := this.1 (by omega)
          exact ⟨r, h3, by omega⟩
        · rintro ⟨r, h3, h4⟩
          have := this.2 ⟨r, h3, by omega⟩
          omega
    · rw [if_neg hx] at h ⊢
      obtain rfl : n = 0 := by omega
      constructor
      · intro h; omega
      · rintro ⟨r, h3, h4⟩
        obtain rfl : x = r := Option.some.inj h3
        simp [whB] at h4
        omega
theorem cnt_le : ∀ (L : List Rec) (j : Nat), cntA L j ≤ L.length := by
  intro L
  induction L with
  | nil => intro j; exact Nat.le_refl _
  | cons x L ih =>
    intro j
    rw [cntA, List.length_cons]
    split
    · have := ih (j - (x.text.length + 20)); omega
    · omega
theorem cnt_whB : ∀ (L : List Rec) (j : Nat), whB (L.take (cntA L j)) ≤ j := by
  intro L
  induction L with
  | nil => intro j; simp [cntA, whB]
  | cons x L ih =>
    intro j
    rw [cntA]
    by_cases hx : x.text.length + 20 ≤ j
    · rw [if_pos hx, List.take_succ_cons, whB_cons]
      have := ih (j - (x.text.length + 20))
      omega
    · rw [if_neg hx, List.take_zero]
      exact Nat.zero_le _
theorem whB_take_succ {L : List Rec} {n : Nat} {r : Rec} (h : L[n]? = some r) : whB (L.take (n + 1)) = whB (L.take n) + r.text.length + 20 := by
  rw [List.take_add_one, h, whB_app]
  simp [whB]
  omega
theorem plc_full (D : List UInt8) : plc D (whL 1 D).length = whB (whL 1 D) := by unfold plc; rw [List.take_length]
/-- a byte of all is one of some record -/
theorem cnt_lt : ∀ (L : List Rec) (j : Nat), j < whB L → cntA L j < L.length := by
  intro L
  induction L with
  | nil => intro j h; simp [whB] at h
  | cons x L ih =>
    intro j h
    rw [whB_cons] at h
    rw [cntA, List.length_cons]
    split
    · have := ih (j - (x.text.length + 20)) (by omega); omega
    · omega
end Go.Proofs.Ytnfhhdjgjonbaaa
