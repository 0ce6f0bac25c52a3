import Derived.Test.YtfcdaljhbeogeaaBL
namespace Go.Proofs.Ytfcdaljhbeogeaa
open Go.RowKit
/-- the parent's place and one; 0: none -/
structure IsPar (b : Nat) (S : List IRt) (k p : Nat) : Prop where
  none : p = 0 → ∀ j r s, k < j → S[j]? = some r → S[k]? = some s → rhas b r s.2.1.toNat = false
  some : ∀ q, p = q + 1 → k < q ∧ q < S.length ∧ (∀ r s, S[q]? = some r → S[k]? = some s → rhas b r s.2.1.toNat = true) ∧ ∀ j r s, k < j → j < q → S[j]? = some r → S[k]? = some s → rhas b r s.2.1.toNat = false
theorem IsPar.uniq {b : Nat} {S : List IRt} {k p q : Nat} (hk : k < S.length) (h1 : IsPar b S k p) (h2 : IsPar b S k q) : p = q := by
  obtain ⟨s, hs⟩ : ∃ s, S[k]? = Option.some s := ⟨_, List.getElem?_eq_getElem hk⟩
  have key : ∀ p q, IsPar b S k p → IsPar b S k q → p ≤ q := fun p q h1 h2 => by
    cases p with
    | zero => exact Nat.zero_le _
    | succ p =>
      obtain ⟨a1, a2, a3, a4⟩ := h1.some p rfl
      obtain ⟨r, hr⟩ : ∃ r, S[p]? = Option.some r := ⟨_, List.getElem?_eq_getElem a2⟩
      have hy := a3 r s hr hs
      cases q with
      | zero =>
        have := h2.none rfl p r s a1 hr hs
        rw [hy] at this
        cases this
      | succ q =>
        obtain ⟨c1, c2, c3, c4⟩ := h2.some q rfl
        refine Nat.succ_le_succ (Nat.le_of_not_lt (fun hlt => ?_))
        obtain ⟨r', hr'⟩ : ∃ r, S[q]? = Option.some r := ⟨_, List.getElem?_eq_getElem c2⟩
        have e1 := c3 r' s hr' hs
        have e2 := a4 q r' s c1 hlt hr' hs
        rw [e1] at e2
        cases e2
  exact Nat.le_antisymm (key p q h1 h2) (key q p h2 h1)
/-- the first from a place on that has a value, and one; 0: none -/
def fnd (b v : Nat) (S : List IRt) (j : Nat) : Nat := match h : S[j]? with
  | none => 0
  | some r => if rhas b r v = true then j + 1 else fnd b v S (j + 1)
termination_by S.length - j
decreasing_by
  have := (List.getElem?_eq_some_iff.1 h).1
  omega
theorem fnd_none {b v : Nat} {S : List IRt} {j : Nat} (h : S[j]? = none) : fnd b v S j = 0 := by
  rw [fnd]
  split
  · rfl
  · rename_i r hr
    rw [h] at hr
    cases hr
theorem fnd_some {b v : Nat} {S : List IRt} {j : Nat} {r : IRt} (h : S[j]? = some r) : fnd b v S j = if rhas b r v = true then j + 1 else fnd b v S (j + 1) := by
  rw [fnd]
  split
  · rename_i hr
    rw [h] at hr
    cases hr
  · rename_i r' hr
    rw [h] at hr
    cases hr
    rfl
theorem fnd_ok (b v : Nat) (S : List IRt) : ∀ (m j : Nat), S.length - j ≤ m → (fnd b v S j = 0 → ∀ i r, j ≤ i → S[i]? = some r → rhas b r v = false) ∧ ∀ q, fnd b v S j = q + 1 → j ≤ q ∧ q < S.length ∧ (∀ r, S[q]? = some r → rhas b r v = true) ∧ ∀ i r, j ≤ i → i < q → S[i]? = some r → rhas b r v = false
  | 0, j, hm => by
    have hn : S[j]? = none := List.getElem?_eq_none (by omega)
    rw [fnd_none hn]
    refine ⟨fun _ i r hi hr => ?_, fun q e => by cases e⟩
    have := (List.getElem?_eq_some_iff.1 hr).1
    omega
  | m + 1, j, hm => by
    cases hj : S[j]? with
    | none =>
      rw [fnd_none hj]
      refine ⟨fun _ i r hi hr => ?_, fun q e => by cases e⟩
      have h1 := (List.getElem?_eq_some_iff.1 hr).1
      have h2 := List.getElem?_eq_none_iff.1 hj
      omega
    | some r =>
      have hl := (List.getElem?_eq_some_iff.1 hj).1
      rw [fnd_some hj]
      split
      · rename_i hy
        refine ⟨fun e => (by cases e), fun q e => ?_⟩
        have e : q = j := by omega
        subst e
        refine ⟨Nat.le_refl _, hl, fun r' hr' => ?_, fun i r' h1 h2 => by omega⟩
        rw [hj] at hr'
        cases hr'
        exact hy
      · rename_i hy
        obtain ⟨i1, i2⟩ := fnd_ok b v S m (j + 1) (by omega)
        refine ⟨fun e i r' hi hr' => ?_, fun q e => ?_⟩
        · by_cases e2 : i = j
          · subst e2
            rw [hj] at hr'
            cases hr'
            simpa using hy
          · exact i1 e i r' (by omega) hr'
        · obtain ⟨c1, c2, c3, c4⟩ := i2 q e
          refine ⟨by omega, c2, c3, fun i r' h1 h2 hr' => ?_⟩
          by_cases e2 : i = j
          · subst e2
            rw [hj] at hr'
            cases hr'
            simpa using hy
          · exact c4 i r' (by omega) h2 hr'
/-- the parent's place and one; 0: none -/
def par (b : Nat) (S : List IRt) (k : Nat) : Nat := fnd b (S.getD k (0, 0, 0, 0)).2.1.toNat S (k + 1)
theorem par_is (b : Nat) (S : List IRt) (k : Nat) : IsPar b S k (par b S k) := by
  have key : ∀ s, S[k]? = some s → (S.getD k (0, 0, 0, 0)).2.1.toNat = s.2.1.toNat := fun s hs => by simp [List.getD, hs]
  obtain ⟨h1, h2⟩ := fnd_ok b (S.getD k (0, 0, 0, 0)).2.1.toNat S S.length (k + 1) (by omega)
  refine ⟨fun e j r s hj hr hs => ?_, fun q e => ?_⟩
  · rw [← key s hs]
    exact h1 e j r (by omega) hr
  · obtain ⟨c1, c2, c3, c4⟩ := h2 q e
    exact ⟨by omega, c2, fun r s hr hs => by rw [← key s hs]; exact c3 r hr, fun j r s a1 a2 hr hs => by rw [← key s hs]; exact c4 j r (by omega) a2 hr⟩
theorem par_le (b : Nat) (S : List IRt) (k : Nat) : par b S k ≤ S.length := by
  cases h : par b S k with
  | zero => exact Nat.zero_le _
  | succ q => exact ((par_is b S k).some q h).2.1
/-- what a list in order is -/
structure Srt (b : Nat) (S : List IRt) : Prop where
  srt : S.Pairwise (fun a b => plt (rpre a) (rpre b))
  may : ∀ r ∈ S, rmay b r = true
theorem Srt.at {b : Nat} {S : List IRt} (h : Srt b S) {i j : Nat} {r s : IRt} (hi : S[i]? = some r) (hj : S[j]? = some s) (hlt : i < j) : plt (rpre r) (rpre s) := by
  obtain ⟨l1, e1⟩ := List.getElem?_eq_some_iff.1 hi
  obtain ⟨l2, e2⟩ := List.getElem?_eq_some_iff.1 hj
  have := List.pairwise_iff_getElem.1 h.srt i j l1 l2 hlt
  rw [e1, e2] at this
  exact this
theorem may_ok {b : Nat} {r : IRt} (h : rmay b r = true) : 0 ≤ r.2.2.1 ∧ r.2.2.1 ≤ (b : Int) ∧ 0 ≤ r.2.1 ∧ r.2.1 < ((2 ^ b : Nat) : Int) ∧ r.2.1.toNat % 2 ^ (b - r.2.2.1.toNat) = 0 ∧ 0 ≤ r.2.2.2 ∧ r.2.2.2 < 48 := by
  unfold rmay at h
  have := of_decide_eq_true h
  exact ⟨this.2.2.1, this.2.2.2.1, this.2.2.2.2.2.2.1, this.2.2.2.2.2.2.2.1, this.2.2.2.2.2.2.2.2, this.2.2.2.2.1, this.2.2.2.2.2.1⟩
/-- two prefixes of one length that have a value in common are one -/
theorem has_one {b : Nat} {r s : IRt} {v : Nat} (hr : rmay b r = true) (hs : rmay b s = true) (hl : r.2.2.1 = s.2.2.1) (h1 : rhas b r v = true) (h2 : rhas b s v = true) : rpre r = rpre s := by
  obtain ⟨_, _, r3, _, r5, _⟩ := may_ok hr
  obtain ⟨_, _, s3, _, s5, _⟩ := may_ok hs
  unfold rhas at h1 h2
  have e1 := of_decide_eq_true h1
  have e2 := of_decide_eq_true h2
  rw [← hl] at e2 s5
  have e3 := e1.symm.trans e2
  have d1 := Nat.div_add_mod r.2.1.toNat (2 ^ (b - r.2.2.1.toNat))
  have d2 := Nat.div_add_mod s.2.1.toNat (2 ^ (b - r.2.2.1.toNat))
  rw [r5] at d1
  rw [s5, ← e3] at d2
  unfold rpre
  rw [hl]
  have : r.2.1 = s.2.1 := by omega
  rw [this]
theorem has_self {b : Nat} (r : IRt) : rhas b r r.2.1.toNat = true := decide_eq_true rfl
/-- has every value that s has -/
def rcov (b : Nat) (r s : IRt) : Bool := decide (r.2.2.1 ≤ s.2.2.1) && rhas b r s.2.1.toNat
theorem Srt.behind {b : Nat} {S : List IRt} (h : Srt b S) {i j : Nat} {r s : IRt} (hi : S[i]? = some r) (hj : S[j]? = some s) (hlt : i < j) (hh : rhas b s r.2.1.toNat = true) : s.2.2.1 < r.2.2.1 := by
  have hp := h.at hi hj hlt
  have hr := h.may r (List.mem_of_getElem? hi)
  have hs := h.may s (List.mem_of_getElem? hj)
  by_cases e : r.2.2.1 = s.2.2.1
  · have := has_one hr hs e (has_self r) hh
    rw [this] at hp
    exact (plt_irrefl hp).elim
  · unfold plt rpre at hp
    simp only at hp
    omega
theorem Srt.later {b : Nat} {S : List IRt} (h : Srt b S) {i j : Nat} {r s : IRt} (hi : S[i]? = some r) (hj : S[j]? = some s) (hl : s.2.2.1 < r.2.2.1) : i < j := by
  refine Nat.lt_of_not_le (fun hle => ?_)
  by_cases e : j = i
  · subst e
    rw [hi] at hj
    cases hj
    omega
  · have := h.at hj hi (by omega)
    unfold plt rpre at this
    simp only at this
    omega
/-- of those that k covers the greatest one below it -/
def grt (b : Nat) (S : List IRt) (k i : Nat) : Bool := decide ((S.getD k (0, 0, 0, 0)).2.2.1 < (S.getD i (0, 0, 0, 0)).2.2.1) && rcov b (S.getD k (0, 0, 0, 0)) (S.getD i (0, 0, 0, 0)) && S.all (fun r => decide (r.2.2.1 ≤ (S.getD k (0, 0, 0, 0)).2.2.1) || decide ((S.getD i (0, 0, 0, 0)).2.2.1 ≤ r.2.2.1) || !rcov b r (S.getD i (0, 0, 0, 0)))
theorem par_grt {b : Nat} {S : List IRt} (h : Srt b S) {k i : Nat} (hk : k < S.length) (hi : i < S.length) : (par b S i = k + 1) ↔ grt b S k i = true := by
  obtain ⟨r, hr⟩ : ∃ r, S[k]? = some r := ⟨_, List.getElem?_eq_getElem hk⟩
  obtain ⟨s, hs⟩ : ∃ s, S[i]? = some s := ⟨_, List.getElem?_eq_getElem hi⟩
  have eg : S.getD k (0, 0, 0, 0) = r := by simp [List.getD, hr]
  have es : S.getD i (0, 0, 0, 0) = s := by simp [List.getD, hs]
  unfold grt
  rw [eg, es, Bool.and_eq_true, Bool.and_eq_true, decide_eq_true_eq, List.all_eq_true]
  constructor
  · intro hp
    obtain ⟨c1, c2, c3, c4⟩ := (par_is b S i).some k hp
    have hh := c3 r s hr hs
    have hl := h.behind hs hr c1 hh
    refine ⟨⟨hl, ?_⟩, fun t ht => ?_⟩
    · unfold rcov
      rw [hh, decide_eq_true (by omega)]
      rfl
    · obtain ⟨j, hj⟩ := List.getElem?_of_mem ht
      rw [Bool.or_eq_true, Bool.or_eq_true, decide_eq_true_eq, decide_eq_true_eq]
      by_cases g1 : t.2.2.1 ≤ r.2.2.1
      · exact .inl (.inl g1)
      · by_cases g2 : s.2.2.1 ≤ t.2.2.1
        · exact .inl (.inr g2)
        · refine .inr ?_
          have l1 := h.later hs hj (by omega)
          have l2 := h.later hj hr (by omega)
          unfold rcov
          rw [c4 j t s l1 l2 hj hs, Bool.and_false]
          rfl
  · rintro ⟨⟨hl, hc⟩, ha⟩
    unfold rcov at hc
    rw [Bool.and_eq_true] at hc
    have lk := h.later hs hr hl
    refine (IsPar.uniq hi (p := k + 1) ⟨fun e => (by cases e), fun q e => ?_⟩ (par_is b S i)).symm
    have e : q = k := by omega
    subst e
    refine ⟨lk, hk, fun r' s' h1 h2 => ?_, fun j t s' h1 h2 hj h4 => ?_⟩
    · rw [hr] at h1
      rw [hs] at h2
      cases h1
      cases h2
      exact hc.2
    · rw [hs] at h4
      cases h4
      have hb := h.at hs hj h1
      cases hh : rhas b t s.2.1.toNat with
      | false => rfl
      | true =>
        have l1 := h.behind hs hj h1 hh
        have l2 := h.at hj hr h2
        have hat := ha t (List.mem_of_getElem? hj)
        unfold rcov at hat
        rw [hh, decide_eq_true (show t.2.2.1 ≤ s.2.2.1 by omega), Bool.or_eq_true, Bool.or_eq_true, decide_eq_true_eq, decide_eq_true_eq] at hat
        rcases hat with (g | g) | g
        · by_cases e : t.2.2.1 = r.2.2.1
          · have := has_one (h.may t (List.mem_of_getElem? hj)) (h.may r (List.mem_of_getElem? hr)) e hh hc.2
            rw [this] at l2
            exact (plt_irrefl l2).elim
          · unfold plt rpre at l2
            simp only at l2
            omega
        · omega
        · cases g
/-- how many values the first n leave to none but k -/
def csum (b : Nat) (S : List IRt) (k : Nat) : Nat → Nat
  | 0 => 0
  | n + 1 => csum b S k n + if par b S n = k + 1 then 2 ^ (b - (S.getD n (0, 0, 0, 0)).2.2.1.toNat) else 0
theorem csum_le (b : Nat) (S : List IRt) (k : Nat) : ∀ n, csum b S k n ≤ n * 2 ^ b
  | 0 => Nat.zero_le _
  | n + 1 => by
    have := csum_le b S k n
    have h2 : 2 ^ (b - (S.getD n (0, 0, 0, 0)).2.2.1.toNat) ≤ 2 ^ b := Nat.pow_le_pow_right (by decide) (Nat.sub_le _ _)
    unfold csum
    rw [Nat.add_mul, Nat.one_mul]
    refine Nat.add_le_add this ?_
    split
    · exact h2
    · exact Nat.zero_le _
def metB (b : Nat) (S : List IRt) (k : Nat) : Bool := decide (csum b S k S.length < 2 ^ (b - (S.getD k (0, 0, 0, 0)).2.2.1.toNat))
/-- those of the first n that a question holds of, by their places -/
def keepI (q : Nat → Bool) (S : List IRt) : Nat → List IRt
  | 0 => []
  | n + 1 => if q n = true then keepI q S n ++ [S.getD n (0, 0, 0, 0)] else keepI q S n
theorem keepI_sub (q : Nat → Bool) (S : List IRt) : ∀ n, n ≤ S.length → (keepI q S n).Sublist (S.take n)
  | 0, _ => by simp [keepI]
  | n + 1, h => by
    have ih := keepI_sub q S n (by omega)
    have e : S.take (n + 1) = S.take n ++ [S.getD n (0, 0, 0, 0)] := by
      rw [List.take_add_one]
      simp [List.getD, List.getElem?_eq_getElem (show n < S.length by omega)]
    unfold keepI
    rw [e]
    split
    · exact List.Sublist.append ih (List.Sublist.refl _)
    · exact ih.trans (List.sublist_append_left _ _)
theorem keepI_len (q : Nat → Bool) (S : List IRt) (n : Nat) (h : n ≤ S.length) : (keepI q S n).length ≤ n := by
  have := (keepI_sub q S n h).length_le
  rw [List.length_take] at this
  omega
theorem Srt.sub {b : Nat} {S R : List IRt} (h : Srt b S) (hs : R.Sublist S) : Srt b R := ⟨h.srt.sublist hs, fun r hr => h.may r (hs.subset hr)⟩
theorem keepI_congr {p q : Nat → Bool} {S : List IRt} : ∀ {n : Nat}, (∀ k, k < n → p k = q k) → keepI p S n = keepI q S n
  | 0, _ => rfl
  | n + 1, h => by
    unfold keepI
    rw [h n (by omega), keepI_congr (n := n) (fun k hk => h k (by omega))]
def metL (b : Nat) (S : List IRt) : List IRt := keepI (metB b S) S S.length
def nedB (b : Nat) (S : List IRt) (k : Nat) : Bool := decide (par b S k = 0) || decide ((S.getD (par b S k - 1) (0, 0, 0, 0)).2.2.2 ≠ (S.getD k (0, 0, 0, 0)).2.2.2)
def nedL (b : Nat) (S : List IRt) : List IRt := keepI (nedB b S) S S.length
theorem metL_sub (b : Nat) (S : List IRt) : (metL b S).Sublist S := by
  have := keepI_sub (metB b S) S S.length (Nat.le_refl _)
  rw [List.take_length] at this
  exact this
theorem nedL_sub (b : Nat) (S : List IRt) : (nedL b S).Sublist S := by
  have := keepI_sub (nedB b S) S S.length (Nat.le_refl _)
  rw [List.take_length] at this
  exact this
/-- what Slim answers -/
def slimR (bits : Int) (L M : List IRt) : Prop := if rfit bits L = 0 then ∃ O, OrdOf L O ∧ M = nedL bits.toNat (metL bits.toNat O) else M = []
theorem slimR_uniq {bits : Int} {L A B : List IRt} (h1 : slimR bits L A) (h2 : slimR bits L B) : A = B := by
  unfold slimR at h1 h2
  split at h1
  · rename_i h
    rw [if_pos h] at h2
    obtain ⟨O, o1, rfl⟩ := h1
    obtain ⟨P, p1, rfl⟩ := h2
    rw [ord_uniq o1 p1]
  · rename_i h
    rw [if_neg h] at h2
    rw [h1, h2]
/-- the longest other one of the first i that covers k, its place and one -/
def parQ (b : Nat) (S : List IRt) (k : Nat) : Nat → Nat
  | 0 => 0
  | i + 1 => if i ≠ k ∧ rcov b (S.getD i (0, 0, 0, 0)) (S.getD k (0, 0, 0, 0)) = true ∧ (parQ b S k i = 0 ∨ (S.getD (parQ b S k i - 1) (0, 0, 0, 0)).2.2.1 < (S.getD i (0, 0, 0, 0)).2.2.1) then i + 1 else parQ b S k i
theorem parQ_le (b : Nat) (S : List IRt) (k : Nat) : ∀ i, parQ b S k i ≤ i
  | 0 => Nat.le_refl _
  | i + 1 => by
    have := parQ_le b S k i
    unfold parQ
    split <;> omega
theorem parQ_inv {b : Nat} {S : List IRt} (h : Srt b S) {k : Nat} {s : IRt} (hs : S[k]? = some s) : ∀ i, i ≤ S.length → (parQ b S k i = 0 → ∀ j r, k < j → j < i → S[j]? = some r → rhas b r s.2.1.toNat = false) ∧ ∀ q, parQ b S k i = q + 1 → k < q ∧ q < i ∧ (∀ r, S[q]? = some r → rhas b r s.2.1.toNat = true) ∧ ∀ j r, k < j → j < q → S[j]? = some r → rhas b r s.2.1.toNat = false
  | 0, _ => ⟨fun _ j r h1 h2 => by omega, fun q e => by cases e⟩
  | i + 1, hi => by
    obtain ⟨i1, i2⟩ := parQ_inv h hs i (by omega)
    obtain ⟨r, hr⟩ : ∃ r, S[i]? = some r := ⟨_, List.getElem?_eq_getElem (by omega)⟩
    have eg : S.getD i (0, 0, 0, 0) = r := by simp [List.getD, hr]
    have es : S.getD k (0, 0, 0, 0) = s := by simp [List.getD, hs]
    unfold parQ
    rw [eg, es]
    by_cases hc : i ≠ k ∧ rcov b r s = true
    · have hcv := hc.2
      unfold rcov at hcv
      rw [Bool.and_eq_true, decide_eq_true_eq] at hcv
      have hki : k < i := by
        by_cases e : r.2.2.1 = s.2.2.1
        · have := has_one (h.may r (List.mem_of_getElem? hr)) (h.may s (List.mem_of_getElem? hs)) e hcv.2 (has_self s)
          rcases Nat.lt_or_ge i k with hl | hl
          · have := h.at hr hs hl
            rename_i e2
            rw [e2] at this
            exact (plt_irrefl this).elim
          · have := hc.1
            omega
        · exact h.later hs hr (by omega)
      cases hq : parQ b S k i with
      | zero =>
        rw [if_pos ⟨hc.1, hc.2, .inl rfl⟩]
        refine ⟨fun e => (by cases e), fun q e => ?_⟩
        have e : q = i := by omega
        subst e
        refine ⟨hki, by omega, fun r' hr' => ?_, fun j r' h1 h2 hj => i1 hq j r' h1 h2 hj⟩
        rw [hr] at hr'
        cases hr'
        exact hcv.2
      | succ q =>
        obtain ⟨c1, c2, c3, c4⟩ := i2 q hq
        obtain ⟨t, ht⟩ : ∃ t, S[q]? = some t := ⟨_, List.getElem?_eq_getElem (by omega)⟩
        have et : S.getD (q + 1 - 1) (0, 0, 0, 0) = t := by simp [List.getD, ht]
        rw [et, if_neg]
        · refine ⟨fun e => (by cases e), fun q' e => ?_⟩
          have e : q' = q := by omega
          subst e
          exact ⟨c1, by omega, c3, c4⟩
        · rintro ⟨_, _, g | g⟩
          · cases g
          · have := h.at ht hr c2
            unfold plt rpre at this
            simp only at this
            omega
    · rw [if_neg (fun g => hc ⟨g.1, g.2.1⟩)]
      have hno : k < i → rhas b r s.2.1.toNat = false := fun hki => by
        cases hh : rhas b r s.2.1.toNat with
        | false => rfl
        | true =>
          have := h.behind hs hr hki hh
          refine absurd ⟨by omega, ?_⟩ hc
          unfold rcov
          rw [hh, decide_eq_true (by omega)]
          rfl
      refine ⟨fun e j r' h1 h2 hj => ?_, fun q e => ?_⟩
      · by_cases e2 : j = i
        · subst e2
          rw [hr] at hj
          cases hj
          exact hno h1
        · exact i1 e j r' h1 (by omega) hj
      · obtain ⟨c1, c2, c3, c4⟩ := i2 q e
        exact ⟨c1, by omega, c3, c4⟩
theorem parQ_par {b : Nat} {S : List IRt} (h : Srt b S) {k : Nat} (hk : k < S.length) : parQ b S k S.length = par b S k := by
  obtain ⟨s, hs⟩ : ∃ s, S[k]? = some s := ⟨_, List.getElem?_eq_getElem hk⟩
  obtain ⟨h1, h2⟩ := parQ_inv h hs S.length (Nat.le_refl _)
  refine IsPar.uniq hk ⟨fun e j r s' hj hr hs' => ?_, fun q e => ?_⟩ (par_is b S k)
  · rw [hs] at hs'
    cases hs'
    exact h1 e j r hj (List.getElem?_eq_some_iff.1 hr).1 hr
  · obtain ⟨c1, c2, c3, c4⟩ := h2 q e
    refine ⟨c1, c2, fun r s' hr hs' => ?_, fun j r s' a1 a2 hr hs' => ?_⟩
    · rw [hs] at hs'
      cases hs'
      exact c3 r hr
    · rw [hs] at hs'
      cases hs'
      exact c4 j r a1 a2 hr
theorem Srt.of {bits : Int} {L O : List IRt} (hf : L.all (rmay bits.toNat) = true) (h : OrdOf L O) : Srt bits.toNat O := ⟨h.srt, fun r hr => List.all_eq_true.1 hf r (h.mem hr)⟩
end Go.Proofs.Ytfcdaljhbeogeaa
