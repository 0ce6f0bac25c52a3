import Derived.Test.YtialcphfaleedaaGreatDoorZ22
import Derived.Test.YtialcphfaleedaaGreatDoorZ21
import Derived.Test.YtialcphfaleedaaGreatDoorZ24
import Derived.Test.YtialcphfaleedaaGreatDoorZ43
import Derived.Test.YtialcphfaleedaaGreatDoorZ29
import Derived.Test.YtialcphfaleedaaGreatDoorZ31
import Derived.Test.YtialcphfaleedaaGreatDoorZ18
import Derived.Test.YtialcphfaleedaaGreatDoorZ5
import Derived.Test.YtialcphfaleedaaGreatDoorZ23
import Derived.Deep.QuietTactic
import Derived.Lib.AppendStr
import Derived.Test.YtialcphfaleedaaGreatDoorZ33
import Derived.Test.YtialcphfaleedaaGreatDoorZ19
import Derived.Test.YtialcphfaleedaaGreatDoorZ44
import Derived.Lib.SmallJoins
import Derived.Deep.Slices
import Derived.SizedLaws
namespace Go.Proofs.YtialcphfaleedaaGreatDoor
open Go.RowKit Go.Shelf
/-- two texts have the same bytes from two places on, so many -/
def AG (l : List UInt8) (j : Nat) (l' : List UInt8) (j' n : Nat) : Prop := j + n ≤ l.length ∧ j' + n ≤ l'.length ∧ ∀ k, k < n → bt l (j + k) = bt l' (j' + k)
section
variable {l l' : List UInt8} {j j' n : Nat}
theorem AG.symm (h : AG l j l' j' n) : AG l' j' l j n := ⟨h.2.1, h.1, fun k hk => (h.2.2 k hk).symm⟩
theorem AG.more (h : AG l j l' j' n) {m : Nat} (hm : m ≤ n) : AG l (j + m) l' (j' + m) (n - m) := ⟨by have := h.1; omega, by have := h.2.1; omega, fun k hk => by
  have := h.2.2 (m + k) (by omega)
  rw [← Nat.add_assoc, ← Nat.add_assoc] at this
  exact this⟩
theorem AG.kl (h : AG l j l' j' n) {k : Nat} (hk : k < n) : Proofs.YtialcphfaleedaaGreatDoor.kl l (j + k) = Proofs.YtialcphfaleedaaGreatDoor.kl l' (j' + k) := by
  rw [kl_bt (by have := h.1; omega), kl_bt (by have := h.2.1; omega), h.2.2 k hk]
theorem AG.kl0 (h : AG l j l' j' n) (hn : 0 < n) : Proofs.YtialcphfaleedaaGreatDoor.kl l j = Proofs.YtialcphfaleedaaGreatDoor.kl l' j' := h.kl (k := 0) hn
theorem AG.sub (h : AG l j l' j' n) : subL l' j' (j' + n) = subL l j (j + n) := by
  unfold subL
  rw [Nat.add_sub_cancel_left, Nat.add_sub_cancel_left]
  refine List.ext_getElem (by have := h.1; have := h.2.1; simp; omega) (fun k h1 h2 => ?_)
  simp only [List.length_take, List.length_drop] at h1
  have hk : k < n := by omega
  have e := h.2.2 k hk
  rw [bt_of (List.getElem?_eq_getElem (show j + k < l.length by have := h.1; omega)), bt_of (List.getElem?_eq_getElem (show j' + k < l'.length by have := h.2.1; omega))] at e
  simp only [List.getElem_take, List.getElem_drop]
  exact (UInt8.toNat_inj.1 e).symm
/-- a run of letters and digits -/
theorem wrun_ag : ∀ (m : Nat) {l l' : List UInt8} {j j' n : Nat}, n ≤ m → AG l j l' j' n → wrun l j = j + n → inW l' (j' + n) = false → wrun l' j' = j' + n
  | 0, l, l', j, j', n, hm, h, _, hs => by
    obtain rfl : n = 0 := by omega
    exact wrun_no hs
  | m + 1, l, l', j, j', n, hm, h, hw, hs => by
    by_cases hn : n = 0
    · subst hn
      exact wrun_no hs
    · have hk := h.kl0 (by omega)
      cases hi : inW l j with
      | false => rw [wrun_no hi] at hw; omega
      | true =>
        have hi' : inW l' j' = true := by unfold inW at hi ⊢; rw [← hk]; exact hi
        rw [wrun_yes hi] at hw
        rw [wrun_yes hi', wrun_ag m (by omega) (h.more (m := 1) (by omega)) (by omega) (by rw [show j' + 1 + (n - 1) = j' + n by omega]; exact hs)]
        omega
/-- what may be a number -/
theorem nrun_ag : ∀ (m : Nat) {l l' : List UInt8} {j j' n : Nat}, n ≤ m → AG l j l' j' n → nrun l j = j + n → (inW l' (j' + n) || dotA l' (j' + n) 4) = false → (∀ k, k + 1 = n → dotA l (j + k) 4 = false) → nrun l' j' = j' + n
  | 0, l, l', j, j', n, hm, h, _, hs, _ => by
    obtain rfl : n = 0 := by omega
    exact nrun_no hs
  | m + 1, l, l', j, j', n, hm, h, hw, hs, hlast => by
    by_cases hn : n = 0
    · subst hn
      exact nrun_no hs
    · have hk := h.kl0 (by omega)
      cases hi : (inW l j || dotA l j 4) with
      | false => rw [nrun_no hi] at hw; omega
      | true =>
        have hi' : (inW l' j' || dotA l' j' 4) = true := by
          by_cases h1 : n = 1
          · have h0 := hlast 0 (by omega)
            rw [Nat.add_zero] at h0
            rw [h0, Bool.or_false] at hi
            unfold inW at hi ⊢
            rw [← hk, hi]
            rfl
          · have hk1 := h.kl (k := 1) (by omega)
            unfold inW dotA at hi ⊢
            rw [← hk, ← hk1]
            exact hi
        rw [nrun_yes hi] at hw
        rw [nrun_yes hi', nrun_ag m (by omega) (h.more (m := 1) (by omega)) (by omega) (by rw [show j' + 1 + (n - 1) = j' + n by omega]; exact hs) (fun k hk => by rw [show j + 1 + k = j + (k + 1) by omega]; exact hlast (k + 1) (by omega))]
        omega
/-- a character that is whole -/
theorem dc_ag (h : AG l j l' j' n) (hlo : lo1 l j = false) (hd : (dc l j).2 ≤ n) : dc l' j' = dc l j := by
  have hne : ¬ (dc l j = (65533, 1)) := of_decide_eq_false hlo
  have hb := h.2.2
  have hl : n ≤ l'.length - j' := by have := h.2.1; omega
  have hdd : dc l j = Lib.decodeN (l.length - j) (bt l j) (bt l (j + 1)) (bt l (j + 2)) (bt l (j + 3)) := rfl
  have hdd' : dc l' j' = Lib.decodeN (l'.length - j') (bt l' j') (bt l' (j' + 1)) (bt l' (j' + 2)) (bt l' (j' + 3)) := rfl
  rcases Lib.decodeN_shape (l.length - j) (bt l j) (bt l (j + 1)) (bt l (j + 2)) (bt l (j + 3)) with ⟨a1, e⟩ | ⟨a1, a2, a3, a4, e⟩ | ⟨a1, a2, a3, a4, a5, a6, e⟩ | ⟨a1, a2, a3, a4, a5, a6, a7, e⟩ | e
  all_goals rw [e] at hdd
  · rw [hdd] at hd ⊢
    rw [hdd']
    have h0 := hb 0 (by simp only at hd; omega)
    simp only [Nat.add_zero] at h0
    rw [← h0]
    unfold Lib.decodeN
    rw [if_pos a1]
  · rw [hdd] at hd ⊢
    rw [hdd']
    simp only at hd
    have h0 := hb 0 (by omega)
    have h1 := hb 1 (by omega)
    simp only [Nat.add_zero] at h0
    rw [← h0, ← h1]
    unfold Lib.decodeN
    rw [if_neg (by omega), if_pos ⟨a1, by omega, a3⟩, if_pos (by omega)]
  · rw [hdd] at hd ⊢
    rw [hdd']
    simp only at hd
    have h0 := hb 0 (by omega)
    have h1 := hb 1 (by omega)
    have h2 := hb 2 (by omega)
    simp only [Nat.add_zero] at h0
    rw [← h0, ← h1, ← h2]
    unfold Lib.decodeN
    rw [if_neg (by omega), if_neg (by omega), if_pos ⟨a1, ⟨by omega, a3⟩, by omega, a4⟩, if_pos (by omega)]
  · rw [hdd] at hd ⊢
    rw [hdd']
    simp only at hd
    have h0 := hb 0 (by omega)
    have h1 := hb 1 (by omega)
    have h2 := hb 2 (by omega)
    have h3 := hb 3 (by omega)
    simp only [Nat.add_zero] at h0
    rw [← h0, ← h1, ← h2, ← h3]
    unfold Lib.decodeN
    rw [if_neg (by omega), if_neg (by omega), if_neg (by omega), if_pos ⟨a1, ⟨by omega, a3⟩, ⟨by omega, a4⟩, by omega, a5⟩, if_pos (by omega)]
  · exact absurd hdd hne
end
end Go.Proofs.YtialcphfaleedaaGreatDoor
namespace Go.Proofs.YtialcphfaleedaaGreatDoor
open Go.RowKit Go.Shelf
section
variable {l l' : List UInt8} {j j' n : Nat}
theorem AG.cut (h : AG l j l' j' n) {m : Nat} (hm : m ≤ n) : AG l j l' j' m := ⟨by have := h.1; omega, by have := h.2.1; omega, fun k hk => h.2.2 k (by omega)⟩
theorem AG.getD (h : AG l j l' j' n) {k : Nat} (hk : k < n) : l'.getD (j' + k) 0 = l.getD (j + k) 0 := UInt8.toNat_inj.1 (h.2.2 k hk).symm
theorem AG.take (h : AG l j l' j' n) {k : Nat} (hk : k ≤ n) : (l'.drop j').take k = (l.drop j).take k := by
  have := (h.cut hk).sub
  unfold subL at this
  rw [Nat.add_sub_cancel_left, Nat.add_sub_cancel_left] at this
  exact this
theorem hexRun_ag : ∀ (f : Nat) {j j' n x : Nat}, AG l j l' j' n → (hexRun f (l.drop j) x).1 < n → hexRun f (l'.drop j') x = hexRun f (l.drop j) x
  | 0, j, j', n, x, _, _ => rfl
  | f + 1, j, j', n, x, h, hc => by
    have h1 : j < l.length := by have := h.1; omega
    have h2 : j' < l'.length := by have := h.2.1; omega
    have hb : l'[j'] = l[j] := by
      have e := h.2.2 0 (by omega)
      rw [Nat.add_zero, Nat.add_zero, bt_of (List.getElem?_eq_getElem h1), bt_of (List.getElem?_eq_getElem h2)] at e
      exact (UInt8.toNat_inj.1 e).symm
    rw [List.drop_eq_getElem_cons h1] at hc ⊢
    rw [List.drop_eq_getElem_cons h2, hb]
    rw [hexRun] at hc ⊢
    rw [hexRun]
    cases hd : hexD l[j] with
    | none => rfl
    | some d =>
      rw [hd] at hc
      simp only at hc ⊢
      rw [hexRun_ag f (h.more (m := 1) (by omega)) (by omega)]
theorem brS_ag (h : AG l j l' j' n) (h0 : (brS l j).1 ≠ 0) (hn : (brS l j).1 ≤ n) : brS l' j' = brS l j := by
  have hl := h.1
  have hl' := h.2.1
  by_cases c1 : l.length < j + 3 ∨ bt l (j + 2) ≠ 123
  · exact absurd (by unfold brS; rw [if_pos c1]) h0
  by_cases c2 : (hexRun 6 (l.drop (j + 3)) 0).1 = 0 ∨ l.length ≤ j + 3 + (hexRun 6 (l.drop (j + 3)) 0).1 ∨ bt l (j + 3 + (hexRun 6 (l.drop (j + 3)) 0).1) ≠ 125 ∨ 1114111 < (hexRun 6 (l.drop (j + 3)) 0).2 ∨ (55296 ≤ (hexRun 6 (l.drop (j + 3)) 0).2 ∧ (hexRun 6 (l.drop (j + 3)) 0).2 ≤ 57343)
  · exact absurd (by unfold brS; rw [if_neg c1, if_pos c2]) h0
  have e : brS l j = (4 + (hexRun 6 (l.drop (j + 3)) 0).1, (hexRun 6 (l.drop (j + 3)) 0).2) := by unfold brS; rw [if_neg c1, if_neg c2]
  rw [e] at hn ⊢
  simp only at hn
  have hh := hexRun_ag (x := 0) 6 (h.more (m := 3) (by omega)) (by omega)
  have b2 := h.2.2 2 (by omega)
  have b3 := h.2.2 (3 + (hexRun 6 (l.drop (j + 3)) 0).1) (by omega)
  rw [← Nat.add_assoc, ← Nat.add_assoc] at b3
  unfold brS
  rw [hh, ← b2, ← b3, if_neg (by omega), if_neg (by omega)]
theorem esc_cases (l : List UInt8) (j : Nat) : (escS l j).1 = 0 ∨ (escS l j).1 = 2 ∨ (escS l j).1 = 4 ∨ (escS l j).1 = (brS l j).1 := by
  unfold escS
  repeat' split
  all_goals first
    | exact .inl rfl
    | exact .inr (.inl rfl)
    | exact .inr (.inr (.inl rfl))
    | exact .inr (.inr (.inr rfl))
theorem brS_cases (l : List UInt8) (j : Nat) : (brS l j).1 = 0 ∨ 4 ≤ (brS l j).1 := by
  unfold brS
  repeat' split
  · exact .inl rfl
  · exact .inl rfl
  · exact .inr (by simp only; omega)
theorem esc_two {l : List UInt8} {j : Nat} (h : (escS l j).1 ≠ 0) : 2 ≤ (escS l j).1 := by
  have h1 := esc_cases l j
  have h2 := brS_cases l j
  omega
theorem esc_ag (h : AG l j l' j' n) (h0 : (escS l j).1 ≠ 0) (hn : (escS l j).1 ≤ n) : escS l' j' = escS l j := by
  have hl := h.1
  have hl' := h.2.1
  by_cases c0 : l.length ≤ j + 1
  · exact absurd (by unfold escS; rw [if_pos c0]) h0
  have key : 2 ≤ n → escS l' j' = escS l j := fun h2 => by
    have b1 := h.2.2 1 (by omega)
    unfold escS at h0 hn ⊢
    rw [if_neg c0] at h0 hn ⊢
    rw [if_neg (show ¬ l'.length ≤ j' + 1 by omega), ← b1]
    by_cases c1 : bt l (j + 1) = 34
    · rw [if_pos c1, if_pos c1]
    rw [if_neg c1] at h0 hn ⊢
    rw [if_neg c1]
    by_cases c2 : bt l (j + 1) = 92
    · rw [if_pos c2, if_pos c2]
    rw [if_neg c2] at h0 hn ⊢
    rw [if_neg c2]
    by_cases c3 : bt l (j + 1) = 110
    · rw [if_pos c3, if_pos c3]
    rw [if_neg c3] at h0 hn ⊢
    rw [if_neg c3]
    by_cases c4 : bt l (j + 1) = 114
    · rw [if_pos c4, if_pos c4]
    rw [if_neg c4] at h0 hn ⊢
    rw [if_neg c4]
    by_cases c5 : bt l (j + 1) = 116
    · rw [if_pos c5, if_pos c5]
    rw [if_neg c5] at h0 hn ⊢
    rw [if_neg c5]
    by_cases c6 : bt l (j + 1) = 120
    · rw [if_pos c6] at h0 hn ⊢
      rw [if_pos c6]
      by_cases c7 : j + 3 < l.length
      · rw [if_pos c7] at h0 hn ⊢
        cases ha : hexD (l.getD (j + 2) 0) with
        | none => rw [ha] at h0; exact absurd rfl h0
        | some a =>
          cases hb : hexD (l.getD (j + 3) 0) with
          | none => rw [ha, hb] at h0; exact absurd rfl h0
          | some b =>
            rw [ha, hb] at hn
            simp only at hn
            rw [if_pos (show j' + 3 < l'.length by omega), h.getD (k := 2) (by omega), h.getD (k := 3) (by omega), ha, hb]
      · rw [if_neg c7] at h0
        exact absurd rfl h0
    rw [if_neg c6] at h0 hn ⊢
    rw [if_neg c6]
    by_cases c8 : bt l (j + 1) = 117
    · rw [if_pos c8] at h0 hn ⊢
      rw [if_pos c8]
      by_cases c9 : 0 < (brS l j).1
      · rw [if_pos c9] at hn ⊢
        simp only at hn
        rw [brS_ag h (by omega) hn, if_pos c9]
      · rw [if_neg c9] at h0
        exact absurd rfl h0
    rw [if_neg c8] at h0
    exact absurd rfl h0
  exact key (Nat.le_trans (esc_two h0) hn)
/-- what a quoted text says -/
theorem ins_ag : ∀ (m : Nat) {j j' n : Nat} {s s' : List UInt8}, n ≤ m → AG l j l' j' n → insS l j s = (s', j + n, 0) → insS l' j' s = (s', j' + n, 0)
  | m, j, j', n, s, s', hm, h, hi => by
    have hl := h.1
    have hl' := h.2.1
    have hj : j < l.length := Classical.byContradiction (fun hc => by
      rw [insS, if_neg hc] at hi
      have := (Prod.mk.inj (Prod.mk.inj hi).2).2
      omega)
    rw [insS, if_pos hj] at hi
    by_cases c1 : bt l j = 34
    · rw [if_pos c1] at hi
      obtain ⟨e1, e2⟩ := Prod.mk.inj hi
      have e3 := (Prod.mk.inj e2).1
      obtain rfl : n = 1 := by omega
      have b0 := h.2.2 0 (by omega)
      rw [Nat.add_zero, Nat.add_zero] at b0
      rw [insS, if_pos (by omega), if_pos (by rw [← b0]; exact c1), e1]
    rw [if_neg c1] at hi
    have hn0 : 0 < n := by
      refine Nat.pos_of_ne_zero (fun e => ?_)
      subst e
      by_cases c2 : bt l j = 92
      · rw [if_pos c2] at hi
        by_cases c3 : (escS l j).1 = 0
        · rw [if_pos c3] at hi
          have := (Prod.mk.inj (Prod.mk.inj hi).2).2
          omega
        · rw [if_neg c3] at hi
          have hq := (escS_end l j (by omega)).1
          have hg := insS_ge l _ (j + (escS l j).1) (s ++ (escS l j).2) (Nat.le_refl _) (by omega)
          rw [hi] at hg
          simp only at hg
          omega
      · rw [if_neg c2] at hi
        by_cases c3 : lo1 l j = true ∨ bt l j < 32 ∨ bt l j = 127
        · rw [if_pos c3] at hi
          have := (Prod.mk.inj (Prod.mk.inj hi).2).2
          omega
        · rw [if_neg c3] at hi
          have hp := dc_pos l j
          have hle := dc_le l j hj
          have hg := insS_ge l _ (j + (dc l j).2) (s ++ (l.drop j).take (dc l j).2) (Nat.le_refl _) hle
          rw [hi] at hg
          simp only at hg
          omega
    have b0 := h.2.2 0 hn0
    rw [Nat.add_zero, Nat.add_zero] at b0
    match m, hm with
    | 0, hm => omega
    | m + 1, hm =>
      by_cases c2 : bt l j = 92
      · rw [if_pos c2] at hi
        by_cases c3 : (escS l j).1 = 0
        · rw [if_pos c3] at hi
          have := (Prod.mk.inj (Prod.mk.inj hi).2).2
          omega
        · rw [if_neg c3] at hi
          have hq := (escS_end l j (by omega)).1
          have hg := insS_ge l _ (j + (escS l j).1) (s ++ (escS l j).2) (Nat.le_refl _) (by omega)
          rw [hi] at hg
          simp only at hg
          have he := esc_ag h c3 (by omega)
          rw [insS, if_pos (by omega), if_neg (by rw [← b0]; exact c1), if_pos (by rw [← b0]; exact c2), he, if_neg c3, ins_ag m (n := n - (escS l j).1) (by omega) (h.more (by omega)) (by rw [hi, show j + n = j + (escS l j).1 + (n - (escS l j).1) by omega]), show j' + (escS l j).1 + (n - (escS l j).1) = j' + n by omega]
      · rw [if_neg c2] at hi
        by_cases c3 : lo1 l j = true ∨ bt l j < 32 ∨ bt l j = 127
        · rw [if_pos c3] at hi
          have := (Prod.mk.inj (Prod.mk.inj hi).2).2
          omega
        · rw [if_neg c3] at hi
          have hlo : lo1 l j = false := Bool.eq_false_iff.2 (fun e => c3 (.inl e))
          have hp := dc_pos l j
          have hle := dc_le l j hj
          have hg := insS_ge l _ (j + (dc l j).2) (s ++ (l.drop j).take (dc l j).2) (Nat.le_refl _) hle
          rw [hi] at hg
          simp only at hg
          have hd := dc_ag h hlo (by omega)
          have hlo' : lo1 l' j' = lo1 l j := by unfold lo1; rw [hd]
          rw [insS, if_pos (by omega), if_neg (by rw [← b0]; exact c1), if_neg (by rw [← b0]; exact c2), hlo', ← b0, if_neg c3, hd, h.take (by omega), ins_ag m (n := n - (dc l j).2) (by omega) (h.more (by omega)) (by rw [hi, show j + n = j + (dc l j).2 + (n - (dc l j).2) by omega]), show j' + (dc l j).2 + (n - (dc l j).2) = j' + n by omega]
end
end Go.Proofs.YtialcphfaleedaaGreatDoor
namespace Go.Proofs.YtialcphfaleedaaGreatDoor
open Go.RowKit Go.Shelf
/-- what stands behind a token lets it end there -/
def okA (K : Nat) (l : List UInt8) (j e : Nat) : Prop :=
  (K = 2 → inW l e = false ∧ dotA l e 3 = false) ∧ (K = 3 ∨ K = 5 → inW l e = false) ∧ (K = 4 → (inW l e || dotA l e 4) = false) ∧ (K = 7 → sgn (l.drop j) = e - j)
theorem nrun_stop (l : List UInt8) : ∀ (m j : Nat), l.length - j ≤ m → (inW l (nrun l j) || dotA l (nrun l j) 4) = false
  | m, j, hm => by
    cases h : (inW l j || dotA l j 4) with
    | false => rw [nrun_no h]; exact h
    | true =>
      have hj : j < l.length := by
        rcases Bool.or_eq_true_iff.1 h with h | h
        · exact (inW_asc h).1
        · exact (dotA_asc h).1
      match m, hm with
      | 0, hm => omega
      | m + 1, hm => rw [nrun_yes h]; exact nrun_stop l m (j + 1) (by omega)
theorem inW_end' {l : List UInt8} {i : Nat} (h : ¬ i < l.length) : inW l i = false := by
  unfold inW
  rw [kl0.2 h]
  rfl
section
variable {l l' : List UInt8} {j j' n K : Nat}
theorem fault_ag (h : AG l j l' j' n) (h7 : kl l j ≠ 7) (h7' : kl l' j' ≠ 7) (hC : tokC l j = (K, j + n)) (hE : tokE l j = 0) (hC' : tokC l' j' = (K, j' + n)) : tokE l' j' = 0 := by
  unfold tokE at hE ⊢
  rw [if_neg (fun e => h7 e.1), hC] at hE
  rw [if_neg (fun e => h7' e.1), hC']
  simp only at hE ⊢
  rw [h.sub]
  exact hE
theorem tok_ag (h : AG l j l' j' n) (hn : 0 < n) (hC : tokC l j = (K, j + n)) (hE : tokE l j = 0) (ok : okA K l' j' (j' + n)) : tokC l' j' = (K, j' + n) ∧ tokE l' j' = 0 := by
  have hl := h.1
  have hl' := h.2.1
  have hk := h.kl0 hn
  have a1 := h.more (m := 1) (by omega)
  by_cases h3 : kl l j = 3
  · have h3' : kl l' j' = 3 := hk ▸ h3
    have hw := (wrun_ge l _ (j + 1) (Nat.le_refl _)).1
    cases hd : dotA l (wrun l (j + 1)) 3 with
    | true =>
      have e : tokC l j = (3, wrun l (wrun l (j + 1) + 1)) := by unfold tokC endF; rw [if_pos h3, if_pos rfl, hd, if_pos rfl]
      obtain ⟨rfl, e2⟩ := Prod.mk.inj (e.symm.trans hC)
      obtain ⟨d1, d2⟩ : kl l (wrun l (j + 1)) = 5 ∧ kl l (wrun l (j + 1) + 1) = 3 := by unfold dotA at hd; simpa using hd
      have hw2 : inW l (wrun l (j + 1) + 1) = true := by unfold inW; rw [d2]; rfl
      have hw3 := (wrun_ge l _ (wrun l (j + 1) + 1 + 1) (Nat.le_refl _)).1
      rw [← wrun_yes hw2, e2] at hw3
      obtain ⟨p, hp⟩ : ∃ p, wrun l (j + 1) = j + p := ⟨wrun l (j + 1) - j, by omega⟩
      rw [hp] at d1 d2 hw hw3 e2
      have k1 := h.kl (k := p) (by omega)
      have k2 := h.kl (k := p + 1) (by omega)
      rw [← Nat.add_assoc, ← Nat.add_assoc] at k2
      have s1 : inW l' (j' + p) = false := by unfold inW; rw [← k1, d1]; rfl
      have w1 : wrun l' (j' + 1) = j' + p := by
        have := wrun_ag _ (Nat.le_refl _) (a1.cut (m := p - 1) (by omega)) (by omega) (by rw [show j' + 1 + (p - 1) = j' + p by omega]; exact s1)
        omega
      have hd' : dotA l' (j' + p) 3 = true := by unfold dotA; rw [← k1, ← k2, d1, d2]; rfl
      have a2 := h.more (m := p + 1) (by omega)
      have w2 : wrun l' (j' + p + 1) = j' + n := by
        have := wrun_ag _ (Nat.le_refl _) a2 (by rw [show j + (p + 1) = j + p + 1 by omega, e2]; omega) (by rw [show j' + (p + 1) + (n - (p + 1)) = j' + n by omega]; exact ok.2.1 (.inl rfl))
        rw [show j' + (p + 1) = j' + p + 1 by omega] at this
        omega
      have hC' : tokC l' j' = (3, j' + n) := by unfold tokC endF; rw [if_pos h3', if_pos rfl, w1, hd', if_pos rfl, w2]
      exact ⟨hC', fault_ag h (by omega) (by omega) hC hE hC'⟩
    | false =>
      have e : tokC l j = (2, wrun l (j + 1)) := by unfold tokC endF; rw [if_pos h3, if_pos rfl, hd, if_neg (by decide)]
      obtain ⟨rfl, e2⟩ := Prod.mk.inj (e.symm.trans hC)
      have w1 : wrun l' (j' + 1) = j' + n := by
        have := wrun_ag _ (Nat.le_refl _) a1 (by omega) (by rw [show j' + 1 + (n - 1) = j' + n by omega]; exact (ok.1 rfl).1)
        omega
      have hC' : tokC l' j' = (2, j' + n) := by unfold tokC endF; rw [if_pos h3', if_pos rfl, w1, (ok.1 rfl).2, if_neg (by decide)]
      exact ⟨hC', fault_ag h (by omega) (by omega) hC hE hC'⟩
  have h3' : kl l' j' ≠ 3 := hk ▸ h3
  by_cases h4 : kl l j = 4
  · have h4' : kl l' j' = 4 := hk ▸ h4
    have e : tokC l j = (4, nrun l (j + 1)) := by unfold tokC endF; rw [if_neg h3, if_pos h4, if_neg (by decide), if_neg (by decide), if_pos rfl]
    obtain ⟨rfl, e2⟩ := Prod.mk.inj (e.symm.trans hC)
    have hst := nrun_stop l _ (j + 1) (Nat.le_refl _)
    rw [e2] at hst
    have w1 : nrun l' (j' + 1) = j' + n := by
      have := nrun_ag _ (Nat.le_refl _) a1 (by omega) (by rw [show j' + 1 + (n - 1) = j' + n by omega]; exact ok.2.2.1 rfl) (fun k hk2 => by
        cases hd : dotA l (j + 1 + k) 4 with
        | false => rfl
        | true =>
          have d2 : kl l (j + 1 + k + 1) = 4 := by unfold dotA at hd; simp at hd; exact hd.2
          rw [show j + 1 + k + 1 = j + n by omega] at d2
          rw [show inW l (j + n) = true by unfold inW; rw [d2]; rfl] at hst
          cases hst)
      omega
    have hC' : tokC l' j' = (4, j' + n) := by unfold tokC endF; rw [if_neg h3', if_pos h4', if_neg (by decide), if_neg (by decide), if_pos rfl, w1]
    exact ⟨hC', fault_ag h (by omega) (by omega) hC hE hC'⟩
  have h4' : kl l' j' ≠ 4 := hk ▸ h4
  by_cases h6 : kl l j = 6
  · have h6' : kl l' j' = 6 := hk ▸ h6
    have e : tokC l j = (5, wrun l (j + 1)) := by unfold tokC endF; rw [if_neg h3, if_neg h4, if_pos h6, if_neg (by decide), if_neg (by decide), if_neg (by decide), if_pos rfl]
    obtain ⟨rfl, e2⟩ := Prod.mk.inj (e.symm.trans hC)
    have w1 : wrun l' (j' + 1) = j' + n := by
      have := wrun_ag _ (Nat.le_refl _) a1 (by omega) (by rw [show j' + 1 + (n - 1) = j' + n by omega]; exact ok.2.1 (.inr rfl))
      omega
    have hC' : tokC l' j' = (5, j' + n) := by unfold tokC endF; rw [if_neg h3', if_neg h4', if_pos h6', if_neg (by decide), if_neg (by decide), if_neg (by decide), if_pos rfl, w1]
    exact ⟨hC', fault_ag h (by omega) (by omega) hC hE hC'⟩
  have h6' : kl l' j' ≠ 6 := hk ▸ h6
  by_cases h7 : kl l j = 7
  · have h7' : kl l' j' = 7 := hk ▸ h7
    have hCq : ∀ {x : List UInt8} {i : Nat}, kl x i = 7 → tokC x i = (6, quoJ x i) := fun hx => by
      unfold tokC endF
      rw [if_neg (by omega), if_neg (by omega), if_neg (by omega), if_pos hx, if_neg (by decide), if_neg (by decide), if_neg (by decide), if_neg (by decide)]
    obtain ⟨rfl, e2⟩ := Prod.mk.inj ((hCq h7).symm.trans hC)
    have hq0 : quoE l j = 0 := Classical.byContradiction (fun e => by
      unfold tokE at hE
      rw [if_pos ⟨h7, e⟩] at hE
      exact e hE)
    unfold quoE at hq0
    by_cases q1 : (insS l (j + 1) []).2.2 = 33 ∧ kl l (insS l (j + 1) []).2.1 = 1
    · rw [if_pos q1] at hq0; cases hq0
    rw [if_neg q1] at hq0
    by_cases q2 : (insS l (j + 1) []).2.2 = 0 ∧ 256 < (insS l (j + 1) []).1.length
    · rw [if_pos q2] at hq0; cases hq0
    rw [if_neg q2] at hq0
    unfold quoJ at e2
    rw [if_neg q2] at e2
    have hi : insS l (j + 1) [] = ((insS l (j + 1) []).1, j + 1 + (n - 1), 0) := Prod.ext rfl (Prod.ext (by show (insS l (j + 1) []).2.1 = j + 1 + (n - 1); omega) hq0)
    have hi' := ins_ag _ (Nat.le_refl _) a1 hi
    have q2' : ¬ ((insS l' (j' + 1) []).2.2 = 0 ∧ 256 < (insS l' (j' + 1) []).1.length) := by
      rw [hi']
      exact fun hh => q2 ⟨hq0, hh.2⟩
    have hJ' : quoJ l' j' = j' + n := by
      unfold quoJ
      rw [if_neg q2', hi']
      simp only
      omega
    have hE' : quoE l' j' = 0 := by
      unfold quoE
      rw [if_neg q2', hi']
      simp
    refine ⟨by rw [hCq h7', hJ'], ?_⟩
    unfold tokE
    rw [if_neg (fun hh => hh.2 hE'), hCq h7']
    show faultE 6 _ = 0
    unfold faultE
    rw [if_neg (by decide), if_neg (by decide), if_neg (by decide), if_neg (by decide)]
  have h7' : kl l' j' ≠ 7 := hk ▸ h7
  obtain ⟨c1, -, -⟩ := tok_sign h3 h4 h6 h7
  obtain ⟨c1', -, -⟩ := tok_sign h3' h4' h6' h7'
  obtain ⟨rfl, -⟩ := Prod.mk.inj (c1.symm.trans hC)
  have hs := ok.2.2.2 rfl
  have hC' : tokC l' j' = (7, j' + n) := by rw [c1', hs, show j' + n - j' = n by omega]
  exact ⟨hC', fault_ag h h7 h7' hC hE hC'⟩
end
theorem sgn_all : ∀ s ∈ signsL, sgn s = s.length := by decide
theorem sgn_alone {r : List UInt8} {n : Nat} (hn : 0 < n) (h : sgn r = n) : sgn (r.take n) = n := by
  unfold sgn at h
  cases hf : signsL.find? (fun s => Lib.hasPrefix r s) with
  | none => rw [hf] at h; simp at h; omega
  | some z =>
    have hz := List.find?_some hf
    have hm := List.mem_of_find?_eq_some hf
    rw [hf] at h
    simp only [Option.map_some, Option.getD_some] at h
    unfold Lib.hasPrefix at hz
    rw [List.isPrefixOf_iff_prefix] at hz
    obtain ⟨t, ht⟩ := hz
    have e : r.take n = z := by rw [← ht, ← h]; exact List.take_left
    rw [e, sgn_all z hm, h]
/-- a token by itself: its kind and text -/
def goodT (K : Nat) (X : List UInt8) : Prop := 0 < X.length ∧ kl X 0 ≠ 1 ∧ kl X 0 ≠ 2 ∧ kl X 0 ≠ 8 ∧ tokC X 0 = (K, X.length) ∧ tokE X 0 = 0
theorem ag_sub {l : List UInt8} {j n : Nat} (h : j + n ≤ l.length) : AG l j (subL l j (j + n)) 0 n := by
  have hl : (subL l j (j + n)).length = n := by rw [sub_len h]; omega
  refine ⟨h, by omega, fun k hk => ?_⟩
  rw [Nat.zero_add]
  have e : (subL l j (j + n))[k]? = some l[j + k] := by
    unfold subL
    rw [List.getElem?_take, if_pos (by omega), List.getElem?_drop, List.getElem?_eq_getElem]
  rw [bt_of e, bt_of (List.getElem?_eq_getElem (show j + k < l.length by omega))]
theorem tok_alone {l : List UInt8} {j n K : Nat} (hn : 0 < n) (hl : j + n ≤ l.length) (h1 : kl l j ≠ 1) (h2 : kl l j ≠ 2) (h8 : kl l j ≠ 8) (hC : tokC l j = (K, j + n)) (hE : tokE l j = 0) : goodT K (subL l j (j + n)) := by
  have a := ag_sub hl
  have hlen : (subL l j (j + n)).length = n := by rw [sub_len hl]; omega
  have hk := a.kl0 hn
  have ok : okA K (subL l j (j + n)) 0 (0 + n) := by
    have hi : inW (subL l j (j + n)) (0 + n) = false := inW_end' (by omega)
    have hd : ∀ c, c ≠ 0 → dotA (subL l j (j + n)) (0 + n) c = false := fun c hc => by
      unfold dotA
      rw [kl0.2 (show ¬ 0 + n + 1 < (subL l j (j + n)).length by omega), decide_eq_false (show ¬ 0 = c by omega), Bool.and_false]
    refine ⟨fun _ => ⟨hi, hd 3 (by decide)⟩, fun _ => hi, fun _ => by rw [hi, hd 4 (by decide)]; rfl, fun h7 => ?_⟩
    subst h7
    have hs : sgn (l.drop j) = n := by
      have h3 : kl l j ≠ 3 := fun e => by
        unfold tokC endF at hC
        rw [if_pos e, if_pos rfl] at hC
        split at hC <;> simp at hC
      have h4 : kl l j ≠ 4 := fun e => by
        unfold tokC endF at hC
        rw [if_neg h3, if_pos e, if_neg (by decide), if_neg (by decide), if_pos rfl] at hC
        simp at hC
      have h6 : kl l j ≠ 6 := fun e => by
        unfold tokC endF at hC
        rw [if_neg h3, if_neg h4, if_pos e, if_neg (by decide), if_neg (by decide), if_neg (by decide), if_pos rfl] at hC
        simp at hC
      have h7 : kl l j ≠ 7 := fun e => by
        unfold tokC endF at hC
        rw [if_neg h3, if_neg h4, if_neg h6, if_pos e, if_neg (by decide), if_neg (by decide), if_neg (by decide), if_neg (by decide)] at hC
        simp at hC
      have := (tok_sign h3 h4 h6 h7).1
      rw [hC] at this
      have := (Prod.mk.inj this).2
      omega
    have := sgn_alone hn hs
    rw [List.drop_zero, Nat.zero_add, Nat.sub_zero]
    unfold subL
    rw [Nat.add_sub_cancel_left]
    exact this
  obtain ⟨t1, t2⟩ := tok_ag a hn hC hE ok
  exact ⟨by omega, by rw [← hk]; exact h1, by rw [← hk]; exact h2, by rw [← hk]; exact h8, by rw [t1, hlen, Nat.zero_add], t2⟩
/-- it is scanned as itself -/
theorem scan_one {K : Nat} {X : List UInt8} (h : goodT K X) (hX : X.length ≤ 16384) : ∃ c, scanM X = ([(K, X, 1, 1), (1, [10], 1, c)], 0, 0, 0) := by
  obtain ⟨h0, h1, h2, h8, hC, hE⟩ := h
  have hz : kl X 0 ≠ 0 := fun e => kl0.1 e h0
  have hJ : tokJ X 0 = X.length := by rw [tok_same hE, hC]
  have hK : K ≠ 1 := fun e => by
    have : (tokC X 0).1 ≠ 1 := by
      unfold tokC endF
      repeat' split
      all_goals simp
    rw [hC] at this
    exact this e
  have hs : subL X 0 X.length = X := by unfold subL; simp
  unfold scanM
  rw [if_neg (by omega), runM_tok h2 h8 h1 hz hE, hJ, hC]
  obtain ⟨m, hm⟩ : ∃ m, X.length = m + 1 := ⟨X.length - 1, by omega⟩
  have hend : kl X X.length = 0 := kl0.2 (by omega)
  have e0 : ∀ (f : Nat) (D : List Tok), f = m + 1 → runM f X X.length 1 0 D = lendM m X X.length 1 0 D := fun f D hf => by
    subst hf
    exact runM_end (.inr hend)
  have e := e0 X.length ([] ++ [(K, subL X 0 X.length, 1, ci X 0 - ci X 0 + 1)]) hm
  simp only at e ⊢
  rw [e]
  unfold lendM
  rw [if_pos hend, hs, Nat.sub_self]
  refine ⟨ci X X.length - ci X 0 + 1, ?_⟩
  unfold endT
  simp [hK]
end Go.Proofs.YtialcphfaleedaaGreatDoor
namespace Go.Proofs.YtialcphfaleedaaGreatDoor
open Go.RowKit Go.Shelf
/-- a token's kind and text -/
abbrev KT := Nat × List UInt8
def kt (L : List Tok) : List KT := L.map fun t => (t.1, t.2.1)
/-- lines of tokens, each with its end -/
def flat (Ls : List (List KT)) : List KT := Ls.flatMap fun ln => ln ++ [(1, [10])]
def goodL (ln : List KT) : Prop := ∀ t ∈ ln, goodT t.1 t.2
def goodLs (Ls : List (List KT)) : Prop := ∀ ln ∈ Ls, ln ≠ [] ∧ goodL ln
def totL (ln : List KT) : Nat := (ln.map fun t => t.2.length).sum
def totLs (Ls : List (List KT)) : Nat := (Ls.map totL).sum
theorem goodT_kind {K : Nat} {X : List UInt8} (h : goodT K X) : K ≠ 1 := fun e => by
  have h1 : (tokC X 0).1 ≠ 1 := by
    unfold tokC endF
    repeat' split
    all_goals simp
  rw [h.2.2.2.2.1] at h1
  exact h1 e
theorem flat_snoc (Ls : List (List KT)) (ln : List KT) : flat (Ls ++ [ln]) = flat Ls ++ (ln ++ [(1, [10])]) := by
  unfold flat
  simp
theorem kt_snoc (D : List Tok) (t : Tok) : kt (D ++ [t]) = kt D ++ [(t.1, t.2.1)] := by
  unfold kt
  simp
theorem kt_last {D : List Tok} {A : List KT} {u : KT} (h : kt D = A ++ [u]) : ∃ t, D.getLast? = some t ∧ t.1 = u.1 := by
  rcases List.eq_nil_or_concat D with rfl | ⟨D0, t, rfl⟩
  · cases A <;> cases h
  · rw [List.concat_eq_append, kt_snoc] at h
    have e := (List.append_inj' h rfl).2
    refine ⟨t, by rw [List.concat_eq_append]; simp, ?_⟩
    have := List.head_eq_of_cons_eq e
    rw [← this]
theorem totLs_snoc (Ls : List (List KT)) (ln : List KT) : totLs (Ls ++ [ln]) = totLs Ls + totL ln := by
  unfold totLs
  simp
theorem totL_snoc (ln : List KT) (t : KT) : totL (ln ++ [t]) = totL ln + t.2.length := by
  unfold totL
  simp
/-- the end of a line -/
theorem endT_kt {D : List Tok} {Ls : List (List KT)} {cur : List KT} (h : kt D = flat Ls ++ cur) (hL : goodLs Ls) (hc : goodL cur) (line col : Nat) :
    ∃ Ls', kt (endT D line col) = flat Ls' ∧ goodLs Ls' ∧ totLs Ls' = totLs Ls + totL cur := by
  rcases List.eq_nil_or_concat cur with rfl | ⟨c0, u, rfl⟩
  · refine ⟨Ls, ?_, hL, by simp [totL]⟩
    rw [List.append_nil] at h
    rcases List.eq_nil_or_concat Ls with rfl | ⟨L0, ln, rfl⟩
    · have hD : D = [] := by
        unfold kt flat at h
        simpa using h
      subst hD
      rfl
    · rw [List.concat_eq_append] at h ⊢
      have h2 := h
      rw [flat_snoc, ← List.append_assoc] at h2
      obtain ⟨t, ht1, ht2⟩ := kt_last h2
      unfold endT
      rw [ht1]
      simp only
      rw [if_pos ht2, h]
  · rw [List.concat_eq_append] at h hc ⊢
    have h2 := h
    rw [← List.append_assoc] at h2
    obtain ⟨t, ht1, ht2⟩ := kt_last h2
    have hu : u.1 ≠ 1 := goodT_kind (hc u (by simp))
    refine ⟨Ls ++ [c0 ++ [u]], ?_, ?_, totLs_snoc _ _⟩
    · unfold endT
      rw [ht1]
      simp only
      rw [if_neg (by rw [ht2]; exact hu), kt_snoc, h, flat_snoc, List.append_assoc]
    · intro ln hln
      rcases List.mem_append.1 hln with e | e
      · exact hL ln e
      · rw [List.mem_singleton.1 e]
        exact ⟨by simp, hc⟩
theorem cend_le' {l : List UInt8} : ∀ (m j : Nat), l.length - j ≤ m → j ≤ l.length → cend l j ≤ l.length
  | m, j, hm, hj => by
    by_cases hk : kl l j = 1 ∨ kl l j = 0
    · rw [cend_end hk]; exact hj
    · have h1 : kl l j ≠ 1 := fun e => hk (.inl e)
      have h0 : kl l j ≠ 0 := fun e => hk (.inr e)
      have hlt : j < l.length := Classical.byContradiction (fun e => h0 (kl0.2 e))
      have hp := dc_pos l j
      have hle := dc_le l j hlt
      match m, hm with
      | 0, hm => omega
      | m + 1, hm => rw [cend_on h1 h0]; exact cend_le' m _ (by omega) hle
theorem run_ls (l : List UInt8) : ∀ (f j line hb : Nat) (D : List Tok) (Ls : List (List KT)) (cur : List KT), l.length - j < f → j ≤ l.length → kt D = flat Ls ++ cur → goodLs Ls → goodL cur → (runM f l j line hb D).2.1 = 0 → ∃ Ls', kt (runM f l j line hb D).1 = flat Ls' ∧ goodLs Ls' ∧ totLs Ls' ≤ totLs Ls + totL cur + (l.length - j)
  | 0, j, line, hb, D, Ls, cur, hf, _, _, _, _, _ => by omega
  | f + 1, j, line, hb, D, Ls, cur, hf, hj, hD, hL, hc, h0 => by
    have hend : ∀ e, j ≤ e → e ≤ l.length → (lendM f l e line hb D).2.1 = 0 → ∃ Ls', kt (lendM f l e line hb D).1 = flat Ls' ∧ goodLs Ls' ∧ totLs Ls' ≤ totLs Ls + totL cur + (l.length - j) := fun e he hel h => by
      obtain ⟨L2, e1, e2, e3⟩ := endT_kt hD hL hc line (ci l e - ci l hb + 1)
      unfold lendM at h ⊢
      by_cases hz : kl l e = 0
      · rw [if_pos hz]
        exact ⟨L2, e1, e2, by omega⟩
      · have hlt : e < l.length := Classical.byContradiction (fun h => hz (kl0.2 h))
        rw [if_neg hz] at h ⊢
        obtain ⟨L3, g1, g2, g3⟩ := run_ls l f (e + 1) (line + 1) (e + 1) _ L2 [] (by omega) hlt (by rw [e1, List.append_nil]) e2 (fun t ht => by cases ht) h
        refine ⟨L3, g1, g2, ?_⟩
        have : totL [] = 0 := rfl
        omega
    by_cases h10 : kl l j = 1 ∨ kl l j = 0
    · rw [runM_end h10] at h0 ⊢
      exact hend j (Nat.le_refl _) hj h0
    have h1 : kl l j ≠ 1 := fun e => h10 (.inl e)
    have hz : kl l j ≠ 0 := fun e => h10 (.inr e)
    have hlt : j < l.length := Classical.byContradiction (fun e => hz (kl0.2 e))
    by_cases h2 : kl l j = 2
    · rw [runM_blank h2] at h0 ⊢
      obtain ⟨L3, g1, g2, g3⟩ := run_ls l f (j + 1) line hb D Ls cur (by omega) hlt hD hL hc h0
      exact ⟨L3, g1, g2, by omega⟩
    by_cases h8 : kl l j = 8
    · rw [runM_hash h8] at h0 ⊢
      have c1 := cend_ge (l := l) _ (j + 1) (Nat.le_refl _)
      have c2 := cend_le' (l := l) _ (j + 1) (Nat.le_refl _) hlt
      exact hend _ (by omega) c2 h0
    by_cases he : tokE l j = 0
    · obtain ⟨a1, a2⟩ := tok_adv hlt h1 he
      have hsm := tok_same he
      rw [runM_tok h2 h8 h1 hz he] at h0 ⊢
      have hn : tokJ l j = j + (tokJ l j - j) := by omega
      have hg := tok_alone (l := l) (j := j) (n := tokJ l j - j) (K := (tokC l j).1) (by omega) (by omega) h1 h2 h8 (by rw [← hn, hsm]) he
      rw [← hn] at hg
      obtain ⟨L3, g1, g2, g3⟩ := run_ls l f (tokJ l j) line hb _ Ls (cur ++ [((tokC l j).1, subL l j (tokC l j).2)]) (by omega) a2 (by rw [kt_snoc, hD, List.append_assoc]) hL (fun t ht => by
        rcases List.mem_append.1 ht with e | e
        · exact hc t e
        · rw [List.mem_singleton.1 e, ← hsm]
          exact hg) h0
      refine ⟨L3, g1, g2, ?_⟩
      rw [totL_snoc] at g3
      simp only at g3
      rw [← hsm, sub_len a2] at g3
      omega
    · rw [runM_err h2 h8 h1 hz he] at h0
      exact absurd h0 he
/-- what Scan answers: lines of tokens -/
theorem scan_ls (l : List UInt8) (h : l.length ≤ 16384) (he : (scanM l).2.1 = 0) : ∃ Ls, kt (scanM l).1 = flat Ls ∧ goodLs Ls ∧ totLs Ls ≤ l.length := by
  unfold scanM at he ⊢
  rw [if_neg (by omega)] at he ⊢
  obtain ⟨Ls, g1, g2, g3⟩ := run_ls l (l.length + 1) 0 1 0 [] [] [] (by omega) (Nat.zero_le _) rfl (fun ln h => by cases h) (fun t h => by cases h) he
  exact ⟨Ls, g1, g2, by simpa [totLs, totL] using g3⟩
end Go.Proofs.YtialcphfaleedaaGreatDoor
namespace Go.Proofs.YtialcphfaleedaaGreatDoor
open Go.RowKit Go.Shelf
/-- a token, as anybody may write one -/
abbrev ITok := Int × List UInt8 × Int × Int
def icel (t : ITok) : List Value := [.int .i64 t.1, .string ⟨t.2.1.toArray⟩, .int .i64 t.2.2.1, .int .i64 t.2.2.2]
def iagg (t : ITok) : Value := .agg (icel t).toArray
/-- is a token like the wanted one -/
def likeB (t u : ITok) : Bool := (u.1 == 0 || u.1 == t.1) && (u.2.1 == [] || u.2.1 == t.2.1)
set_option maxRecDepth 100000 in
set_option maxHeartbeats 2000000 in
theorem isLike_any (t u : ITok) (w : World) : Calls Tryz.prog 21 #[iagg t, iagg u] w fun e w' => e = .returned (.bool (likeB t u)) ∧ Below w.heap.size w w' := by
  obtain ⟨a, b, c, d⟩ := t
  obtain ⟨e, f, g, h⟩ := u
  show Calls Tryz.prog 21 #[.agg #[.int .i64 a, .string ⟨b.toArray⟩, .int .i64 c, .int .i64 d], .agg #[.int .i64 e, .string ⟨f.toArray⟩, .int .i64 g, .int .i64 h]] w _
  by_cases e1 : e = 0
  · subst e1
    by_cases f1 : f = []
    · have y1 : (f == []) = true := beq_iff_eq.2 f1
      have hr : Hid (likeB (a, b, c, d) (0, f, g, h) = true) := by unfold Hid likeB; simp [f1]
      subst f1
      go_enter Tryz.func21, Tryz.ntmps21
      go_wp2_with fail
      go_ret
      exact ⟨by rw [hr.out]; rfl, ((Below.refl _ _).alloc (Nat.le_refl _) _).alloc (by simp) _⟩
    · have y1 : (f == []) = false := beq_eq_false_iff_ne.2 f1
      by_cases f2 : f = b
      · have y0 : (f == f) = true := beq_self_eq_true f
        have hr : Hid (likeB (a, b, c, d) (0, f, g, h) = true) := by unfold Hid likeB; simp [f2]
        subst f2
        go_enter Tryz.func21, Tryz.ntmps21
        go_wp2_with fail
        go_ret
        exact ⟨by rw [hr.out]; rfl, ((Below.refl _ _).alloc (Nat.le_refl _) _).alloc (by simp) _⟩
      · have y2 : (f == b) = false := beq_eq_false_iff_ne.2 f2
        have hr : Hid (likeB (a, b, c, d) (0, f, g, h) = false) := by unfold Hid likeB; simp [f1, f2]
        go_enter Tryz.func21, Tryz.ntmps21
        go_wp2_with fail
        go_ret
        exact ⟨by rw [hr.out]; rfl, ((Below.refl _ _).alloc (Nat.le_refl _) _).alloc (by simp) _⟩
  · have x1 : (e == 0) = false := beq_eq_false_iff_ne.2 e1
    by_cases e2 : e = a
    · subst e2
      by_cases f1 : f = []
      · have y1 : (f == []) = true := beq_iff_eq.2 f1
        have hr : Hid (likeB (e, b, c, d) (e, f, g, h) = true) := by unfold Hid likeB; simp [f1]
        subst f1
        go_enter Tryz.func21, Tryz.ntmps21
        go_wp2_with fail
        go_ret
        exact ⟨by rw [hr.out]; rfl, ((Below.refl _ _).alloc (Nat.le_refl _) _).alloc (by simp) _⟩
      · have y1 : (f == []) = false := beq_eq_false_iff_ne.2 f1
        by_cases f2 : f = b
        · have y0 : (f == f) = true := beq_self_eq_true f
          have hr : Hid (likeB (e, b, c, d) (e, f, g, h) = true) := by unfold Hid likeB; simp [f2]
          subst f2
          go_enter Tryz.func21, Tryz.ntmps21
          go_wp2_with fail
          go_ret
          exact ⟨by rw [hr.out]; rfl, ((Below.refl _ _).alloc (Nat.le_refl _) _).alloc (by simp) _⟩
        · have y2 : (f == b) = false := beq_eq_false_iff_ne.2 f2
          have hr : Hid (likeB (e, b, c, d) (e, f, g, h) = false) := by unfold Hid likeB; simp [f1, f2]
          go_enter Tryz.func21, Tryz.ntmps21
          go_wp2_with fail
          go_ret
          exact ⟨by rw [hr.out]; rfl, ((Below.refl _ _).alloc (Nat.le_refl _) _).alloc (by simp) _⟩
    · have x2 : (e == a) = false := beq_eq_false_iff_ne.2 e2
      have hr : Hid (likeB (a, b, c, d) (e, f, g, h) = false) := by unfold Hid likeB; simp [e1, e2]
      go_enter Tryz.func21, Tryz.ntmps21
      go_wp2_with fail
      go_ret
      exact ⟨by rw [hr.out]; rfl, ((Below.refl _ _).alloc (Nat.le_refl _) _).alloc (by simp) _⟩
/-- the pairs between which no space is written -/
abbrev joinedT : List (ITok × ITok) := [((0, [], 0, 0), (1, [], 0, 0)), ((1, [], 0, 0), (0, [], 0, 0)), ((0, [40], 0, 0), (0, [], 0, 0)), ((0, [47], 0, 0), (0, [], 0, 0)), ((0, [46, 46], 0, 0), (0, [], 0, 0)), ((0, [58], 0, 0), (0, [], 0, 0)), ((0, [], 0, 0), (0, [41], 0, 0)), ((0, [], 0, 0), (0, [44], 0, 0)), ((0, [], 0, 0), (0, [47], 0, 0)), ((0, [], 0, 0), (0, [46, 46], 0, 0)), ((0, [], 0, 0), (0, [58], 0, 0)), ((0, [33], 0, 0), (2, [], 0, 0)), ((0, [33], 0, 0), (0, [40], 0, 0)), ((0, [33], 0, 0), (0, [33], 0, 0))]
abbrev joinedC : Array Value := #[.int .i64 0, .string ⟨#[]⟩, .int .i64 0, .int .i64 0, .int .i64 1, .string ⟨#[]⟩, .int .i64 0, .int .i64 0, .int .i64 1, .string ⟨#[]⟩, .int .i64 0, .int .i64 0, .int .i64 0, .string ⟨#[]⟩, .int .i64 0, .int .i64 0, .int .i64 0, .string ⟨#[40]⟩, .int .i64 0, .int .i64 0, .int .i64 0, .string ⟨#[]⟩, .int .i64 0, .int .i64 0, .int .i64 0, .string ⟨#[47]⟩, .int .i64 0, .int .i64 0, .int .i64 0, .string ⟨#[]⟩, .int .i64 0, .int .i64 0, .int .i64 0, .string ⟨#[46, 46]⟩, .int .i64 0, .int .i64 0, .int .i64 0, .string ⟨#[]⟩, .int .i64 0, .int .i64 0, .int .i64 0, .string ⟨#[58]⟩, .int .i64 0, .int .i64 0, .int .i64 0, .string ⟨#[]⟩, .int .i64 0, .int .i64 0, .int .i64 0, .string ⟨#[]⟩, .int .i64 0, .int .i64 0, .int .i64 0, .string ⟨#[41]⟩, .int .i64 0, .int .i64 0, .int .i64 0, .string ⟨#[]⟩, .int .i64 0, .int .i64 0, .int .i64 0, .string ⟨#[44]⟩, .int .i64 0, .int .i64 0, .int .i64 0, .string ⟨#[]⟩, .int .i64 0, .int .i64 0, .int .i64 0, .string ⟨#[47]⟩, .int .i64 0, .int .i64 0, .int .i64 0, .string ⟨#[]⟩, .int .i64 0, .int .i64 0, .int .i64 0, .string ⟨#[46, 46]⟩, .int .i64 0, .int .i64 0, .int .i64 0, .string ⟨#[]⟩, .int .i64 0, .int .i64 0, .int .i64 0, .string ⟨#[58]⟩, .int .i64 0, .int .i64 0, .int .i64 0, .string ⟨#[33]⟩, .int .i64 0, .int .i64 0, .int .i64 2, .string ⟨#[]⟩, .int .i64 0, .int .i64 0, .int .i64 0, .string ⟨#[33]⟩, .int .i64 0, .int .i64 0, .int .i64 0, .string ⟨#[40]⟩, .int .i64 0, .int .i64 0, .int .i64 0, .string ⟨#[33]⟩, .int .i64 0, .int .i64 0, .int .i64 0, .string ⟨#[33]⟩, .int .i64 0, .int .i64 0]
def JT (w : World) : Prop := ∃ t fr, w.heap[0]? = some (.cells joinedC t fr)
theorem JT.below {w W : World} (h : JT w) (hb : Below w.heap.size w W) : JT W := by
  obtain ⟨t, fr, h⟩ := h
  exact ⟨t, fr, (hb.block _ (lt_of_get h)).trans h⟩
set_option maxRecDepth 100000 in
theorem idx_join (k : Nat) (z : ITok × ITok) (h : joinedT[k]? = some z) (W : World) : Sem.run Tryz.prog (Instr.index 51 (.agg joinedC) (.int .i64 (k : Int))) W = .ok (.agg (icel z.1 ++ icel z.2).toArray) W := by
  match k, h with
  | 0, h => obtain rfl := Option.some.inj h; rfl
  | 1, h => obtain rfl := Option.some.inj h; rfl
  | 2, h => obtain rfl := Option.some.inj h; rfl
  | 3, h => obtain rfl := Option.some.inj h; rfl
  | 4, h => obtain rfl := Option.some.inj h; rfl
  | 5, h => obtain rfl := Option.some.inj h; rfl
  | 6, h => obtain rfl := Option.some.inj h; rfl
  | 7, h => obtain rfl := Option.some.inj h; rfl
  | 8, h => obtain rfl := Option.some.inj h; rfl
  | 9, h => obtain rfl := Option.some.inj h; rfl
  | 10, h => obtain rfl := Option.some.inj h; rfl
  | 11, h => obtain rfl := Option.some.inj h; rfl
  | 12, h => obtain rfl := Option.some.inj h; rfl
  | 13, h => obtain rfl := Option.some.inj h; rfl
  | k + 14, h => simp at h
def joinB (l r : ITok) : Bool := joinedT.any fun z => likeB l z.1 && likeB r z.2
set_option maxRecDepth 100000 in
set_option maxHeartbeats 4000000 in
theorem isJoined_any (l r : ITok) (w : World) (hj : JT w) : Calls Tryz.prog 11 #[iagg l, iagg r] w fun e w' => e = .returned (.bool (joinB l r)) ∧ Below w.heap.size w w' := by
  obtain ⟨V, hV⟩ : ∃ V : World, (w.alloc (Obj.cells (icel l).toArray 31)).alloc (Obj.cells (icel r).toArray 31) = V := ⟨_, rfl⟩
  have vB : Below w.heap.size w V := by
    rw [← hV]
    exact ((Below.refl _ _).alloc (Nat.le_refl _) _).alloc (by simp) _
  have v0 : V.heap[w.heap.size]? = some (.cells (icel l).toArray 31) := by
    rw [← hV]
    exact allocblk (alloc_get _ _) _
  have v1 : V.heap[w.heap.size + 1]? = some (.cells (icel r).toArray 31) := by
    rw [← hV]
    have := alloc_get (w.alloc (Obj.cells (icel l).toArray 31)) (Obj.cells (icel r).toArray 31)
    simpa using this
  obtain ⟨tt, fr, hg⟩ := hj.below vB
  have HL : Hid (∀ (z : ITok × ITok) (W : World), Calls Tryz.prog 21 #[iagg l, iagg z.1] W fun e w' => e = .returned (.bool (likeB l z.1)) ∧ Below W.heap.size W w') := fun z W => isLike_any l z.1 W
  have HR : Hid (∀ (z : ITok × ITok) (W : World), Calls Tryz.prog 21 #[iagg r, iagg z.2] W fun e w' => e = .returned (.bool (likeB r z.2)) ∧ Below W.heap.size W w') := fun z W => isLike_any r z.2 W
  have XL : Hid (∀ W : World, Below V.heap.size V W → W.cell? ⟨w.heap.size, 0, none⟩ = some (.int .i64 l.1) ∧ W.cell? ⟨w.heap.size, 1, none⟩ = some (.string ⟨l.2.1.toArray⟩) ∧ W.cell? ⟨w.heap.size, 2, none⟩ = some (.int .i64 l.2.2.1) ∧ W.cell? ⟨w.heap.size, 3, none⟩ = some (.int .i64 l.2.2.2)) := fun W hW => by
    have hk := keepblk hW v0
    exact ⟨cell_of_row W _ 0 _ _ _ hk, cell_of_row W _ 1 _ _ _ hk, cell_of_row W _ 2 _ _ _ hk, cell_of_row W _ 3 _ _ _ hk⟩
  have XR : Hid (∀ W : World, Below V.heap.size V W → W.cell? ⟨w.heap.size + 1, 0, none⟩ = some (.int .i64 r.1) ∧ W.cell? ⟨w.heap.size + 1, 1, none⟩ = some (.string ⟨r.2.1.toArray⟩) ∧ W.cell? ⟨w.heap.size + 1, 2, none⟩ = some (.int .i64 r.2.2.1) ∧ W.cell? ⟨w.heap.size + 1, 3, none⟩ = some (.int .i64 r.2.2.2)) := fun W hW => by
    have hk := keepblk hW v1
    exact ⟨cell_of_row W _ 0 _ _ _ hk, cell_of_row W _ 1 _ _ _ hk, cell_of_row W _ 2 _ _ _ hk, cell_of_row W _ 3 _ _ _ hk⟩
  obtain ⟨S, hS⟩ : ∃ S, w.heap.size = S := ⟨_, rfl⟩
  rw [hS] at XL XR
  clear v0 v1 hj
  obtain ⟨la, lb, lc, ld⟩ := l
  obtain ⟨ra, rb, rc, rd⟩ := r
  obtain ⟨q, hq⟩ : ∃ q, joinB (la, lb, lc, ld) (ra, rb, rc, rd) = q := ⟨_, rfl⟩
  have HQ : Hid (joinB (la, lb, lc, ld) (ra, rb, rc, rd) = q) := hq
  rw [hq]
  clear hq
  have hV' : (w.alloc (Obj.cells #[.int .i64 la, .string ⟨lb.toArray⟩, .int .i64 lc, .int .i64 ld] 31)).alloc (Obj.cells #[.int .i64 ra, .string ⟨rb.toArray⟩, .int .i64 rc, .int .i64 rd] 31) = V := hV
  show Calls Tryz.prog 11 #[.agg #[.int .i64 la, .string ⟨lb.toArray⟩, .int .i64 lc, .int .i64 ld], .agg #[.int .i64 ra, .string ⟨rb.toArray⟩, .int .i64 rc, .int .i64 rd]] w _
  clear hV
  go_enter Tryz.func11, Tryz.ntmps11
  go_wp2_with (refine wpList_load_row rfl 51 _ rfl 0 rfl tt _ fr _ hg Tryz.underlying51 rfl (by kernel_rfl) ?_)
  go_loopw [8] (fun vk wr => ∃ k : Nat, vk = .int .i64 k ∧ k ≤ 14 ∧ Hid (∀ (j : Nat) (z : ITok × ITok), j < k → joinedT[j]? = some z → (likeB (la, lb, lc, ld) z.1 && likeB (ra, rb, rc, rd) z.2) = false) ∧ Below V.heap.size V wr) (fun vk _ => 14 - (intOf vk).toNat)
  case atStart => exact ⟨0, rfl, by omega, fun j z hj => by omega, Below.refl _ _⟩
  case round =>
    obtain ⟨k, rfl, hk, hno, hB⟩ := hrel
    by_cases hk5 : k < 14
    · have hk5' : (k : Int) < 14 := by omega
      obtain ⟨z, hz⟩ : ∃ z, joinedT[k]? = some z := ⟨_, List.getElem?_eq_getElem hk5⟩
      have hx0 := fun W => idx_join k z hz W
      have HL1 := HL.out z
      have HR1 := HR.out z
      have HZ : Hid (joinedT[k]? = some z) := hz
      clear hz HL HR
      obtain ⟨⟨a1, b1, c1, d1⟩, ⟨a2, b2, c2, d2⟩⟩ := z
      have hx : ∀ W : World, Sem.run Tryz.prog (Instr.index 51 (.agg joinedC) (.int .i64 (k : Int))) W = .ok (.agg #[.int .i64 a1, .string ⟨b1.toArray⟩, .int .i64 c1, .int .i64 d1, .int .i64 a2, .string ⟨b2.toArray⟩, .int .i64 c2, .int .i64 d2]) W := hx0
      obtain ⟨q1, hq1⟩ : ∃ q1, likeB (la, lb, lc, ld) (a1, b1, c1, d1) = q1 := ⟨_, rfl⟩
      obtain ⟨q2, hq2⟩ : ∃ q2, likeB (ra, rb, rc, rd) (a2, b2, c2, d2) = q2 := ⟨_, rfl⟩
      simp only [hq1] at HL1
      simp only [hq2] at HR1
      have HL2 : Hid (∀ W : World, Calls Tryz.prog 21 #[.agg #[.int .i64 la, .string ⟨lb.toArray⟩, .int .i64 lc, .int .i64 ld], .agg #[.int .i64 a1, .string ⟨b1.toArray⟩, .int .i64 c1, .int .i64 d1]] W fun e w' => e = .returned (.bool q1) ∧ Below W.heap.size W w') := HL1
      have HR2 : Hid (∀ W : World, Calls Tryz.prog 21 #[.agg #[.int .i64 ra, .string ⟨rb.toArray⟩, .int .i64 rc, .int .i64 rd], .agg #[.int .i64 a2, .string ⟨b2.toArray⟩, .int .i64 c2, .int .i64 d2]] W fun e w' => e = .returned (.bool q2) ∧ Below W.heap.size W w') := HR1
      have Hq1 : Hid (likeB (la, lb, lc, ld) (a1, b1, c1, d1) = q1) := hq1
      have Hq2 : Hid (likeB (ra, rb, rc, rd) (a2, b2, c2, d2) = q2) := hq2
      clear hx0 HL1 HR1 hq1 hq2 hg
      have hB2 : ∀ O : Obj, Below V.heap.size V (wr.alloc O) := fun O => hB.alloc hB.size O
      obtain ⟨O, hO⟩ : ∃ O : Obj, Obj.cells #[.int .i64 a1, .string ⟨b1.toArray⟩, .int .i64 c1, .int .i64 d1, .int .i64 a2, .string ⟨b2.toArray⟩, .int .i64 c2, .int .i64 d2] 50 = O := ⟨_, rfl⟩
      obtain ⟨x0, x1, x2, x3⟩ := XL.out (wr.alloc O) (hB2 O)
      have n0 : (wr.alloc O).cell? ⟨wr.heap.size, 0, none⟩ = some (.int .i64 a1) := by rw [← hO, cells_new]; rfl
      have n1 : (wr.alloc O).cell? ⟨wr.heap.size, 1, none⟩ = some (.string ⟨b1.toArray⟩) := by rw [← hO, cells_new]; rfl
      have n2 : (wr.alloc O).cell? ⟨wr.heap.size, 2, none⟩ = some (.int .i64 c1) := by rw [← hO, cells_new]; rfl
      have n3 : (wr.alloc O).cell? ⟨wr.heap.size, 3, none⟩ = some (.int .i64 d1) := by rw [← hO, cells_new]; rfl
      have n4 : (wr.alloc O).cell? ⟨wr.heap.size, 4, none⟩ = some (.int .i64 a2) := by rw [← hO, cells_new]; rfl
      have n5 : (wr.alloc O).cell? ⟨wr.heap.size, 5, none⟩ = some (.string ⟨b2.toArray⟩) := by rw [← hO, cells_new]; rfl
      have n6 : (wr.alloc O).cell? ⟨wr.heap.size, 6, none⟩ = some (.int .i64 c2) := by rw [← hO, cells_new]; rfl
      have n7 : (wr.alloc O).cell? ⟨wr.heap.size, 7, none⟩ = some (.int .i64 d2) := by rw [← hO, cells_new]; rfl
      go_wp2_with fail
      refine (HL2.out _).mono ?_
      rintro e W1 ⟨rfl, hb1⟩
      have hB3 := bel0 (hB2 O) hb1
      obtain ⟨y0, y1, y2, y3⟩ := XR.out W1 hB3
      have m4 : W1.cell? ⟨wr.heap.size, 4, none⟩ = some (.int .i64 a2) := (hb1.cell (by simp)).trans n4
      have m5 : W1.cell? ⟨wr.heap.size, 5, none⟩ = some (.string ⟨b2.toArray⟩) := (hb1.cell (by simp)).trans n5
      have m6 : W1.cell? ⟨wr.heap.size, 6, none⟩ = some (.int .i64 c2) := (hb1.cell (by simp)).trans n6
      have m7 : W1.cell? ⟨wr.heap.size, 7, none⟩ = some (.int .i64 d2) := (hb1.cell (by simp)).trans n7
      clear x0 x1 x2 x3 n0 n1 n2 n3 n4 n5 n6 n7 hO hx
      have HN : ∀ b : Bool, (q1 && q2) = b → b = false → Hid (∀ (j : Nat) (z : ITok × ITok), j < k + 1 → joinedT[j]? = some z → (likeB (la, lb, lc, ld) z.1 && likeB (ra, rb, rc, rd) z.2) = false) := fun b h1 h2 j y hj hy => by
        rcases Nat.lt_or_ge j k with h | h
        · exact hno.out j y h hy
        · obtain rfl : j = k := by omega
          have := HZ.out
          rw [hy] at this
          rw [Option.some.inj this, Hq1.out, Hq2.out, h1, h2]
      cases q1 with
      | false =>
        have HN2 := HN _ rfl rfl
        clear HN hno
        go_wp2_with fail
        go_roundw
        case rel => exact ⟨k + 1, by go_num, by omega, HN2, hB3⟩
        case measure => simp [intOf]; omega
      | true =>
        go_wp2_with fail
        refine (HR2.out _).mono ?_
        rintro e W2 ⟨rfl, hb2⟩
        clear y0 y1 y2 y3 m4 m5 m6 m7
        cases q2 with
        | false =>
          have HN2 := HN _ rfl rfl
          clear HN hno
          go_wp2_with fail
          go_roundw
          case rel => exact ⟨k + 1, by go_num, by omega, HN2, bel0 hB3 hb2⟩
          case measure => simp [intOf]; omega
        | true =>
          obtain rfl : true = q := by
            rw [← HQ.out]
            unfold joinB
            symm
            rw [List.any_eq_true]
            exact ⟨_, List.mem_of_getElem? HZ.out, by rw [Hq1.out, Hq2.out]; rfl⟩
          clear HN hno
          go_wp2_with fail
          go_ret
          exact ⟨rfl, by have h9 := bel0 vB (bel0 hB3 hb2); first | exact h9 | (rw [hS] at h9; exact h9)⟩
    · have hk5' : ¬ (k : Int) < 14 := by omega
      obtain rfl : false = q := by
        rw [← HQ.out]
        unfold joinB
        symm
        rw [Bool.eq_false_iff]
        intro h
        rw [List.any_eq_true] at h
        obtain ⟨z, hm, hz⟩ := h
        obtain ⟨j, hj, e⟩ := List.mem_iff_getElem.1 hm
        have h14 : joinedT.length = 14 := rfl
        have := hno.out j z (by omega) (by rw [List.getElem?_eq_getElem hj, e])
        rw [this] at hz
        cases hz
      clear hno
      go_wp2_with fail
      go_ret
      exact ⟨rfl, by have h9 := bel0 vB hB; first | exact h9 | (rw [hS] at h9; exact h9)⟩
end Go.Proofs.YtialcphfaleedaaGreatDoor
namespace Go.Proofs.YtialcphfaleedaaGreatDoor
open Go.RowKit Go.Shelf
/-- the first of two tokens -/
def oneT (D : List Tok) (k : Int) (x : List UInt8) : Bool := match D with
  | [a, _] => (a.1 : Int) == k && a.2.1 == x
  | _ => false
/-- is it a token -/
def tokB (t : ITok) : Bool := if t.1 = 1 then t.2.1 == [10] else oneT (scanM t.2.1).1 t.1 t.2.1
set_option maxRecDepth 100000 in
set_option maxHeartbeats 2000000 in
theorem isToken_any (t : ITok) (w : World) (hl : t.2.1.length ≤ 281474976710656) (hv1 : SH w) (hv4 : SG w) (hv5 : VW w) : Calls Tryz.prog 20 #[iagg t] w fun e w' => e = .returned (.bool (tokB t)) ∧ Below w.heap.size w w' := by
  obtain ⟨a, x, c, d⟩ := t
  simp only at hl
  show Calls Tryz.prog 20 #[.agg #[.int .i64 a, .string ⟨x.toArray⟩, .int .i64 c, .int .i64 d]] w _
  by_cases h1 : a = 1
  · subst h1
    by_cases hx : x = [10]
    · have hr : Hid (tokB (1, x, c, d) = true) := by unfold Hid tokB; simp [hx]
      subst hx
      clear hv1 hv4 hv5
      go_enter Tryz.func20, Tryz.ntmps20
      go_wp2_with fail
      go_ret
      exact ⟨by rw [hr.out]; rfl, (Below.refl _ _).alloc (Nat.le_refl _) _⟩
    · have y1 : (x == [10]) = false := beq_eq_false_iff_ne.2 hx
      have hr : Hid (tokB (1, x, c, d) = false) := by unfold Hid tokB; simp [hx]
      clear hv1 hv4 hv5
      go_enter Tryz.func20, Tryz.ntmps20
      go_wp2_with fail
      go_ret
      exact ⟨by rw [hr.out]; rfl, (Below.refl _ _).alloc (Nat.le_refl _) _⟩
  · have x1 : (a == 1) = false := beq_eq_false_iff_ne.2 h1
    obtain ⟨V, hV⟩ : ∃ V : World, w.alloc (Obj.cells #[.int .i64 a, .string ⟨x.toArray⟩, .int .i64 c, .int .i64 d] 31) = V := ⟨_, rfl⟩
    have vB : Below w.heap.size w V := by rw [← hV]; exact (Below.refl _ _).alloc (Nat.le_refl _) _
    have v0 : V.heap[w.heap.size]? = some (.cells #[.int .i64 a, .string ⟨x.toArray⟩, .int .i64 c, .int .i64 d] 31) := by rw [← hV]; exact alloc_get _ _
    have H1 := scan_any x V hl (hv1.below vB) (hv4.below vB) (FOK_of (hv5.below vB))
    unfold scR at H1
    have hr0 : tokB (a, x, c, d) = oneT (scanM x).1 a x := by unfold tokB; rw [if_neg h1]
    obtain ⟨r, hr⟩ : ∃ r, scanM x = r := ⟨_, rfl⟩
    rw [hr] at H1 hr0
    obtain ⟨D, e0, ln, cl⟩ := r
    simp only at H1 hr0
    obtain ⟨q, hq⟩ : ∃ q, tokB (a, x, c, d) = q := ⟨_, rfl⟩
    rw [hq] at hr0 ⊢
    have XB : Hid (∀ W : World, Below V.heap.size V W → W.cell? ⟨w.heap.size, 0, none⟩ = some (.int .i64 a) ∧ W.cell? ⟨w.heap.size, 1, none⟩ = some (.string ⟨x.toArray⟩)) := fun W hW => by
      have hk := keepblk hW v0
      exact ⟨cell_of_row W _ 0 _ _ _ hk, cell_of_row W _ 1 _ _ _ hk⟩
    have b0 : V.cell? ⟨w.heap.size, 0, none⟩ = some (.int .i64 a) := cell_of_row V _ 0 _ _ _ v0
    have b1 : V.cell? ⟨w.heap.size, 1, none⟩ = some (.string ⟨x.toArray⟩) := cell_of_row V _ 1 _ _ _ v0
    have hVB : Hid (Below w.heap.size w V) := vB
    obtain ⟨S, hS⟩ : ∃ S, w.heap.size = S := ⟨_, rfl⟩
    rw [hS] at XB b0 b1
    clear hr hq hv1 hv4 hv5 v0 vB
    go_enter Tryz.func20, Tryz.ntmps20
    go_wp2_with fail
    refine H1.mono ?_
    rintro e W1 ⟨v1, rfl, hown, hb1⟩
    have hB : Below w.heap.size w W1 := bel0 hVB.out hb1
    obtain ⟨z0, z1⟩ := XB.out W1 hb1
    clear b0 b1 XB H1
    by_cases h2 : D.length = 2
    · match D, h2 with
      | [t0, t1], _ =>
        have hrr : q = ((t0.1 : Int) == a && t0.2.1 == x) := hr0
        obtain ⟨g, cp, rfl⟩ := own_form hown (by simp)
        obtain ⟨p0, p1, -, -⟩ := tok_cell hown (k := 0) (t := t0) rfl
        simp only [Nat.zero_mul, Nat.zero_add] at p0 p1
        clear hown hr0
        obtain ⟨k0, x0, l0, c0⟩ := t0
        simp only at p0 p1 hrr
        by_cases ek : (k0 : Int) = a
        · have y1 : ((k0 : Int) == a) = true := beq_iff_eq.2 ek
          by_cases ex : x0 = x
          · subst ex
            obtain rfl : q = true := by rw [hrr, y1]; simp
            clear hrr
            go_wp2_with fail
            go_quiet (fail)
            go_wp2_with fail
            go_ret
            exact ⟨rfl, by first | exact hB | exact bel_drewN _ hB⟩
          · have y2 : (x0 == x) = false := beq_eq_false_iff_ne.2 ex
            obtain rfl : q = false := by rw [hrr, y1, y2]; rfl
            clear hrr
            go_wp2_with fail
            go_quiet (fail)
            go_wp2_with fail
            go_ret
            exact ⟨rfl, by first | exact hB | exact bel_drewN _ hB⟩
        · have y1 : ((k0 : Int) == a) = false := beq_eq_false_iff_ne.2 ek
          obtain rfl : q = false := by rw [hrr, y1]; rfl
          clear hrr
          go_wp2_with fail
          go_quiet (fail)
          go_wp2_with fail
          go_ret
          exact ⟨rfl, by first | exact hB | exact bel_drewN _ hB⟩
    · have n2 : ((D.length : Int) == 2) = false := by rw [beq_eq_false_iff_ne]; omega
      obtain rfl : q = false := by
        rw [hr0]
        unfold oneT
        split
        · exact absurd rfl h2
        · rfl
      obtain ⟨o1, c1, rfl⟩ := shapeP hown
      clear hown hr0
      go_wp2_with fail
      go_quiet (fail)
      go_wp2_with fail
      go_ret
      exact ⟨rfl, by first | exact hB | exact bel_drewN _ hB⟩
/-- a row of tokens lies there, now and later -/
def IR (w : World) (o : Option Addr) (L : List ITok) : Prop := ∀ W : World, Below w.heap.size w W → ∀ k t, L[k]? = some t → ∃ g o0, o = some ⟨g, o0, none⟩ ∧ W.cell? ⟨g, o0 + k * 4, none⟩ = some (.int .i64 t.1) ∧ W.cell? ⟨g, o0 + k * 4 + 1, none⟩ = some (.string ⟨t.2.1.toArray⟩) ∧ W.cell? ⟨g, o0 + k * 4 + 2, none⟩ = some (.int .i64 t.2.2.1) ∧ W.cell? ⟨g, o0 + k * 4 + 3, none⟩ = some (.int .i64 t.2.2.2)
theorem IR.later {w w' : World} {o : Option Addr} {L : List ITok} (h : IR w o L) (hb : Below w.heap.size w w') : IR w' o L := fun W hW => h W (bel0 hb hW)
/-- are these tokens, and lines of them that all have some and all end -/
def linF : Int → List ITok → Bool
  | last, [] => last == 1
  | last, t :: r => if (!tokB t || (t.1 == 1 && last == 1)) = true then false else linF t.1 r
set_option maxRecDepth 100000 in
set_option maxHeartbeats 4000000 in
theorem areLines_any (L : List ITok) (o : Option Addr) (c : Nat) (w : World) (hL : L.length ≤ 281474976710656) (hx : ∀ t ∈ L, t.2.1.length ≤ 281474976710656) (hr : IR w o L) (hv1 : SH w) (hv4 : SG w) (hv5 : VW w) :
    Calls Tryz.prog 10 #[.slice o L.length c] w fun e w' => e = .returned (.bool (linF 1 L)) ∧ Below w.heap.size w w' := by
  have HR : Hid (IR w o L) := hr
  have HX : Hid (∀ t ∈ L, t.2.1.length ≤ 281474976710656) := hx
  have HV : Hid (SH w ∧ SG w ∧ VW w) := ⟨hv1, hv4, hv5⟩
  obtain ⟨q, hq⟩ : ∃ q, linF 1 L = q := ⟨_, rfl⟩
  rw [hq]
  have HQ : Hid (linF 1 (L.drop 0) = q) := hq
  clear hr hx hv1 hv4 hv5 hq
  go_enter Tryz.func10, Tryz.ntmps10
  go_wp2_with fail
  go_loopw [3, 8] (fun vl vk wr => ∃ (k : Nat) (last : Int), vl = .int .i64 last ∧ vk = .int .i64 k ∧ k ≤ L.length ∧ Hid (linF last (L.drop k) = q) ∧ Below w.heap.size w wr) (fun _ vk _ => L.length - (intOf vk).toNat)
  case atStart => exact ⟨0, 1, rfl, rfl, Nat.zero_le _, HQ, Below.refl _ _⟩
  case round =>
    clear HQ
    obtain ⟨k, last, rfl, rfl, hk, hlin, hB⟩ := hrel
    by_cases hlt : k < L.length
    · have j1 : (k : Int) < (L.length : Int) := by omega
      have j0 : (0 : Int) ≤ (k : Int) := by omega
      obtain ⟨t, ht⟩ : ∃ t, L[k]? = some t := ⟨_, List.getElem?_eq_getElem hlt⟩
      obtain ⟨g, o0, rfl, p0, p1, p2, p3⟩ := HR.out wr hB k t ht
      have hd : L.drop k = t :: L.drop (k + 1) := by
        rw [List.drop_eq_getElem_cons hlt]
        rw [List.getElem?_eq_getElem hlt] at ht
        rw [Option.some.inj ht]
      have hl2 := hlin.out
      rw [hd, linF] at hl2
      have hxl := HX.out t (List.mem_of_getElem? ht)
      obtain ⟨v1, v4, v5⟩ := HV.out
      have HT : Hid (∀ W : World, Below w.heap.size w W → Calls Tryz.prog 20 #[iagg t] W fun e w' => e = .returned (.bool (tokB t)) ∧ Below W.heap.size W w') := fun W hW => isToken_any t W hxl (v1.below hW) (v4.below hW) (v5.below hW)
      clear hd hlin v1 v4 v5 ht hxl
      obtain ⟨a, x, ln, cl⟩ := t
      obtain ⟨bt', hbt⟩ : ∃ b, tokB (a, x, ln, cl) = b := ⟨_, rfl⟩
      simp only [hbt] at HT hl2
      have HT2 : Hid (∀ W : World, Below w.heap.size w W → Calls Tryz.prog 20 #[.agg #[.int .i64 a, .string ⟨x.toArray⟩, .int .i64 ln, .int .i64 cl]] W fun e w' => e = .returned (.bool bt') ∧ Below W.heap.size W w') := HT.out
      simp only at p0 p1 p2 p3
      clear HT hbt
      obtain ⟨O, hO⟩ : ∃ O : Obj, Obj.cells #[.int .i64 a, .string ⟨x.toArray⟩, .int .i64 ln, .int .i64 cl] 31 = O := ⟨_, rfl⟩
      have hBs := hB.size
      have hB2 : Below w.heap.size w (wr.alloc O) := hB.alloc hBs O
      have n0 : (wr.alloc O).cell? ⟨wr.heap.size, 0, none⟩ = some (.int .i64 a) := by rw [← hO, cells_new]; rfl
      have n1 : (wr.alloc O).cell? ⟨wr.heap.size, 1, none⟩ = some (.string ⟨x.toArray⟩) := by rw [← hO, cells_new]; rfl
      have n2 : (wr.alloc O).cell? ⟨wr.heap.size, 2, none⟩ = some (.int .i64 ln) := by rw [← hO, cells_new]; rfl
      have n3 : (wr.alloc O).cell? ⟨wr.heap.size, 3, none⟩ = some (.int .i64 cl) := by rw [← hO, cells_new]; rfl
      go_wp2_with fail
      refine (HT2.out _ hB2).mono ?_
      rintro e W1 ⟨rfl, hb1⟩
      have m0 : W1.cell? ⟨wr.heap.size, 0, none⟩ = some (.int .i64 a) := (hb1.cell (by simp)).trans n0
      have hB3 := bel0 hB2 hb1
      clear p0 p1 p2 p3 n0 n1 n2 n3 hO
      cases bt' with
      | false =>
        obtain rfl : false = q := hl2
        go_wp2_with fail
        go_ret
        exact ⟨rfl, hB3⟩
      | true =>
        by_cases ha : a = 1
        · have y1 : (a == 1) = true := beq_iff_eq.2 ha
          by_cases hla : last = 1
          · have y2 : (last == 1) = true := beq_iff_eq.2 hla
            obtain rfl : false = q := by rw [← hl2]; simp [ha, hla]
            subst ha hla
            go_wp2_with fail
            go_ret
            exact ⟨rfl, hB3⟩
          · have y2 : (last == 1) = false := beq_eq_false_iff_ne.2 hla
            have HL2 : Hid (linF a (L.drop (k + 1)) = q) := by
              unfold Hid
              rw [← hl2, y2]
              simp
            subst ha
            clear hl2
            go_wp2_with fail
            go_roundw
            case rel => exact ⟨k + 1, 1, rfl, by go_num, by omega, HL2, hB3⟩
            case measure => simp [intOf]; omega
        · have y1 : (a == 1) = false := beq_eq_false_iff_ne.2 ha
          have HL2 : Hid (linF a (L.drop (k + 1)) = q) := by
            unfold Hid
            rw [← hl2, y1]
            simp
          clear hl2
          go_wp2_with fail
          go_roundw
          case rel => exact ⟨k + 1, a, rfl, by go_num, by omega, HL2, hB3⟩
          case measure => simp [intOf]; omega
    · have j1 : ¬ (k : Int) < (L.length : Int) := by omega
      have hl2 := hlin.out
      rw [List.drop_eq_nil_of_le (by omega), linF] at hl2
      clear hlin
      by_cases hla : last = 1
      · have y2 : (last == 1) = true := beq_iff_eq.2 hla
        obtain rfl : true = q := by rw [← hl2, y2]
        subst hla
        go_wp2_with fail
        go_ret
        exact ⟨rfl, hB⟩
      · have y2 : (last == 1) = false := beq_eq_false_iff_ne.2 hla
        obtain rfl : false = q := by rw [← hl2, y2]
        clear hl2
        go_wp2_with fail
        go_ret
        exact ⟨rfl, hB⟩
end Go.Proofs.YtialcphfaleedaaGreatDoor
namespace Go.Proofs.YtialcphfaleedaaGreatDoor
open Go.RowKit Go.Shelf
/-- what stands ahead of a token -/
def gapB (p : Option ITok) (t : ITok) : List UInt8 := match p with
  | some u => if joinB u t = true then [] else [32]
  | none => []
def outR : Option (List UInt8) → List UInt8 × Nat
  | some s => (s, 0)
  | none => ([], 2)
/-- the text so far, and the tokens still to come; none: it is too long -/
def prF : Option ITok → List ITok → List UInt8 → Option (List UInt8)
  | _, [], acc => some acc
  | p, t :: r, acc => if 16384 < ((acc ++ gapB p t) ++ t.2.1).length then none else prF (some t) r ((acc ++ gapB p t) ++ t.2.1)
/-- what Print answers -/
def printM (L : List ITok) : List UInt8 × Nat :=
  if 16384 < L.length then ([], 2) else if linF 1 L = false then ([], 35) else outR (prF none L [])
theorem tokB_len {t : ITok} (h : tokB t = true) : t.2.1.length ≤ 16384 := by
  unfold tokB at h
  split at h
  · rw [beq_iff_eq.1 h]
    decide
  · refine Classical.byContradiction (fun hl => ?_)
    have e : scanM t.2.1 = ([], 2, 0, 0) := by unfold scanM; rw [if_pos (by omega)]
    rw [e] at h
    cases h
theorem linF_tok : ∀ (L : List ITok) (last : Int), linF last L = true → ∀ t ∈ L, tokB t = true
  | [], _, _, t, ht => by cases ht
  | u :: L, last, h, t, ht => by
    rw [linF] at h
    split at h
    · cases h
    · rename_i hn
      rcases List.mem_cons.1 ht with e | e
      · subst e
        cases hb : tokB t with
        | true => rfl
        | false => exact absurd (by rw [hb]; rfl) hn
      · exact linF_tok L u.1 h t e
theorem results_pr (tmps : Array Value) (W : World) (a b : Value) (h : tmps.getD 2 undef = a ∧ tmps.getD 3 undef = b) : (results Tryz.f5 tmps).run Tryz.prog W = .ok (.tuple #[a, b]) W := by
  obtain ⟨h1, h2⟩ := h
  have h1' : tmps[2]?.getD undef = a := by simpa using h1
  have h2' : tmps[3]?.getD undef = b := by simpa using h2
  simp [results, h1', h2', go_sem]
/-- the token ahead -/
def prevT (L : List ITok) (k : Nat) (p : Option ITok) : Prop := (k = 0 ∧ p = none) ∨ ∃ k' u, k = k' + 1 ∧ L[k']? = some u ∧ p = some u
theorem prF_step {L : List ITok} {k : Nat} {t : ITok} (ht : L[k]? = some t) (p : Option ITok) (acc : List UInt8) : prF p (L.drop k) acc = if 16384 < ((acc ++ gapB p t) ++ t.2.1).length then none else prF (some t) (L.drop (k + 1)) ((acc ++ gapB p t) ++ t.2.1) := by
  obtain ⟨hk, e⟩ := List.getElem?_eq_some_iff.1 ht
  rw [List.drop_eq_getElem_cons hk, e]
  rfl
set_option maxRecDepth 100000 in
set_option maxHeartbeats 4000000 in
theorem print_any (L : List ITok) (o : Option Addr) (c : Nat) (w : World) (hL : L.length ≤ 281474976710656) (hx : ∀ t ∈ L, t.2.1.length ≤ 281474976710656) (hr : IR w o L) (hv1 : SH w) (hv4 : SG w) (hv5 : VW w) (hj : JT w) :
    Calls Tryz.prog 5 #[.slice o L.length c] w fun e w' => e = .returned (.tuple #[.string ⟨(printM L).1.toArray⟩, .int .i64 ((printM L).2 : Int)]) ∧ Below w.heap.size w w' := by
  by_cases hbig : 16384 < L.length
  · have i1 : (16384 : Int) < (L.length : Int) := by omega
    have hres : Hid (printM L = ([], 2)) := by unfold Hid printM; rw [if_pos hbig]
    clear hx hr hv1 hv4 hv5 hj
    go_enter Tryz.func5, Tryz.ntmps5
    go_wp2_with fail
    refine bodyPost_ret (results_pr _ _ _ _ ⟨rfl, rfl⟩) rfl ?_
    exact ⟨by rw [hres.out]; rfl, Below.refl _ _⟩
  have i1 : ¬ (16384 : Int) < (L.length : Int) := by omega
  have HA := areLines_any L o c w hL hx hr hv1 hv4 hv5
  cases hq : linF 1 L with
  | false =>
    have hres : Hid (printM L = ([], 35)) := by unfold Hid printM; rw [if_neg hbig, if_pos hq]
    rw [hq] at HA
    clear hx hr hv1 hv4 hv5 hj hq
    go_enter Tryz.func5, Tryz.ntmps5
    go_wp2_with fail
    refine HA.mono ?_
    rintro e W1 ⟨rfl, hb1⟩
    go_wp2_with fail
    refine bodyPost_ret (results_pr _ _ _ _ ⟨rfl, rfl⟩) rfl ?_
    exact ⟨by rw [hres.out]; rfl, hb1⟩
  | true =>
    rw [hq] at HA
    obtain ⟨R, hR⟩ : ∃ R, prF none L [] = R := ⟨_, rfl⟩
    have HPM : Hid (printM L = outR R) := by
      unfold Hid printM
      rw [if_neg hbig, if_neg (by rw [hq]; decide), hR]
    have HR0 : Hid (prF none (L.drop 0) [] = R) := hR
    have HP0 : Hid (prevT L 0 none) := .inl ⟨rfl, rfl⟩
    have HR : Hid (IR w o L) := hr
    have HX : Hid (∀ t ∈ L, t.2.1.length ≤ 16384) := fun t ht => tokB_len (linF_tok L 1 hq t ht)
    have HJ0 : Hid (JT w) := hj
    obtain ⟨i0, hi, hz0, hz1, hz2⟩ := info_parts info_u8
    clear hx hr hv1 hv4 hv5 hj hq hR
    go_enter Tryz.func5, Tryz.ntmps5
    go_wp2_with fail
    refine HA.mono ?_
    rintro e W1 ⟨rfl, hb1⟩
    go_wp2_with fail
    go_loopw [4, 15] (fun v vk wr => ∃ (k : Nat) (acc : List UInt8) (p : Option ITok), vk = .int .i64 k ∧ k ≤ L.length ∧ acc.length ≤ 16384 ∧ wr.ownsRow w.heap.size 5 1 v acc.length (Lib.byteCells acc) ∧ Below w.heap.size w wr ∧ Hid (prF p (L.drop k) acc = R) ∧ Hid (prevT L k p)) (fun _ vk _ => L.length - (intOf vk).toNat)
    case atStart => exact ⟨0, [], none, rfl, Nat.zero_le _, by simp, World.ownsRow_nil _ _ _ _, hb1, HR0, HP0⟩
    case round =>
      clear HR0 HP0 hb1 HA
      obtain ⟨k, acc, p, rfl, hk, hacc, hown, hB, hrun, hprev⟩ := hrel
      by_cases hlt : k < L.length
      · have j1 : (k : Int) < (L.length : Int) := by omega
        have j0 : (0 : Int) ≤ (k : Int) := by omega
        obtain ⟨t, ht⟩ : ∃ t, L[k]? = some t := ⟨_, List.getElem?_eq_getElem hlt⟩
        obtain ⟨g, o0, rfl, p0, p1, p2, p3⟩ := HR.out wr hB k t ht
        have hstep := prF_step ht p acc
        rw [hrun.out] at hstep
        have hxl := HX.out t (List.mem_of_getElem? ht)
        have HPREV : Hid (prevT L (k + 1) (some t)) := .inr ⟨k, t, rfl, ht, rfl⟩
        obtain ⟨a, x, ln, cl⟩ := t
        simp only at p0 p1 p2 p3 hxl hstep
        obtain ⟨O, hO⟩ : ∃ O : Obj, Obj.cells #[.int .i64 a, .string ⟨x.toArray⟩, .int .i64 ln, .int .i64 cl] 31 = O := ⟨_, rfl⟩
        have hBs0 := hB.size
        have hB2 : Below w.heap.size w (wr.alloc O) := hB.alloc hBs0 O
        have hbx0 : (wr.alloc O).heap[wr.heap.size]? = some (.cells #[.int .i64 a, .string ⟨x.toArray⟩, .int .i64 ln, .int .i64 cl] 31) := by rw [hO]; exact alloc_get _ _
        have hown0 : Hid ((wr.alloc O).ownsRow w.heap.size 5 1 u4 acc.length (Lib.byteCells acc)) := hown.alloc _
        have XT : Hid (∀ W : World, Below (wr.alloc O).heap.size (wr.alloc O) W → W.cell? ⟨wr.heap.size, 0, none⟩ = some (.int .i64 a) ∧ W.cell? ⟨wr.heap.size, 1, none⟩ = some (.string ⟨x.toArray⟩) ∧ W.cell? ⟨wr.heap.size, 2, none⟩ = some (.int .i64 ln) ∧ W.cell? ⟨wr.heap.size, 3, none⟩ = some (.int .i64 cl)) := fun W hW => by
          have hk := keepblk hW hbx0
          exact ⟨cell_of_row W _ 0 _ _ _ hk, cell_of_row W _ 1 _ _ _ hk, cell_of_row W _ 2 _ _ _ hk, cell_of_row W _ 3 _ _ _ hk⟩
        have hbx1 : Hid ((wr.alloc O).heap[wr.heap.size]? = some (.cells #[.int .i64 a, .string ⟨x.toArray⟩, .int .i64 ln, .int .i64 cl] 31)) := hbx0
        clear hrun hown hbx0
        rcases hprev.out with ⟨rfl, rfl⟩ | ⟨k, u, rfl, hu, rfl⟩
        · have HSTEP : Hid ((if 16384 < (acc ++ x).length then none else prF (some (a, x, ln, cl)) (L.drop (0 + 1)) (acc ++ x)) = R) := by
            have h9 := hstep.symm
            simp only [gapB, List.append_nil] at h9
            exact h9
          clear hstep hprev ht
          simp only [Nat.zero_mul, Nat.add_zero] at p0 p1 p2 p3
          go_wp2_with fail
          try rw [hO]
          refine quiet_lit3 (C := fun W => Below (wr.alloc O).heap.size (wr.alloc O) W) (by kernel_rfl) (by kernel_rfl) (show Below _ _ _ from (Below.refl _ _).drew) ?_
          go_big_quiet_want
          go_big_quiet_op
          go_big_quiet_on
          go_big_quiet_want
          refine ⟨.bool false, fun W hW => ?_, ?_⟩
          · go_simp
          go_big_quiet_on
          simp only [Act.put, List.setIfInBounds_toArray, List.set_cons_zero, List.set_cons_succ]
          go_big_quiet_want
          go_big_quiet_op
          go_big_quiet_on
          go_big_quiet_skip
          go_big_quiet_skip
          go_big_quiet_skip
          go_big_quiet_skip
          go_big_quiet_skip
          go_big_quiet_skip
          go_big_quiet_skip
          go_big_quiet_skip
          go_big_quiet_want
          refine ⟨.bool false, fun W hW => ?_, ?_⟩
          · go_simp
          go_big_quiet_on
          simp only [Act.put, List.setIfInBounds_toArray, List.set_cons_zero, List.set_cons_succ]
          refine wpQuiet_nil ?_
          intro W hW
          have hown1 : W.ownsRow w.heap.size 5 1 u4 acc.length (Lib.byteCells acc) := owns_below hown0.out hW
          have hbx := keepblk hW hbx1.out
          have hBx := bel0 hB2 hW
          clear p0 p1 p2 p3 XT hO
          have b1 : W.cell? ⟨wr.heap.size, 1, none⟩ = some (.string ⟨x.toArray⟩) := cell_of_row _ _ 1 _ _ _ hbx
          have hBs := hBx.size
          obtain ⟨pv, cv, rfl⟩ := shapeP hown1
          have hxs : (ByteArray.mk x.toArray).size = x.length := by simp [ByteArray.size]
          by_cases hbig2 : 16384 < acc.length + x.length
          · have i9 : (16384 : Int) < (acc.length : Int) + (x.length : Int) := by omega
            have i10 : (16384 : Int) < (acc.length : Int) + (x.length : Int) := by omega
            have hres : Hid (R = none) := by
              unfold Hid
              rw [← HSTEP.out, if_pos (by rw [List.length_append]; exact hbig2)]
            clear HSTEP
            go_wp2_with (at_builtin; refine Lib.wpList_append_own_string _ rfl _ _ 34 9 rfl w.heap.size 5 i0 Tryz.underlying34 Tryz.underlying9 hi hz0 hz1 hz2 _ _ _ rfl hown1 ⟨x.toArray⟩ rfl (by rw [hxs]; unfold maxLen; omega) (by rw [hxs]; omega) hBs ?_; intro v6 w6 oB6 hg6 _; rw [hxs] at oB6; obtain ⟨p6, c6, rfl⟩ := shapeP oB6)
            refine bodyPost_ret (results_pr _ _ _ _ ⟨rfl, rfl⟩) rfl ?_
            exact ⟨by rw [HPM.out, hres.out]; rfl, hBx.grown hg6 hBs (fun k e => (hown1.lt k e).1)⟩
          · have i9 : ¬ (16384 : Int) < (acc.length : Int) + (x.length : Int) := by omega
            have i10 : ¬ (16384 : Int) < (acc.length : Int) + (x.length : Int) := by omega
            have hnext : Hid (prF (some (a, x, ln, cl)) (L.drop (0 + 1)) (acc ++ x) = R) := by
              unfold Hid
              rw [← HSTEP.out, if_neg (by rw [List.length_append]; exact hbig2)]
            clear HSTEP
            go_wp2_with (at_builtin; refine Lib.wpList_append_own_string _ rfl _ _ 34 9 rfl w.heap.size 5 i0 Tryz.underlying34 Tryz.underlying9 hi hz0 hz1 hz2 _ _ _ rfl hown1 ⟨x.toArray⟩ rfl (by rw [hxs]; unfold maxLen; omega) (by rw [hxs]; omega) hBs ?_; intro v6 w6 oB6 hg6 _; rw [hxs] at oB6; obtain ⟨p6, c6, rfl⟩ := shapeP oB6)
            go_roundw
            case rel => exact ⟨0 + 1, acc ++ x, some (a, x, ln, cl), by go_num, by omega, by rw [List.length_append]; omega, by rw [List.length_append, byteCells_append]; exact oB6, hBx.grown hg6 hBs (fun k e => (hown1.lt k e).1), hnext, HPREV⟩
            case measure => simp [intOf]; omega
        · obtain ⟨g', o0', hgg, -⟩ := HR.out wr hB k u hu
          obtain ⟨rfl, rfl⟩ : g = g' ∧ o0 = o0' := by
            injection hgg with hgg
            injection hgg with h1 h2
            exact ⟨h1, h2⟩
          have XU : Hid (∀ W : World, Below (wr.alloc O).heap.size (wr.alloc O) W → W.cell? ⟨g, o0 + k * 4, none⟩ = some (.int .i64 u.1) ∧ W.cell? ⟨g, o0 + k * 4 + 1, none⟩ = some (.string ⟨u.2.1.toArray⟩) ∧ W.cell? ⟨g, o0 + k * 4 + 2, none⟩ = some (.int .i64 u.2.2.1) ∧ W.cell? ⟨g, o0 + k * 4 + 3, none⟩ = some (.int .i64 u.2.2.2)) := fun W hW => by
            obtain ⟨g2, q2, h1, h2⟩ := HR.out W (bel0 hB2 hW) k u hu
            injection h1 with h1
            injection h1 with h1 h3
            subst h1 h3
            exact h2
          have HJ1 : Hid (∀ W : World, Below (wr.alloc O).heap.size (wr.alloc O) W → Calls Tryz.prog 11 #[iagg u, iagg (a, x, ln, cl)] W fun e w' => e = .returned (.bool (joinB u (a, x, ln, cl))) ∧ Below W.heap.size W w') := fun W hW => isJoined_any u (a, x, ln, cl) W (HJ0.out.below (bel0 hB2 hW))
          obtain ⟨jb, hjb⟩ : ∃ jb, joinB u (a, x, ln, cl) = jb := ⟨_, rfl⟩
          simp only [hjb] at HJ1
          obtain ⟨ua, ux, uln, ucl⟩ := u
          have HJ : Hid (∀ W : World, Below (wr.alloc O).heap.size (wr.alloc O) W → Calls Tryz.prog 11 #[.agg #[.int .i64 ua, .string ⟨ux.toArray⟩, .int .i64 uln, .int .i64 ucl], .agg #[.int .i64 a, .string ⟨x.toArray⟩, .int .i64 ln, .int .i64 cl]] W fun e w' => e = .returned (.bool jb) ∧ Below W.heap.size W w') := HJ1.out
          have HWK : Hid (IntKind.i64.wrap (k : Int) = (k : Int)) := by unfold Hid; rw [IntKind.wrap_i64]; omega
          have jk0 : (0 : Int) ≤ (k : Int) := by omega
          have jk1 : (k : Int) < (L.length : Int) := by omega
          have jk2 : (0 : Int) < (k : Int) + 1 := by omega
          have jk3 : (0 : Int) ≤ (k : Int) + 1 := by omega
          have jk4 : (k : Int) + 1 < (L.length : Int) := by omega
          have hjb' : Hid (joinB (ua, ux, uln, ucl) (a, x, ln, cl) = jb) := hjb
          clear hjb HJ1 hprev ht hu hgg
          go_wp2_with fail
          try rw [hO]
          refine quiet_lit3 (C := fun W => Below (wr.alloc O).heap.size (wr.alloc O) W) (by kernel_rfl) (by kernel_rfl) (show Below _ _ _ from (Below.refl _ _).drew) ?_
          go_big_quiet_want
          go_big_quiet_op
          go_big_quiet_on
          go_big_quiet_want
          refine ⟨.bool true, fun W hW => ?_, ?_⟩
          · go_simp
          go_big_quiet_on
          simp only [Act.put, List.setIfInBounds_toArray, List.set_cons_zero, List.set_cons_succ]
          go_big_quiet_want
          go_big_quiet_op
          go_big_quiet_on
          go_big_quiet_want
          go_big_quiet_op
          go_big_quiet_on
          go_big_quiet_want
          go_big_quiet_op
          go_big_quiet_on
          go_big_quiet_want
          refine ⟨.int .i64 (k : Int), fun W hW => ?_, ?_⟩
          · go_simp
            exact HWK.out
          go_big_quiet_on
          simp only [Act.put, List.setIfInBounds_toArray, List.set_cons_zero, List.set_cons_succ]
          go_big_quiet_want
          refine ⟨.pointer (some ⟨g, o0 + k * 4, none⟩), fun W hW => ?_, ?_⟩
          · go_simp
          go_big_quiet_on
          simp only [Act.put, List.setIfInBounds_toArray, List.set_cons_zero, List.set_cons_succ]
          go_big_quiet_want
          refine ⟨.agg #[.int .i64 ua, .string ⟨ux.toArray⟩, .int .i64 uln, .int .i64 ucl], fun W hW => ?_, ?_⟩
          · obtain ⟨z0, z1, z2, z3⟩ := XU.out W hW
            go_simp
          go_big_quiet_on
          simp only [Act.put, List.setIfInBounds_toArray, List.set_cons_zero, List.set_cons_succ]
          go_big_quiet_want
          refine ⟨.agg #[.int .i64 a, .string ⟨x.toArray⟩, .int .i64 ln, .int .i64 cl], fun W hW => ?_, ?_⟩
          · obtain ⟨z0, z1, z2, z3⟩ := XT.out W hW
            go_simp
          go_big_quiet_on
          simp only [Act.put, List.setIfInBounds_toArray, List.set_cons_zero, List.set_cons_succ]
          go_big_quiet_want
          refine ⟨.bool jb, fun W hW => ?_, ?_⟩
          · go_simp
            refine (HJ.out W hW).mono ?_
            rintro e w7 ⟨rfl, hb⟩
            exact ⟨rfl, by have := bel0 hW hb; simpa using this⟩
          go_big_quiet_on
          simp only [Act.put, List.setIfInBounds_toArray, List.set_cons_zero, List.set_cons_succ]
          go_big_quiet_want
          refine ⟨.bool (!jb), fun W hW => ?_, ?_⟩
          · go_simp
          go_big_quiet_on
          simp only [Act.put, List.setIfInBounds_toArray, List.set_cons_zero, List.set_cons_succ]
          go_big_quiet_want
          refine ⟨.bool (!jb), fun W hW => ?_, ?_⟩
          · go_simp
          go_big_quiet_on
          simp only [Act.put, List.setIfInBounds_toArray, List.set_cons_zero, List.set_cons_succ]
          refine wpQuiet_nil ?_
          intro W hW
          have hownW : W.ownsRow w.heap.size 5 1 u4 acc.length (Lib.byteCells acc) := owns_below hown0.out hW
          have hbxW := keepblk hW hbx1.out
          have hBW := bel0 hB2 hW
          have hBWs := hBW.size
          clear p0 p1 p2 p3 XT XU hO HJ
          cases jb with
          | true =>
            have HSTEP : Hid ((if 16384 < (acc ++ x).length then none else prF (some (a, x, ln, cl)) (L.drop (k + 1 + 1)) (acc ++ x)) = R) := by
              have h9 := hstep.symm
              simp only [gapB, hjb'.out, if_true, List.append_nil] at h9
              exact h9
            have hown1 := hownW
            have hbx := hbxW
            have hBx := hBW
            clear hstep hownW hbxW hBW
            have b1 : W.cell? ⟨wr.heap.size, 1, none⟩ = some (.string ⟨x.toArray⟩) := cell_of_row _ _ 1 _ _ _ hbx
            have hBs := hBx.size
            obtain ⟨pv, cv, rfl⟩ := shapeP hown1
            have hxs : (ByteArray.mk x.toArray).size = x.length := by simp [ByteArray.size]
            by_cases hbig2 : 16384 < acc.length + x.length
            · have i9 : (16384 : Int) < (acc.length : Int) + (x.length : Int) := by omega
              have i10 : (16384 : Int) < (acc.length : Int) + (x.length : Int) := by omega
              have hres : Hid (R = none) := by
                unfold Hid
                rw [← HSTEP.out, if_pos (by rw [List.length_append]; exact hbig2)]
              clear HSTEP
              go_wp2_with (at_builtin; refine Lib.wpList_append_own_string _ rfl _ _ 34 9 rfl w.heap.size 5 i0 Tryz.underlying34 Tryz.underlying9 hi hz0 hz1 hz2 _ _ _ rfl hown1 ⟨x.toArray⟩ rfl (by rw [hxs]; unfold maxLen; omega) (by rw [hxs]; omega) hBs ?_; intro v6 w6 oB6 hg6 _; rw [hxs] at oB6; obtain ⟨p6, c6, rfl⟩ := shapeP oB6)
              refine bodyPost_ret (results_pr _ _ _ _ ⟨rfl, rfl⟩) rfl ?_
              exact ⟨by rw [HPM.out, hres.out]; rfl, hBx.grown hg6 hBs (fun k e => (hown1.lt k e).1)⟩
            · have i9 : ¬ (16384 : Int) < (acc.length : Int) + (x.length : Int) := by omega
              have i10 : ¬ (16384 : Int) < (acc.length : Int) + (x.length : Int) := by omega
              have hnext : Hid (prF (some (a, x, ln, cl)) (L.drop ((k + 1) + 1)) (acc ++ x) = R) := by
                unfold Hid
                rw [← HSTEP.out, if_neg (by rw [List.length_append]; exact hbig2)]
              clear HSTEP
              go_wp2_with (at_builtin; refine Lib.wpList_append_own_string _ rfl _ _ 34 9 rfl w.heap.size 5 i0 Tryz.underlying34 Tryz.underlying9 hi hz0 hz1 hz2 _ _ _ rfl hown1 ⟨x.toArray⟩ rfl (by rw [hxs]; unfold maxLen; omega) (by rw [hxs]; omega) hBs ?_; intro v6 w6 oB6 hg6 _; rw [hxs] at oB6; obtain ⟨p6, c6, rfl⟩ := shapeP oB6)
              go_roundw
              case rel => exact ⟨(k + 1) + 1, acc ++ x, some (a, x, ln, cl), by go_num, by omega, by rw [List.length_append]; omega, by rw [List.length_append, byteCells_append]; exact oB6, hBx.grown hg6 hBs (fun k e => (hown1.lt k e).1), hnext, HPREV⟩
              case measure => simp [intOf]; omega
          | false =>
            have HSTEP : Hid ((if 16384 < ((acc ++ [32]) ++ x).length then none else prF (some (a, x, ln, cl)) (L.drop (k + 1 + 1)) ((acc ++ [32]) ++ x)) = R) := by
              have h9 := hstep.symm
              simp only [gapB, hjb'.out, Bool.false_eq_true, if_false] at h9
              exact h9
            have hne := own_not hownW hbxW (by decide)
            have hxs : (ByteArray.mk x.toArray).size = x.length := by simp [ByteArray.size]
            have HSP : Hid (∀ (v5 : Value) (w5 : World), w5.ownsRow w.heap.size 5 1 v5 (acc.length + 1) (Lib.byteCells acc ++ [.int .u8 32]) → (W.alloc (Obj.cells #[.int .u8 32] 5)).grownBy w5 u4.ownBlock → w5.ownsRow w.heap.size 5 1 v5 (acc.length + 1) (Lib.byteCells (acc ++ [32])) ∧ w5.heap[wr.heap.size]? = some (.cells #[.int .i64 a, .string ⟨x.toArray⟩, .int .i64 ln, .int .i64 cl] 31) ∧ Below w.heap.size w w5) := fun v5 w5 oB hg5 => ⟨by rw [byteCells_append]; exact oB, (hg5.block _ (lt_of_get (allocblk hbxW _)) (fun e => hne e.symm)).trans (allocblk hbxW _), (hBW.alloc hBWs _).grown hg5 (by simp; omega) (fun k e => (hownW.lt k e).1)⟩
            have hla : (acc ++ [32]).length = acc.length + 1 := by simp
            obtain ⟨pu, cu, rfl⟩ := shapeP hownW
            clear hstep hbxW hne
            obtain ⟨acc1, hacc1⟩ : ∃ y, acc ++ [32] = y := ⟨_, rfl⟩
            rw [hacc1] at hla HSTEP HSP
            clear hacc1
            have HLA : Hid (acc1.length = acc.length + 1) := hla
            by_cases hbig2 : 16384 < acc1.length + x.length
            · have i9 : (16384 : Int) < (acc1.length : Int) + (x.length : Int) := by omega
              have i10 : (16384 : Int) < ((acc.length : Int) + 1) + (x.length : Int) := by omega
              have hres : Hid (R = none) := by
                unfold Hid
                rw [← HSTEP.out, if_pos (by rw [List.length_append]; exact hbig2)]
              clear HSTEP hla
              go_wp2_with (at_builtin; first | (refine wpList_append_own _ rfl _ _ 34 rfl w.heap.size 5 i0 _ 1 1 Tryz.underlying34 hi hz0 hz1 hz2 rfl (by decide) _ _ _ rfl (hownW.alloc _) ⟨W.heap.size, 0, none⟩ 1 1 [.int .u8 32] rfl rfl (World.news_of_block (cs := #[.int .u8 32]) (t := 5) (fr := (0, 0)) (alloc_get _ _)) (by simp [Value.oneCell']) (by unfold maxLen; omega) (by omega) (by simp; omega) ?_; intro v5 w5 oB hg5 _; obtain ⟨hown1, hbx, hBx⟩ := HSP.out v5 w5 oB hg5; have b1 : w5.cell? ⟨wr.heap.size, 1, none⟩ = some (.string ⟨x.toArray⟩) := cell_of_row _ _ 1 _ _ _ hbx; have hBs := hBx.size; obtain ⟨pv, cv, rfl⟩ := shapeP hown1) | (refine Lib.wpList_append_own_string _ rfl _ _ 34 9 rfl w.heap.size 5 i0 Tryz.underlying34 Tryz.underlying9 hi hz0 hz1 hz2 _ _ _ rfl hown1 ⟨x.toArray⟩ rfl (by rw [hxs]; unfold maxLen; omega) (by rw [hxs]; omega) hBs ?_; intro v6 w6 oB6 hg6 _; rw [hxs] at oB6; obtain ⟨p6, c6, rfl⟩ := shapeP oB6))
              refine bodyPost_ret (results_pr _ _ _ _ ⟨rfl, rfl⟩) rfl ?_
              exact ⟨by rw [HPM.out, hres.out]; rfl, hBx.grown hg6 hBs (fun k e => (hown1.lt k e).1)⟩
            · have i9 : ¬ (16384 : Int) < (acc1.length : Int) + (x.length : Int) := by omega
              have i10 : ¬ (16384 : Int) < ((acc.length : Int) + 1) + (x.length : Int) := by omega
              have hnext : Hid (prF (some (a, x, ln, cl)) (L.drop ((k + 1) + 1)) (acc1 ++ x) = R) := by
                unfold Hid
                rw [← HSTEP.out, if_neg (by rw [List.length_append]; exact hbig2)]
              clear HSTEP hla
              go_wp2_with (at_builtin; first | (refine wpList_append_own _ rfl _ _ 34 rfl w.heap.size 5 i0 _ 1 1 Tryz.underlying34 hi hz0 hz1 hz2 rfl (by decide) _ _ _ rfl (hownW.alloc _) ⟨W.heap.size, 0, none⟩ 1 1 [.int .u8 32] rfl rfl (World.news_of_block (cs := #[.int .u8 32]) (t := 5) (fr := (0, 0)) (alloc_get _ _)) (by simp [Value.oneCell']) (by unfold maxLen; omega) (by omega) (by simp; omega) ?_; intro v5 w5 oB hg5 _; obtain ⟨hown1, hbx, hBx⟩ := HSP.out v5 w5 oB hg5; have b1 : w5.cell? ⟨wr.heap.size, 1, none⟩ = some (.string ⟨x.toArray⟩) := cell_of_row _ _ 1 _ _ _ hbx; have hBs := hBx.size; obtain ⟨pv, cv, rfl⟩ := shapeP hown1) | (refine Lib.wpList_append_own_string _ rfl _ _ 34 9 rfl w.heap.size 5 i0 Tryz.underlying34 Tryz.underlying9 hi hz0 hz1 hz2 _ _ _ rfl hown1 ⟨x.toArray⟩ rfl (by rw [hxs]; unfold maxLen; omega) (by rw [hxs]; omega) hBs ?_; intro v6 w6 oB6 hg6 _; rw [hxs] at oB6; obtain ⟨p6, c6, rfl⟩ := shapeP oB6))
              go_roundw
              case rel => exact ⟨(k + 1) + 1, acc1 ++ x, some (a, x, ln, cl), by go_num, by omega, by rw [List.length_append, HLA.out]; omega, by rw [List.length_append, HLA.out, byteCells_append]; exact oB6, hBx.grown hg6 hBs (fun k e => (hown1.lt k e).1), hnext, HPREV⟩
              case measure => simp [intOf]; omega
      · have j1 : ¬ (k : Int) < (L.length : Int) := by omega
        have hres : Hid (R = some acc) := by
          unfold Hid
          rw [← hrun.out, List.drop_eq_nil_of_le (by omega), prF]
        have hcv := conv_own acc hown
        obtain ⟨pv, cv, rfl⟩ := shapeP hown
        clear hrun hprev hown
        go_wp2_with fail
        refine bodyPost_ret (results_pr _ _ _ _ ⟨rfl, rfl⟩) rfl ?_
        exact ⟨by rw [HPM.out, hres.out]; rfl, hB⟩
end Go.Proofs.YtialcphfaleedaaGreatDoor
namespace Go.Proofs.YtialcphfaleedaaGreatDoor
open Go.RowKit Go.Shelf
theorem scan_a : ∃ p q, scanM [97] = ([(2, [97], p), (1, [10], q)], 0, 0, 0) := by
  have hk : kl [97] 0 = 3 := by decide
  have hk1 : kl [97] 1 = 0 := kl0.2 (by decide)
  have hw : wrun [97] 1 = 1 := wrun_no (by unfold inW; rw [hk1]; rfl)
  have hd : ¬ dotA [97] 1 3 = true := by unfold dotA; rw [hk1]; simp
  have htc : tokC [97] 0 = (2, 1) := by
    unfold tokC
    rw [if_pos hk]
    show (if dotA [97] (wrun [97] 1) 3 = true then ((3 : Nat), wrun [97] (wrun [97] 1 + 1)) else (2, wrun [97] 1)) = _
    rw [hw, if_neg hd]
  have hs : subL [97] 0 1 = [97] := rfl
  have hf : faultE 2 [97] = 0 := by
    unfold faultE
    have hp : parts [97] = [[97]] := by rw [parts, if_pos (by decide)]
    rw [if_pos (.inl rfl), hp]
    rfl
  have h7 : ¬ (kl [97] 0 = 7 ∧ quoE [97] 0 ≠ 0) := fun h => by omega
  have he : tokE [97] 0 = 0 := by
    unfold tokE
    rw [if_neg h7, htc]
    exact hf
  have hj : tokJ [97] 0 = 1 := by
    unfold tokJ
    rw [if_neg h7, htc]
    exact if_pos hf
  unfold scanM
  rw [if_neg (by decide)]
  show ∃ p q, runM 2 [97] 0 1 0 [] = _
  rw [runM_tok (by omega) (by omega) (by omega) (by omega) he, hj, htc, hs, runM_end (.inr hk1)]
  unfold lendM
  rw [if_pos hk1]
  exact ⟨_, _, rfl⟩
/-- what Scan answers of two texts with a newline between -/
theorem scan_joins (a b : List UInt8) (h : a.length + b.length + 1 ≤ 16384) : scanM (a ++ [10] ++ b) = if (scanM a).2.1 ≠ 0 then scanM a else shR (scanM a).1 (nls a + 1) (scanM b) := by
  have e : ∀ l : List UInt8, l.length ≤ 16384 → scanM l = textM l 1 [] := fun l hl => by unfold scanM; rw [if_neg (by omega)]; rfl
  rw [e _ (by simp; omega), e a (by omega), e b (by omega), ← text_joins]
  simp
theorem scan_done (a : List UInt8) (h : a.length ≤ 16384) : ((scanM a).2.1 = 0 → (scanM a).2 = (0, 0, 0)) ∧ ((scanM a).2.1 ≠ 0 → (scanM a).1 = []) := by
  unfold scanM
  rw [if_neg (by omega)]
  have := run_done a (a.length + 1) 0 1 0 [] (by omega)
  exact ⟨fun h => (this.1 h).2, this.2⟩
theorem own_slice {w : World} {B e sz n : Nat} {v : Value} {xs : List Value} (h : w.ownsRow B e sz v n xs) : ∃ o c, v = .slice o n c := by
  rcases h.2 with hh | ⟨g, c, cur, h1, h2, h3, h4⟩
  · exact ⟨none, 0, by rw [hh.2]; exact hh.1⟩
  · exact ⟨_, c, h1⟩
end Go.Proofs.YtialcphfaleedaaGreatDoor
namespace Go.Proofs.YtialcphfaleedaaGreatDoor
open Go.RowKit Go.Shelf
theorem cat10 (a b : List UInt8) : ByteArray.mk a.toArray ++ ByteArray.mk #[10] ++ ByteArray.mk b.toArray = ⟨(a ++ [10] ++ b).toArray⟩ := ByteArray.ext (by simp)
/-- Scan's answer at a text, in plain words -/
def SA1 (w : World) (T : ByteArray) (r : Res) : Prop := ∀ W : World, Below w.heap.size w W → Calls Tryz.prog 6 #[.string T] W fun e w' =>
  ∃ o c, e = .returned (.tuple #[.slice o r.1.length c, .int .i64 (r.2.1 : Int), .int .i64 (r.2.2.1 : Int), .int .i64 (r.2.2.2 : Int)]) ∧ w'.ownsRow W.heap.size 31 4 (.slice o r.1.length c) r.1.length (tcels r.1) ∧ Below W.heap.size W w' ∧ Below w.heap.size w w'
theorem sa1 {w : World} (hv1 : SH w) (hv4 : SG w) (hv5 : VW w) (l : List UInt8) (hl : l.length ≤ 16384) : SA1 w ⟨l.toArray⟩ (scanM l) := fun W hW => by
  have h := scan_any l W (by omega) (hv1.below hW) (hv4.below hW) (FOK_of (hv5.below hW))
  refine h.mono ?_
  rintro e w' ⟨v, h1, h2, h3⟩
  obtain ⟨o, c, rfl⟩ := own_slice h2
  exact ⟨o, c, h1, h2, h3, bel0 hW h3⟩
end Go.Proofs.YtialcphfaleedaaGreatDoor
namespace Go.Proofs.YtialcphfaleedaaGreatDoor
open Go.RowKit Go.Shelf
theorem endT_lines {D : List Tok} {line col M : Nat} (hD : ∀ t ∈ D, t.2.2.1 ≤ M) (hl : line ≤ M) : ∀ t ∈ endT D line col, t.2.2.1 ≤ M := by
  unfold endT
  intro t ht
  cases h : D.getLast? with
  | none => simp only [h] at ht; exact hD t ht
  | some u =>
    simp only [h] at ht
    split at ht
    · exact hD t ht
    · rcases List.mem_append.1 ht with h | h
      · exact hD t h
      · rw [List.mem_singleton.1 h]; exact hl
theorem run_lines (l : List UInt8) (M : Nat) : ∀ (f j line hb : Nat) (D : List Tok), l.length - j < f → line + (l.length - j) ≤ M → (∀ t ∈ D, t.2.2.1 ≤ M) → (∀ t ∈ (runM f l j line hb D).1, t.2.2.1 ≤ M) ∧ (runM f l j line hb D).2.2.1 ≤ M
  | 0, j, line, hb, D, hf, hm, hD => by omega
  | f + 1, j, line, hb, D, hf, hm, hD => by
    have hend : ∀ e, j ≤ e → (∀ t ∈ (lendM f l e line hb D).1, t.2.2.1 ≤ M) ∧ (lendM f l e line hb D).2.2.1 ≤ M := fun e he => by
      unfold lendM
      by_cases h0 : kl l e = 0
      · rw [if_pos h0]
        exact ⟨endT_lines hD (by omega), Nat.zero_le _⟩
      · have hlt : e < l.length := Classical.byContradiction (fun h => h0 (kl0.2 h))
        rw [if_neg h0]
        exact run_lines l M f _ _ _ _ (by omega) (by omega) (endT_lines hD (by omega))
    by_cases h10 : kl l j = 1 ∨ kl l j = 0
    · rw [runM_end h10]
      exact hend j (Nat.le_refl _)
    have h1 : kl l j ≠ 1 := fun e => h10 (.inl e)
    have h0 : kl l j ≠ 0 := fun e => h10 (.inr e)
    have hj : j < l.length := Classical.byContradiction (fun e => h0 (kl0.2 e))
    by_cases h2 : kl l j = 2
    · rw [runM_blank h2]
      exact run_lines l M f _ _ _ _ (by omega) (by omega) hD
    by_cases h8 : kl l j = 8
    · rw [runM_hash h8]
      have := cend_ge (l := l) _ (j + 1) (Nat.le_refl _)
      exact hend _ (by omega)
    by_cases he : tokE l j = 0
    · obtain ⟨a1, a2⟩ := tok_adv hj h1 he
      rw [runM_tok h2 h8 h1 h0 he]
      refine run_lines l M f _ _ _ _ (by omega) (by omega) (fun t ht => ?_)
      rcases List.mem_append.1 ht with h | h
      · exact hD t h
      · rw [List.mem_singleton.1 h]
        show line ≤ M
        omega
    · rw [runM_err h2 h8 h1 h0 he]
      exact ⟨fun t ht => by simp at ht, by show line ≤ M; omega⟩
theorem scan_lines (l : List UInt8) (h : l.length ≤ 16384) : (∀ t ∈ (scanM l).1, t.2.2.1 ≤ 16385) ∧ (scanM l).2.2.1 ≤ 16385 := by
  unfold scanM
  rw [if_neg (by omega)]
  exact run_lines l 16385 (l.length + 1) 0 1 0 [] (by omega) (by omega) (fun t ht => by simp at ht)
end Go.Proofs.YtialcphfaleedaaGreatDoor
namespace Go.Proofs.YtialcphfaleedaaGreatDoor
open Go.RowKit Go.Shelf
/-- the next spot: its byte, line and column -/
def nxt (l : List UInt8) (s : Nat × Nat × Nat) : Nat × Nat × Nat := (s.1 + (dc l s.1).2, if kl l s.1 = 1 then (s.2.1 + 1, 1) else (s.2.1, s.2.2 + 1))
def stN (l : List UInt8) : Nat → Nat × Nat × Nat → Nat × Nat × Nat → Prop
  | 0, s, t => s = t
  | n + 1, s, t => s.1 < l.length ∧ stN l n (nxt l s) t
theorem stN_trans {l : List UInt8} : ∀ (n m : Nat) (s t u : Nat × Nat × Nat), stN l n s t → stN l m t u → stN l (n + m) s u
  | 0, m, s, t, u, h1, h2 => by
    rw [Nat.zero_add, show s = t from h1]
    exact h2
  | n + 1, m, s, t, u, h1, h2 => by
    rw [show n + 1 + m = (n + m) + 1 by omega]
    exact ⟨h1.1, stN_trans n m _ t u h1.2 h2⟩
theorem nxt_lt (l : List UInt8) (s : Nat × Nat × Nat) : s.2.1 < (nxt l s).2.1 ∨ (s.2.1 = (nxt l s).2.1 ∧ s.2.2 < (nxt l s).2.2) := by
  unfold nxt
  by_cases h : kl l s.1 = 1
  · rw [if_pos h]; exact .inl (Nat.lt_succ_self _)
  · rw [if_neg h]; exact .inr ⟨rfl, Nat.lt_succ_self _⟩
theorem stN_lt {l : List UInt8} : ∀ (n : Nat) (s t : Nat × Nat × Nat), stN l (n + 1) s t → s.2.1 < t.2.1 ∨ (s.2.1 = t.2.1 ∧ s.2.2 < t.2.2)
  | 0, s, t, h => by
    have := nxt_lt l s
    rw [show nxt l s = t from h.2] at this
    exact this
  | n + 1, s, t, h => by
    have h1 := nxt_lt l s
    have h2 := stN_lt n _ t h.2
    omega
theorem stN_ne {l : List UInt8} {n : Nat} {s t : Nat × Nat × Nat} (h : stN l n s t) (he : s.2 = t.2) : n = 0 ∧ s = t := by
  match n, h with
  | 0, h => exact ⟨rfl, h⟩
  | n + 1, h =>
    have := stN_lt n s t h
    rw [he] at this
    omega
/-- along a line -/
theorem stN_walk {l : List UInt8} : ∀ (m p q : Nat), q - p ≤ m → p ≤ q → q ≤ l.length → RE l p → RE l q → (∀ r, p ≤ r → r < q → bt l r ≠ 10) → ∀ line col, ci l p ≤ ci l q ∧ stN l (ci l q - ci l p) (p, line, col) (q, line, col + (ci l q - ci l p))
  | m, p, q, hm, hpq, hq, h1, h2, hb, line, col => by
    rcases Nat.lt_or_ge p q with h | h
    · match m, hm with
      | 0, hm => omega
      | m + 1, hm =>
        have hp := dc_pos l p
        have a1 := h1.at
        have a2 := h2.at
        have a3 := a1.next (show p < l.length by omega)
        have hle := dc_le l p (by omega)
        have hlt := at_mono a1 a2 h hq
        have hstep : p + (dc l p).2 ≤ q := Classical.byContradiction (fun hc => by
          have := at_mono a2 a3 (by omega) hle
          omega)
        have h3 : RE l (p + (dc l p).2) := ⟨_, a3⟩
        have ih := stN_walk m (p + (dc l p).2) q (by omega) hstep hq h3 h2 (fun r hr1 hr2 => hb r (by omega) hr2) line (col + 1)
        have e3 := a3.ci
        rw [← e3] at ih
        refine ⟨by omega, ?_⟩
        rw [show ci l q - ci l p = (ci l q - (ci l p + 1)) + 1 by omega]
        refine ⟨by show p < l.length; omega, ?_⟩
        have hk : kl l p ≠ 1 := fun e => hb p (Nat.le_refl _) h (kl_one e)
        unfold nxt
        rw [if_neg hk, show col + (ci l q - (ci l p + 1) + 1) = col + 1 + (ci l q - (ci l p + 1)) by omega]
        exact ih.2
    · have e : p = q := by omega
      subst e
      refine ⟨Nat.le_refl _, ?_⟩
      rw [Nat.sub_self]
      rfl
/-- blanks, comments and ends of lines: is a comment open behind them -/
def idF : List UInt8 → Bool → Option Bool
  | [], c => some c
  | b :: r, c => if b = 10 then idF r false else if b = 35 then idF r true else if c = false ∧ b ≠ 32 ∧ b ≠ 9 ∧ b ≠ 13 then none else idF r c
theorem idF_app : ∀ (x y : List UInt8) (c : Bool), idF (x ++ y) c = (idF x c).bind (idF y)
  | [], y, c => rfl
  | b :: x, y, c => by
    rw [List.cons_append, idF, idF]
    split
    · exact idF_app x y _
    · split
      · exact idF_app x y _
      · split
        · rfl
        · exact idF_app x y _
theorem idF_open : ∀ x : List UInt8, (∀ c ∈ x, c ≠ 10) → idF x true = some true
  | [], _ => rfl
  | b :: x, h => by
    rw [idF, if_neg (h b (by simp))]
    split
    · exact idF_open x (fun c hc => h c (by simp [hc]))
    · rw [if_neg (by simp)]
      exact idF_open x (fun c hc => h c (by simp [hc]))
theorem sub_self (l : List UInt8) (i : Nat) : subL l i i = [] := by unfold subL; simp
theorem sub_app {l : List UInt8} {i j k : Nat} (h1 : i ≤ j) (h2 : j ≤ k) : subL l i k = subL l i j ++ subL l j k := by
  unfold subL
  rw [show k - i = (j - i) + (k - j) by omega, List.take_add, List.drop_drop, show i + (j - i) = j by omega]
theorem sub_one {l : List UInt8} {i : Nat} (h : i < l.length) : subL l i (i + 1) = [l[i]] := by
  unfold subL
  rw [Nat.add_sub_cancel_left, List.drop_eq_getElem_cons h]
  rfl
theorem sub_end (l : List UInt8) (i : Nat) : subL l i l.length = l.drop i := by
  unfold subL
  exact List.take_of_length_le (by simp)
theorem bt_at' {l : List UInt8} {i : Nat} (h : i < l.length) : bt l i = l[i].toNat := bt_of (List.getElem?_eq_getElem h)
/-- what lies from a byte on -/
def PLc (l : List UInt8) : Nat → Nat × Nat × Nat → Nat → List Tok → Prop
  | fr, _, _, [] => fr ≤ l.length ∧ ∃ c, idF (l.drop fr) false = some c
  | fr, s, pl, t :: r => ∃ n a, stN l n s (a, t.2.2.1, t.2.2.2) ∧ fr ≤ a ∧ a ≤ l.length ∧
      (t.1 ≠ 1 → idF (subL l fr a) false = some false ∧ subL l a (a + t.2.1.length) = t.2.1 ∧ a + t.2.1.length ≤ l.length ∧ PLc l (a + t.2.1.length) (a, t.2.2.1, t.2.2.2) t.2.2.1 r) ∧
      (t.1 = 1 → (∃ c, idF (subL l fr a) false = some c) ∧ pl = t.2.2.1 ∧ t.2.1 = [10] ∧ ((a = l.length ∧ PLc l a (a, t.2.2.1, t.2.2.2) t.2.2.1 r) ∨ (a < l.length ∧ bt l a = 10 ∧ PLc l (a + 1) (a, t.2.2.1, t.2.2.2) t.2.2.1 r)))
/-- is a line begun -/
def opn (D : List Tok) : Prop := ∃ t, D.getLast? = some t ∧ t.1 ≠ 1
theorem endT_open {D : List Tok} (h : opn D) (line col : Nat) : endT D line col = D ++ [(1, [10], line, col)] := by
  obtain ⟨t, h1, h2⟩ := h
  unfold endT
  rw [h1]
  exact if_neg h2
theorem endT_shut {D : List Tok} (h : ¬ opn D) (line col : Nat) : endT D line col = D := by
  unfold endT
  cases hd : D.getLast? with
  | none => rfl
  | some t =>
    simp only
    by_cases h1 : t.1 = 1
    · rw [if_pos h1]
    · exact absurd ⟨t, hd, h1⟩ h
theorem not_opn_end (D : List Tok) (line col : Nat) : ¬ opn (endT D line col) := by
  rintro ⟨t, h1, h2⟩
  exact h2 (endT_ended D line col t h1)
/-- a text from a byte on: its line there -/
theorem cut_at (l : List UInt8) {j : Nat} (hj : j ≤ l.length) : ∃ P a S, l = P ++ (a ++ S) ∧ P.length = j ∧ stopL S ∧ ∀ c ∈ a, c ≠ 10 := by
  obtain ⟨a, S, e, hS, ha⟩ := cut (l.drop j)
  exact ⟨l.take j, a, S, by rw [← e, List.take_append_drop], by simp; omega, hS, ha⟩
theorem line_bt {P a S : List UInt8} (ha : ∀ c ∈ a, c ≠ 10) {r : Nat} (h1 : P.length ≤ r) (h2 : r < P.length + a.length) : bt (P ++ (a ++ S)) r ≠ 10 := by
  obtain ⟨k, rfl⟩ : ∃ k, r = P.length + k := ⟨r - P.length, by omega⟩
  have hk : k < a.length := by omega
  rw [btL hk, bt_at' hk]
  intro e
  exact ha _ (List.getElem_mem hk) (UInt8.toNat_inj.1 e)
/-- no token goes over a newline -/
theorem tok_nonl {l : List UInt8} {j : Nat} (hj : j < l.length) (h1 : kl l j ≠ 1) (he : tokE l j = 0) : ∀ r, j ≤ r → r < tokJ l j → bt l r ≠ 10 := by
  obtain ⟨P, a, S, rfl, rfl, hS, ha⟩ := cut_at l (Nat.le_of_lt hj)
  have h0 : 0 < a.length := by
    refine Nat.pos_of_ne_zero (fun e => ?_)
    rcases klE (P := P) (a := a) hS with h | h
    · rw [e] at h
      exact (kl0.1 h) hj
    · rw [e] at h
      exact h1 h
  have ht := tokEL (P := P) (S := S) hS h0
  rw [Nat.add_zero] at ht
  rw [ht.1] at he
  have hk : kl a 0 ≠ 1 := noNL_of ha 0 h0
  have h2 := tok_adv h0 hk he
  intro r hr1 hr2
  rw [ht.2] at hr2
  exact line_bt ha hr1 (by omega)
/-- a comment ends with its line -/
theorem cend_nonl {l : List UInt8} {j : Nat} (hj : j ≤ l.length) : j ≤ cend l j ∧ cend l j ≤ l.length ∧ (∀ r, j ≤ r → r < cend l j → bt l r ≠ 10) ∧ (kl l (cend l j) = 0 ∨ kl l (cend l j) = 1) := by
  obtain ⟨P, a, S, rfl, rfl, hS, ha⟩ := cut_at l hj
  have h := cendL (P := P) hS (noNL_of ha) _ 0 (Nat.le_refl _) (Nat.zero_le _)
  rw [Nat.add_zero] at h
  rw [h]
  exact ⟨by omega, by simp, fun r h1 h2 => line_bt ha h1 h2, klE hS⟩
theorem tokC_kind (l : List UInt8) (j : Nat) : (tokC l j).1 ≠ 1 := by
  unfold tokC endF
  repeat' split
  all_goals first | decide | (intro h; simp at h)
theorem idF_more {l : List UInt8} {fr j e : Nat} {c : Bool} (h1 : fr ≤ j) (h2 : j ≤ e) (h : idF (subL l fr j) false = some c) : idF (subL l fr e) false = idF (subL l j e) c := by
  rw [sub_app h1 h2, idF_app, h]
  rfl
theorem idF_nl {l : List UInt8} {j : Nat} (hj : j < l.length) (hb : bt l j = 10) (c : Bool) : idF (subL l j (j + 1)) c = some false := by
  rw [sub_one hj, idF, if_pos (UInt8.toNat_inj.1 (by rw [← bt_at' hj, hb]; rfl))]
  rfl
/-- where the tokens lie that come from a byte on -/
def PLR (l : List UInt8) (j line hb : Nat) (D R : List Tok) : Prop := ∀ fr s pl n, fr ≤ j → idF (subL l fr j) false = some false → stN l n s (j, line, ci l j - ci l hb + 1) → (opn D → pl = line) → PLc l fr s pl R
theorem RE_nl {l : List UInt8} {e : Nat} (h : RE l e) (hb : bt l e = 10) (he : e < l.length) : RE l (e + 1) := h.asc he (by omega)
theorem lend_placed {l : List UInt8} {f e line hb : Nat} {D : List Tok} (he : e ≤ l.length) (hk : kl l e = 0 ∨ kl l e = 1)
    (ih : ∀ D' : List Tok, e < l.length → (runM f l (e + 1) (line + 1) (e + 1) D').2.1 = 0 → ∃ R, (runM f l (e + 1) (line + 1) (e + 1) D').1 = D' ++ R ∧ PLR l (e + 1) (line + 1) (e + 1) D' R)
    (h0 : (lendM f l e line hb D).2.1 = 0) :
    ∃ R, (lendM f l e line hb D).1 = D ++ R ∧ ∀ fr s pl n c, fr ≤ e → idF (subL l fr e) false = some c → stN l n s (e, line, ci l e - ci l hb + 1) → (opn D → pl = line) → PLc l fr s pl R := by
  unfold lendM at h0 ⊢
  by_cases hz : kl l e = 0
  · have hel : e = l.length := by
      have := kl0.1 hz
      omega
    rw [if_pos hz]
    by_cases ho : opn D
    · refine ⟨_, endT_open ho _ _, fun fr s pl n c hfr hi hst hpl => ?_⟩
      refine ⟨n, e, hst, hfr, he, fun h => absurd rfl h, fun _ => ⟨⟨c, hi⟩, hpl ho, rfl, .inl ⟨hel, he, false, ?_⟩⟩⟩
      rw [hel, List.drop_length]
      rfl
    · refine ⟨[], by rw [endT_shut ho, List.append_nil], fun fr s pl n c hfr hi hst hpl => ?_⟩
      refine ⟨by omega, c, ?_⟩
      rw [← sub_end, ← hel]
      exact hi
  · have h1 : kl l e = 1 := hk.resolve_left hz
    have hel : e < l.length := Classical.byContradiction (fun h => hz (kl0.2 h))
    have hb10 := kl_one h1
    rw [if_neg hz] at h0 ⊢
    obtain ⟨R, hR, hP⟩ := ih _ hel h0
    have hstep : ∀ col, stN l 1 (e, line, col) (e + 1, line + 1, ci l (e + 1) - ci l (e + 1) + 1) := fun col => by
      have hd : dc l e = (10, 1) := by rw [dc_asc (by omega), hb10]
      refine ⟨hel, ?_⟩
      show nxt l (e, line, col) = _
      unfold nxt
      simp only
      rw [if_pos h1, hd, Nat.sub_self]
    by_cases ho : opn D
    · refine ⟨(1, [10], line, ci l e - ci l hb + 1) :: R, by rw [hR, endT_open ho, List.append_assoc]; rfl, fun fr s pl n c hfr hi hst hpl => ?_⟩
      refine ⟨n, e, hst, hfr, he, fun h => absurd rfl h, fun _ => ⟨⟨c, hi⟩, hpl ho, rfl, .inr ⟨hel, hb10, ?_⟩⟩⟩
      exact hP (e + 1) _ _ 1 (Nat.le_refl _) (by rw [sub_self]; rfl) (hstep _) (fun h => absurd h (not_opn_end _ _ _))
    · refine ⟨R, by rw [hR, endT_shut ho], fun fr s pl n c hfr hi hst hpl => ?_⟩
      refine hP fr s pl (n + 1) (by omega) ?_ (stN_trans n 1 _ _ _ hst (hstep _)) (fun h => absurd h (not_opn_end _ _ _))
      rw [idF_more hfr (Nat.le_succ _) hi]
      exact idF_nl hel hb10 c
set_option maxHeartbeats 1000000 in
theorem run_placed (l : List UInt8) : ∀ (f j line hb : Nat) (D : List Tok), l.length - j < f → hb ≤ j → j ≤ l.length → RE l j → RE l hb → (∀ r, hb ≤ r → r < j → bt l r ≠ 10) → (runM f l j line hb D).2.1 = 0 → ∃ R, (runM f l j line hb D).1 = D ++ R ∧ PLR l j line hb D R
  | 0, j, line, hb, D, hf, _, _, _, _, _, _ => by omega
  | f + 1, j, line, hb, D, hf, hbj, hj, hr, hrb, hnl, h0 => by
    have hcb : ci l hb ≤ ci l j := (stN_walk _ hb j (Nat.le_refl _) hbj hj hrb hr hnl 0 0).1
    have IH : ∀ e, j ≤ e → ∀ D' : List Tok, RE l e → bt l e = 10 → e < l.length → (runM f l (e + 1) (line + 1) (e + 1) D').2.1 = 0 → ∃ R, (runM f l (e + 1) (line + 1) (e + 1) D').1 = D' ++ R ∧ PLR l (e + 1) (line + 1) (e + 1) D' R := fun e hje D' hre hbe hel h =>
      run_placed l f (e + 1) (line + 1) (e + 1) D' (by omega) (Nat.le_refl _) hel (RE_nl hre hbe hel) (RE_nl hre hbe hel) (fun r h1 h2 => by omega) h
    by_cases h10 : kl l j = 1 ∨ kl l j = 0
    · rw [runM_end h10] at h0 ⊢
      obtain ⟨R, hR, hP⟩ := lend_placed hj h10.symm (fun D' hel h => by
        rcases h10 with h1 | h1
        · exact IH j (Nat.le_refl _) D' hr (kl_one h1) hel h
        · exact absurd hel (kl0.1 h1)) h0
      exact ⟨R, hR, fun fr s pl n hfr hi hst hpl => hP fr s pl n false hfr hi hst hpl⟩
    have h1 : kl l j ≠ 1 := fun e => h10 (.inl e)
    have hz : kl l j ≠ 0 := fun e => h10 (.inr e)
    have hlt : j < l.length := Classical.byContradiction (fun e => hz (kl0.2 e))
    have hb10 : bt l j ≠ 10 := fun e => h1 (by rw [kl, (chr_asc l j 10 (by decide)).2 ⟨hlt, e⟩]; rfl)
    by_cases h2 : kl l j = 2
    · have hasc := (kl_asc (l := l) (j := j) (by omega) (by omega)).2
      have hr2 := hr.asc hlt hasc
      have hn2 : ∀ r, hb ≤ r → r < j + 1 → bt l r ≠ 10 := fun r a1 a2 => by
        rcases Nat.lt_or_ge r j with h | h
        · exact hnl r a1 h
        · rw [show r = j by omega]; exact hb10
      rw [runM_blank h2] at h0 ⊢
      obtain ⟨R, hR, hP⟩ := run_placed l f (j + 1) line hb D (by omega) (by omega) hlt hr2 hrb hn2 h0
      refine ⟨R, hR, fun fr s pl n hfr hi hst hpl => ?_⟩
      obtain ⟨c1, c2⟩ := stN_walk 1 j (j + 1) (by omega) (by omega) hlt hr hr2 (fun r a1 a2 => hn2 r (by omega) a2) line (ci l j - ci l hb + 1)
      refine hP fr s pl _ (by omega) ?_ (stN_trans n _ _ _ _ hst (by rw [show ci l j - ci l hb + 1 + (ci l (j + 1) - ci l j) = ci l (j + 1) - ci l hb + 1 by omega] at c2; exact c2)) hpl
      rw [idF_more hfr (Nat.le_succ _) hi, sub_one hlt]
      have hbl := blank_bt h2
      rw [bt_at' hlt] at hbl
      have hl : l[j] = 32 ∨ l[j] = 9 ∨ l[j] = 13 := by
        rcases hbl with h | h | h
        · exact .inl (UInt8.toNat_inj.1 h)
        · exact .inr (.inl (UInt8.toNat_inj.1 h))
        · exact .inr (.inr (UInt8.toNat_inj.1 h))
      rcases hl with h | h | h <;> rw [h] <;> rfl
    by_cases h8 : kl l j = 8
    · have hb35 := (hash_bt h8).2
      have hr2 := hr.asc hlt (by omega)
      obtain ⟨k1, k2, k3, k4⟩ := cend_nonl (l := l) (j := j + 1) hlt
      have hre := RE.cend (l := l) _ (j + 1) (Nat.le_refl _) hr2
      rw [runM_hash h8] at h0 ⊢
      have hne : ∀ r, j ≤ r → r < cend l (j + 1) → bt l r ≠ 10 := fun r a1 a2 => by
        rcases Nat.lt_or_ge j r with h | h
        · exact k3 r h a2
        · rw [show r = j by omega]; exact hb10
      obtain ⟨R, hR, hP⟩ := lend_placed k2 k4 (fun D' hel h => by
        rcases k4 with h1 | h1
        · exact absurd hel (kl0.1 h1)
        · exact IH _ (by omega) D' hre (kl_one h1) hel h) h0
      refine ⟨R, hR, fun fr s pl n hfr hi hst hpl => ?_⟩
      obtain ⟨c1, c2⟩ := stN_walk _ j (cend l (j + 1)) (Nat.le_refl _) (by omega) k2 hr hre hne line (ci l j - ci l hb + 1)
      refine hP fr s pl _ true (by omega) ?_ (stN_trans n _ _ _ _ hst (by rw [show ci l j - ci l hb + 1 + (ci l (cend l (j + 1)) - ci l j) = ci l (cend l (j + 1)) - ci l hb + 1 by omega] at c2; exact c2)) hpl
      rw [idF_more hfr (by omega) hi, sub_app (Nat.le_succ j) k1, sub_one hlt, idF_app]
      have e35 : l[j] = 35 := UInt8.toNat_inj.1 (by rw [← bt_at' hlt, hb35]; rfl)
      rw [e35]
      refine idF_open _ (fun c hc e => ?_)
      obtain ⟨m, hm, rfl⟩ := List.mem_iff_getElem.1 hc
      obtain ⟨g1, g2⟩ := sub_get (List.getElem?_eq_getElem hm)
      exact k3 (j + 1 + m) (by omega) g2 (by rw [bt_of g1, e]; rfl)
    by_cases he : tokE l j = 0
    · obtain ⟨a1, a2⟩ := tok_adv hlt h1 he
      have a3 := tok_nonl hlt h1 he
      have hrt := RE.tok hr hlt
      have hsm := tok_same he
      rw [runM_tok h2 h8 h1 hz he] at h0 ⊢
      obtain ⟨R, hR, hP⟩ := run_placed l f (tokJ l j) line hb _ (by omega) (by omega) a2 hrt hrb (fun r b1 b2 => by
        rcases Nat.lt_or_ge r j with h | h
        · exact hnl r b1 h
        · exact a3 r h b2) h0
      refine ⟨((tokC l j).1, subL l j (tokC l j).2, line, ci l j - ci l hb + 1) :: R, by rw [hR, List.append_assoc]; rfl, fun fr s pl n hfr hi hst hpl => ?_⟩
      have hlen : j + (subL l j (tokC l j).2).length = tokJ l j := by
        rw [← hsm]
        unfold subL
        simp
        omega
      refine ⟨n, j, hst, hfr, hj, fun _ => ⟨hi, ?_, ?_, ?_⟩, fun h => absurd h (tokC_kind l j)⟩
      · show subL l j (j + (subL l j (tokC l j).2).length) = subL l j (tokC l j).2
        rw [hlen, hsm]
      · show j + (subL l j (tokC l j).2).length ≤ l.length
        rw [hlen]; exact a2
      · show PLc l (j + (subL l j (tokC l j).2).length) _ _ R
        rw [hlen]
        obtain ⟨c1, c2⟩ := stN_walk _ j (tokJ l j) (Nat.le_refl _) (by omega) a2 hr hrt a3 line (ci l j - ci l hb + 1)
        rw [show ci l j - ci l hb + 1 + (ci l (tokJ l j) - ci l j) = ci l (tokJ l j) - ci l hb + 1 by omega] at c2
        exact hP _ _ _ (ci l (tokJ l j) - ci l j) (Nat.le_refl _) (by rw [sub_self]; rfl) c2 (fun _ => rfl)
    · rw [runM_err h2 h8 h1 hz he] at h0
      exact absurd h0 he
theorem scan_placed (l : List UInt8) (h : l.length ≤ 16384) (he : (scanM l).2.1 = 0) : PLc l 0 (0, 1, 1) 0 (scanM l).1 := by
  unfold scanM at he ⊢
  rw [if_neg (by omega)] at he ⊢
  obtain ⟨R, hR, hP⟩ := run_placed l (l.length + 1) 0 1 0 [] (by omega) (Nat.le_refl _) (Nat.zero_le _) (RE.zero l) (RE.zero l) (fun r h1 h2 => by omega) he
  rw [hR]
  refine hP 0 (0, 1, 1) 0 0 (Nat.le_refl _) (by rw [sub_self]; rfl) ?_ (fun ⟨t, h1, _⟩ => by cases h1)
  rw [Nat.sub_self]
  rfl
end Go.Proofs.YtialcphfaleedaaGreatDoor
namespace Go.Proofs.YtialcphfaleedaaGreatDoor
open Go.RowKit Go.Shelf
def joinK (a b : KT) : Bool := joinB ((a.1 : Int), a.2, 0, 0) ((b.1 : Int), b.2, 0, 0)
def gapK (p : Option KT) (t : KT) : List UInt8 := match p with
  | some u => if joinK u t = true then [] else [32]
  | none => []
/-- the text of tokens -/
def prT : Option KT → List KT → List UInt8
  | _, [] => []
  | p, t :: r => gapK p t ++ (t.2 ++ prT (some t) r)
theorem joinK_cases {a b : KT} (ha : a.1 ≠ 1) (hb : b.1 ≠ 1) (h : joinK a b = true) :
    (a.2 = [40] ∨ a.2 = [47] ∨ a.2 = [46, 46] ∨ a.2 = [58]) ∨ (b.2 = [41] ∨ b.2 = [44] ∨ b.2 = [47] ∨ b.2 = [46, 46] ∨ b.2 = [58]) ∨ (a.2 = [33] ∧ (b.1 = 2 ∨ b.2 = [40] ∨ b.2 = [33])) := by
  have e1 : ((1 : Int) == (a.1 : Int)) = false := by rw [beq_eq_false_iff_ne]; omega
  have e2 : ((1 : Int) == (b.1 : Int)) = false := by rw [beq_eq_false_iff_ne]; omega
  unfold joinK joinB at h
  simp only [joinedT, List.any_cons, List.any_nil, likeB, e1, e2] at h
  simp at h
  rcases h with h | h | h | h | h | h | h | h | h | h | h | h
  all_goals simp_all
  all_goals first
    | exact .inr (.inr (.inr (.inr (h.2.symm.trans h.1))))
    | exact .inr (.inr (.inl (by omega)))
theorem joinK_end (a : KT) : joinK a (1, [10]) = true := by
  unfold joinK joinB
  simp [joinedT, likeB]
theorem joinK_end' (b : KT) : joinK (1, [10]) b = true := by
  unfold joinK joinB
  simp [joinedT, likeB]
theorem signs_kl : ∀ s ∈ signsL, kl s 0 ≠ 3 ∧ kl s 0 ≠ 4 ∧ kl s 0 ≠ 6 ∧ kl s 0 ≠ 7 := by decide
theorem kind7 {K : Nat} {X : List UInt8} (h : goodT K X) (hX : X ∈ signsL) : K = 7 := by
  obtain ⟨a1, a2, a3, a4⟩ := signs_kl X hX
  have := (tok_sign a1 a2 a3 a4).1
  rw [h.2.2.2.2.1] at this
  exact (Prod.mk.inj this).1
theorem kinds_kl {K : Nat} {X : List UInt8} (h : goodT K X) : (K = 2 → kl X 0 = 3) ∧ (K = 7 → X ∈ signsL) := by
  have hC := h.2.2.2.2.1
  by_cases h3 : kl X 0 = 3
  · refine ⟨fun _ => h3, fun h7 => ?_⟩
    unfold tokC endF at hC
    rw [if_pos h3, if_pos rfl] at hC
    split at hC <;> (have := (Prod.mk.inj hC).1; omega)
  by_cases h4 : kl X 0 = 4
  · unfold tokC endF at hC
    rw [if_neg h3, if_pos h4, if_neg (by decide), if_neg (by decide), if_pos rfl] at hC
    have := (Prod.mk.inj hC).1
    exact ⟨fun h => by omega, fun h => by omega⟩
  by_cases h6 : kl X 0 = 6
  · unfold tokC endF at hC
    rw [if_neg h3, if_neg h4, if_pos h6, if_neg (by decide), if_neg (by decide), if_neg (by decide), if_pos rfl] at hC
    have := (Prod.mk.inj hC).1
    exact ⟨fun h => by omega, fun h => by omega⟩
  by_cases h7 : kl X 0 = 7
  · unfold tokC endF at hC
    rw [if_neg h3, if_neg h4, if_neg h6, if_pos h7, if_neg (by decide), if_neg (by decide), if_neg (by decide), if_neg (by decide)] at hC
    have := (Prod.mk.inj hC).1
    exact ⟨fun h => by omega, fun h => by omega⟩
  have hs := (tok_sign h3 h4 h6 h7).1
  rw [hC] at hs
  obtain ⟨e1, e2⟩ := Prod.mk.inj hs
  refine ⟨fun h => by omega, fun _ => ?_⟩
  rw [List.drop_zero, Nat.zero_add] at e2
  have hpos := h.1
  unfold sgn at e2
  cases hf : signsL.find? (fun s => Lib.hasPrefix X s) with
  | none =>
    rw [hf] at e2
    have e3 : X.length = 0 := e2
    omega
  | some z =>
    have hz := List.find?_some hf
    have hm := List.mem_of_find?_eq_some hf
    rw [hf] at e2
    simp only [Option.map_some, Option.getD_some] at e2
    unfold Lib.hasPrefix at hz
    rw [List.isPrefixOf_iff_prefix] at hz
    have := hz.eq_of_length (by omega)
    rw [← this]
    exact hm
/-- what follows a sign -/
theorem sgn_front {X : List UInt8} (hX : X ∈ signsL) {R : List UInt8} (hR : R = [] ∨ ∃ y R', R = y :: R' ∧ (X.length = 1 → y ≠ 61 ∧ y ≠ 62)) : sgn (X ++ R) = X.length := by
  rw [show signsL = signs2 ++ signs1 from rfl, List.mem_append] at hX
  rcases hX with h | h
  · have h2 : ∀ s ∈ signs2, s.length = 2 := by decide
    have := h2 X h
    match X, this with
    | [x, y], _ => rw [show [x, y] ++ R = x :: y :: R from rfl, sgn_two, if_pos h]; rfl
  · have h1 : ∀ s ∈ signs1, s.length = 1 ∧ s ≠ [46] := by decide
    obtain ⟨hl, hne⟩ := h1 X h
    match X, hl with
    | [x], _ =>
      rcases hR with rfl | ⟨y, R', rfl, hy⟩
      · rw [List.append_nil, sgn_one, if_pos h]; rfl
      · obtain ⟨y1, y2⟩ := hy rfl
        rw [show [x] ++ y :: R' = x :: y :: R' from rfl, sgn_two, if_neg (fun hm => ?_), if_pos h]
        · rfl
        · simp only [List.mem_cons, List.not_mem_nil, or_false, List.cons.injEq, and_true] at hm
          rcases hm with ⟨_, e⟩ | ⟨_, e⟩ | ⟨_, e⟩ | ⟨e, _⟩ | ⟨_, e⟩
          · exact y1 e
          · exact y1 e
          · exact y1 e
          · exact hne (by rw [e])
          · exact y2 e
/-- what lets a token end -/
def nextOK (K : Nat) (X R : List UInt8) : Prop := (K = 7 → sgn (X ++ R) = X.length) ∧ (K ≠ 7 → K ≠ 6 → R = [] ∨ ∃ y R', R = y :: R' ∧ cls (y.toNat : Int) ≠ 3 ∧ cls (y.toNat : Int) ≠ 4 ∧ (cls (y.toNat : Int) = 5 → ∃ R'', R' = 46 :: R''))
theorem okA_of {K : Nat} {X R : List UInt8} (h : nextOK K X R) (P : List UInt8) : okA K (P ++ (X ++ R)) P.length (P.length + X.length) := by
  have hA : K ≠ 7 → K ≠ 6 → inW (P ++ (X ++ R)) (P.length + X.length) = false ∧ ∀ c, c = 3 ∨ c = 4 → dotA (P ++ (X ++ R)) (P.length + X.length) c = false := fun h7 h6 => by
    rcases h.2 h7 h6 with rfl | ⟨y, R', rfl, y3, y4, y5⟩
    · have hz : kl (P ++ (X ++ [])) (P.length + X.length) = 0 := kl0.2 (by simp)
      refine ⟨by unfold inW; rw [hz]; rfl, fun c hc => by unfold dotA; rw [hz]; rfl⟩
    · have e0 : (P ++ (X ++ y :: R'))[P.length + X.length]? = some y := by
        rw [← List.append_assoc, ← List.length_append, List.getElem?_append_right (Nat.le_refl _), Nat.sub_self]
        rfl
      have hk : kl (P ++ (X ++ y :: R')) (P.length + X.length) = cls (y.toNat : Int) := by
        rw [kl_bt (by simp), bt_of e0]
      refine ⟨by unfold inW; rw [hk]; simp [y3, y4], fun c hc => ?_⟩
      unfold dotA
      rw [hk]
      by_cases h5 : cls (y.toNat : Int) = 5
      · obtain ⟨R'', rfl⟩ := y5 h5
        have e1 : (P ++ (X ++ y :: 46 :: R''))[P.length + X.length + 1]? = some 46 := by
          rw [← List.append_assoc, ← List.length_append, List.getElem?_append_right (Nat.le_succ _), show (P ++ X).length.succ - (P ++ X).length = 1 by omega]
          rfl
        have hk1 : kl (P ++ (X ++ y :: 46 :: R'')) (P.length + X.length + 1) = 5 := by
          rw [kl_bt (by simp; omega), bt_of e1]
          rfl
        rw [hk1]
        rcases hc with rfl | rfl <;> simp
      · simp [h5]
  refine ⟨fun e => ?_, fun e => ?_, fun e => ?_, fun e => ?_⟩
  · obtain ⟨a1, a2⟩ := hA (by omega) (by omega)
    exact ⟨a1, a2 3 (.inl rfl)⟩
  · exact (hA (by omega) (by omega)).1
  · obtain ⟨a1, a2⟩ := hA (by omega) (by omega)
    rw [a1, a2 4 (.inr rfl)]
    rfl
  · rw [List.drop_left, h.1 e]
    omega
theorem next_ok {t : KT} (ht : goodT t.1 t.2) {r : List KT} (hr : goodL r) : nextOK t.1 t.2 (prT (some t) r) := by
  have hk1 := goodT_kind ht
  obtain ⟨-, hs7⟩ := kinds_kl ht
  cases r with
  | nil => exact ⟨fun e => sgn_front (hs7 e) (.inl rfl), fun _ _ => .inl rfl⟩
  | cons u r =>
    have hu := hr u (by simp)
    have hu1 := goodT_kind hu
    have hR : prT (some t) (u :: r) = gapK (some t) u ++ (u.2 ++ prT (some u) r) := rfl
    rw [hR]
    cases hj : joinK t u with
    | false =>
      have hg : gapK (some t) u = [32] := by unfold gapK; simp [hj]
      rw [hg]
      exact ⟨fun e => sgn_front (hs7 e) (.inr ⟨32, _, rfl, fun _ => ⟨by decide, by decide⟩⟩), fun _ _ => .inr ⟨32, _, rfl, by decide, by decide, fun h => absurd h (by decide)⟩⟩
    | true =>
      have hg : gapK (some t) u = [] := by unfold gapK; simp [hj]
      rw [hg, List.nil_append]
      obtain ⟨y, ys, hy⟩ : ∃ y ys, u.2 = y :: ys := by
        cases hu2 : u.2 with
        | nil => have := hu.1; rw [hu2] at this; simp at this
        | cons y ys => exact ⟨y, ys, rfl⟩
      rcases joinK_cases hk1 hu1 hj with h | h | ⟨h, h2⟩
      · have hm : t.2 ∈ signsL := by rcases h with h | h | h | h <;> rw [h] <;> decide
        have h7 := kind7 ht hm
        refine ⟨fun _ => ?_, fun e => absurd h7 e⟩
        rcases h with h | h | h | h
        · rw [h, hy, show ([40] : List UInt8) ++ (y :: ys ++ prT (some u) r) = 40 :: y :: (ys ++ prT (some u) r) from rfl, sgn_two, if_neg (by simp), if_pos (by decide)]; rfl
        · rw [h, hy, show ([47] : List UInt8) ++ (y :: ys ++ prT (some u) r) = 47 :: y :: (ys ++ prT (some u) r) from rfl, sgn_two, if_neg (by simp), if_pos (by decide)]; rfl
        · rw [h, show ([46, 46] : List UInt8) ++ (u.2 ++ prT (some u) r) = 46 :: 46 :: (u.2 ++ prT (some u) r) from rfl, sgn_two, if_pos (by decide)]; rfl
        · rw [h, hy, show ([58] : List UInt8) ++ (y :: ys ++ prT (some u) r) = 58 :: y :: (ys ++ prT (some u) r) from rfl, sgn_two, if_neg (by simp), if_pos (by decide)]; rfl
      · have key : ∃ y ys, u.2 = y :: ys ∧ (y ≠ 61 ∧ y ≠ 62) ∧ cls (y.toNat : Int) ≠ 3 ∧ cls (y.toNat : Int) ≠ 4 ∧ (cls (y.toNat : Int) = 5 → ∃ R'', ys = 46 :: R'') := by
          rcases h with h | h | h | h | h
          · exact ⟨41, [], h, by decide, by decide, by decide, fun h => absurd h (by decide)⟩
          · exact ⟨44, [], h, by decide, by decide, by decide, fun h => absurd h (by decide)⟩
          · exact ⟨47, [], h, by decide, by decide, by decide, fun h => absurd h (by decide)⟩
          · exact ⟨46, [46], h, by decide, by decide, by decide, fun _ => ⟨[], rfl⟩⟩
          · exact ⟨58, [], h, by decide, by decide, by decide, fun h => absurd h (by decide)⟩
        obtain ⟨y, ys, e, k1, k2, k3, k4⟩ := key
        rw [e]
        refine ⟨fun e7 => sgn_front (hs7 e7) (.inr ⟨y, ys ++ prT (some u) r, rfl, fun _ => k1⟩), fun _ _ => .inr ⟨y, ys ++ prT (some u) r, rfl, k2, k3, fun h5 => ?_⟩⟩
        obtain ⟨R'', e''⟩ := k4 h5
        exact ⟨R'' ++ prT (some u) r, by rw [e'']; rfl⟩
      · have hm : t.2 ∈ signsL := by rw [h]; decide
        have h7 := kind7 ht hm
        refine ⟨fun _ => sgn_front hm (.inr ⟨y, ys ++ prT (some u) r, by rw [hy]; rfl, fun _ => ?_⟩), fun e => absurd h7 e⟩
        have hby : kl u.2 0 = cls (y.toNat : Int) := by
          rw [kl_bt hu.1, bt_of (show u.2[0]? = some y by rw [hy]; rfl)]
        rcases h2 with h2 | h2 | h2
        · have := (kinds_kl hu).1 h2
          rw [hby] at this
          refine ⟨fun e => ?_, fun e => ?_⟩
          · rw [e] at this; exact absurd this (by decide)
          · rw [e] at this; exact absurd this (by decide)
        · rw [hy] at h2
          rw [List.head_eq_of_cons_eq h2]
          decide
        · rw [hy] at h2
          rw [List.head_eq_of_cons_eq h2]
          decide
end Go.Proofs.YtialcphfaleedaaGreatDoor
namespace Go.Proofs.YtialcphfaleedaaGreatDoor
open Go.RowKit Go.Shelf
theorem ag_in (P X R : List UInt8) : AG X 0 (P ++ (X ++ R)) P.length X.length := by
  refine ⟨by omega, by simp, fun k hk => ?_⟩
  rw [Nat.zero_add, bt_shift]
  unfold bt
  rw [List.getD_eq_getElem?_getD, List.getD_eq_getElem?_getD, List.getElem?_append_left hk]
theorem sub_whole (X : List UInt8) : subL X 0 (0 + X.length) = X := by
  unfold subL
  simp
/-- one token, wherever it stands -/
theorem tok_put {K : Nat} {X R : List UInt8} (h : goodT K X) (hR : nextOK K X R) (P : List UInt8) :
    kl (P ++ (X ++ R)) P.length = kl X 0 ∧ tokC (P ++ (X ++ R)) P.length = (K, P.length + X.length) ∧ tokE (P ++ (X ++ R)) P.length = 0 ∧ subL (P ++ (X ++ R)) P.length (P.length + X.length) = X := by
  have a := ag_in P X R
  obtain ⟨h0, h1, h2, h8, hC, hE⟩ := h
  obtain ⟨t1, t2⟩ := tok_ag a h0 (by rw [hC, Nat.zero_add]) hE (okA_of hR P)
  refine ⟨(a.kl0 h0).symm, t1, t2, ?_⟩
  rw [a.sub, sub_whole]
/-- a line that was written is read as it was -/
theorem run_line : ∀ (r : List KT) (p : Option KT) (P a : List UInt8) (f line : Nat) (D : List Tok), goodL r → a = P ++ prT p r → a.length - P.length < f → ∃ f' D', runM f a P.length line 0 D = runM (f' + 1) a a.length line 0 (D ++ D') ∧ kt D' = r
  | [], p, P, a, f, line, D, _, ha, hf => by
    have e : P.length = a.length := by rw [ha]; simp [prT]
    obtain ⟨g, rfl⟩ : ∃ g, f = g + 1 := ⟨f - 1, by omega⟩
    exact ⟨g, [], by rw [e, List.append_nil], rfl⟩
  | t :: r, p, P, a, f, line, D, hg, ha, hf => by
    have ht := hg t (by simp)
    have hr : goodL r := fun u hu => hg u (by simp [hu])
    have hn := next_ok ht hr
    have step : ∀ (Q : List UInt8) (g : Nat), a = Q ++ (t.2 ++ prT (some t) r) → a.length - Q.length < g → ∃ f' D', runM g a Q.length line 0 D = runM (f' + 1) a a.length line 0 (D ++ D') ∧ kt D' = t :: r := fun Q g hQ hlt => by
      obtain ⟨k0, k1, k2, k3⟩ := tok_put ht hn Q
      rw [← hQ] at k0 k1 k2 k3
      have hlen : a.length = Q.length + t.2.length + (prT (some t) r).length := by rw [hQ]; simp; omega
      have hpos := ht.1
      obtain ⟨g, rfl⟩ : ∃ g', g = g' + 1 := ⟨g - 1, by omega⟩
      have hz : kl a Q.length ≠ 0 := fun e => kl0.1 e (by omega)
      have hJ : tokJ a Q.length = Q.length + t.2.length := by rw [tok_same k2, k1]
      rw [runM_tok (by rw [k0]; exact ht.2.2.1) (by rw [k0]; exact ht.2.2.2.1) (by rw [k0]; exact ht.2.1) hz k2, hJ, k1]
      simp only
      rw [k3]
      obtain ⟨f', D', e1, e2⟩ := run_line r (some t) (Q ++ t.2) a g line (D ++ [(t.1, t.2, line, ci a Q.length - ci a 0 + 1)]) hr (by rw [List.append_assoc]; exact hQ) (by rw [List.length_append]; omega)
      rw [List.length_append] at e1
      refine ⟨f', (t.1, t.2, line, ci a Q.length - ci a 0 + 1) :: D', ?_, ?_⟩
      · rw [e1, List.append_assoc]
        rfl
      · unfold kt at e2 ⊢
        rw [List.map_cons, e2]
    have hp : prT p (t :: r) = gapK p t ++ (t.2 ++ prT (some t) r) := rfl
    rw [hp] at ha
    have hgap : gapK p t = [] ∨ gapK p t = [32] := by
      unfold gapK
      split
      · split
        · exact .inl rfl
        · exact .inr rfl
      · exact .inl rfl
    rcases hgap with e | e
    · rw [e, List.nil_append] at ha
      exact step P f ha hf
    · rw [e] at ha
      have hlen : a.length = P.length + 1 + t.2.length + (prT (some t) r).length := by rw [ha]; simp; omega
      have hk : kl a P.length = 2 := by
        have e0 : a[P.length]? = some 32 := by rw [ha, List.getElem?_append_right (Nat.le_refl _), Nat.sub_self]; rfl
        rw [kl_bt (by omega), bt_of e0]
        rfl
      obtain ⟨g, rfl⟩ : ∃ g, f = g + 1 := ⟨f - 1, by omega⟩
      rw [runM_blank hk]
      have := step (P ++ [32]) g (by rw [List.append_assoc]; exact ha) (by rw [List.length_append, List.length_singleton]; omega)
      rw [List.length_append, List.length_singleton] at this
      exact this
theorem ended_kt {D : List Tok} (hD : ended D) (line col : Nat) : endT D line col = D := endT_shut (fun ⟨t, h1, h2⟩ => h2 (hD t h1)) line col
theorem line_text {ln : List KT} (hg : goodL ln) (hne : ln ≠ []) (line : Nat) (D : List Tok) : ∃ E, textM (prT none ln) line D = (D ++ E, 0, 0, 0) ∧ kt E = ln ++ [(1, [10])] := by
  obtain ⟨f', D', e1, e2⟩ := run_line ln none [] (prT none ln) ((prT none ln).length + 1) line D hg rfl (by simp)
  have hz : kl (prT none ln) (prT none ln).length = 0 := kl0.2 (by omega)
  rcases List.eq_nil_or_concat D' with rfl | ⟨D0, t, rfl⟩
  · exact absurd e2.symm hne
  rw [List.concat_eq_append] at e1 e2
  have ht : t.1 ≠ 1 := by
    refine goodT_kind (hg (t.1, t.2.1) ?_)
    rw [← e2, kt_snoc]
    simp
  refine ⟨D0 ++ [t] ++ [(1, [10], line, ci (prT none ln) (prT none ln).length - ci (prT none ln) 0 + 1)], ?_, ?_⟩
  · have e1' : textM (prT none ln) line D = runM (f' + 1) (prT none ln) (prT none ln).length line 0 (D ++ (D0 ++ [t])) := e1
    rw [e1', runM_end (.inr hz)]
    unfold lendM
    rw [if_pos hz, endT_open ⟨t, by simp, ht⟩, List.append_assoc]
  · rw [kt_snoc, e2]
theorem goodT_nonl {K : Nat} {X : List UInt8} (h : goodT K X) : ∀ c ∈ X, c ≠ 10 := fun c hc e => by
  obtain ⟨h0, h1, h2, h8, hC, hE⟩ := h
  obtain ⟨m, hm, rfl⟩ := List.mem_iff_getElem.1 hc
  have hJ : tokJ X 0 = X.length := by rw [tok_same hE, hC]
  exact tok_nonl h0 h1 hE m (Nat.zero_le _) (by omega) (by rw [bt_of (List.getElem?_eq_getElem hm), e]; rfl)
theorem prT_nonl : ∀ (r : List KT) (p : Option KT), goodL r → ∀ c ∈ prT p r, c ≠ 10
  | [], _, _, c, hc => by cases hc
  | t :: r, p, hg, c, hc => by
    have hp : prT p (t :: r) = gapK p t ++ (t.2 ++ prT (some t) r) := rfl
    rw [hp] at hc
    rcases List.mem_append.1 hc with h | h
    · unfold gapK at h
      intro e
      subst e
      split at h
      · split at h <;> simp at h
      · simp at h
    · rcases List.mem_append.1 h with h | h
      · exact goodT_nonl (hg t (by simp)) c h
      · exact prT_nonl r (some t) (fun u hu => hg u (by simp [hu])) c h
theorem prT_end : ∀ (ln : List KT) (p : Option KT) (rest : List KT), prT p (ln ++ (1, [10]) :: rest) = prT p ln ++ 10 :: prT none rest
  | [], p, rest => by
    have h1 : gapK p (1, [10]) = [] := by
      unfold gapK
      split
      · rw [if_pos (joinK_end _)]
      · rfl
    have h2 : prT (some (1, [10])) rest = prT none rest := by
      cases rest with
      | nil => rfl
      | cons u r =>
        have e : gapK (some (1, [10])) u = gapK none u := by
          unfold gapK
          simp only
          rw [if_pos (joinK_end' u)]
        show gapK (some (1, [10])) u ++ _ = gapK none u ++ _
        rw [e]
    show gapK p (1, [10]) ++ ([10] ++ prT (some (1, [10])) rest) = _
    rw [h1, h2]
    rfl
  | t :: ln, p, rest => by
    show gapK p t ++ (t.2 ++ prT (some t) (ln ++ (1, [10]) :: rest)) = (gapK p t ++ (t.2 ++ prT (some t) ln)) ++ 10 :: prT none rest
    rw [prT_end ln (some t) rest]
    simp
theorem text_done' (a : List UInt8) (line : Nat) (X : List Tok) : ((textM a line X).2.1 = 0 → ended (textM a line X).1 ∧ (textM a line X).2 = (0, 0, 0)) ∧ ((textM a line X).2.1 ≠ 0 → (textM a line X).1 = []) := run_done a (a.length + 1) 0 line 0 X (by omega)
/-- what is written of lines of tokens is read as them -/
theorem text_print : ∀ (Ls : List (List KT)) (line : Nat) (D : List Tok), goodLs Ls → ended D → ∃ E, textM (prT none (flat Ls)) line D = (D ++ E, 0, 0, 0) ∧ kt E = flat Ls
  | [], line, D, _, hD => by
    refine ⟨[], ?_, rfl⟩
    have hz : kl ([] : List UInt8) 0 = 0 := kl0.2 (by simp)
    show runM 1 [] 0 line 0 D = _
    rw [runM_end (.inr hz)]
    unfold lendM
    rw [if_pos hz, ended_kt hD, List.append_nil]
  | ln :: Ls, line, D, hg, hD => by
    obtain ⟨hne, hgl⟩ := hg ln (by simp)
    obtain ⟨E1, e1, e2⟩ := line_text hgl hne line D
    have hf : flat (ln :: Ls) = ln ++ (1, [10]) :: flat Ls := by
      unfold flat
      simp
    have hend : ended (D ++ E1) := by
      have := (text_done' (prT none ln) line D).1 (by rw [e1])
      rw [e1] at this
      exact this.1
    obtain ⟨E2, f1, f2⟩ := text_print Ls (line + 1) (D ++ E1) (fun x hx => hg x (by simp [hx])) hend
    refine ⟨E1 ++ E2, ?_, ?_⟩
    · rw [hf, prT_end, text_cons (prT_nonl ln none hgl), e1]
      simp only
      rw [if_neg (fun h => h rfl), f1, List.append_assoc]
    · have : kt (E1 ++ E2) = kt E1 ++ kt E2 := by unfold kt; simp
      rw [this, e2, f2, hf]
      simp
theorem scan_print (Ls : List (List KT)) (hg : goodLs Ls) (h : (prT none (flat Ls)).length ≤ 16384) : (scanM (prT none (flat Ls))).2 = (0, 0, 0) ∧ kt (scanM (prT none (flat Ls))).1 = flat Ls := by
  obtain ⟨E, e1, e2⟩ := text_print Ls 1 [] hg (fun t h => by cases h)
  have e : scanM (prT none (flat Ls)) = textM (prT none (flat Ls)) 1 [] := by
    unfold scanM
    rw [if_neg (by omega)]
    rfl
  rw [e, e1]
  exact ⟨rfl, e2⟩
end Go.Proofs.YtialcphfaleedaaGreatDoor
namespace Go.Proofs.YtialcphfaleedaaGreatDoor
open Go.RowKit Go.Shelf
def toI (t : Tok) : ITok := ((t.1 : Int), t.2.1, (t.2.2.1 : Int), (t.2.2.2 : Int))
def kI (t : ITok) : Int × List UInt8 := (t.1, t.2.1)
def kK (t : KT) : Int × List UInt8 := ((t.1 : Int), t.2)
theorem toI_kt (L : List Tok) : (L.map toI).map kI = (kt L).map kK := by
  unfold kt
  rw [List.map_map, List.map_map]
  rfl
theorem tokB_k {t : ITok} {u : KT} (h : kI t = kK u) : tokB t = tokB ((u.1 : Int), u.2, 0, 0) := by
  obtain ⟨h1, h2⟩ := Prod.mk.inj h
  unfold tokB
  simp only
  rw [h1, h2]
theorem likeB_k {t t' u : ITok} (h : kI t = kI t') : likeB t u = likeB t' u := by
  obtain ⟨h1, h2⟩ := Prod.mk.inj h
  unfold likeB
  rw [h1, h2]
theorem joinB_k {t s : ITok} {u v : KT} (h1 : kI t = kK u) (h2 : kI s = kK v) : joinB t s = joinK u v := by
  unfold joinK joinB
  congr 1
  funext z
  rw [likeB_k (t := t) (t' := ((u.1 : Int), u.2, 0, 0)) h1, likeB_k (t := s) (t' := ((v.1 : Int), v.2, 0, 0)) h2]
/-- lines of tokens, by kinds and texts -/
def linK : Int → List KT → Bool
  | last, [] => last == 1
  | last, t :: r => if (!tokB ((t.1 : Int), t.2, 0, 0) || ((t.1 : Int) == 1 && last == 1)) = true then false else linK (t.1 : Int) r
theorem lin_k : ∀ (L : List ITok) (Ks : List KT) (last : Int), L.map kI = Ks.map kK → linF last L = linK last Ks
  | [], [], last, _ => rfl
  | [], k :: Ks, last, h => by cases h
  | t :: L, [], last, h => by cases h
  | t :: L, k :: Ks, last, h => by
    rw [List.map_cons, List.map_cons] at h
    have h1 := List.head_eq_of_cons_eq h
    have h2 := List.tail_eq_of_cons_eq h
    have e : t.1 = (k.1 : Int) := (Prod.mk.inj h1).1
    rw [linF, linK, tokB_k h1, e, lin_k L Ks _ h2]
theorem tokB_good {K : Nat} {X : List UInt8} (h : goodT K X) (hX : X.length ≤ 16384) : tokB ((K : Int), X, 0, 0) = true := by
  obtain ⟨c, hc⟩ := scan_one h hX
  have hk := goodT_kind h
  unfold tokB
  rw [if_neg (show ¬ ((K : Int), X, (0 : Int), (0 : Int)).1 = 1 by show ¬ (K : Int) = 1; omega)]
  show oneT (scanM X).1 (K : Int) X = true
  rw [hc]
  unfold oneT
  simp
theorem linK_line : ∀ (ln : List KT) (last : Int) (rest : List KT), goodL ln → (∀ t ∈ ln, t.2.length ≤ 16384) → (ln ≠ [] ∨ last ≠ 1) → linK last (ln ++ (1, [10]) :: rest) = linK 1 rest
  | [], last, rest, _, _, h => by
    have hl : last ≠ 1 := h.resolve_left (fun h => h rfl)
    have e : (last == 1) = false := beq_eq_false_iff_ne.2 hl
    show linK last ((1, [10]) :: rest) = _
    rw [linK, e]
    simp [tokB]
  | t :: ln, last, rest, hg, hx, _ => by
    have ht := hg t (by simp)
    have hk := goodT_kind ht
    have e : ((t.1 : Int) == 1) = false := by rw [beq_eq_false_iff_ne]; omega
    show linK last (t :: (ln ++ (1, [10]) :: rest)) = _
    rw [linK, tokB_good ht (hx t (by simp)), e]
    simp only [Bool.not_true, Bool.false_and, Bool.or_false, Bool.false_eq_true, if_false]
    exact linK_line ln _ rest (fun u hu => hg u (by simp [hu])) (fun u hu => hx u (by simp [hu])) (.inr (by omega))
theorem flat_cons (ln : List KT) (Ls : List (List KT)) : flat (ln :: Ls) = ln ++ (1, [10]) :: flat Ls := by
  unfold flat
  simp
theorem totL_mem : ∀ {ln : List KT} {t : KT}, t ∈ ln → t.2.length ≤ totL ln
  | u :: ln, t, h => by
    have e : totL (u :: ln) = u.2.length + totL ln := by unfold totL; simp
    rcases List.mem_cons.1 h with rfl | h
    · omega
    · have := totL_mem h
      omega
theorem totLs_cons (ln : List KT) (Ls : List (List KT)) : totLs (ln :: Ls) = totL ln + totLs Ls := by unfold totLs; simp
theorem linK_flat : ∀ (Ls : List (List KT)), goodLs Ls → totLs Ls ≤ 16384 → linK 1 (flat Ls) = true
  | [], _, _ => rfl
  | ln :: Ls, hg, ht => by
    rw [totLs_cons] at ht
    obtain ⟨hne, hgl⟩ := hg ln (by simp)
    rw [flat_cons, linK_line ln 1 _ hgl (fun t h => by have := totL_mem h; omega) (.inl hne)]
    exact linK_flat Ls (fun x hx => hg x (by simp [hx])) (by omega)
theorem gap_k {p : Option ITok} {pk : Option KT} {t : ITok} {k : KT} (hp : p.map kI = pk.map kK) (h : kI t = kK k) : gapB p t = gapK pk k := by
  cases p with
  | none =>
    cases pk with
    | none => rfl
    | some v => cases hp
  | some u =>
    cases pk with
    | none => cases hp
    | some v =>
      have hv : kI u = kK v := Option.some.inj hp
      unfold gapB gapK
      simp only
      rw [joinB_k hv h]
theorem prF_k : ∀ (L : List ITok) (Ks : List KT) (p : Option ITok) (pk : Option KT) (acc : List UInt8), L.map kI = Ks.map kK → p.map kI = pk.map kK → acc.length ≤ 16384 → prF p L acc = if 16384 < (acc ++ prT pk Ks).length then none else some (acc ++ prT pk Ks)
  | [], [], p, pk, acc, _, _, ha => by
    show some acc = _
    rw [show prT pk [] = [] from rfl, List.append_nil, if_neg (by omega)]
  | [], k :: Ks, _, _, _, h, _, _ => by cases h
  | t :: L, [], _, _, _, h, _, _ => by cases h
  | t :: L, k :: Ks, p, pk, acc, h, hp, ha => by
    rw [List.map_cons, List.map_cons] at h
    have h1 := List.head_eq_of_cons_eq h
    have h2 := List.tail_eq_of_cons_eq h
    have e : t.2.1 = k.2 := (Prod.mk.inj h1).2
    have hT : acc ++ prT pk (k :: Ks) = (acc ++ gapK pk k ++ k.2) ++ prT (some k) Ks := by
      show acc ++ (gapK pk k ++ (k.2 ++ prT (some k) Ks)) = _
      simp
    show (if 16384 < ((acc ++ gapB p t) ++ t.2.1).length then none else prF (some t) L ((acc ++ gapB p t) ++ t.2.1)) = _
    rw [gap_k hp h1, e, hT]
    by_cases hb : 16384 < (acc ++ gapK pk k ++ k.2).length
    · rw [if_pos hb, if_pos (by rw [List.length_append]; omega)]
    · rw [if_neg hb]
      exact prF_k L Ks (some t) (some k) _ h2 (congrArg some h1) (by omega)
/-- what Print makes of lines of tokens -/
theorem print_ls {L : List ITok} {Ls : List (List KT)} (h : L.map kI = (flat Ls).map kK) (hg : goodLs Ls) (ht : totLs Ls ≤ 16384) : printM L = if 16384 < L.length ∨ 16384 < (prT none (flat Ls)).length then ([], 2) else (prT none (flat Ls), 0) := by
  unfold printM
  by_cases h1 : 16384 < L.length
  · rw [if_pos h1, if_pos (.inl h1)]
  · rw [if_neg h1, if_neg (by rw [lin_k L _ 1 h, linK_flat Ls hg ht]; decide), prF_k L (flat Ls) none none [] h rfl (by simp), List.nil_append]
    by_cases h2 : 16384 < (prT none (flat Ls)).length
    · rw [if_pos h2, if_pos (.inr h2)]
      rfl
    · rw [if_neg h2, if_neg (fun hh => hh.elim h1 h2)]
      rfl
theorem len_line : ∀ (ln : List KT) (p : Option KT), goodL ln → ln.length ≤ totL ln ∧ (prT p ln).length ≤ totL ln + ln.length
  | [], _, _ => ⟨Nat.le_refl _, Nat.le_refl _⟩
  | t :: ln, p, hg => by
    have ht := (hg t (by simp)).1
    have e : totL (t :: ln) = t.2.length + totL ln := by unfold totL; simp
    obtain ⟨i1, i2⟩ := len_line ln (some t) (fun u hu => hg u (by simp [hu]))
    have hgap : (gapK p t).length ≤ 1 := by
      unfold gapK
      split
      · split <;> simp
      · simp
    have hp : prT p (t :: ln) = gapK p t ++ (t.2 ++ prT (some t) ln) := rfl
    rw [hp]
    simp only [List.length_append, List.length_cons]
    omega
theorem len_ls : ∀ (Ls : List (List KT)), goodLs Ls → (flat Ls).length ≤ 2 * totLs Ls ∧ (prT none (flat Ls)).length ≤ 3 * totLs Ls
  | [], _ => ⟨by simp [flat], by simp [flat, prT]⟩
  | ln :: Ls, hg => by
    obtain ⟨hne, hgl⟩ := hg ln (by simp)
    obtain ⟨i1, i2⟩ := len_ls Ls (fun x hx => hg x (by simp [hx]))
    obtain ⟨j1, j2⟩ := len_line ln none hgl
    have h1 : 0 < ln.length := List.length_pos_iff.2 hne
    rw [totLs_cons, flat_cons, prT_end]
    simp only [List.length_append, List.length_cons]
    omega
/-- what Print makes of a text's tokens; and what becomes of that -/
theorem settles (l : List UInt8) (h : l.length ≤ 16384) (he : (scanM l).2.1 = 0) :
    (printM ((scanM l).1.map toI) = ([], 2) ∧ 5461 < l.length) ∨
    ∃ S, printM ((scanM l).1.map toI) = (S, 0) ∧ S.length ≤ 16384 ∧ (scanM S).2 = (0, 0, 0) ∧ kt (scanM S).1 = kt (scanM l).1 ∧ printM ((scanM S).1.map toI) = (S, 0) := by
  obtain ⟨Ls, h1, h2, h3⟩ := scan_ls l h he
  obtain ⟨b1, b2⟩ := len_ls Ls h2
  have hlen : ∀ M : List Tok, kt M = flat Ls → (M.map toI).length = (flat Ls).length := fun M hM => by
    rw [← hM]
    unfold kt
    simp
  have hk : ∀ M : List Tok, kt M = flat Ls → (M.map toI).map kI = (flat Ls).map kK := fun M hM => by rw [toI_kt, hM]
  have hp := print_ls (hk _ h1) h2 (by omega)
  by_cases hb : 16384 < ((scanM l).1.map toI).length ∨ 16384 < (prT none (flat Ls)).length
  · rw [if_pos hb] at hp
    have := hlen _ h1
    exact .inl ⟨hp, by omega⟩
  · rw [if_neg hb] at hp
    obtain ⟨s1, s2⟩ := scan_print Ls h2 (by omega)
    have hp2 := print_ls (hk _ s2) h2 (by omega)
    have := hlen _ h1
    rw [if_neg (by rw [hlen _ s2]; omega)] at hp2
    exact .inr ⟨_, hp, by omega, s1, by rw [s2, h1], hp2⟩
end Go.Proofs.YtialcphfaleedaaGreatDoor
namespace Go.Proofs.YtialcphfaleedaaGreatDoor
open Go.RowKit Go.Shelf
/-- a text that is one token -/
theorem tokB_inv {t : ITok} (h : tokB t = true) : (t.1 = 1 ∧ t.2.1 = [10]) ∨ ∃ K : Nat, t.1 = (K : Int) ∧ goodT K t.2.1 := by
  have hl := tokB_len h
  unfold tokB at h
  split at h
  · rename_i h1
    exact .inl ⟨h1, beq_iff_eq.1 h⟩
  · right
    unfold oneT at h
    split at h
    · rename_i D a b hD
      rw [Bool.and_eq_true, beq_iff_eq, beq_iff_eq] at h
      have he : (scanM t.2.1).2.1 = 0 := Classical.byContradiction (fun hne => by
        have h0 : (scanM t.2.1).1 = [] := by
          have := (run_done t.2.1 (t.2.1.length + 1) 0 1 0 [] (by omega)).2
          unfold scanM at hne ⊢
          rw [if_neg (by omega)] at hne ⊢
          exact this hne
        rw [h0] at hD
        cases hD)
      obtain ⟨Ls, g1, g2, g3⟩ := scan_ls t.2.1 hl he
      rw [hD] at g1
      have g4 : flat Ls = [(a.1, a.2.1), (b.1, b.2.1)] := g1.symm
      cases Ls with
      | nil => cases g4
      | cons ln Ls =>
        obtain ⟨hne, hgl⟩ := g2 ln (by simp)
        cases ln with
        | nil => exact absurd rfl hne
        | cons u ln =>
          rw [flat_cons] at g4
          have e1 := List.head_eq_of_cons_eq g4
          refine ⟨a.1, h.1.symm, ?_⟩
          have hg := hgl u (by simp)
          rw [e1] at hg
          rw [← h.2]
          exact hg
    · cases h
theorem lin_ls : ∀ (L : List ITok) (last : Int) (cur : List KT), goodL cur → (cur = [] ↔ last = 1) → linF last L = true → ∃ Ls, cur.map kK ++ L.map kI = (flat Ls).map kK ∧ goodLs Ls
  | [], last, cur, _, hc, h => by
    have h1 : last = 1 := beq_iff_eq.1 h
    refine ⟨[], ?_, fun ln hln => by cases hln⟩
    rw [hc.2 h1]
    rfl
  | t :: L, last, cur, hg, hc, h => by
    rw [linF] at h
    split at h
    · cases h
    · rename_i hn
      have hb : tokB t = true := by
        cases hb : tokB t with
        | true => rfl
        | false => exact absurd (by rw [hb]; rfl) hn
      rcases tokB_inv hb with ⟨h1, h2⟩ | ⟨K, h1, h2⟩
      · have hl : last ≠ 1 := fun e => hn (by rw [h1, e]; simp)
        have hne : cur ≠ [] := fun e => hl (hc.1 e)
        rw [h1] at h
        obtain ⟨Ls, e1, e2⟩ := lin_ls L 1 [] (fun u hu => by cases hu) ⟨fun _ => rfl, fun _ => rfl⟩ h
        refine ⟨cur :: Ls, ?_, fun ln hln => ?_⟩
        · rw [flat_cons, List.map_append, List.map_cons, List.map_cons, ← e1]
          have : kI t = kK (1, [10]) := Prod.ext h1 h2
          rw [this]
          rfl
        · rcases List.mem_cons.1 hln with rfl | hln
          · exact ⟨hne, hg⟩
          · exact e2 ln hln
      · have hk := goodT_kind h2
        obtain ⟨Ls, e1, e2⟩ := lin_ls L t.1 (cur ++ [(K, t.2.1)]) (fun u hu => by
          rcases List.mem_append.1 hu with e | e
          · exact hg u e
          · rw [List.mem_singleton.1 e]
            exact h2) ⟨fun e => by simp at e, fun e => by omega⟩ h
        refine ⟨Ls, ?_, e2⟩
        rw [← e1, List.map_append, List.append_assoc, List.map_cons]
        have : kI t = kK (K, t.2.1) := Prod.ext h1 rfl
        rw [this]
        rfl
/-- whatever Print writes is read as the same tokens -/
theorem prints_back (L : List ITok) {S : List UInt8} (h : printM L = (S, 0)) : S.length ≤ 16384 ∧ (scanM S).2 = (0, 0, 0) ∧ (scanM S).1.map (fun t => kI (toI t)) = L.map kI := by
  unfold printM at h
  split at h
  · cases h
  · split at h
    · cases h
    · rename_i h1 h2
      have hlin : linF 1 L = true := by
        cases hb : linF 1 L with
        | true => rfl
        | false => exact absurd hb h2
      obtain ⟨Ls, e1, e2⟩ := lin_ls L 1 [] (fun u hu => by cases hu) ⟨fun _ => rfl, fun _ => rfl⟩ hlin
      have e3 : L.map kI = (flat Ls).map kK := e1
      rw [prF_k L (flat Ls) none none [] e3 rfl (by simp), List.nil_append] at h
      by_cases hb : 16384 < (prT none (flat Ls)).length
      · rw [if_pos hb] at h
        cases h
      · rw [if_neg hb] at h
        have hS : prT none (flat Ls) = S := (Prod.mk.inj h).1
        obtain ⟨s1, s2⟩ := scan_print Ls e2 (by omega)
        rw [hS] at s1 s2 hb
        refine ⟨by omega, s1, ?_⟩
        rw [e3, ← s2]
        unfold kt
        rw [List.map_map]
        rfl
end Go.Proofs.YtialcphfaleedaaGreatDoor
namespace Go.Proofs.YtialcphfaleedaaGreatDoor
open Go.RowKit Go.Shelf
theorem idF_at {l : List UInt8} {k : Nat} {b : UInt8} (h : l[k]? = some b) (c : Bool) : idF (l.drop k) c = if b = 10 then idF (l.drop (k + 1)) false else if b = 35 then idF (l.drop (k + 1)) true else if c = false ∧ b ≠ 32 ∧ b ≠ 9 ∧ b ≠ 13 then none else idF (l.drop (k + 1)) c := by
  obtain ⟨hk, e⟩ := List.getElem?_eq_some_iff.1 h
  rw [List.drop_eq_getElem_cons hk, e, idF]
set_option maxRecDepth 100000 in
set_option maxHeartbeats 1000000 in
theorem idle_any (l : List UInt8) (f c : Bool) (w : World) (hs : l.length ≤ 16384) (h : idF l false = some c) (hf : f = true → c = false) :
    Calls Tryz.prog 17 #[.string ⟨l.toArray⟩, .bool f] w fun e w' => e = .returned (.bool true) ∧ w' = w := by
  have H0 : Hid (idF (l.drop 0) false = some c) := h
  have HF : Hid (f = true → c = false) := hf
  clear h hf
  go_enter Tryz.func17, Tryz.ntmps17
  go_wp2_with fail
  go_loopw [5, 6] (fun vc vi wr => ∃ (k : Nat) (cm : Bool), k ≤ l.length ∧ vi = .int .i64 k ∧ vc = .bool cm ∧ Hid (idF (l.drop k) cm = some c) ∧ wr = w) (fun _ vi _ => l.length - (intOf vi).toNat)
  case atStart => exact ⟨0, false, Nat.zero_le _, rfl, rfl, H0, rfl⟩
  case round =>
    clear H0
    obtain ⟨k, cm, hk, rfl, rfl, hi, rfl⟩ := hrel
    by_cases hlt : k < l.length
    · have j0 : (0 : Int) ≤ (k : Int) := by omega
      have j1 : (k : Int) < (l.length : Int) := by omega
      obtain ⟨b, hb, hlb⟩ := byte_get l k hlt
      have hst := idF_at hlb cm
      rw [hi.out] at hst
      clear hi
      by_cases b10 : b = 10
      · rw [if_pos b10] at hst
        subst b10
        have HI : Hid (idF (l.drop (k + 1)) false = some c) := hst.symm
        clear hst
        go_wp2_with fail
        go_roundw
        case rel => exact ⟨k + 1, false, by omega, by go_num, rfl, HI, trivial⟩
        case measure => simp [intOf]; omega
      · have n10 : ((b.toNat : Int) == 10) = false := u8_ne (d := 10) b10
        rw [if_neg b10] at hst
        by_cases b35 : b = 35
        · rw [if_pos b35] at hst
          subst b35
          have HI : Hid (idF (l.drop (k + 1)) true = some c) := hst.symm
          clear hst
          go_wp2_with fail
          go_roundw
          case rel => exact ⟨k + 1, true, by omega, by go_num, rfl, HI, trivial⟩
          case measure => simp [intOf]; omega
        · have n35 : ((b.toNat : Int) == 35) = false := u8_ne (d := 35) b35
          rw [if_neg b35] at hst
          cases cm with
          | true =>
            rw [if_neg (fun h => by cases h.1)] at hst
            have HI : Hid (idF (l.drop (k + 1)) true = some c) := hst.symm
            clear hst
            go_wp2_with fail
            go_roundw
            case rel => exact ⟨k + 1, true, by omega, by go_num, rfl, HI, trivial⟩
            case measure => simp [intOf]; omega
          | false =>
            have hbl : b = 32 ∨ b = 9 ∨ b = 13 := by
              by_cases e1 : b = 32
              · exact .inl e1
              by_cases e2 : b = 9
              · exact .inr (.inl e2)
              by_cases e3 : b = 13
              · exact .inr (.inr e3)
              rw [if_pos ⟨rfl, e1, e2, e3⟩] at hst
              cases hst
            rw [if_neg (fun h => by rcases hbl with e | e | e <;> simp [e] at h)] at hst
            have HI : Hid (idF (l.drop (k + 1)) false = some c) := hst.symm
            clear hst
            rcases hbl with rfl | rfl | rfl
            all_goals
              go_wp2_with fail
              go_roundw
              case rel => exact ⟨k + 1, false, by omega, by go_num, rfl, HI, trivial⟩
              case measure => simp [intOf]; omega
    · have j1 : ¬ (k : Int) < (l.length : Int) := by omega
      have hcm : cm = c := by
        have := hi.out
        rw [List.drop_eq_nil_of_le (by omega)] at this
        exact Option.some.inj this
      subst hcm
      clear hi
      cases f with
      | true =>
        obtain rfl : cm = false := HF.out rfl
        go_wp2_with fail
        go_ret
        exact ⟨rfl, rfl⟩
      | false =>
        go_wp2_with fail
        go_ret
        exact ⟨rfl, rfl⟩
end Go.Proofs.YtialcphfaleedaaGreatDoor
namespace Go.Proofs.YtialcphfaleedaaGreatDoor
open Go.RowKit Go.Shelf
theorem bt_drop (l : List UInt8) (p j : Nat) : bt (l.drop p) j = bt l (p + j) := by
  unfold bt
  simp [List.getD, List.getElem?_drop]
theorem dc_drop (l : List UInt8) (p i : Nat) : dc (l.drop p) i = dc l (p + i) := by
  unfold dc
  rw [bt_drop, bt_drop, bt_drop, bt_drop, List.length_drop, Nat.sub_sub, show p + (i + 1) = p + i + 1 by omega, show p + (i + 2) = p + i + 2 by omega, show p + (i + 3) = p + i + 3 by omega]
theorem kl_dc {l : List UInt8} {q : Nat} (h : q < l.length) : kl l q = 1 ↔ (dc l q).1 = 10 := by
  constructor
  · intro h1
    have := kl_one h1
    rw [dc_asc (by omega), this]
  · intro h1
    have hlo : lo1 l q = false := decide_eq_false (fun e => by rw [e] at h1; cases h1)
    have hc : chr l q = 10 := by
      unfold chr
      rw [if_pos h, hlo, h1]
      rfl
    unfold kl
    rw [hc]
    rfl
theorem stN_line {l : List UInt8} {n : Nat} {s t : Nat × Nat × Nat} (h : stN l n s t) : s.2.1 ≤ t.2.1 := by
  match n, h with
  | 0, h => rw [show s = t from h]; exact Nat.le_refl _
  | n + 1, h =>
    have := stN_lt n s t h
    omega
theorem results_sk (tmps : Array Value) (W : World) (g : Nat) (x y z : Value) (h : tmps.getD 8 undef = .pointer (some ⟨g, 0, none⟩)) (hk : W.heap[g]? = some (.cells #[x, y, z] 44)) : (results Tryz.f16 tmps).run Tryz.prog W = .ok (.agg #[x, y, z]) W := by
  have h' : tmps[8]?.getD undef = .pointer (some ⟨g, 0, none⟩) := by simpa using h
  have c0 : W.cell? ⟨g, 0, none⟩ = some x := cell_of_row W g 0 _ _ _ hk
  have c1 : W.cell? ⟨g, 1, none⟩ = some y := cell_of_row W g 1 _ _ _ hk
  have c2 : W.cell? ⟨g, 2, none⟩ = some z := cell_of_row W g 2 _ _ _ hk
  simp [results, h', go_sem, c0, c1, c2]
theorem seek_meas {w1 w2 : World} {b : Nat} {s : ByteArray} {i j n : Nat} (h1 : w1.heap[b]? = some (.stringIter s i)) (h2 : w2.heap[b]? = some (.stringIter s j)) (hij : i < j) (hj : j ≤ n) : n - w2.iterPos b < n - w1.iterPos b := by
  unfold World.iterPos
  rw [h1, h2]
  simp only
  omega
set_option maxRecDepth 100000 in
set_option maxHeartbeats 4000000 in
theorem seek_any (l : List UInt8) (p ln cl n q tl tc : Nat) (w : World) (hs : l.length ≤ 16384) (hp : p ≤ l.length) (h : stN l n (p, ln, cl) (q, tl, tc)) (hcl : cl ≤ 20000) (htl : tl ≤ 20000) :
    Calls Tryz.prog 16 #[.string ⟨l.toArray⟩, .agg #[.int .i64 (p : Int), .int .i64 (ln : Int), .int .i64 (cl : Int)], .int .i64 (tl : Int), .int .i64 (tc : Int)] w fun e w' => e = .returned (.agg #[.int .i64 (q : Int), .int .i64 (tl : Int), .int .i64 (tc : Int)]) ∧ Below w.heap.size w w' := by
  have j0 : (0 : Int) ≤ (p : Int) := by omega
  have j1 : (p : Int) ≤ (l.length : Int) := by omega
  have hE := ext_drop l p
  obtain ⟨X, hX⟩ : ∃ X, l.drop p = X := ⟨_, rfl⟩
  have hXl : X.length = l.length - p := by rw [← hX, List.length_drop]
  have hXd : Hid (∀ i, dc X i = dc l (p + i)) := fun i => by rw [← hX]; exact dc_drop l p i
  rw [hX] at hE
  have H0 : Hid (stN l n (p + 0, ln, cl) (q, tl, tc)) := h
  clear h hX
  obtain ⟨S, hS⟩ : ∃ S, w.heap.size = S := ⟨_, rfl⟩
  obtain ⟨V, hV⟩ : ∃ V : World, ((w.alloc (Obj.cells #[.int .i64 (p : Int), .int .i64 (ln : Int), .int .i64 (cl : Int)] 44)).alloc (Obj.cells #[.int .i64 0, .int .i64 0, .int .i64 0] 44)).iter ⟨X.toArray⟩ 0 = V := ⟨_, rfl⟩
  have v0 : V.heap[S]? = some (.cells #[.int .i64 (p : Int), .int .i64 (ln : Int), .int .i64 (cl : Int)] 44) := by
    rw [← hV, ← hS]
    exact allocblk (allocblk (alloc_get _ _) _) _
  have v1 : V.heap[S + 1]? = some (.cells #[.int .i64 0, .int .i64 0, .int .i64 0] 44) := by
    rw [← hV, ← hS]
    refine allocblk ?_ _
    have := alloc_get (w.alloc (Obj.cells #[.int .i64 (p : Int), .int .i64 (ln : Int), .int .i64 (cl : Int)] 44)) (Obj.cells #[.int .i64 0, .int .i64 0, .int .i64 0] 44)
    simpa using this
  have v2 : V.heap[S + 1 + 1]? = some (.stringIter ⟨X.toArray⟩ 0) := by
    rw [← hV, ← hS]
    have := World.iter_heap ((w.alloc (Obj.cells #[.int .i64 (p : Int), .int .i64 (ln : Int), .int .i64 (cl : Int)] 44)).alloc (Obj.cells #[.int .i64 0, .int .i64 0, .int .i64 0] 44)) ⟨X.toArray⟩ 0
    simpa using this
  have vB : Below w.heap.size w V := by
    rw [← hV]
    exact (((Below.refl _ _).alloc (Nat.le_refl _) _).alloc (by simp) _).alloc (by simp; omega) _
  go_enter Tryz.func16, Tryz.ntmps16
  go_wp2_with fail

  clear hV
  go_loopw [10] (fun _ wr => ∃ (i line col m : Nat), i ≤ X.length ∧ wr.heap[S]? = some (.cells #[.int .i64 (p : Int), .int .i64 (line : Int), .int .i64 (col : Int)] 44) ∧ wr.heap[S + 1]? = some (.cells #[.int .i64 0, .int .i64 0, .int .i64 0] 44) ∧ wr.heap[S + 1 + 1]? = some (.stringIter ⟨X.toArray⟩ i) ∧ Below w.heap.size w wr ∧ Hid (stN l m (p + i, line, col) (q, tl, tc)) ∧ col ≤ cl + i) (fun _ wr => X.length - wr.iterPos (S + 1 + 1))
  case atStart => exact ⟨0, ln, cl, n, Nat.zero_le _, v0, v1, v2, vB, H0, by omega⟩
  case round =>
    clear v0 v1 v2 vB H0
    obtain ⟨i, line, col, m, hi, h0, h1, h2, hB, hst, hcol⟩ := hrel
    have hline := stN_line hst.out
    simp only at hline
    by_cases hlt : i < X.length
    · have hnx0 := fun ty => Lib.run_next_any_at (P := Tryz.prog) wr (S + 1 + 1) ⟨X.toArray⟩ i ty h2 (by simpa [ByteArray.size] using hlt)
      rw [dc_decode] at hnx0
      have hpq : p + i < l.length := by omega
      have hpos := dc_pos X i
      have hle := dc_le X i hlt
      have hkl : Hid (kl l (p + i) = 1 ↔ (dc X i).1 = 10) := by
        unfold Hid
        rw [hXd.out]
        exact kl_dc hpq
      have hnxt : Hid (∀ m, stN l (m + 1) (p + i, line, col) (q, tl, tc) → stN l m (p + (i + (dc X i).2), if kl l (p + i) = 1 then (line + 1, 1) else (line, col + 1)) (q, tl, tc)) := fun m h => by
        have := h.2
        unfold nxt at this
        simp only at this
        rw [← hXd.out, Nat.add_assoc] at this
        exact this
      have k2 := Lib.iterAt_heap wr (S + 1 + 1) ⟨X.toArray⟩ i (i + (dc X i).2) h2
      have kB := Lib.below_iterAt hB (show w.heap.size ≤ S + 1 + 1 by omega) ⟨X.toArray⟩ (i + (dc X i).2)
      have k0 := (Lib.iterAt_other wr (S + 1 + 1) S ⟨X.toArray⟩ (i + (dc X i).2) (by omega)).trans h0
      have k1 := (Lib.iterAt_other wr (S + 1 + 1) (S + 1) ⟨X.toArray⟩ (i + (dc X i).2) (by omega)).trans h1
      obtain ⟨W2, hW2⟩ : ∃ W2, wr.iterAt (S + 1 + 1) ⟨X.toArray⟩ (i + (dc X i).2) = W2 := ⟨_, rfl⟩
      rw [hW2] at k0 k1 k2 kB
      have hnx : ∀ ty, (Instr.next (.pointer (some ⟨S + 1 + 1, 0, none⟩)) true ty).run Tryz.prog wr = .ok (.tuple #[.bool true, .int .i64 (i : Int), .int .i32 ((dc X i).1 : Int)]) W2 := fun ty => by rw [← hW2]; exact hnx0 ty
      have h2i := h2
      clear hnx0 hW2 h0 h1 h2 hB
      obtain ⟨R, hR⟩ : ∃ R, (dc X i).1 = R := ⟨_, rfl⟩
      obtain ⟨K, hK⟩ : ∃ K, (dc X i).2 = K := ⟨_, rfl⟩
      rw [hR] at hnx hkl
      rw [hK] at k2 hpos hle hnxt
      clear hR hK
      have c0 : W2.cell? ⟨S, 0, none⟩ = some (.int .i64 (p : Int)) := cell_of_row W2 S 0 _ _ _ k0
      have c1 : W2.cell? ⟨S, 1, none⟩ = some (.int .i64 (line : Int)) := cell_of_row W2 S 1 _ _ _ k0
      have c2 : W2.cell? ⟨S, 2, none⟩ = some (.int .i64 (col : Int)) := cell_of_row W2 S 2 _ _ _ k0
      have f0 : W2.frozen? ⟨S, 0, none⟩ = false := by simp [World.frozen?, k0]
      have f1 : W2.frozen? ⟨S, 1, none⟩ = false := by simp [World.frozen?, k0]
      have f2 : W2.frozen? ⟨S, 2, none⟩ = false := by simp [World.frozen?, k0]
      have d0 : W2.cell? ⟨S + 1, 0, none⟩ = some (.int .i64 0) := cell_of_row W2 (S + 1) 0 _ _ _ k1
      have d1 : W2.cell? ⟨S + 1, 1, none⟩ = some (.int .i64 0) := cell_of_row W2 (S + 1) 1 _ _ _ k1
      have d2 : W2.cell? ⟨S + 1, 2, none⟩ = some (.int .i64 0) := cell_of_row W2 (S + 1) 2 _ _ _ k1
      have g0 : W2.frozen? ⟨S + 1, 0, none⟩ = false := by simp [World.frozen?, k1]
      have g1 : W2.frozen? ⟨S + 1, 1, none⟩ = false := by simp [World.frozen?, k1]
      have g2 : W2.frozen? ⟨S + 1, 2, none⟩ = false := by simp [World.frozen?, k1]
      by_cases heq : line = tl ∧ col = tc
      · obtain ⟨rfl, rfl⟩ := heq
        have hq := (stN_ne hst.out rfl).2
        obtain rfl : p + i = q := (Prod.mk.inj hq).1
        have e1 : Hid (IntKind.i64.wrap ((p : Int) + (i : Int)) = ((p + i : Nat) : Int)) := by unfold Hid; rw [IntKind.wrap_i64]; omega
        clear hst hnxt hkl hq
        go_wp2_with fail
        refine bodyPost_ret (results_sk _ _ (S + 1) _ _ _ rfl (heap_setCell_same _ (S + 1) 2 _ _ _ (heap_setCell_same _ (S + 1) 1 _ _ _ (heap_setCell_same _ (S + 1) 0 _ _ _ ((heap_setCell_other _ _ _ _ (by simp)).trans k1))))) rfl ?_
        exact ⟨rfl, ((((kB.setCell (p := ⟨S, 0, none⟩) (by simp; omega) _).setCell (p := ⟨S + 1, 0, none⟩) (by simp; omega) _).setCell (p := ⟨S + 1, 1, none⟩) (by simp; omega) _).setCell (p := ⟨S + 1, 2, none⟩) (by simp; omega) _)⟩
      · obtain ⟨m', rfl⟩ : ∃ m', m = m' + 1 := by
          match m, hst with
          | 0, hst =>
            have := Prod.mk.inj (Prod.mk.inj (show (p + i, line, col) = (q, tl, tc) from hst.out)).2
            exact absurd this heq
          | m + 1, _ => exact ⟨m, rfl⟩
        by_cases hl : line = tl
        · have hc2 : col ≠ tc := fun e => heq ⟨hl, e⟩
          by_cases hR : R = 10
          · subst hl
            have n1 : ((col : Int) == (tc : Int)) = false := by rw [beq_eq_false_iff_ne]; omega
            subst hR
            have hn2 : Hid (stN l m' (p + (i + K), line + 1, 1) (q, line, tc)) := by
              have := hnxt.out m' hst.out
              rw [if_pos (hkl.out.2 rfl)] at this
              exact this
            clear hst hnxt hkl
            go_wp2_with fail
            go_roundw
            case rel =>
              refine ⟨i + K, line + 1, 1, m', hle, ?_, ?_, ?_, (kB.setCell (p := ⟨S, 1, none⟩) (by simp; omega) _).setCell (p := ⟨S, 2, none⟩) (by simp; omega) _, hn2, by omega⟩
              · rw [heap_setCell_same _ S 2 _ _ _ (heap_setCell_same W2 S 1 _ _ _ k0)]; rfl
              · rw [heap_setCell_other _ _ _ _ (by simp), heap_setCell_other _ _ _ _ (by simp)]; exact k1
              · rw [heap_setCell_other _ _ _ _ (by simp; omega), heap_setCell_other _ _ _ _ (by simp; omega)]; exact k2
            case measure => exact seek_meas h2i (by rw [heap_setCell_other _ _ _ _ (by simp; omega), heap_setCell_other _ _ _ _ (by simp; omega)]; exact k2) (by omega) hle
          · subst hl
            have n1 : ((col : Int) == (tc : Int)) = false := by rw [beq_eq_false_iff_ne]; omega
            have n10 : ((R : Int) == 10) = false := by rw [beq_eq_false_iff_ne]; omega
            have hn2 : Hid (stN l m' (p + (i + K), line, col + 1) (q, line, tc)) := by
              have := hnxt.out m' hst.out
              rw [if_neg (fun h => hR (hkl.out.1 h))] at this
              exact this
            clear hst hnxt hkl
            go_wp2_with fail
            go_roundw
            case rel =>
              refine ⟨i + K, line, col + 1, m', hle, ?_, ?_, ?_, kB.setCell (p := ⟨S, 2, none⟩) (by simp; omega) _, hn2, by omega⟩
              · rw [heap_setCell_same W2 S 2 _ _ _ k0]; rfl
              · rw [heap_setCell_other _ _ _ _ (by simp)]; exact k1
              · rw [heap_setCell_other _ _ _ _ (by simp; omega)]; exact k2
            case measure => exact seek_meas h2i (by rw [heap_setCell_other _ _ _ _ (by simp; omega)]; exact k2) (by omega) hle
        · by_cases hR : R = 10
          · have n1 : ((line : Int) == (tl : Int)) = false := by rw [beq_eq_false_iff_ne]; omega
            subst hR
            have hn2 : Hid (stN l m' (p + (i + K), line + 1, 1) (q, tl, tc)) := by
              have := hnxt.out m' hst.out
              rw [if_pos (hkl.out.2 rfl)] at this
              exact this
            clear hst hnxt hkl
            go_wp2_with fail
            go_roundw
            case rel =>
              refine ⟨i + K, line + 1, 1, m', hle, ?_, ?_, ?_, (kB.setCell (p := ⟨S, 1, none⟩) (by simp; omega) _).setCell (p := ⟨S, 2, none⟩) (by simp; omega) _, hn2, by omega⟩
              · rw [heap_setCell_same _ S 2 _ _ _ (heap_setCell_same W2 S 1 _ _ _ k0)]; rfl
              · rw [heap_setCell_other _ _ _ _ (by simp), heap_setCell_other _ _ _ _ (by simp)]; exact k1
              · rw [heap_setCell_other _ _ _ _ (by simp; omega), heap_setCell_other _ _ _ _ (by simp; omega)]; exact k2
            case measure => exact seek_meas h2i (by rw [heap_setCell_other _ _ _ _ (by simp; omega), heap_setCell_other _ _ _ _ (by simp; omega)]; exact k2) (by omega) hle
          · have n1 : ((line : Int) == (tl : Int)) = false := by rw [beq_eq_false_iff_ne]; omega
            have n10 : ((R : Int) == 10) = false := by rw [beq_eq_false_iff_ne]; omega
            have hn2 : Hid (stN l m' (p + (i + K), line, col + 1) (q, tl, tc)) := by
              have := hnxt.out m' hst.out
              rw [if_neg (fun h => hR (hkl.out.1 h))] at this
              exact this
            clear hst hnxt hkl
            go_wp2_with fail
            go_roundw
            case rel =>
              refine ⟨i + K, line, col + 1, m', hle, ?_, ?_, ?_, kB.setCell (p := ⟨S, 2, none⟩) (by simp; omega) _, hn2, by omega⟩
              · rw [heap_setCell_same W2 S 2 _ _ _ k0]; rfl
              · rw [heap_setCell_other _ _ _ _ (by simp)]; exact k1
              · rw [heap_setCell_other _ _ _ _ (by simp; omega)]; exact k2
            case measure => exact seek_meas h2i (by rw [heap_setCell_other _ _ _ _ (by simp; omega)]; exact k2) (by omega) hle
    · obtain rfl : i = X.length := by omega
      have hq : p + X.length = l.length := by omega
      obtain ⟨e1, e2, e3⟩ : p + X.length = q ∧ line = tl ∧ col = tc := by
        match m, hst with
        | 0, hst =>
          have h9 := Prod.mk.inj (show (p + X.length, line, col) = (q, tl, tc) from hst.out)
          exact ⟨h9.1, (Prod.mk.inj h9.2).1, (Prod.mk.inj h9.2).2⟩
        | m + 1, hst => exact absurd (show p + X.length < l.length from hst.out.1) (by omega)
      subst e2 e3
      obtain rfl : q = l.length := by omega
      have hnx := fun ty => Lib.run_next_end_at (P := Tryz.prog) wr (S + 1 + 1) ⟨X.toArray⟩ X.length ty h2 (by simp [ByteArray.size])
      have c0 : wr.cell? ⟨S, 0, none⟩ = some (.int .i64 (p : Int)) := cell_of_row wr S 0 _ _ _ h0
      have c1 : wr.cell? ⟨S, 1, none⟩ = some (.int .i64 (line : Int)) := cell_of_row wr S 1 _ _ _ h0
      have c2 : wr.cell? ⟨S, 2, none⟩ = some (.int .i64 (col : Int)) := cell_of_row wr S 2 _ _ _ h0
      have f0 : wr.frozen? ⟨S, 0, none⟩ = false := by simp [World.frozen?, h0]
      have d0 : wr.cell? ⟨S + 1, 0, none⟩ = some (.int .i64 0) := cell_of_row wr (S + 1) 0 _ _ _ h1
      have d1 : wr.cell? ⟨S + 1, 1, none⟩ = some (.int .i64 0) := cell_of_row wr (S + 1) 1 _ _ _ h1
      have d2 : wr.cell? ⟨S + 1, 2, none⟩ = some (.int .i64 0) := cell_of_row wr (S + 1) 2 _ _ _ h1
      have g0 : wr.frozen? ⟨S + 1, 0, none⟩ = false := by simp [World.frozen?, h1]
      have g1 : wr.frozen? ⟨S + 1, 1, none⟩ = false := by simp [World.frozen?, h1]
      have g2 : wr.frozen? ⟨S + 1, 2, none⟩ = false := by simp [World.frozen?, h1]
      clear hst hq hXl e1
      go_wp2_with fail
      refine bodyPost_ret (results_sk _ _ (S + 1) _ _ _ rfl (heap_setCell_same _ (S + 1) 2 _ _ _ (heap_setCell_same _ (S + 1) 1 _ _ _ (heap_setCell_same _ (S + 1) 0 _ _ _ ((heap_setCell_other _ _ _ _ (by simp)).trans h1))))) rfl ?_
      exact ⟨rfl, ((((hB.setCell (p := ⟨S, 0, none⟩) (by simp; omega) _).setCell (p := ⟨S + 1, 0, none⟩) (by simp; omega) _).setCell (p := ⟨S + 1, 1, none⟩) (by simp; omega) _).setCell (p := ⟨S + 1, 2, none⟩) (by simp; omega) _)⟩
end Go.Proofs.YtialcphfaleedaaGreatDoor
namespace Go.Proofs.YtialcphfaleedaaGreatDoor
open Go.RowKit Go.Shelf
/-- what stands while placed runs -/
def CP (w : World) (S a ln cl : Nat) (W : World) : Prop := Below w.heap.size w W ∧ w.heap.size ≤ S ∧ W.heap[S]? = some (.cells #[.int .i64 (a : Int), .int .i64 (ln : Int), .int .i64 (cl : Int)] 44)
/-- the line of the token ahead -/
def prevL (D : List Tok) (k pl : Nat) : Prop := (k = 0 ∧ pl = 0) ∨ ∃ k' t, k = k' + 1 ∧ D[k']? = some t ∧ t.2.2.1 = pl
section
variable {w W : World} {S a ln cl : Nat}
theorem CP.drew (h : CP w S a ln cl W) : CP w S a ln cl W.drew := ⟨h.1.drew, h.2.1, h.2.2⟩
theorem CP.later {W' : World} (h : CP w S a ln cl W) (hb : Below W.heap.size W W') : CP w S a ln cl W' := ⟨bel0 h.1 hb, h.2.1, keepblk hb h.2.2⟩
theorem CP.cells (h : CP w S a ln cl W) : W.cell? ⟨S, 0, none⟩ = some (.int .i64 (a : Int)) ∧ W.cell? ⟨S, 1, none⟩ = some (.int .i64 (ln : Int)) ∧ W.cell? ⟨S, 2, none⟩ = some (.int .i64 (cl : Int)) ∧ W.heap[S]? = some (.cells #[.int .i64 (a : Int), .int .i64 (ln : Int), .int .i64 (cl : Int)] 44) :=
  ⟨cell_of_row W S 0 _ _ _ h.2.2, cell_of_row W S 1 _ _ _ h.2.2, cell_of_row W S 2 _ _ _ h.2.2, h.2.2⟩
theorem CP.put (h : CP w S a ln cl W) (q tl tc : Nat) : CP w S q tl tc (((W.setCell ⟨S, 0, none⟩ (.int .i64 (q : Int))).setCell ⟨S, 1, none⟩ (.int .i64 (tl : Int))).setCell ⟨S, 2, none⟩ (.int .i64 (tc : Int))) :=
  ⟨((h.1.setCell (p := ⟨S, 0, none⟩) h.2.1 _).setCell (p := ⟨S, 1, none⟩) h.2.1 _).setCell (p := ⟨S, 2, none⟩) h.2.1 _, h.2.1, by
    rw [heap_setCell_same _ S 2 _ _ _ (heap_setCell_same _ S 1 _ _ _ (heap_setCell_same _ S 0 _ _ _ h.2.2))]
    rfl⟩
end
theorem stN_small {l : List UInt8} : ∀ (n : Nat) (s t : Nat × Nat × Nat), s.2.1 ≤ s.1 + 1 → s.2.2 ≤ s.1 + 1 → stN l n s t → t.2.1 ≤ t.1 + 1 ∧ t.2.2 ≤ t.1 + 1
  | 0, s, t, h1, h2, h => by rw [← show s = t from h]; exact ⟨h1, h2⟩
  | n + 1, s, t, h1, h2, h => by
    have hp := dc_pos l s.1
    refine stN_small n _ t ?_ ?_ h.2
    · unfold nxt
      by_cases hk : kl l s.1 = 1
      · rw [if_pos hk]; simp only; omega
      · rw [if_neg hk]; simp only; omega
    · unfold nxt
      by_cases hk : kl l s.1 = 1
      · rw [if_pos hk]; simp only; omega
      · rw [if_neg hk]; simp only; omega
set_option maxRecDepth 100000 in
set_option maxHeartbeats 4000000 in
theorem placed_any (l : List UInt8) (D : List Tok) (o : Option Addr) (c B : Nat) (w : World) (hs : l.length ≤ 16384) (hrow : w.ownsRow B 31 4 (.slice o D.length c) D.length (tcels D)) (hP : PLc l 0 (0, 1, 1) 0 D) :
    Calls Tryz.prog 8 #[.string ⟨l.toArray⟩, .slice o D.length c] w fun e w' => e = .returned (.bool true) ∧ Below w.heap.size w w' := by
  have hm : D.length ≤ maxLen := own_le hrow
  unfold maxLen at hm
  have HRow : Hid (w.ownsRow B 31 4 (.slice o D.length c) D.length (tcels D)) := hrow
  have HP0 : Hid (PLc l 0 (0, 1, 1) 0 (D.drop 0)) := hP
  have HL0 : Hid (prevL D 0 0) := .inl ⟨rfl, rfl⟩
  clear hrow hP
  obtain ⟨S, hS⟩ : ∃ S, w.heap.size = S := ⟨_, rfl⟩
  have hC0 : CP w S 0 1 1 (w.alloc (Obj.cells #[.int .i64 0, .int .i64 1, .int .i64 1] 44)) := ⟨(Below.refl _ _).alloc (Nat.le_refl _) _, by omega, by rw [← hS]; exact alloc_get _ _⟩
  go_enter Tryz.func8, Tryz.ntmps8
  go_wp2_with fail
  go_loopw [5, 7] (fun vf vi wr => ∃ (k fr a ln cl pl : Nat), vi = .int .i64 k ∧ vf = .int .i64 fr ∧ k ≤ D.length ∧ fr ≤ l.length ∧ a ≤ l.length ∧ ln ≤ a + 1 ∧ cl ≤ a + 1 ∧ 1 ≤ ln ∧ Hid (PLc l fr (a, ln, cl) pl (D.drop k)) ∧ Hid (prevL D k pl) ∧ CP w S a ln cl wr) (fun _ vi _ => D.length - (intOf vi).toNat)
  case atStart => exact ⟨0, 0, 0, 1, 1, 0, rfl, rfl, Nat.zero_le _, Nat.zero_le _, Nat.zero_le _, by omega, by omega, Nat.le_refl _, HP0, HL0, hC0⟩
  case round =>
    clear HP0 HL0 hC0
    obtain ⟨k, fr, a, ln, cl, pl, rfl, rfl, hk, hfr, hal, hln, hcl, hln1, hPL, hpl, hC⟩ := hrel
    by_cases hlt : k < D.length
    · obtain ⟨G, rfl⟩ := own_at HRow.out (by omega)
      have hdr : D.drop k = D[k] :: D.drop (k + 1) := List.drop_eq_getElem_cons hlt
      have ht : D[k]? = some D[k] := List.getElem?_eq_getElem hlt
      have hP2 := hPL.out
      rw [hdr] at hP2
      obtain ⟨t, hte⟩ : ∃ t, D[k] = t := ⟨_, rfl⟩
      rw [hte] at hP2 ht
      obtain ⟨K, X, tl, tc⟩ := t
      obtain ⟨n, q, hst, hfq, hql, hN, hE⟩ := hP2
      simp only at hst hN hE
      clear hdr hte hPL
      obtain ⟨b1, b2⟩ := stN_small n _ _ (show ln ≤ a + 1 from hln) (show cl ≤ a + 1 from hcl) hst
      have b3 : ln ≤ tl := stN_line hst
      simp only at b1 b2
      have HSK : Hid (∀ W : World, Calls Tryz.prog 16 #[.string ⟨l.toArray⟩, .agg #[.int .i64 (a : Int), .int .i64 (ln : Int), .int .i64 (cl : Int)], .int .i64 (tl : Int), .int .i64 (tc : Int)] W fun e w' => e = .returned (.agg #[.int .i64 (q : Int), .int .i64 (tl : Int), .int .i64 (tc : Int)]) ∧ Below W.heap.size W w') := fun W => seek_any l a ln cl n q tl tc W hs hal hst (by omega) (by omega)
      clear hst
      have j1 : (k : Int) < (D.length : Int) := by omega
      have j0 : (0 : Int) ≤ (k : Int) := by omega
      obtain ⟨Y, hY⟩ : ∃ Y, subL l fr q = Y := ⟨_, rfl⟩
      have hEx : (ByteArray.mk l.toArray).extract fr q = ⟨Y.toArray⟩ := by rw [← hY]; exact ext_sub l fr q
      have hYl : Y.length ≤ 16384 := by rw [← hY]; have := subL_len l fr q; omega
      rw [hY] at hN hE
      clear hY
      have j5 : (fr : Int) ≤ (q : Int) := by omega
      have j6 : (q : Int) ≤ (l.length : Int) := by omega
      by_cases hK : K = 1
      · subst hK
        obtain ⟨⟨ci, hid⟩, hpt, rfl, hnx⟩ := hE rfl
        subst hpt
        clear hN hE
        obtain ⟨k, rfl, hpk⟩ : ∃ k', k = k' + 1 ∧ ∃ t, D[k']? = some t ∧ t.2.2.1 = pl := by
          rcases hpl.out with h | ⟨k', t, h1, h2, h3⟩
          · exact absurd h.2 (by omega)
          · exact ⟨k', h1, t, h2, h3⟩
        obtain ⟨⟨K0, X9, tl0, tc0⟩, hpt, hpl0⟩ := hpk
        simp only at hpl0
        subst hpl0
        have X0 : Hid (∀ W : World, Below w.heap.size w W → W.cell? ⟨G, k * 4, none⟩ = some (.int .i64 (K0 : Int)) ∧ W.cell? ⟨G, k * 4 + 1, none⟩ = some (.string ⟨X9.toArray⟩) ∧ W.cell? ⟨G, k * 4 + 2, none⟩ = some (.int .i64 (tl0 : Int)) ∧ W.cell? ⟨G, k * 4 + 3, none⟩ = some (.int .i64 (tc0 : Int))) := fun W hW => tok_cell (owns_below HRow.out hW) hpt
        have X1 : Hid (∀ W : World, Below w.heap.size w W → W.cell? ⟨G, (k + 1) * 4, none⟩ = some (.int .i64 1) ∧ W.cell? ⟨G, (k + 1) * 4 + 1, none⟩ = some (.string ⟨#[10]⟩) ∧ W.cell? ⟨G, (k + 1) * 4 + 2, none⟩ = some (.int .i64 (tl0 : Int)) ∧ W.cell? ⟨G, (k + 1) * 4 + 3, none⟩ = some (.int .i64 (tc : Int))) := fun W hW => tok_cell (owns_below HRow.out hW) ht
        have HID : Hid (∀ W : World, Calls Tryz.prog 17 #[.string ⟨Y.toArray⟩, .bool false] W fun e w' => e = .returned (.bool true) ∧ w' = W) := fun W => idle_any Y false ci W hYl hid (fun h => by cases h)
        have HL2 : Hid (prevL D (k + 1 + 1) tl0) := .inr ⟨k + 1, _, rfl, ht, rfl⟩
        have jk : (k : Int) < (D.length : Int) := by omega
        have HWK : Hid (IntKind.i64.wrap (k : Int) = (k : Int)) := by unfold Hid; rw [IntKind.wrap_i64]; omega
        have jk0 : (0 : Int) ≤ (k : Int) := by omega
        have jk1 : (0 : Int) ≤ (k : Int) + 1 := by omega
        have jk2 : (k : Int) + 1 < (D.length : Int) := by omega
        have jk3 : ¬ (k : Int) + 1 = 0 := by omega
        have jk4 : ((k : Int) + 1 == 0) = false := by rw [beq_eq_false_iff_ne]; omega
        clear hpl hpt ht hid
        rcases hnx with ⟨rfl, hnx⟩ | ⟨hq, hb10, hnx⟩
        · have HPL2 : Hid (PLc l l.length (l.length, tl0, tc) tl0 (D.drop (k + 1 + 1))) := hnx
          clear hnx
          go_wp2_with fail
          refine quiet_last (C := CP w S a ln cl) (by kernel_rfl) (by kernel_rfl) (by kernel_rfl) (by kernel_rfl) (CP.drew hC) ?_
          simp only [List.dropLast_cons_cons, List.dropLast_singleton]
          go_big_quiet_want
          go_big_quiet_op
          go_big_quiet_on
          go_big_quiet_want
          refine ⟨.agg #[.int .i64 (a : Int), .int .i64 (ln : Int), .int .i64 (cl : Int)], fun W hW => ?_, ?_⟩
          · obtain ⟨z0, z1, z2, -⟩ := hW.cells
            go_simp
          go_big_quiet_on
          simp only [Act.put, List.setIfInBounds_toArray, List.set_cons_zero, List.set_cons_succ]
          go_big_quiet_want
          go_big_quiet_op
          go_big_quiet_on
          go_big_quiet_want
          go_big_quiet_op
          go_big_quiet_on
          go_big_quiet_want
          refine ⟨.pointer (some ⟨G, (k + 1) * 4, none⟩), fun W hW => ?_, ?_⟩
          · go_simp
          go_big_quiet_on
          simp only [Act.put, List.setIfInBounds_toArray, List.set_cons_zero, List.set_cons_succ]
          go_big_quiet_want
          refine ⟨.pointer (some ⟨G, (k + 1) * 4 + 2, none⟩), fun W hW => ?_, ?_⟩
          · go_simp
          go_big_quiet_on
          simp only [Act.put, List.setIfInBounds_toArray, List.set_cons_zero, List.set_cons_succ]
          go_big_quiet_want
          refine ⟨.int .i64 (tl0 : Int), fun W hW => ?_, ?_⟩
          · obtain ⟨y0, y1, y2, y3⟩ := X1.out W hW.1
            go_simp
          go_big_quiet_on
          simp only [Act.put, List.setIfInBounds_toArray, List.set_cons_zero, List.set_cons_succ]
          go_big_quiet_want
          go_big_quiet_op
          go_big_quiet_on
          go_big_quiet_want
          go_big_quiet_op
          go_big_quiet_on
          go_big_quiet_want
          refine ⟨.pointer (some ⟨G, (k + 1) * 4, none⟩), fun W hW => ?_, ?_⟩
          · go_simp
          go_big_quiet_on
          simp only [Act.put, List.setIfInBounds_toArray, List.set_cons_zero, List.set_cons_succ]
          go_big_quiet_want
          refine ⟨.pointer (some ⟨G, (k + 1) * 4 + 3, none⟩), fun W hW => ?_, ?_⟩
          · go_simp
          go_big_quiet_on
          simp only [Act.put, List.setIfInBounds_toArray, List.set_cons_zero, List.set_cons_succ]
          go_big_quiet_want
          refine ⟨.int .i64 (tc : Int), fun W hW => ?_, ?_⟩
          · obtain ⟨y0, y1, y2, y3⟩ := X1.out W hW.1
            go_simp
          go_big_quiet_on
          simp only [Act.put, List.setIfInBounds_toArray, List.set_cons_zero, List.set_cons_succ]
          go_big_quiet_want
          refine ⟨.agg #[.int .i64 (l.length : Int), .int .i64 (tl0 : Int), .int .i64 (tc : Int)], fun W hW => ?_, ?_⟩
          · go_simp
            refine (HSK.out W).mono ?_
            rintro e w7 ⟨rfl, hb⟩
            exact ⟨rfl, hW.later hb⟩
          go_big_quiet_on
          simp only [Act.put, List.setIfInBounds_toArray, List.set_cons_zero, List.set_cons_succ]
          refine wpQuiet_nil ?_
          intro W hW
          obtain ⟨z0, z1, z2, hk0⟩ := hW.cells
          have f0 : W.frozen? ⟨S, 0, none⟩ = false := by simp [World.frozen?, hk0]
          have f1 : W.frozen? ⟨S, 1, none⟩ = false := by simp [World.frozen?, hk0]
          have f2 : W.frozen? ⟨S, 2, none⟩ = false := by simp [World.frozen?, hk0]
          have hc3 := hW.put l.length tl0 tc
          refine wpOp_go rfl rfl ?_
          go_simp
          generalize ((W.setCell ⟨S, 0, none⟩ (.int .i64 (l.length : Int))).setCell ⟨S, 1, none⟩ (.int .i64 (tl0 : Int))).setCell ⟨S, 2, none⟩ (.int .i64 (tc : Int)) = W3 at hc3 ⊢
          obtain ⟨x0, x1, x2, -⟩ := hc3.cells
          clear z0 z1 z2 hk0 f0 f1 f2 hW hC HSK W
          go_wp2_with fail
          clear x0 x1 x2
          refine quiet_lit3 (C := CP w S l.length tl0 tc) (by kernel_rfl) (by kernel_rfl) (CP.drew hc3) ?_
          go_big_quiet_want
          go_big_quiet_op
          go_big_quiet_on
          go_big_quiet_want
          go_big_quiet_op
          go_big_quiet_on
          go_big_quiet_want
          refine ⟨.bool false, fun W hW => ?_, ?_⟩
          · have e9 : ¬ (l.length : Int) < (fr : Int) := by omega
            go_simp
          go_big_quiet_on
          simp only [Act.put, List.setIfInBounds_toArray, List.set_cons_zero, List.set_cons_succ]
          go_big_quiet_want
          go_big_quiet_op
          go_big_quiet_on
          go_big_quiet_want
          go_big_quiet_op
          go_big_quiet_on
          go_big_quiet_want
          go_big_quiet_op
          go_big_quiet_on
          go_big_quiet_want
          go_big_quiet_op
          go_big_quiet_on
          go_big_quiet_want
          refine ⟨.string ⟨Y.toArray⟩, fun W hW => ?_, ?_⟩
          · go_simp
          go_big_quiet_on
          simp only [Act.put, List.setIfInBounds_toArray, List.set_cons_zero, List.set_cons_succ]
          go_big_quiet_want
          go_big_quiet_op
          go_big_quiet_on
          go_big_quiet_want
          go_big_quiet_op
          go_big_quiet_on
          go_big_quiet_want
          refine ⟨.pointer (some ⟨G, (k + 1) * 4, none⟩), fun W hW => ?_, ?_⟩
          · go_simp
          go_big_quiet_on
          simp only [Act.put, List.setIfInBounds_toArray, List.set_cons_zero, List.set_cons_succ]
          go_big_quiet_want
          refine ⟨.pointer (some ⟨G, (k + 1) * 4, none⟩), fun W hW => ?_, ?_⟩
          · go_simp
          go_big_quiet_on
          simp only [Act.put, List.setIfInBounds_toArray, List.set_cons_zero, List.set_cons_succ]
          go_big_quiet_want
          refine ⟨.int .i64 1, fun W hW => ?_, ?_⟩
          · obtain ⟨y0, y1, y2, y3⟩ := X1.out W hW.1
            go_simp
          go_big_quiet_on
          simp only [Act.put, List.setIfInBounds_toArray, List.set_cons_zero, List.set_cons_succ]
          go_big_quiet_want
          refine ⟨.bool false, fun W hW => ?_, ?_⟩
          · go_simp
          go_big_quiet_on
          simp only [Act.put, List.setIfInBounds_toArray, List.set_cons_zero, List.set_cons_succ]
          go_big_quiet_want
          refine ⟨.bool true, fun W hW => ?_, ?_⟩
          · go_simp
            refine (HID.out W).mono ?_
            rintro e w7 ⟨rfl, rfl⟩
            exact ⟨rfl, hW⟩
          go_big_quiet_on
          simp only [Act.put, List.setIfInBounds_toArray, List.set_cons_zero, List.set_cons_succ]
          go_big_quiet_want
          refine ⟨.bool false, fun W hW => ?_, ?_⟩
          · go_simp
          go_big_quiet_on
          simp only [Act.put, List.setIfInBounds_toArray, List.set_cons_zero, List.set_cons_succ]
          go_big_quiet_want
          refine ⟨.bool false, fun W hW => ?_, ?_⟩
          · go_simp
          go_big_quiet_on
          simp only [Act.put, List.setIfInBounds_toArray, List.set_cons_zero, List.set_cons_succ]
          refine wpQuiet_nil ?_
          intro W4 hC4
          obtain ⟨y0, y1, y2, y3⟩ := X1.out _ hC4.1
          go_wp2_with fail
          refine quiet_lit3 (C := CP w S l.length tl0 tc) (by kernel_rfl) (by kernel_rfl) (CP.drew hC4) ?_
          go_big_quiet_want
          go_big_quiet_op
          go_big_quiet_on
          go_big_quiet_want
          refine ⟨.bool false, fun W hW => ?_, ?_⟩
          · go_simp
          go_big_quiet_on
          simp only [Act.put, List.setIfInBounds_toArray, List.set_cons_zero, List.set_cons_succ]
          go_big_quiet_want
          go_big_quiet_op
          go_big_quiet_on
          go_big_quiet_want
          go_big_quiet_op
          go_big_quiet_on
          go_big_quiet_want
          go_big_quiet_op
          go_big_quiet_on
          go_big_quiet_want
          refine ⟨.int .i64 (k : Int), fun W hW => ?_, ?_⟩
          · go_simp
            exact HWK.out
          go_big_quiet_on
          simp only [Act.put, List.setIfInBounds_toArray, List.set_cons_zero, List.set_cons_succ]
          go_big_quiet_want
          refine ⟨.pointer (some ⟨G, k * 4, none⟩), fun W hW => ?_, ?_⟩
          · go_simp
          go_big_quiet_on
          simp only [Act.put, List.setIfInBounds_toArray, List.set_cons_zero, List.set_cons_succ]
          go_big_quiet_want
          refine ⟨.pointer (some ⟨G, k * 4 + 2, none⟩), fun W hW => ?_, ?_⟩
          · go_simp
          go_big_quiet_on
          simp only [Act.put, List.setIfInBounds_toArray, List.set_cons_zero, List.set_cons_succ]
          go_big_quiet_want
          refine ⟨.int .i64 (tl0 : Int), fun W hW => ?_, ?_⟩
          · obtain ⟨y0, y1, y2, y3⟩ := X0.out W hW.1
            go_simp
          go_big_quiet_on
          simp only [Act.put, List.setIfInBounds_toArray, List.set_cons_zero, List.set_cons_succ]
          go_big_quiet_want
          go_big_quiet_op
          go_big_quiet_on
          go_big_quiet_want
          go_big_quiet_op
          go_big_quiet_on
          go_big_quiet_want
          refine ⟨.pointer (some ⟨G, (k + 1) * 4, none⟩), fun W hW => ?_, ?_⟩
          · go_simp
          go_big_quiet_on
          simp only [Act.put, List.setIfInBounds_toArray, List.set_cons_zero, List.set_cons_succ]
          go_big_quiet_want
          refine ⟨.pointer (some ⟨G, (k + 1) * 4 + 2, none⟩), fun W hW => ?_, ?_⟩
          · go_simp
          go_big_quiet_on
          simp only [Act.put, List.setIfInBounds_toArray, List.set_cons_zero, List.set_cons_succ]
          go_big_quiet_want
          refine ⟨.int .i64 (tl0 : Int), fun W hW => ?_, ?_⟩
          · obtain ⟨y0, y1, y2, y3⟩ := X1.out W hW.1
            go_simp
          go_big_quiet_on
          simp only [Act.put, List.setIfInBounds_toArray, List.set_cons_zero, List.set_cons_succ]
          go_big_quiet_want
          refine ⟨.bool false, fun W hW => ?_, ?_⟩
          · go_simp
          go_big_quiet_on
          simp only [Act.put, List.setIfInBounds_toArray, List.set_cons_zero, List.set_cons_succ]
          go_big_quiet_want
          refine ⟨.bool false, fun W hW => ?_, ?_⟩
          · go_simp
          go_big_quiet_on
          simp only [Act.put, List.setIfInBounds_toArray, List.set_cons_zero, List.set_cons_succ]
          go_big_quiet_want
          go_big_quiet_op
          go_big_quiet_on
          go_big_quiet_want
          go_big_quiet_op
          go_big_quiet_on
          go_big_quiet_want
          go_big_quiet_op
          go_big_quiet_on
          go_big_quiet_want
          refine ⟨.pointer (some ⟨G, (k + 1) * 4, none⟩), fun W hW => ?_, ?_⟩
          · go_simp
          go_big_quiet_on
          simp only [Act.put, List.setIfInBounds_toArray, List.set_cons_zero, List.set_cons_succ]
          go_big_quiet_want
          refine ⟨.pointer (some ⟨G, (k + 1) * 4 + 1, none⟩), fun W hW => ?_, ?_⟩
          · go_simp
          go_big_quiet_on
          simp only [Act.put, List.setIfInBounds_toArray, List.set_cons_zero, List.set_cons_succ]
          go_big_quiet_want
          refine ⟨.string ⟨#[10]⟩, fun W hW => ?_, ?_⟩
          · obtain ⟨y0, y1, y2, y3⟩ := X1.out W hW.1
            go_simp
          go_big_quiet_on
          simp only [Act.put, List.setIfInBounds_toArray, List.set_cons_zero, List.set_cons_succ]
          go_big_quiet_want
          refine ⟨.bool false, fun W hW => ?_, ?_⟩
          · go_simp
          go_big_quiet_on
          simp only [Act.put, List.setIfInBounds_toArray, List.set_cons_zero, List.set_cons_succ]
          go_big_quiet_want
          refine ⟨.bool false, fun W hW => ?_, ?_⟩
          · go_simp
          go_big_quiet_on
          simp only [Act.put, List.setIfInBounds_toArray, List.set_cons_zero, List.set_cons_succ]
          refine wpQuiet_nil ?_
          intro W5 hC5
          clear y0 y1 y2 y3
          go_wp2_with fail
          refine quiet_lit3 (C := CP w S l.length tl0 tc) (by kernel_rfl) (by kernel_rfl) (CP.drew hC5) ?_
          go_big_quiet_want
          go_big_quiet_op
          go_big_quiet_on
          go_big_quiet_want
          go_big_quiet_op
          go_big_quiet_on
          go_big_quiet_want
          refine ⟨.int .i64 (l.length : Int), fun W hW => ?_, ?_⟩
          · go_simp
          go_big_quiet_on
          simp only [Act.put, List.setIfInBounds_toArray, List.set_cons_zero, List.set_cons_succ]
          go_big_quiet_want
          refine ⟨.bool false, fun W hW => ?_, ?_⟩
          · go_simp
          go_big_quiet_on
          simp only [Act.put, List.setIfInBounds_toArray, List.set_cons_zero, List.set_cons_succ]
          go_big_quiet_want
          go_big_quiet_op
          go_big_quiet_on
          go_big_quiet_want
          go_big_quiet_op
          go_big_quiet_on
          go_big_quiet_want
          go_big_quiet_op
          go_big_quiet_on
          go_big_quiet_want
          go_big_quiet_op
          go_big_quiet_on
          go_big_quiet_want
          refine ⟨.string ⟨#[]⟩, fun W hW => ?_, ?_⟩
          · go_simp
            rfl
          go_big_quiet_on
          simp only [Act.put, List.setIfInBounds_toArray, List.set_cons_zero, List.set_cons_succ]
          go_big_quiet_want
          go_big_quiet_op
          go_big_quiet_on
          go_big_quiet_want
          go_big_quiet_op
          go_big_quiet_on
          go_big_quiet_want
          refine ⟨.pointer (some ⟨G, (k + 1) * 4, none⟩), fun W hW => ?_, ?_⟩
          · go_simp
          go_big_quiet_on
          simp only [Act.put, List.setIfInBounds_toArray, List.set_cons_zero, List.set_cons_succ]
          go_big_quiet_want
          refine ⟨.pointer (some ⟨G, (k + 1) * 4 + 1, none⟩), fun W hW => ?_, ?_⟩
          · go_simp
          go_big_quiet_on
          simp only [Act.put, List.setIfInBounds_toArray, List.set_cons_zero, List.set_cons_succ]
          go_big_quiet_want
          refine ⟨.string ⟨#[10]⟩, fun W hW => ?_, ?_⟩
          · obtain ⟨y0, y1, y2, y3⟩ := X1.out W hW.1
            go_simp
          go_big_quiet_on
          simp only [Act.put, List.setIfInBounds_toArray, List.set_cons_zero, List.set_cons_succ]
          go_big_quiet_want
          refine ⟨.bool true, fun W hW => ?_, ?_⟩
          · go_simp
          go_big_quiet_on
          simp only [Act.put, List.setIfInBounds_toArray, List.set_cons_zero, List.set_cons_succ]
          go_big_quiet_want
          go_big_quiet_op
          go_big_quiet_on
          go_big_quiet_want
          go_big_quiet_op
          go_big_quiet_on
          go_big_quiet_want
          go_big_quiet_op
          go_big_quiet_on
          go_big_quiet_want
          refine ⟨.int .i64 (l.length : Int), fun W hW => ?_, ?_⟩
          · go_simp
          go_big_quiet_on
          simp only [Act.put, List.setIfInBounds_toArray, List.set_cons_zero, List.set_cons_succ]
          go_big_quiet_want
          refine ⟨.bool false, fun W hW => ?_, ?_⟩
          · go_simp
          go_big_quiet_on
          simp only [Act.put, List.setIfInBounds_toArray, List.set_cons_zero, List.set_cons_succ]
          go_big_quiet_want
          refine ⟨.bool false, fun W hW => ?_, ?_⟩
          · go_simp
          go_big_quiet_on
          simp only [Act.put, List.setIfInBounds_toArray, List.set_cons_zero, List.set_cons_succ]
          go_big_quiet_want
          refine ⟨.bool false, fun W hW => ?_, ?_⟩
          · go_simp
          go_big_quiet_on
          simp only [Act.put, List.setIfInBounds_toArray, List.set_cons_zero, List.set_cons_succ]
          refine wpQuiet_nil ?_
          intro W6 hC6
          go_wp2_with fail
          go_roundw
          case rel => exact ⟨k + 1 + 1, l.length, l.length, tl0, tc, tl0, by go_num, by go_num, by omega, Nat.le_refl _, Nat.le_refl _, b1, b2, by omega, HPL2, HL2, hC6⟩
          case measure => simp [intOf]; omega
        · have HPL2 : Hid (PLc l (q + 1) (q, tl0, tc) tl0 (D.drop (k + 1 + 1))) := hnx
          have hE2 : ∀ W : World, Sem.run Tryz.prog (Instr.slice 9 (.string ⟨l.toArray⟩) (some (.int .i64 (q : Int))) (some (.int .i64 ((q : Int) + 1))) none) W = .ok (.string ⟨#[10]⟩) W := fun W => by
            have h9 := slice_str l q 1 hq W
            have e9 : (l.drop q).take 1 = [10] := by
              rw [List.drop_eq_getElem_cons hq]
              show [l[q]] = [10]
              rw [show l[q] = 10 from UInt8.toNat_inj.1 (by rw [← bt_at' hq, hb10]; rfl)]
            rw [e9] at h9
            exact h9
          have jq : (q : Int) < (l.length : Int) := by omega
          have jq2 : ((q : Int) == (l.length : Int)) = false := by rw [beq_eq_false_iff_ne]; omega
          have jq3 : ¬ (l.length : Int) < (q : Int) + 1 := by omega
          clear hnx hb10
          go_wp2_with fail
          refine quiet_last (C := CP w S a ln cl) (by kernel_rfl) (by kernel_rfl) (by kernel_rfl) (by kernel_rfl) (CP.drew hC) ?_
          simp only [List.dropLast_cons_cons, List.dropLast_singleton]
          go_big_quiet_want
          go_big_quiet_op
          go_big_quiet_on
          go_big_quiet_want
          refine ⟨.agg #[.int .i64 (a : Int), .int .i64 (ln : Int), .int .i64 (cl : Int)], fun W hW => ?_, ?_⟩
          · obtain ⟨z0, z1, z2, -⟩ := hW.cells
            go_simp
          go_big_quiet_on
          simp only [Act.put, List.setIfInBounds_toArray, List.set_cons_zero, List.set_cons_succ]
          go_big_quiet_want
          go_big_quiet_op
          go_big_quiet_on
          go_big_quiet_want
          go_big_quiet_op
          go_big_quiet_on
          go_big_quiet_want
          refine ⟨.pointer (some ⟨G, (k + 1) * 4, none⟩), fun W hW => ?_, ?_⟩
          · go_simp
          go_big_quiet_on
          simp only [Act.put, List.setIfInBounds_toArray, List.set_cons_zero, List.set_cons_succ]
          go_big_quiet_want
          refine ⟨.pointer (some ⟨G, (k + 1) * 4 + 2, none⟩), fun W hW => ?_, ?_⟩
          · go_simp
          go_big_quiet_on
          simp only [Act.put, List.setIfInBounds_toArray, List.set_cons_zero, List.set_cons_succ]
          go_big_quiet_want
          refine ⟨.int .i64 (tl0 : Int), fun W hW => ?_, ?_⟩
          · obtain ⟨y0, y1, y2, y3⟩ := X1.out W hW.1
            go_simp
          go_big_quiet_on
          simp only [Act.put, List.setIfInBounds_toArray, List.set_cons_zero, List.set_cons_succ]
          go_big_quiet_want
          go_big_quiet_op
          go_big_quiet_on
          go_big_quiet_want
          go_big_quiet_op
          go_big_quiet_on
          go_big_quiet_want
          refine ⟨.pointer (some ⟨G, (k + 1) * 4, none⟩), fun W hW => ?_, ?_⟩
          · go_simp
          go_big_quiet_on
          simp only [Act.put, List.setIfInBounds_toArray, List.set_cons_zero, List.set_cons_succ]
          go_big_quiet_want
          refine ⟨.pointer (some ⟨G, (k + 1) * 4 + 3, none⟩), fun W hW => ?_, ?_⟩
          · go_simp
          go_big_quiet_on
          simp only [Act.put, List.setIfInBounds_toArray, List.set_cons_zero, List.set_cons_succ]
          go_big_quiet_want
          refine ⟨.int .i64 (tc : Int), fun W hW => ?_, ?_⟩
          · obtain ⟨y0, y1, y2, y3⟩ := X1.out W hW.1
            go_simp
          go_big_quiet_on
          simp only [Act.put, List.setIfInBounds_toArray, List.set_cons_zero, List.set_cons_succ]
          go_big_quiet_want
          refine ⟨.agg #[.int .i64 (q : Int), .int .i64 (tl0 : Int), .int .i64 (tc : Int)], fun W hW => ?_, ?_⟩
          · go_simp
            refine (HSK.out W).mono ?_
            rintro e w7 ⟨rfl, hb⟩
            exact ⟨rfl, hW.later hb⟩
          go_big_quiet_on
          simp only [Act.put, List.setIfInBounds_toArray, List.set_cons_zero, List.set_cons_succ]
          refine wpQuiet_nil ?_
          intro W hW
          obtain ⟨z0, z1, z2, hk0⟩ := hW.cells
          have f0 : W.frozen? ⟨S, 0, none⟩ = false := by simp [World.frozen?, hk0]
          have f1 : W.frozen? ⟨S, 1, none⟩ = false := by simp [World.frozen?, hk0]
          have f2 : W.frozen? ⟨S, 2, none⟩ = false := by simp [World.frozen?, hk0]
          have hc3 := hW.put q tl0 tc
          refine wpOp_go rfl rfl ?_
          go_simp
          generalize ((W.setCell ⟨S, 0, none⟩ (.int .i64 (q : Int))).setCell ⟨S, 1, none⟩ (.int .i64 (tl0 : Int))).setCell ⟨S, 2, none⟩ (.int .i64 (tc : Int)) = W3 at hc3 ⊢
          obtain ⟨x0, x1, x2, -⟩ := hc3.cells
          clear z0 z1 z2 hk0 f0 f1 f2 hW hC HSK W
          go_wp2_with fail
          clear x0 x1 x2
          refine quiet_lit3 (C := CP w S q tl0 tc) (by kernel_rfl) (by kernel_rfl) (CP.drew hc3) ?_
          go_big_quiet_want
          go_big_quiet_op
          go_big_quiet_on
          go_big_quiet_want
          go_big_quiet_op
          go_big_quiet_on
          go_big_quiet_want
          refine ⟨.bool false, fun W hW => ?_, ?_⟩
          · have e9 : ¬ (q : Int) < (fr : Int) := by omega
            go_simp
          go_big_quiet_on
          simp only [Act.put, List.setIfInBounds_toArray, List.set_cons_zero, List.set_cons_succ]
          go_big_quiet_want
          go_big_quiet_op
          go_big_quiet_on
          go_big_quiet_want
          go_big_quiet_op
          go_big_quiet_on
          go_big_quiet_want
          go_big_quiet_op
          go_big_quiet_on
          go_big_quiet_want
          go_big_quiet_op
          go_big_quiet_on
          go_big_quiet_want
          refine ⟨.string ⟨Y.toArray⟩, fun W hW => ?_, ?_⟩
          · go_simp
          go_big_quiet_on
          simp only [Act.put, List.setIfInBounds_toArray, List.set_cons_zero, List.set_cons_succ]
          go_big_quiet_want
          go_big_quiet_op
          go_big_quiet_on
          go_big_quiet_want
          go_big_quiet_op
          go_big_quiet_on
          go_big_quiet_want
          refine ⟨.pointer (some ⟨G, (k + 1) * 4, none⟩), fun W hW => ?_, ?_⟩
          · go_simp
          go_big_quiet_on
          simp only [Act.put, List.setIfInBounds_toArray, List.set_cons_zero, List.set_cons_succ]
          go_big_quiet_want
          refine ⟨.pointer (some ⟨G, (k + 1) * 4, none⟩), fun W hW => ?_, ?_⟩
          · go_simp
          go_big_quiet_on
          simp only [Act.put, List.setIfInBounds_toArray, List.set_cons_zero, List.set_cons_succ]
          go_big_quiet_want
          refine ⟨.int .i64 1, fun W hW => ?_, ?_⟩
          · obtain ⟨y0, y1, y2, y3⟩ := X1.out W hW.1
            go_simp
          go_big_quiet_on
          simp only [Act.put, List.setIfInBounds_toArray, List.set_cons_zero, List.set_cons_succ]
          go_big_quiet_want
          refine ⟨.bool false, fun W hW => ?_, ?_⟩
          · go_simp
          go_big_quiet_on
          simp only [Act.put, List.setIfInBounds_toArray, List.set_cons_zero, List.set_cons_succ]
          go_big_quiet_want
          refine ⟨.bool true, fun W hW => ?_, ?_⟩
          · go_simp
            refine (HID.out W).mono ?_
            rintro e w7 ⟨rfl, rfl⟩
            exact ⟨rfl, hW⟩
          go_big_quiet_on
          simp only [Act.put, List.setIfInBounds_toArray, List.set_cons_zero, List.set_cons_succ]
          go_big_quiet_want
          refine ⟨.bool false, fun W hW => ?_, ?_⟩
          · go_simp
          go_big_quiet_on
          simp only [Act.put, List.setIfInBounds_toArray, List.set_cons_zero, List.set_cons_succ]
          go_big_quiet_want
          refine ⟨.bool false, fun W hW => ?_, ?_⟩
          · go_simp
          go_big_quiet_on
          simp only [Act.put, List.setIfInBounds_toArray, List.set_cons_zero, List.set_cons_succ]
          refine wpQuiet_nil ?_
          intro W4 hC4
          obtain ⟨y0, y1, y2, y3⟩ := X1.out _ hC4.1
          go_wp2_with fail
          refine quiet_lit3 (C := CP w S q tl0 tc) (by kernel_rfl) (by kernel_rfl) (CP.drew hC4) ?_
          go_big_quiet_want
          go_big_quiet_op
          go_big_quiet_on
          go_big_quiet_want
          refine ⟨.bool false, fun W hW => ?_, ?_⟩
          · go_simp
          go_big_quiet_on
          simp only [Act.put, List.setIfInBounds_toArray, List.set_cons_zero, List.set_cons_succ]
          go_big_quiet_want
          go_big_quiet_op
          go_big_quiet_on
          go_big_quiet_want
          go_big_quiet_op
          go_big_quiet_on
          go_big_quiet_want
          go_big_quiet_op
          go_big_quiet_on
          go_big_quiet_want
          refine ⟨.int .i64 (k : Int), fun W hW => ?_, ?_⟩
          · go_simp
            exact HWK.out
          go_big_quiet_on
          simp only [Act.put, List.setIfInBounds_toArray, List.set_cons_zero, List.set_cons_succ]
          go_big_quiet_want
          refine ⟨.pointer (some ⟨G, k * 4, none⟩), fun W hW => ?_, ?_⟩
          · go_simp
          go_big_quiet_on
          simp only [Act.put, List.setIfInBounds_toArray, List.set_cons_zero, List.set_cons_succ]
          go_big_quiet_want
          refine ⟨.pointer (some ⟨G, k * 4 + 2, none⟩), fun W hW => ?_, ?_⟩
          · go_simp
          go_big_quiet_on
          simp only [Act.put, List.setIfInBounds_toArray, List.set_cons_zero, List.set_cons_succ]
          go_big_quiet_want
          refine ⟨.int .i64 (tl0 : Int), fun W hW => ?_, ?_⟩
          · obtain ⟨y0, y1, y2, y3⟩ := X0.out W hW.1
            go_simp
          go_big_quiet_on
          simp only [Act.put, List.setIfInBounds_toArray, List.set_cons_zero, List.set_cons_succ]
          go_big_quiet_want
          go_big_quiet_op
          go_big_quiet_on
          go_big_quiet_want
          go_big_quiet_op
          go_big_quiet_on
          go_big_quiet_want
          refine ⟨.pointer (some ⟨G, (k + 1) * 4, none⟩), fun W hW => ?_, ?_⟩
          · go_simp
          go_big_quiet_on
          simp only [Act.put, List.setIfInBounds_toArray, List.set_cons_zero, List.set_cons_succ]
          go_big_quiet_want
          refine ⟨.pointer (some ⟨G, (k + 1) * 4 + 2, none⟩), fun W hW => ?_, ?_⟩
          · go_simp
          go_big_quiet_on
          simp only [Act.put, List.setIfInBounds_toArray, List.set_cons_zero, List.set_cons_succ]
          go_big_quiet_want
          refine ⟨.int .i64 (tl0 : Int), fun W hW => ?_, ?_⟩
          · obtain ⟨y0, y1, y2, y3⟩ := X1.out W hW.1
            go_simp
          go_big_quiet_on
          simp only [Act.put, List.setIfInBounds_toArray, List.set_cons_zero, List.set_cons_succ]
          go_big_quiet_want
          refine ⟨.bool false, fun W hW => ?_, ?_⟩
          · go_simp
          go_big_quiet_on
          simp only [Act.put, List.setIfInBounds_toArray, List.set_cons_zero, List.set_cons_succ]
          go_big_quiet_want
          refine ⟨.bool false, fun W hW => ?_, ?_⟩
          · go_simp
          go_big_quiet_on
          simp only [Act.put, List.setIfInBounds_toArray, List.set_cons_zero, List.set_cons_succ]
          go_big_quiet_want
          go_big_quiet_op
          go_big_quiet_on
          go_big_quiet_want
          go_big_quiet_op
          go_big_quiet_on
          go_big_quiet_want
          go_big_quiet_op
          go_big_quiet_on
          go_big_quiet_want
          refine ⟨.pointer (some ⟨G, (k + 1) * 4, none⟩), fun W hW => ?_, ?_⟩
          · go_simp
          go_big_quiet_on
          simp only [Act.put, List.setIfInBounds_toArray, List.set_cons_zero, List.set_cons_succ]
          go_big_quiet_want
          refine ⟨.pointer (some ⟨G, (k + 1) * 4 + 1, none⟩), fun W hW => ?_, ?_⟩
          · go_simp
          go_big_quiet_on
          simp only [Act.put, List.setIfInBounds_toArray, List.set_cons_zero, List.set_cons_succ]
          go_big_quiet_want
          refine ⟨.string ⟨#[10]⟩, fun W hW => ?_, ?_⟩
          · obtain ⟨y0, y1, y2, y3⟩ := X1.out W hW.1
            go_simp
          go_big_quiet_on
          simp only [Act.put, List.setIfInBounds_toArray, List.set_cons_zero, List.set_cons_succ]
          go_big_quiet_want
          refine ⟨.bool false, fun W hW => ?_, ?_⟩
          · go_simp
          go_big_quiet_on
          simp only [Act.put, List.setIfInBounds_toArray, List.set_cons_zero, List.set_cons_succ]
          go_big_quiet_want
          refine ⟨.bool false, fun W hW => ?_, ?_⟩
          · go_simp
          go_big_quiet_on
          simp only [Act.put, List.setIfInBounds_toArray, List.set_cons_zero, List.set_cons_succ]
          refine wpQuiet_nil ?_
          intro W5 hC5
          clear y0 y1 y2 y3
          go_wp2_with fail
          refine quiet_lit3 (C := CP w S q tl0 tc) (by kernel_rfl) (by kernel_rfl) (CP.drew hC5) ?_
          go_big_quiet_want
          go_big_quiet_op
          go_big_quiet_on
          go_big_quiet_want
          go_big_quiet_op
          go_big_quiet_on
          go_big_quiet_want
          refine ⟨.int .i64 (l.length : Int), fun W hW => ?_, ?_⟩
          · go_simp
          go_big_quiet_on
          simp only [Act.put, List.setIfInBounds_toArray, List.set_cons_zero, List.set_cons_succ]
          go_big_quiet_want
          refine ⟨.bool false, fun W hW => ?_, ?_⟩
          · go_simp
          go_big_quiet_on
          simp only [Act.put, List.setIfInBounds_toArray, List.set_cons_zero, List.set_cons_succ]
          go_big_quiet_want
          go_big_quiet_op
          go_big_quiet_on
          go_big_quiet_want
          go_big_quiet_op
          go_big_quiet_on
          go_big_quiet_want
          go_big_quiet_op
          go_big_quiet_on
          go_big_quiet_want
          go_big_quiet_op
          go_big_quiet_on
          go_big_quiet_want
          refine ⟨.string ⟨#[10]⟩, fun W hW => ?_, ?_⟩
          · go_simp
          go_big_quiet_on
          simp only [Act.put, List.setIfInBounds_toArray, List.set_cons_zero, List.set_cons_succ]
          go_big_quiet_want
          go_big_quiet_op
          go_big_quiet_on
          go_big_quiet_want
          go_big_quiet_op
          go_big_quiet_on
          go_big_quiet_want
          refine ⟨.pointer (some ⟨G, (k + 1) * 4, none⟩), fun W hW => ?_, ?_⟩
          · go_simp
          go_big_quiet_on
          simp only [Act.put, List.setIfInBounds_toArray, List.set_cons_zero, List.set_cons_succ]
          go_big_quiet_want
          refine ⟨.pointer (some ⟨G, (k + 1) * 4 + 1, none⟩), fun W hW => ?_, ?_⟩
          · go_simp
          go_big_quiet_on
          simp only [Act.put, List.setIfInBounds_toArray, List.set_cons_zero, List.set_cons_succ]
          go_big_quiet_want
          refine ⟨.string ⟨#[10]⟩, fun W hW => ?_, ?_⟩
          · obtain ⟨y0, y1, y2, y3⟩ := X1.out W hW.1
            go_simp
          go_big_quiet_on
          simp only [Act.put, List.setIfInBounds_toArray, List.set_cons_zero, List.set_cons_succ]
          go_big_quiet_want
          refine ⟨.bool false, fun W hW => ?_, ?_⟩
          · go_simp
          go_big_quiet_on
          simp only [Act.put, List.setIfInBounds_toArray, List.set_cons_zero, List.set_cons_succ]
          go_big_quiet_want
          go_big_quiet_op
          go_big_quiet_on
          go_big_quiet_skip
          go_big_quiet_skip
          go_big_quiet_skip
          go_big_quiet_skip
          go_big_quiet_want
          refine ⟨.bool false, fun W hW => ?_, ?_⟩
          · go_simp
          go_big_quiet_on
          simp only [Act.put, List.setIfInBounds_toArray, List.set_cons_zero, List.set_cons_succ]
          go_big_quiet_want
          refine ⟨.bool false, fun W hW => ?_, ?_⟩
          · go_simp
          go_big_quiet_on
          simp only [Act.put, List.setIfInBounds_toArray, List.set_cons_zero, List.set_cons_succ]
          refine wpQuiet_nil ?_
          intro W6 hC6
          go_wp2_with fail
          go_roundw
          case rel => exact ⟨k + 1 + 1, q + 1, q, tl0, tc, tl0, by go_num, by go_num, by omega, hq, hql, b1, b2, by omega, HPL2, HL2, hC6⟩
          case measure => simp [intOf]; omega
      · obtain ⟨hid, hsub, hle, hnx⟩ := hN hK
        have hn1 : ((K : Int) == 1) = false := by rw [beq_eq_false_iff_ne]; omega
        have hn2 : ((K : Int) != 1) = true := by rw [bne, hn1]; rfl
        have X1 : Hid (∀ W : World, Below w.heap.size w W → W.cell? ⟨G, k * 4, none⟩ = some (.int .i64 (K : Int)) ∧ W.cell? ⟨G, k * 4 + 1, none⟩ = some (.string ⟨X.toArray⟩) ∧ W.cell? ⟨G, k * 4 + 2, none⟩ = some (.int .i64 (tl : Int)) ∧ W.cell? ⟨G, k * 4 + 3, none⟩ = some (.int .i64 (tc : Int))) := fun W hW => tok_cell (owns_below HRow.out hW) ht
        have HID : Hid (∀ W : World, Calls Tryz.prog 17 #[.string ⟨Y.toArray⟩, .bool true] W fun e w' => e = .returned (.bool true) ∧ w' = W) := fun W => idle_any Y true false W hYl hid (fun _ => rfl)
        have HL2 : Hid (prevL D (k + 1) tl) := .inr ⟨k, _, rfl, ht, rfl⟩
        have HPL2 : Hid (PLc l (q + X.length) (q, tl, tc) tl (D.drop (k + 1))) := hnx
        have hE2 : ∀ W : World, Sem.run Tryz.prog (Instr.slice 9 (.string ⟨l.toArray⟩) (some (.int .i64 (q : Int))) (some (.int .i64 ((q : Int) + (X.length : Int)))) none) W = .ok (.string ⟨X.toArray⟩) W := fun W => by
          have h9 := slice_str l q X.length hle W
          have e9 : (l.drop q).take X.length = X := by
            have := hsub
            unfold subL at this
            rw [Nat.add_sub_cancel_left] at this
            exact this
          rw [e9] at h9
          exact h9
        have jq3 : ¬ (l.length : Int) < (q : Int) + (X.length : Int) := by omega
        clear hpl ht hid hN hE hnx hsub hK
        go_wp2_with fail
        refine quiet_last (C := CP w S a ln cl) (by kernel_rfl) (by kernel_rfl) (by kernel_rfl) (by kernel_rfl) (CP.drew hC) ?_
        simp only [List.dropLast_cons_cons, List.dropLast_singleton]
        go_big_quiet_want
        go_big_quiet_op
        go_big_quiet_on
        go_big_quiet_want
        refine ⟨.agg #[.int .i64 (a : Int), .int .i64 (ln : Int), .int .i64 (cl : Int)], fun W hW => ?_, ?_⟩
        · obtain ⟨z0, z1, z2, -⟩ := hW.cells
          go_simp
        go_big_quiet_on
        simp only [Act.put, List.setIfInBounds_toArray, List.set_cons_zero, List.set_cons_succ]
        go_big_quiet_want
        go_big_quiet_op
        go_big_quiet_on
        go_big_quiet_want
        go_big_quiet_op
        go_big_quiet_on
        go_big_quiet_want
        refine ⟨.pointer (some ⟨G, k * 4, none⟩), fun W hW => ?_, ?_⟩
        · go_simp
        go_big_quiet_on
        simp only [Act.put, List.setIfInBounds_toArray, List.set_cons_zero, List.set_cons_succ]
        go_big_quiet_want
        refine ⟨.pointer (some ⟨G, k * 4 + 2, none⟩), fun W hW => ?_, ?_⟩
        · go_simp
        go_big_quiet_on
        simp only [Act.put, List.setIfInBounds_toArray, List.set_cons_zero, List.set_cons_succ]
        go_big_quiet_want
        refine ⟨.int .i64 (tl : Int), fun W hW => ?_, ?_⟩
        · obtain ⟨y0, y1, y2, y3⟩ := X1.out W hW.1
          go_simp
        go_big_quiet_on
        simp only [Act.put, List.setIfInBounds_toArray, List.set_cons_zero, List.set_cons_succ]
        go_big_quiet_want
        go_big_quiet_op
        go_big_quiet_on
        go_big_quiet_want
        go_big_quiet_op
        go_big_quiet_on
        go_big_quiet_want
        refine ⟨.pointer (some ⟨G, k * 4, none⟩), fun W hW => ?_, ?_⟩
        · go_simp
        go_big_quiet_on
        simp only [Act.put, List.setIfInBounds_toArray, List.set_cons_zero, List.set_cons_succ]
        go_big_quiet_want
        refine ⟨.pointer (some ⟨G, k * 4 + 3, none⟩), fun W hW => ?_, ?_⟩
        · go_simp
        go_big_quiet_on
        simp only [Act.put, List.setIfInBounds_toArray, List.set_cons_zero, List.set_cons_succ]
        go_big_quiet_want
        refine ⟨.int .i64 (tc : Int), fun W hW => ?_, ?_⟩
        · obtain ⟨y0, y1, y2, y3⟩ := X1.out W hW.1
          go_simp
        go_big_quiet_on
        simp only [Act.put, List.setIfInBounds_toArray, List.set_cons_zero, List.set_cons_succ]
        go_big_quiet_want
        refine ⟨.agg #[.int .i64 (q : Int), .int .i64 (tl : Int), .int .i64 (tc : Int)], fun W hW => ?_, ?_⟩
        · go_simp
          refine (HSK.out W).mono ?_
          rintro e w7 ⟨rfl, hb⟩
          exact ⟨rfl, hW.later hb⟩
        go_big_quiet_on
        simp only [Act.put, List.setIfInBounds_toArray, List.set_cons_zero, List.set_cons_succ]
        refine wpQuiet_nil ?_
        intro W hW
        obtain ⟨z0, z1, z2, hk0⟩ := hW.cells
        have f0 : W.frozen? ⟨S, 0, none⟩ = false := by simp [World.frozen?, hk0]
        have f1 : W.frozen? ⟨S, 1, none⟩ = false := by simp [World.frozen?, hk0]
        have f2 : W.frozen? ⟨S, 2, none⟩ = false := by simp [World.frozen?, hk0]
        have hc3 := hW.put q tl tc
        refine wpOp_go rfl rfl ?_
        go_simp
        generalize ((W.setCell ⟨S, 0, none⟩ (.int .i64 (q : Int))).setCell ⟨S, 1, none⟩ (.int .i64 (tl : Int))).setCell ⟨S, 2, none⟩ (.int .i64 (tc : Int)) = W3 at hc3 ⊢
        obtain ⟨x0, x1, x2, -⟩ := hc3.cells
        clear z0 z1 z2 hk0 f0 f1 f2 hW hC HSK W
        go_wp2_with fail
        clear x0 x1 x2
        refine quiet_lit3 (C := CP w S q tl tc) (by kernel_rfl) (by kernel_rfl) (CP.drew hc3) ?_
        go_big_quiet_want
        go_big_quiet_op
        go_big_quiet_on
        go_big_quiet_want
        go_big_quiet_op
        go_big_quiet_on
        go_big_quiet_want
        refine ⟨.bool false, fun W hW => ?_, ?_⟩
        · have e9 : ¬ (q : Int) < (fr : Int) := by omega
          go_simp
        go_big_quiet_on
        simp only [Act.put, List.setIfInBounds_toArray, List.set_cons_zero, List.set_cons_succ]
        go_big_quiet_want
        go_big_quiet_op
        go_big_quiet_on
        go_big_quiet_want
        go_big_quiet_op
        go_big_quiet_on
        go_big_quiet_want
        go_big_quiet_op
        go_big_quiet_on
        go_big_quiet_want
        go_big_quiet_op
        go_big_quiet_on
        go_big_quiet_want
        refine ⟨.string ⟨Y.toArray⟩, fun W hW => ?_, ?_⟩
        · go_simp
        go_big_quiet_on
        simp only [Act.put, List.setIfInBounds_toArray, List.set_cons_zero, List.set_cons_succ]
        go_big_quiet_want
        go_big_quiet_op
        go_big_quiet_on
        go_big_quiet_want
        go_big_quiet_op
        go_big_quiet_on
        go_big_quiet_want
        refine ⟨.pointer (some ⟨G, k * 4, none⟩), fun W hW => ?_, ?_⟩
        · go_simp
        go_big_quiet_on
        simp only [Act.put, List.setIfInBounds_toArray, List.set_cons_zero, List.set_cons_succ]
        go_big_quiet_want
        refine ⟨.pointer (some ⟨G, k * 4, none⟩), fun W hW => ?_, ?_⟩
        · go_simp
        go_big_quiet_on
        simp only [Act.put, List.setIfInBounds_toArray, List.set_cons_zero, List.set_cons_succ]
        go_big_quiet_want
        refine ⟨.int .i64 (K : Int), fun W hW => ?_, ?_⟩
        · obtain ⟨y0, y1, y2, y3⟩ := X1.out W hW.1
          go_simp
        go_big_quiet_on
        simp only [Act.put, List.setIfInBounds_toArray, List.set_cons_zero, List.set_cons_succ]
        go_big_quiet_want
        refine ⟨.bool true, fun W hW => ?_, ?_⟩
        · go_simp
        go_big_quiet_on
        simp only [Act.put, List.setIfInBounds_toArray, List.set_cons_zero, List.set_cons_succ]
        go_big_quiet_want
        refine ⟨.bool true, fun W hW => ?_, ?_⟩
        · go_simp
          refine (HID.out W).mono ?_
          rintro e w7 ⟨rfl, rfl⟩
          exact ⟨rfl, hW⟩
        go_big_quiet_on
        simp only [Act.put, List.setIfInBounds_toArray, List.set_cons_zero, List.set_cons_succ]
        go_big_quiet_want
        refine ⟨.bool false, fun W hW => ?_, ?_⟩
        · go_simp
        go_big_quiet_on
        simp only [Act.put, List.setIfInBounds_toArray, List.set_cons_zero, List.set_cons_succ]
        go_big_quiet_want
        refine ⟨.bool false, fun W hW => ?_, ?_⟩
        · go_simp
        go_big_quiet_on
        simp only [Act.put, List.setIfInBounds_toArray, List.set_cons_zero, List.set_cons_succ]
        refine wpQuiet_nil ?_
        intro W4 hC4
        obtain ⟨y0, y1, y2, y3⟩ := X1.out _ hC4.1
        go_wp2_with fail
        have hC5 := hC4
        clear y0 y1 y2 y3 hC4 hc3 HID
        refine quiet_lit3 (C := CP w S q tl tc) (by kernel_rfl) (by kernel_rfl) (CP.drew hC5) ?_
        go_big_quiet_want
        go_big_quiet_op
        go_big_quiet_on
        go_big_quiet_want
        go_big_quiet_op
        go_big_quiet_on
        go_big_quiet_want
        refine ⟨.int .i64 (l.length : Int), fun W hW => ?_, ?_⟩
        · go_simp
        go_big_quiet_on
        simp only [Act.put, List.setIfInBounds_toArray, List.set_cons_zero, List.set_cons_succ]
        go_big_quiet_want
        refine ⟨.bool false, fun W hW => ?_, ?_⟩
        · go_simp
        go_big_quiet_on
        simp only [Act.put, List.setIfInBounds_toArray, List.set_cons_zero, List.set_cons_succ]
        go_big_quiet_want
        go_big_quiet_op
        go_big_quiet_on
        go_big_quiet_want
        go_big_quiet_op
        go_big_quiet_on
        go_big_quiet_want
        go_big_quiet_op
        go_big_quiet_on
        go_big_quiet_want
        go_big_quiet_op
        go_big_quiet_on
        go_big_quiet_want
        refine ⟨.string ⟨X.toArray⟩, fun W hW => ?_, ?_⟩
        · go_simp
        go_big_quiet_on
        simp only [Act.put, List.setIfInBounds_toArray, List.set_cons_zero, List.set_cons_succ]
        go_big_quiet_want
        go_big_quiet_op
        go_big_quiet_on
        go_big_quiet_want
        go_big_quiet_op
        go_big_quiet_on
        go_big_quiet_want
        refine ⟨.pointer (some ⟨G, k * 4, none⟩), fun W hW => ?_, ?_⟩
        · go_simp
        go_big_quiet_on
        simp only [Act.put, List.setIfInBounds_toArray, List.set_cons_zero, List.set_cons_succ]
        go_big_quiet_want
        refine ⟨.pointer (some ⟨G, k * 4 + 1, none⟩), fun W hW => ?_, ?_⟩
        · go_simp
        go_big_quiet_on
        simp only [Act.put, List.setIfInBounds_toArray, List.set_cons_zero, List.set_cons_succ]
        go_big_quiet_want
        refine ⟨.string ⟨X.toArray⟩, fun W hW => ?_, ?_⟩
        · obtain ⟨y0, y1, y2, y3⟩ := X1.out W hW.1
          go_simp
        go_big_quiet_on
        simp only [Act.put, List.setIfInBounds_toArray, List.set_cons_zero, List.set_cons_succ]
        go_big_quiet_want
        refine ⟨.bool false, fun W hW => ?_, ?_⟩
        · go_simp
        go_big_quiet_on
        simp only [Act.put, List.setIfInBounds_toArray, List.set_cons_zero, List.set_cons_succ]
        go_big_quiet_want
        go_big_quiet_op
        go_big_quiet_on
        go_big_quiet_skip
        go_big_quiet_skip
        go_big_quiet_skip
        go_big_quiet_skip
        go_big_quiet_want
        refine ⟨.bool false, fun W hW => ?_, ?_⟩
        · go_simp
        go_big_quiet_on
        simp only [Act.put, List.setIfInBounds_toArray, List.set_cons_zero, List.set_cons_succ]
        go_big_quiet_want
        refine ⟨.bool false, fun W hW => ?_, ?_⟩
        · go_simp
        go_big_quiet_on
        simp only [Act.put, List.setIfInBounds_toArray, List.set_cons_zero, List.set_cons_succ]
        refine wpQuiet_nil ?_
        intro W6 hC6
        go_wp2_with fail
        go_roundw
        case rel => exact ⟨k + 1, q + X.length, q, tl, tc, tl, by go_num, by go_num, by omega, hle, hql, b1, b2, by omega, HPL2, HL2, hC6⟩
        case measure => simp [intOf]; omega
    · have j1 : ¬ (k : Int) < (D.length : Int) := by omega
      have hP2 := hPL.out
      rw [List.drop_eq_nil_of_le (by omega)] at hP2
      obtain ⟨-, ci, hid⟩ := hP2
      have hEx : (ByteArray.mk l.toArray).extract fr l.length = ⟨(l.drop fr).toArray⟩ := ext_drop l fr
      have HID := fun W : World => idle_any (l.drop fr) false ci W (by simp; omega) hid (fun h => by cases h)
      obtain ⟨Y, hY⟩ : ∃ Y, l.drop fr = Y := ⟨_, rfl⟩
      rw [hY] at hEx
      simp only [hY] at HID
      have j5 : (fr : Int) ≤ (l.length : Int) := by omega
      have hBB := hC.1
      clear hPL hpl hid hY hC
      go_wp2_with fail
      refine (HID _).mono ?_
      rintro e wr ⟨rfl, rfl⟩
      go_wp2_with fail
      go_ret
      exact ⟨rfl, hBB⟩
end Go.Proofs.YtialcphfaleedaaGreatDoor
namespace Go.Proofs.YtialcphfaleedaaGreatDoor
open Go.RowKit Go.Shelf
set_option maxRecDepth 100000 in
set_option maxHeartbeats 2000000 in
theorem like2_any (L : List ITok) (E : List Tok) (n : Nat) (hL : L.length = n) (hE : E.length = n) (hn : n ≤ 281474976710656) (hk : E.map (fun t => kI (toI t)) = L.map kI) (o1 o2 : Option Addr) (c1 c2 B2 : Nat) (w : World) (h1 : IR w o1 L) (h2 : w.ownsRow B2 31 4 (.slice o2 n c2) n (tcels E)) :
    Calls Tryz.prog 7 #[.slice o1 n c1, .slice o2 n c2] w fun e w' => e = .returned (.bool true) ∧ Below w.heap.size w w' := by
  have x1 : Hid (IR w o1 L) := h1
  have x2 : Hid (w.ownsRow B2 31 4 (.slice o2 n c2) n (tcels E)) := h2
  have HL : Hid (L.length = n) := hL
  have HE : Hid (E.length = n) := hE
  have HK : Hid (E.map (fun t => kI (toI t)) = L.map kI) := hk
  clear h1 h2 hL hE hk
  go_enter Tryz.func7, Tryz.ntmps7
  go_wp2_with fail
  go_loopw [5] (fun i wr => ∃ k : Nat, k ≤ n ∧ i = .int .i64 k ∧ Below w.heap.size w wr) (fun i _ => n - (intOf i).toNat)
  case atStart => exact ⟨0, Nat.zero_le _, rfl, Below.refl _ _⟩
  case round =>
    obtain ⟨k, hk, rfl, hB⟩ := hrel
    by_cases hlt : k < n
    · have j1 : (k : Int) < (n : Int) := by omega
      have j0 : (0 : Int) ≤ (k : Int) := by omega
      obtain ⟨t, ht⟩ : ∃ t, L[k]? = some t := ⟨_, List.getElem?_eq_getElem (by rw [HL.out]; exact hlt)⟩
      obtain ⟨u, hu⟩ : ∃ u, E[k]? = some u := ⟨_, List.getElem?_eq_getElem (by rw [HE.out]; exact hlt)⟩
      have hut : kI (toI u) = kI t := by
        have := congrArg (fun z => z[k]?) HK.out
        simp only [List.getElem?_map, ht, hu, Option.map_some] at this
        exact Option.some.inj this
      obtain ⟨g, o0, rfl, -⟩ := x1.out w (Below.refl _ _) k t ht
      obtain ⟨G2, rfl⟩ := own_at x2.out (by omega)
      have X1 : Hid (∀ W, Below w.heap.size w W → W.cell? ⟨g, o0 + k * 4, none⟩ = some (.int .i64 t.1) ∧ W.cell? ⟨g, o0 + k * 4 + 1, none⟩ = some (.string ⟨t.2.1.toArray⟩)) := fun W hW => by
        obtain ⟨g2, q2, h1, h2, h3, -⟩ := x1.out W hW k t ht
        injection h1 with h1
        injection h1 with h1 h4
        subst h1 h4
        exact ⟨h2, h3⟩
      have X2 : Hid (∀ W, Below w.heap.size w W → W.cell? ⟨G2, k * 4, none⟩ = some (.int .i64 t.1) ∧ W.cell? ⟨G2, k * 4 + 1, none⟩ = some (.string ⟨t.2.1.toArray⟩)) := fun W hW => by
        have h9 := owns_below x2.out hW
        rw [← HE.out] at h9
        obtain ⟨a1, a2, -, -⟩ := tok_cell h9 hu
        obtain ⟨b1, b2⟩ := Prod.mk.inj hut
        rw [← b1, ← b2]
        exact ⟨a1, a2⟩
      clear x1 x2 ht hu hut
      go_wp2_with fail
      refine quiet_lit3 (C := fun W => Below w.heap.size w W) (by kernel_rfl) (by kernel_rfl) (show Below _ _ _ from hB.drew) ?_
      go_big_quiet_want
      go_big_quiet_op
      go_big_quiet_on
      go_big_quiet_want
      go_big_quiet_op
      go_big_quiet_on
      go_big_quiet_want
      refine ⟨.pointer (some ⟨g, o0 + k * 4, none⟩), fun W hW => ?_, ?_⟩
      · go_simp
      go_big_quiet_on
      simp only [Act.put, List.setIfInBounds_toArray, List.set_cons_zero, List.set_cons_succ]
      go_big_quiet_want
      refine ⟨.pointer (some ⟨g, o0 + k * 4, none⟩), fun W hW => ?_, ?_⟩
      · go_simp
      go_big_quiet_on
      simp only [Act.put, List.setIfInBounds_toArray, List.set_cons_zero, List.set_cons_succ]
      go_big_quiet_want
      refine ⟨.int .i64 t.1, fun W hW => ?_, ?_⟩
      · obtain ⟨p0, p1⟩ := X1.out W hW
        go_simp
      go_big_quiet_on
      simp only [Act.put, List.setIfInBounds_toArray, List.set_cons_zero, List.set_cons_succ]
      go_big_quiet_want
      go_big_quiet_op
      go_big_quiet_on
      go_big_quiet_want
      go_big_quiet_op
      go_big_quiet_on
      go_big_quiet_want
      refine ⟨.pointer (some ⟨G2, k * 4, none⟩), fun W hW => ?_, ?_⟩
      · go_simp
      go_big_quiet_on
      simp only [Act.put, List.setIfInBounds_toArray, List.set_cons_zero, List.set_cons_succ]
      go_big_quiet_want
      refine ⟨.pointer (some ⟨G2, k * 4, none⟩), fun W hW => ?_, ?_⟩
      · go_simp
      go_big_quiet_on
      simp only [Act.put, List.setIfInBounds_toArray, List.set_cons_zero, List.set_cons_succ]
      go_big_quiet_want
      refine ⟨.int .i64 t.1, fun W hW => ?_, ?_⟩
      · obtain ⟨p0, p1⟩ := X2.out W hW
        go_simp
      go_big_quiet_on
      simp only [Act.put, List.setIfInBounds_toArray, List.set_cons_zero, List.set_cons_succ]
      go_big_quiet_want
      refine ⟨.bool false, fun W hW => ?_, ?_⟩
      · go_simp
      go_big_quiet_on
      simp only [Act.put, List.setIfInBounds_toArray, List.set_cons_zero, List.set_cons_succ]
      go_big_quiet_want
      go_big_quiet_op
      go_big_quiet_on
      go_big_quiet_want
      go_big_quiet_op
      go_big_quiet_on
      go_big_quiet_want
      go_big_quiet_op
      go_big_quiet_on
      go_big_quiet_want
      refine ⟨.pointer (some ⟨g, o0 + k * 4, none⟩), fun W hW => ?_, ?_⟩
      · go_simp
      go_big_quiet_on
      simp only [Act.put, List.setIfInBounds_toArray, List.set_cons_zero, List.set_cons_succ]
      go_big_quiet_want
      refine ⟨.pointer (some ⟨g, o0 + k * 4 + 1, none⟩), fun W hW => ?_, ?_⟩
      · go_simp
      go_big_quiet_on
      simp only [Act.put, List.setIfInBounds_toArray, List.set_cons_zero, List.set_cons_succ]
      go_big_quiet_want
      refine ⟨.string ⟨t.2.1.toArray⟩, fun W hW => ?_, ?_⟩
      · obtain ⟨p0, p1⟩ := X1.out W hW
        go_simp
      go_big_quiet_on
      simp only [Act.put, List.setIfInBounds_toArray, List.set_cons_zero, List.set_cons_succ]
      go_big_quiet_want
      go_big_quiet_op
      go_big_quiet_on
      go_big_quiet_want
      go_big_quiet_op
      go_big_quiet_on
      go_big_quiet_want
      refine ⟨.pointer (some ⟨G2, k * 4, none⟩), fun W hW => ?_, ?_⟩
      · go_simp
      go_big_quiet_on
      simp only [Act.put, List.setIfInBounds_toArray, List.set_cons_zero, List.set_cons_succ]
      go_big_quiet_want
      refine ⟨.pointer (some ⟨G2, k * 4 + 1, none⟩), fun W hW => ?_, ?_⟩
      · go_simp
      go_big_quiet_on
      simp only [Act.put, List.setIfInBounds_toArray, List.set_cons_zero, List.set_cons_succ]
      go_big_quiet_want
      refine ⟨.string ⟨t.2.1.toArray⟩, fun W hW => ?_, ?_⟩
      · obtain ⟨p0, p1⟩ := X2.out W hW
        go_simp
      go_big_quiet_on
      simp only [Act.put, List.setIfInBounds_toArray, List.set_cons_zero, List.set_cons_succ]
      go_big_quiet_want
      refine ⟨.bool false, fun W hW => ?_, ?_⟩
      · go_simp
      go_big_quiet_on
      simp only [Act.put, List.setIfInBounds_toArray, List.set_cons_zero, List.set_cons_succ]
      go_big_quiet_want
      refine ⟨.bool false, fun W hW => ?_, ?_⟩
      · go_simp
      go_big_quiet_on
      simp only [Act.put, List.setIfInBounds_toArray, List.set_cons_zero, List.set_cons_succ]
      refine wpQuiet_nil ?_
      intro W hW
      go_wp2_with fail
      go_roundw
      case rel => exact ⟨k + 1, by omega, by go_num, hW⟩
      case measure => simp [intOf]; omega
    · have j1 : ¬ (k : Int) < (n : Int) := by omega
      go_wp2_with fail
      go_ret
      exact ⟨rfl, hB⟩
abbrev hdL : List ITok := [(7, [33], 0, 0), (2, [97], 0, 0), (1, [10], 0, 0)]
theorem print_hd : printM hdL = ([33, 97, 10], 0) := by
  have k0 : kl [33, 97] 0 = 9 := by decide
  have k1 : kl [33, 97] 1 = 3 := by decide
  have k2 : kl [33, 97] 2 = 0 := kl0.2 (by decide)
  have s1 : sgn (([33, 97] : List UInt8).drop 0) = 1 := by decide
  obtain ⟨c0, e0, j0⟩ := tok_sign (l := [33, 97]) (i := 0) (by omega) (by omega) (by omega) (by omega)
  rw [s1] at c0 e0 j0
  rw [if_neg (by decide)] at e0
  have w1 : wrun [33, 97] 1 = 2 := by
    rw [wrun_yes (show inW [33, 97] 1 = true by unfold inW; rw [k1]; rfl)]
    exact wrun_no (by unfold inW; rw [k2]; rfl)
  obtain ⟨-, -, e1, j1, c1⟩ := tok_name (l := [33, 97]) (i := 1) (by decide) k1 w1 (by unfold dotA; rw [k2]; rfl)
  rw [if_neg (by decide)] at e1 j1
  have hs : (scanM [33, 97]).2 = (0, 0, 0) ∧ kt (scanM [33, 97]).1 = [(7, [33]), (2, [97]), (1, [10])] := by
    unfold scanM
    rw [if_neg (by decide)]
    show (runM 3 [33, 97] 0 1 0 []).2 = (0, 0, 0) ∧ kt (runM 3 [33, 97] 0 1 0 []).1 = _
    rw [runM_tok (by omega) (by omega) (by omega) (by omega) e0, j0, runM_tok (by omega) (by omega) (by omega) (by omega) e1, j1, runM_end (.inr k2)]
    unfold lendM
    rw [if_pos k2, c0, c1]
    exact ⟨rfl, rfl⟩
  obtain ⟨Ls, h1, h2, h3⟩ := scan_ls [33, 97] (by decide) (by rw [hs.1])
  have hf : flat Ls = [(7, [33]), (2, [97]), (1, [10])] := by rw [← h1]; exact hs.2
  have hp := print_ls (L := hdL) (Ls := Ls) (by rw [hf]; rfl) h2 (by have : ([33, 97] : List UInt8).length = 2 := rfl; omega)
  have ht : prT none [(7, [33]), (2, [97]), (1, [10])] = [33, 97, 10] := by decide
  rw [hf, ht, if_neg (by decide)] at hp
  exact hp
theorem ir_hd (w : World) : IR (w.alloc (Obj.cells #[.int .i64 7, .string ⟨#[33]⟩, .int .i64 0, .int .i64 0, .int .i64 2, .string ⟨#[97]⟩, .int .i64 0, .int .i64 0, .int .i64 1, .string ⟨#[10]⟩, .int .i64 0, .int .i64 0] 31)) (some ⟨w.heap.size, 0, none⟩) hdL := fun W hW k t ht => by
  have hb := keepblk hW (alloc_get w (Obj.cells #[.int .i64 7, .string ⟨#[33]⟩, .int .i64 0, .int .i64 0, .int .i64 2, .string ⟨#[97]⟩, .int .i64 0, .int .i64 0, .int .i64 1, .string ⟨#[10]⟩, .int .i64 0, .int .i64 0] 31))
  refine ⟨w.heap.size, 0, rfl, ?_⟩
  rw [Nat.zero_add]
  match k, ht with
  | 0, ht => obtain rfl := Option.some.inj ht; exact ⟨cell_of_row W _ 0 _ _ _ hb, cell_of_row W _ 1 _ _ _ hb, cell_of_row W _ 2 _ _ _ hb, cell_of_row W _ 3 _ _ _ hb⟩
  | 1, ht => obtain rfl := Option.some.inj ht; exact ⟨cell_of_row W _ 4 _ _ _ hb, cell_of_row W _ 5 _ _ _ hb, cell_of_row W _ 6 _ _ _ hb, cell_of_row W _ 7 _ _ _ hb⟩
  | 2, ht => obtain rfl := Option.some.inj ht; exact ⟨cell_of_row W _ 8 _ _ _ hb, cell_of_row W _ 9 _ _ _ hb, cell_of_row W _ 10 _ _ _ hb, cell_of_row W _ 11 _ _ _ hb⟩
  | k + 3, ht => simp at ht
set_option maxRecDepth 100000 in
set_option maxHeartbeats 4000000 in
theorem scanPrintsBack_walk (L : List ITok) (n : Nat) (o : Option Addr) (c : Nat) (w : World) (hL : L.length = n) (hn : n ≤ 281474976710656) (hx : ∀ t ∈ L, t.2.1.length ≤ 281474976710656) (hr : IR w o L) (hv1 : SH w) (hv4 : SG w) (hv5 : VW w) (hj : JT w) :
    Calls Tryz.prog 3 #[.slice o n c] w fun e w' => e = .returned (.bool true) ∧ Below w.heap.size w w' := by
  obtain ⟨r, hpr⟩ : ∃ r, printM L = r := ⟨_, rfl⟩
  have P0 := print_any L o c w (by omega) hx hr hv1 hv4 hv5 hj
  rw [hpr, hL] at P0
  obtain ⟨b1, b2, b3⟩ := prints_back hdL print_hd
  have PH : Hid (∀ W : World, Below w.heap.size w W → Calls Tryz.prog 5 #[.slice (some ⟨W.heap.size, 0, none⟩) 3 3] (W.alloc (Obj.cells #[.int .i64 7, .string ⟨#[33]⟩, .int .i64 0, .int .i64 0, .int .i64 2, .string ⟨#[97]⟩, .int .i64 0, .int .i64 0, .int .i64 1, .string ⟨#[10]⟩, .int .i64 0, .int .i64 0] 31)) fun e w' => e = .returned (.tuple #[.string ⟨#[33, 97, 10]⟩, .int .i64 0]) ∧ Below (W.alloc (Obj.cells #[.int .i64 7, .string ⟨#[33]⟩, .int .i64 0, .int .i64 0, .int .i64 2, .string ⟨#[97]⟩, .int .i64 0, .int .i64 0, .int .i64 1, .string ⟨#[10]⟩, .int .i64 0, .int .i64 0] 31)).heap.size (W.alloc (Obj.cells #[.int .i64 7, .string ⟨#[33]⟩, .int .i64 0, .int .i64 0, .int .i64 2, .string ⟨#[97]⟩, .int .i64 0, .int .i64 0, .int .i64 1, .string ⟨#[10]⟩, .int .i64 0, .int .i64 0] 31)) w') := fun W hW => by
    have hb := hW.alloc hW.size (Obj.cells #[.int .i64 7, .string ⟨#[33]⟩, .int .i64 0, .int .i64 0, .int .i64 2, .string ⟨#[97]⟩, .int .i64 0, .int .i64 0, .int .i64 1, .string ⟨#[10]⟩, .int .i64 0, .int .i64 0] 31)
    have := print_any hdL (some ⟨W.heap.size, 0, none⟩) 3 _ (by decide) (by decide) (ir_hd W) (hv1.below hb) (hv4.below hb) (hv5.below hb) (hj.below hb)
    rw [print_hd] at this
    exact this
  have SH0 := sa1 hv1 hv4 hv5 [33, 97, 10] (by decide)
  obtain ⟨DB, hDB⟩ : ∃ D, (scanM [33, 97, 10]).1 = D := ⟨_, rfl⟩
  have hSB : scanM [33, 97, 10] = (DB, 0, 0, 0) := Prod.ext hDB b2
  rw [hSB] at SH0
  rw [hDB] at b3
  have hB3 : DB.length = 3 := by
    have := congrArg List.length b3
    simpa using this
  replace SH0 : Hid (SA1 w ⟨#[33, 97, 10]⟩ (DB, 0, 0, 0)) := SH0
  have LH2 : Hid (∀ (W W' : World) (o2 : Option Addr) (c2 B2 : Nat), Below (W.alloc (Obj.cells #[.int .i64 7, .string ⟨#[33]⟩, .int .i64 0, .int .i64 0, .int .i64 2, .string ⟨#[97]⟩, .int .i64 0, .int .i64 0, .int .i64 1, .string ⟨#[10]⟩, .int .i64 0, .int .i64 0] 31)).heap.size (W.alloc (Obj.cells #[.int .i64 7, .string ⟨#[33]⟩, .int .i64 0, .int .i64 0, .int .i64 2, .string ⟨#[97]⟩, .int .i64 0, .int .i64 0, .int .i64 1, .string ⟨#[10]⟩, .int .i64 0, .int .i64 0] 31)) W' → W'.ownsRow B2 31 4 (.slice o2 3 c2) 3 (tcels DB) → Calls Tryz.prog 7 #[.slice (some ⟨W.heap.size, 0, none⟩) 3 3, .slice o2 3 c2] W' fun e w' => e = .returned (.bool true) ∧ Below W'.heap.size W' w') := fun W W' o2 c2 B2 hb h2 => like2_any hdL DB 3 rfl hB3 (by decide) b3 (some ⟨W.heap.size, 0, none⟩) o2 3 c2 B2 W' ((ir_hd W).later hb) h2
  have HB3 : Hid (DB.length = 3) := hB3
  clear hDB hSB b1 b2 b3 hB3
  obtain ⟨S, f⟩ := r
  simp only at P0
  by_cases hf : f = 0
  · subst hf
    obtain ⟨s1, s2, s3⟩ := prints_back L hpr
    have S1 := sa1 hv1 hv4 hv5 S s1
    have hsp := scan_placed S s1 (by rw [s2])
    obtain ⟨E, hE⟩ : ∃ D, (scanM S).1 = D := ⟨_, rfl⟩
    have hSE : scanM S = (E, 0, 0, 0) := Prod.ext hE s2
    rw [hSE] at S1
    rw [hE] at s3 hsp
    have hEn : E.length = n := by
      have := congrArg List.length s3
      simp only [List.length_map] at this
      omega
    replace S1 : Hid (SA1 w ⟨S.toArray⟩ (E, 0, 0, 0)) := S1
    have L1 : Hid (∀ (W : World) (o2 : Option Addr) (c2 B2 : Nat), Below w.heap.size w W → W.ownsRow B2 31 4 (.slice o2 n c2) n (tcels E) → Calls Tryz.prog 7 #[.slice o n c, .slice o2 n c2] W fun e w' => e = .returned (.bool true) ∧ Below W.heap.size W w') := fun W o2 c2 B2 hb h2 => like2_any L E n hL hEn hn s3 o o2 c c2 B2 W (hr.later hb) h2
    have Q1 : Hid (∀ (W : World) (o2 : Option Addr) (c2 B2 : Nat), W.ownsRow B2 31 4 (.slice o2 n c2) n (tcels E) → Calls Tryz.prog 8 #[.string ⟨S.toArray⟩, .slice o2 n c2] W fun e w' => e = .returned (.bool true) ∧ Below W.heap.size W w') := fun W o2 c2 B2 h2 => by
      have := placed_any S E o2 c2 B2 W s1 (by rw [hEn]; exact h2) hsp
      rw [hEn] at this
      exact this
    have HEn : Hid (E.length = n) := hEn
    clear hE hSE s1 s2 s3 hsp hEn hpr hv1 hv4 hv5 hj hx hr hL
    go_enter Tryz.func3, Tryz.ntmps3
    go_wp2_with fail
    refine P0.mono ?_
    rintro e W1 ⟨rfl, hb1⟩
    go_wp2_with fail
    refine (S1.out _ hb1).mono ?_
    rintro e W2 ⟨o2, c2, rfl, r2, -, hb2⟩
    simp only [HEn.out] at r2
    have C2 := L1.out W2 o2 c2 _ hb2 r2
    have R2 : Hid (W2.ownsRow W1.heap.size 31 4 (.slice o2 n c2) n (tcels E)) := r2
    clear r2 L1 S1 P0
    simp only [HEn.out]
    go_wp2_with fail
    refine C2.mono ?_
    rintro e W3 ⟨rfl, hb3⟩
    have hb3' := bel0 hb2 hb3
    have C3 := Q1.out W3 o2 c2 _ (owns_below R2.out hb3)
    clear C2 R2 Q1
    go_wp2_with fail
    refine C3.mono ?_
    rintro e W4 ⟨rfl, hb4⟩
    have hb4' := bel0 hb3' hb4
    have C4 := PH.out W4 hb4'
    clear C3
    go_wp2_with fail
    refine C4.mono ?_
    rintro e W5 ⟨rfl, hb5⟩
    have hb5' : Below w.heap.size w W5 := bel0 hb4' (bel1 hb5)
    go_wp2_with fail
    refine (SH0.out _ hb5').mono ?_
    rintro e W6 ⟨o6, c6, rfl, r6, hb6, hb6'⟩
    simp only [HB3.out] at r6
    have C6 := LH2.out W4 W6 o6 c6 _ (bel0 hb5 hb6) r6
    clear r6 C4 PH LH2 SH0
    simp only [HB3.out]
    go_wp2_with fail
    refine C6.mono ?_
    rintro e W7 ⟨rfl, hb7⟩
    go_wp2_with fail
    go_ret
    exact ⟨rfl, bel0 hb6' hb7⟩
  · have q0 : ((f : Int) == 0) = false := by rw [beq_eq_false_iff_ne]; omega
    clear hpr hv1 hv4 hv5 hj hx hr hL
    go_enter Tryz.func3, Tryz.ntmps3
    go_wp2_with fail
    refine P0.mono ?_
    rintro e W4 ⟨rfl, hb4'⟩
    have C4 := PH.out W4 hb4'
    clear P0
    go_wp2_with fail
    refine C4.mono ?_
    rintro e W5 ⟨rfl, hb5⟩
    have hb5' : Below w.heap.size w W5 := bel0 hb4' (bel1 hb5)
    go_wp2_with fail
    refine (SH0.out _ hb5').mono ?_
    rintro e W6 ⟨o6, c6, rfl, r6, hb6, hb6'⟩
    simp only [HB3.out] at r6
    have C6 := LH2.out W4 W6 o6 c6 _ (bel0 hb5 hb6) r6
    clear r6 C4 PH LH2 SH0
    simp only [HB3.out]
    go_wp2_with fail
    refine C6.mono ?_
    rintro e W7 ⟨rfl, hb7⟩
    go_wp2_with fail
    go_ret
    exact ⟨rfl, bel0 hb6' hb7⟩
end Go.Proofs.YtialcphfaleedaaGreatDoor
namespace Go.Proofs.YtialcphfaleedaaGreatDoor
open Go.RowKit
/-- a token, as laid -/
def tokData {H : Type} (t : ITok) : DataW H := .agg [.lit (.int .i64 t.1), .lit (.string t.2.1), .lit (.int .i64 t.2.2.1), .lit (.int .i64 t.2.2.2)]
theorem chunks {α β : Type} (f : α → List β) (hf : ∀ z, (f z).length = 8) : ∀ (zs : List α) (cs : List β), cs.length = zs.length * 8 → (∀ j z, zs[j]? = some z → (cs.drop (j * 8)).take 8 = f z) → cs = zs.flatMap f
  | [], cs, hl, _ => by
    have : cs = [] := List.length_eq_zero_iff.1 (by simpa using hl)
    rw [this]
    rfl
  | z :: zs, cs, hl, h => by
    have h0 := h 0 z rfl
    rw [Nat.zero_mul, List.drop_zero] at h0
    rw [List.flatMap_cons, ← h0, ← chunks f hf zs (cs.drop 8) (by rw [List.length_drop, hl]; simp; omega) (fun j y hy => by
      have := h (j + 1) y (by simpa using hy)
      rw [List.drop_drop, show 8 + j * 8 = (j + 1) * 8 by omega]
      exact this), List.take_append_drop]
section
variable {H : Type} {enc : TypeId × Value → H} {P : Program} {w : World} {base : Nat} {sp : Nat → Bool} {held : Bool}
theorem cells_of_tok {fuel : Nat} {e i s : TypeId} {f0 f1 f2 f3 : Field} {cs : List Value} {t : ITok} {x : DataW H × List MemPlace}
    (he : P.underlying e = some (.struct #[f0, f1, f2, f3])) (o0 : f0.offset = 0) (o1 : f1.offset = 1) (o2 : f2.offset = 2) (o3 : f3.offset = 3) (t0 : f0.type = i) (t1 : f1.type = s) (t2 : f2.type = i) (t3 : f3.type = i)
    (hi : P.underlying i = some (.int .i64)) (hs : P.underlying s = some .string) (ci : P.cellsOf i = 1) (cs1 : P.cellsOf s = 1) (ce : P.cellsOf e = 4)
    (h : DataW.trod enc P w base sp held fuel e cs = some x) (hx : x.1 = tokData t) : cs = icel t := by
  obtain ⟨y0, y1, y2, y3, m, rfl, hlen, g0, g1, g2, g3⟩ := Joins.trod_struct4 he h
  rw [o0, t0, ci] at g0
  rw [o1, t1, cs1] at g1
  rw [o2, t2, ci] at g2
  rw [o3, t3, ci] at g3
  rw [ce] at hlen
  obtain ⟨z0, a0, b0, _⟩ := DataW.trod_int hi g0
  obtain ⟨z1, a1, b1, _⟩ := DataW.trod_string hs g1
  obtain ⟨z2, a2, b2, _⟩ := DataW.trod_int hi g2
  obtain ⟨z3, a3, b3, _⟩ := DataW.trod_int hi g3
  match cs, hlen with
  | [c0, c1, c2, c3], _ =>
    have e0 : c0 = .int .i64 z0 := by simpa using a0
    have e1 : c1 = .string z1 := by simpa using a1
    have e2 : c2 = .int .i64 z2 := by simpa using a2
    have e3 : c3 = .int .i64 z3 := by simpa using a3
    unfold tokData at hx
    rw [b0, b1, b2, b3] at hx
    have hx2 : z0 = t.1 ∧ z1.data.toList = t.2.1 ∧ z2 = t.2.2.1 ∧ z3 = t.2.2.2 := by simpa using hx
    obtain ⟨r0, r1, r2, r3⟩ := hx2
    unfold icel
    rw [e0, e1, e2, e3, r0, r2, r3, ← r1]
theorem cells_of_joins {fuel : Nat} {t e k i s : TypeId} {n : Nat} {g0 g1 f0 f1 f2 f3 : Field} {cs : List Value} {zs : List (ITok × ITok)} {p : List MemPlace}
    (ht : P.underlying t = some (.array n e)) (he : P.underlying e = some (.struct #[g0, g1])) (q0 : g0.offset = 0) (q1 : g1.offset = 4) (r0 : g0.type = k) (r1 : g1.type = k)
    (hk : P.underlying k = some (.struct #[f0, f1, f2, f3])) (o0 : f0.offset = 0) (o1 : f1.offset = 1) (o2 : f2.offset = 2) (o3 : f3.offset = 3) (t0 : f0.type = i) (t1 : f1.type = s) (t2 : f2.type = i) (t3 : f3.type = i)
    (hi : P.underlying i = some (.int .i64)) (hs : P.underlying s = some .string) (ci : P.cellsOf i = 1) (cs1 : P.cellsOf s = 1) (ck : P.cellsOf k = 4) (ce : P.cellsOf e = 8) (ct : P.cellsOf t = n * 8)
    (h : DataW.trod enc P w base sp held fuel t cs = some (.agg (zs.map fun z => .agg [tokData z.1, tokData z.2]), p)) : cs = zs.flatMap fun z => icel z.1 ++ icel z.2 := by
  cases fuel with
  | zero => simp [DataW.trod] at h
  | succ fuel =>
    simp only [DataW.trod, ht, ce, ct] at h
    split at h
    · rename_i hl
      obtain ⟨xs, hm, hx⟩ := Option.map_eq_some_iff.1 h
      have hxs : xs.map (·.1) = zs.map fun z => (DataW.agg [tokData z.1, tokData z.2] : DataW H) := by
        have := congrArg Prod.fst hx
        simpa using this
      have hxl : xs.length = n := by simpa using Lib.mapM_length hm
      have hzl : zs.length = n := by
        have := congrArg List.length hxs
        simp at this
        omega
      refine chunks _ (fun z => by simp [icel]) zs cs (by rw [hzl]; omega) (fun j z hz => ?_)
      have hj : j < n := by rw [← hzl]; exact (List.getElem?_eq_some_iff.1 hz).1
      obtain ⟨b, hb, hf⟩ := Lib.mapM_at hm j j (by simp [hj])
      obtain ⟨y0, y1, m, hb2, hlen, h0, h1⟩ := ChangeShapes.trod_struct2 he hf
      rw [q0, r0, ck] at h0
      rw [q1, r1, ck] at h1
      rw [ce] at hlen
      have e2 : (xs.map (·.1))[j]? = some b.1 := by simp [hb]
      rw [hxs, List.getElem?_map, hz, hb2] at e2
      have e3 : (DataW.agg [tokData z.1, tokData z.2] : DataW H) = .agg [y0.1, y1.1] := Option.some.inj e2
      have e4 : tokData z.1 = y0.1 ∧ tokData z.2 = y1.1 := by simpa using e3
      have d0 := cells_of_tok hk o0 o1 o2 o3 t0 t1 t2 t3 hi hs ci cs1 ck h0 e4.1.symm
      have d1 := cells_of_tok hk o0 o1 o2 o3 t0 t1 t2 t3 hi hs ci cs1 ck h1 e4.2.symm
      rw [← d0, ← d1, List.drop_zero]
      conv => rhs; rhs; rw [List.take_of_length_le (by rw [List.length_drop, hlen]; decide)]
      rw [List.take_append_drop]
    · cases h
end
theorem joins_of_head {P : Program} {W : World} {name : String} {zs : List (ITok × ITok)} {rest : List (String × DataW Unit)} {g : Nat} {t e k i s : TypeId} {n : Nat} {g0 g1 f0 f1 f2 f3 : Field}
    (hg : P.globalNamed name = some g) (hty : (P.globals[g]?).map (·.type) = some t)
    (ht : P.underlying t = some (.array n e)) (he : P.underlying e = some (.struct #[g0, g1])) (q0 : g0.offset = 0) (q1 : g1.offset = 4) (r0 : g0.type = k) (r1 : g1.type = k)
    (hk : P.underlying k = some (.struct #[f0, f1, f2, f3])) (o0 : f0.offset = 0) (o1 : f1.offset = 1) (o2 : f2.offset = 2) (o3 : f3.offset = 3) (t0 : f0.type = i) (t1 : f1.type = s) (t2 : f2.type = i) (t3 : f3.type = i)
    (hi : P.underlying i = some (.int .i64)) (hs : P.underlying s = some .string) (ci : P.cellsOf i = 1) (cs1 : P.cellsOf s = 1) (ck : P.cellsOf k = 4) (ce : P.cellsOf e = 8) (ct : P.cellsOf t = n * 8)
    (h : laidMet P ((name, .agg (zs.map fun z => .agg [tokData z.1, tokData z.2])) :: rest) W) : W.var? P name = some (zs.flatMap fun z => icel z.1 ++ icel z.2).toArray := by
  obtain ⟨ps, ⟨g', t', cs, fuel, p, q, hg', ht', hvar, hd, _, _⟩, _⟩ := h
  obtain rfl := Option.some.inj (hg.symm.trans hg')
  obtain rfl := Option.some.inj (hty.symm.trans ht')
  rw [hvar, ← cells_of_joins ht he q0 q1 r0 r1 hk o0 o1 o2 o3 t0 t1 t2 t3 hi hs ci cs1 ck ce ct hd]
theorem gJ : Tryz.prog.globalNamed "reach/scan.joined" = some 0 := by kernel_rfl
theorem gtJ : (Tryz.prog.globals[0]?).map (·.type) = some 51 := by kernel_rfl
theorem cJ0 : Tryz.prog.cellsOf 3 = 1 := by kernel_rfl
theorem cJ1 : Tryz.prog.cellsOf 9 = 1 := by kernel_rfl
theorem cJ4 : Tryz.prog.cellsOf 31 = 4 := by kernel_rfl
theorem cJ8 : Tryz.prog.cellsOf 50 = 8 := by kernel_rfl
theorem cJ112 : Tryz.prog.cellsOf 51 = 14 * 8 := by kernel_rfl
end Go.Proofs.YtialcphfaleedaaGreatDoor
namespace Go.Proofs.YtialcphfaleedaaGreatDoor
open Go.RowKit
section
variable {H : Type} {enc : TypeId × Value → H} {w : World} {base : Nat} {sp : Nat → Bool} {held : Bool}
theorem tok_open {fuel : Nat} {cs : List Value} {x : DataW H × List MemPlace} (h : DataW.trod enc Tryz.prog w base sp held fuel 31 cs = some x) : ∃ t : ITok, cs = icel t ∧ x.1 = tokData t := by
  obtain ⟨y0, y1, y2, y3, m, rfl, hlen, g0, g1, g2, g3⟩ := Joins.trod_struct4 Tryz.underlying31 h
  obtain ⟨z1, a1, b1, _⟩ := DataW.trod_string Tryz.underlying9 g1
  obtain ⟨z0, a0, b0, _⟩ := DataW.trod_int Tryz.underlying3 g0
  obtain ⟨z2, a2, b2, _⟩ := DataW.trod_int Tryz.underlying3 g2
  obtain ⟨z3, a3, b3, _⟩ := DataW.trod_int Tryz.underlying3 g3
  refine ⟨(z0, z1.data.toList, z2, z3), ?_, by rw [b0, b1, b2, b3]; rfl⟩
  rw [cJ0] at a0 a2 a3
  rw [cJ1] at a1
  rw [cJ4] at hlen
  clear g0 g1 g2 g3 h
  match cs, hlen with
  | [c0, c1, c2, c3], _ =>
    have e0 : c0 = .int .i64 z0 := by simpa using a0
    have e1 : c1 = .string z1 := by simpa using a1
    have e2 : c2 = .int .i64 z2 := by simpa using a2
    have e3 : c3 = .int .i64 z3 := by simpa using a3
    unfold icel
    rw [e0, e1, e2, e3]
theorem add_spot {a : Addr} (h : a.spot = none) (m : Nat) : a.add m = ⟨a.block, a.off + m, none⟩ := by
  unfold Addr.add
  split
  · rename_i h0
    subst h0
    obtain ⟨b, o, s⟩ := a
    simp only at h
    subst h
    rfl
  · rfl
theorem cell_spot {a : Addr} {v : Value} (h : w.cell? a = some v) : a.spot = none := by
  unfold World.cell? at h
  split at h
  · split at h
    · cases h
    · rename_i hs
      cases hh : a.spot with
      | none => rfl
      | some s => rw [hh] at hs; simp at hs
  · cases h
theorem open_toks {fuel : Nat} {cs : List Value} {x : DataW H × List MemPlace} (hf : DataW.trod enc Tryz.prog w 0 sp held fuel 22 cs = some x) :
    (cs = [.slice none 0 0] ∧ x = (.nil, [])) ∨ ∃ (a : Addr) (len cap : Nat) (L : List ITok) (spare : List (DataW H)), cs = [.slice (some a) len cap] ∧ L.length = len ∧ x.1 = .slice (L.map tokData) spare ∧
      ∀ k t, L[k]? = some t → ∃ g o0, a = ⟨g, o0, none⟩ ∧ w.cell? ⟨g, o0 + k * 4, none⟩ = some (.int .i64 t.1) ∧ w.cell? ⟨g, o0 + k * 4 + 1, none⟩ = some (.string ⟨t.2.1.toArray⟩) ∧ w.cell? ⟨g, o0 + k * 4 + 2, none⟩ = some (.int .i64 t.2.2.1) ∧ w.cell? ⟨g, o0 + k * 4 + 3, none⟩ = some (.int .i64 t.2.2.2) := by
  rcases Deep.open_slice Tryz.underlying22 hf with h | ⟨a, len, cap, m, n, D, Pl, hcs, _, hlc, hcm, hm, hx, hD⟩
  · exact .inl h
  · right
    rw [cJ4] at hD
    have hlm : len ≤ m := by rw [hm]; split <;> omega
    have hex : ∀ i, ∃ t : ITok, i < m → w.cells? 0 (a.add (i * 4)) 4 = some (icel t) ∧ D i = tokData t := fun i => by
      by_cases hi : i < m
      · obtain ⟨cs', h1, h2⟩ := hD i hi
        obtain ⟨t, e1, e2⟩ := tok_open h2
        exact ⟨t, fun _ => ⟨by rw [h1, e1], e2⟩⟩
      · exact ⟨(0, [], 0, 0), fun h => absurd h hi⟩
    obtain ⟨F, hF⟩ := Classical.axiomOfChoice hex
    refine ⟨a, len, cap, (List.range len).map F, (List.range (m - len)).map fun j => D (len + j), hcs, by simp, ?_, fun k t ht => ?_⟩
    · rw [hx]
      simp only [List.map_map]
      congr 1
      refine List.map_congr_left (fun i hi => ?_)
      exact (hF i (by have := List.mem_range.1 hi; omega)).2
    · rw [List.getElem?_map] at ht
      by_cases hk : k < len
      · rw [List.getElem?_range hk] at ht
        obtain rfl := Option.some.inj ht
        have cell : ∀ i j v, i < m → (icel (F i))[j]? = some v → j < 4 → w.cell? ((a.add (i * 4)).add j) = some v := fun i j v hi hv hj => by
          have h1 := (hF i hi).1
          unfold World.cells? at h1
          rw [if_pos (Nat.zero_le _)] at h1
          obtain ⟨b, hb, hc⟩ := Lib.mapM_at h1 j j (by simp [hj])
          rw [hv] at hb
          rw [Option.some.inj hb]
          exact hc
        have h00 := cell 0 0 _ (by omega) rfl (by decide)
        have hs : a.spot = none := by
          have e : (a.add (0 * 4)).add 0 = a := rfl
          rw [e] at h00
          exact cell_spot h00
        obtain ⟨g, o0, s⟩ := a
        simp only at hs
        subst hs
        have ea : ∀ j, ((⟨g, o0, none⟩ : Addr).add (k * 4)).add j = ⟨g, o0 + k * 4 + j, none⟩ := fun j => by
          rw [add_spot rfl (k * 4), add_spot rfl j]
        have c0 := cell k 0 _ (by omega) rfl (by decide)
        have c1 := cell k 1 _ (by omega) rfl (by decide)
        have c2 := cell k 2 _ (by omega) rfl (by decide)
        have c3 := cell k 3 _ (by omega) rfl (by decide)
        rw [ea] at c0 c1 c2 c3
        exact ⟨g, o0, rfl, c0, c1, c2, c3⟩
      · rw [List.getElem?_eq_none (by simp; omega)] at ht
        cases ht
theorem w_tok (t : ITok) : t.2.1.length ∈ DataW.weights Tryz.prog 31 (tokData t : DataW H) := by
  unfold tokData
  simp [DataW.weights, Tryz.underlying31, DataW.weightsEach]
theorem w_toks {t : ITok} : ∀ {L : List ITok}, t ∈ L → t.2.1.length ∈ DataW.weightsAll Tryz.prog 31 (L.map (tokData : ITok → DataW H))
  | u :: L, h => by
    rw [List.map_cons, DataW.weightsAll]
    rcases List.mem_cons.1 h with rfl | h
    · exact List.mem_append_left _ (w_tok t)
    · exact List.mem_append_right _ (w_toks h)
theorem sized_toks {ts : List TypeId} {ds : List (DataW H)} (h : (DataW.weightsEach Tryz.prog ts ds).all (· ≤ reachBytes) = true) {L : List ITok} {spare : List (DataW H)} (ht : ts[0]? = some 22) (hd : ds[0]? = some (.slice (L.map tokData) spare)) : L.length ≤ reachBytes ∧ ∀ t ∈ L, t.2.1.length ≤ reachBytes := by
  have hb : Tryz.prog.bytesOf 31 = 40 := by kernel_rfl
  have h1 := sized_slice h ht hd Tryz.underlying22
  rw [hb, List.length_map] at h1
  refine ⟨by omega, fun t hm => ?_⟩
  have := List.all_eq_true.1 h _ (DataW.weights_mem_each ht hd t.2.1.length (by
    simp only [DataW.weights, Tryz.underlying22]
    exact List.mem_cons_of_mem _ (List.mem_append_left _ (w_toks hm))))
  simpa using this
end
end Go.Proofs.YtialcphfaleedaaGreatDoor
