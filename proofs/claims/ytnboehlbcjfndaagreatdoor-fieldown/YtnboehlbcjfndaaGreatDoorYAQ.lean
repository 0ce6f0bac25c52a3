import Derived.Test.YtnboehlbcjfndaaGreatDoorYAK
import Derived.Test.YtnboehlbcjfndaaGreatDoorYAJ
namespace Go.Proofs.YtnboehlbcjfndaaGreatDoor
open Go.RowKit Go.Shelf
def AG (l : List UInt8) (j : Nat) (l' : List UInt8) (j' n : Nat) : Prop := j + n ≤ l.length ∧ j' + n ≤ l'.length ∧ ∀ k, k < n → bt l (j + k) = bt l' (j' + k)
section
variable {l l' : List UInt8} {j j' n : Nat}
theorem AG.symm (h : AG l j l' j' n) : AG l' j' l j n := ⟨h.2.1, h.1, fun k hk => (h.2.2 k hk).symm⟩
theorem AG.more (h : AG l j l' j' n) {m : Nat} (hm : m ≤ n) : AG l (j + m) l' (j' + m) (n - m) := ⟨by have := h.1; omega, by have := h.2.1; omega, fun k hk => by
  have := h.2.2 (m + k) (by omega)
  rw [← Nat.add_assoc, ← Nat.add_assoc] at this
  exact this⟩
theorem AG.kl (h : AG l j l' j' n) {k : Nat} (hk : k < n) : Proofs.YtnboehlbcjfndaaGreatDoor.kl l (j + k) = Proofs.YtnboehlbcjfndaaGreatDoor.kl l' (j' + k) := by
  rw [kl_bt (by have := h.1; omega), kl_bt (by have := h.2.1; omega), h.2.2 k hk]
theorem AG.kl0 (h : AG l j l' j' n) (hn : 0 < n) : Proofs.YtnboehlbcjfndaaGreatDoor.kl l j = Proofs.YtnboehlbcjfndaaGreatDoor.kl l' j' := h.kl (k := 0) hn
theorem AG.sub (h : AG l j l' j' n) : subL l' j' (j' + n) = subL l j (j + n) := by
  unfold subL
  rw [Nat.add_sub_cancel_left, Nat.add_sub_cancel_left]
  refine List.ext_getElem (by have := h.1; have := h.2.1; simp; omega) (fun k h1 h2 => ?_)
  simp only [List.length_take, List.length_drop] at h1
  have hk : k < n := by omega
  have e := h.2.2 k hk
  rw [bt_of (List.getElem?_eq_getElem (show j + k < l.length by have := h.1; omega)), bt_of (List.getElem?_eq_getElem (show j' + k < l'.length by have := h.2.1; omega))] at e
  simp only [List.getElem_take, List.getElem_drop]
  exact (UInt8.toNat_inj.1 e).symm
theorem wrun_ag : ∀ (m : Nat) {l l' : List UInt8} {j j' n : Nat}, n ≤ m → AG l j l' j' n → wrun l j = j + n → inW l' (j' + n) = false → wrun l' j' = j' + n
  | 0, l, l', j, j', n, hm, h, _, hs => by
    obtain rfl : n = 0 := by omega
    exact wrun_no hs
  | m + 1, l, l', j, j', n, hm, h, hw, hs => by
    by_cases hn : n = 0
    · subst hn
      exact wrun_no hs
    · have hk := h.kl0 (by omega)
      cases hi : inW l j with
      | false => rw [wrun_no hi] at hw; omega
      | true =>
        have hi' : inW l' j' = true := by unfold inW at hi ⊢; rw [← hk]; exact hi
        rw [wrun_yes hi] at hw
        rw [wrun_yes hi', wrun_ag m (by omega) (h.more (m := 1) (by omega)) (by omega) (by rw [show j' + 1 + (n - 1) = j' + n by omega]; exact hs)]
        omega
theorem nrun_ag : ∀ (m : Nat) {l l' : List UInt8} {j j' n : Nat}, n ≤ m → AG l j l' j' n → nrun l j = j + n → (inW l' (j' + n) || dotA l' (j' + n) 4) = false → (∀ k, k + 1 = n → dotA l (j + k) 4 = false) → nrun l' j' = j' + n
  | 0, l, l', j, j', n, hm, h, _, hs, _ => by
    obtain rfl : n = 0 := by omega
    exact nrun_no hs
  | m + 1, l, l', j, j', n, hm, h, hw, hs, hlast => by
    by_cases hn : n = 0
    · subst hn
      exact nrun_no hs
    · have hk := h.kl0 (by omega)
      cases hi : (inW l j || dotA l j 4) with
      | false => rw [nrun_no hi] at hw; omega
      | true =>
        have hi' : (inW l' j' || dotA l' j' 4) = true := by
          by_cases h1 : n = 1
          · have h0 := hlast 0 (by omega)
            rw [Nat.add_zero] at h0
            rw [h0, Bool.or_false] at hi
            unfold inW at hi ⊢
            rw [← hk, hi]
            rfl
          · have hk1 := h.kl (k := 1) (by omega)
            unfold inW dotA at hi ⊢
            rw [← hk, ← hk1]
            exact hi
        rw [nrun_yes hi] at hw
        rw [nrun_yes hi', nrun_ag m (by omega) (h.more (m := 1) (by omega)) (by omega) (by rw [show j' + 1 + (n - 1) = j' + n by omega]; exact hs) (fun k hk => by rw [show j + 1 + k = j + (k + 1) by omega]; exact hlast (k + 1) (by omega))]
        omega
theorem dc_ag (h : AG l j l' j' n) (hlo : lo1 l j = false) (hd : (dc l j).2 ≤ n) : dc l' j' = dc l j := by
  have hne : ¬ (dc l j = (65533, 1)) := of_decide_eq_false hlo
  have hb := h.2.2
  have hl : n ≤ l'.length - j' := by have := h.2.1; omega
  have hdd : dc l j = Lib.decodeN (l.length - j) (bt l j) (bt l (j + 1)) (bt l (j + 2)) (bt l (j + 3)) := rfl
  have hdd' : dc l' j' = Lib.decodeN (l'.length - j') (bt l' j') (bt l' (j' + 1)) (bt l' (j' + 2)) (bt l' (j' + 3)) := rfl
  rcases Lib.decodeN_shape (l.length - j) (bt l j) (bt l (j + 1)) (bt l (j + 2)) (bt l (j + 3)) with ⟨a1, e⟩ | ⟨a1, a2, a3, a4, e⟩ | ⟨a1, a2, a3, a4, a5, a6, e⟩ | ⟨a1, a2, a3, a4, a5, a6, a7, e⟩ | e
  all_goals rw [e] at hdd
  · rw [hdd] at hd ⊢
    rw [hdd']
    have h0 := hb 0 (by simp only at hd; omega)
    simp only [Nat.add_zero] at h0
    rw [← h0]
    unfold Lib.decodeN
    rw [if_pos a1]
  · rw [hdd] at hd ⊢
    rw [hdd']
    simp only at hd
    have h0 := hb 0 (by omega)
    have h1 := hb 1 (by omega)
    simp only [Nat.add_zero] at h0
    rw [← h0, ← h1]
    unfold Lib.decodeN
    rw [if_neg (by omega), if_pos ⟨a1, by omega, a3⟩, if_pos (by omega)]
  · rw [hdd] at hd ⊢
    rw [hdd']
    simp only at hd
    have h0 := hb 0 (by omega)
    have h1 := hb 1 (by omega)
    have h2 := hb 2 (by omega)
    simp only [Nat.add_zero] at h0
    rw [← h0, ← h1, ← h2]
    unfold Lib.decodeN
    rw [if_neg (by omega), if_neg (by omega), if_pos ⟨a1, ⟨by omega, a3⟩, by omega, a4⟩, if_pos (by omega)]
  · rw [hdd] at hd ⊢
    rw [hdd']
    simp only at hd
    have h0 := hb 0 (by omega)
    have h1 := hb 1 (by omega)
    have h2 := hb 2 (by omega)
    have h3 := hb 3 (by omega)
    simp only [Nat.add_zero] at h0
    rw [← h0, ← h1, ← h2, ← h3]
    unfold Lib.decodeN
    rw [if_neg (by omega), if_neg (by omega), if_neg (by omega), if_pos ⟨a1, ⟨by omega, a3⟩, ⟨by omega, a4⟩, by omega, a5⟩, if_pos (by omega)]
  · exact absurd hdd hne
end
section
variable {l l' : List UInt8} {j j' n : Nat}
theorem AG.cut (h : AG l j l' j' n) {m : Nat} (hm : m ≤ n) : AG l j l' j' m := ⟨by have := h.1; omega, by have := h.2.1; omega, fun k hk => h.2.2 k (by omega)⟩
theorem AG.getD (h : AG l j l' j' n) {k : Nat} (hk : k < n) : l'.getD (j' + k) 0 = l.getD (j + k) 0 := UInt8.toNat_inj.1 (h.2.2 k hk).symm
theorem AG.take (h : AG l j l' j' n) {k : Nat} (hk : k ≤ n) : (l'.drop j').take k = (l.drop j).take k := by
  have := (h.cut hk).sub
  unfold subL at this
  rw [Nat.add_sub_cancel_left, Nat.add_sub_cancel_left] at this
  exact this
theorem hexRun_ag : ∀ (f : Nat) {j j' n x : Nat}, AG l j l' j' n → (hexRun f (l.drop j) x).1 < n → hexRun f (l'.drop j') x = hexRun f (l.drop j) x
  | 0, j, j', n, x, _, _ => rfl
  | f + 1, j, j', n, x, h, hc => by
    have h1 : j < l.length := by have := h.1; omega
    have h2 : j' < l'.length := by have := h.2.1; omega
    have hb : l'[j'] = l[j] := by
      have e := h.2.2 0 (by omega)
      rw [Nat.add_zero, Nat.add_zero, bt_of (List.getElem?_eq_getElem h1), bt_of (List.getElem?_eq_getElem h2)] at e
      exact (UInt8.toNat_inj.1 e).symm
    rw [List.drop_eq_getElem_cons h1] at hc ⊢
    rw [List.drop_eq_getElem_cons h2, hb]
    rw [hexRun] at hc ⊢
    rw [hexRun]
    cases hd : hexD l[j] with
    | none => rfl
    | some d =>
      rw [hd] at hc
      simp only at hc ⊢
      rw [hexRun_ag f (h.more (m := 1) (by omega)) (by omega)]
theorem brS_ag (h : AG l j l' j' n) (h0 : (brS l j).1 ≠ 0) (hn : (brS l j).1 ≤ n) : brS l' j' = brS l j := by
  have hl := h.1
  have hl' := h.2.1
  by_cases c1 : l.length < j + 3 ∨ bt l (j + 2) ≠ 123
  · exact absurd (by unfold brS; rw [if_pos c1]) h0
  by_cases c2 : (hexRun 6 (l.drop (j + 3)) 0).1 = 0 ∨ l.length ≤ j + 3 + (hexRun 6 (l.drop (j + 3)) 0).1 ∨ bt l (j + 3 + (hexRun 6 (l.drop (j + 3)) 0).1) ≠ 125 ∨ 1114111 < (hexRun 6 (l.drop (j + 3)) 0).2 ∨ (55296 ≤ (hexRun 6 (l.drop (j + 3)) 0).2 ∧ (hexRun 6 (l.drop (j + 3)) 0).2 ≤ 57343)
  · exact absurd (by unfold brS; rw [if_neg c1, if_pos c2]) h0
  have e : brS l j = (4 + (hexRun 6 (l.drop (j + 3)) 0).1, (hexRun 6 (l.drop (j + 3)) 0).2) := by unfold brS; rw [if_neg c1, if_neg c2]
  rw [e] at hn ⊢
  simp only at hn
  have hh := hexRun_ag (x := 0) 6 (h.more (m := 3) (by omega)) (by omega)
  have b2 := h.2.2 2 (by omega)
  have b3 := h.2.2 (3 + (hexRun 6 (l.drop (j + 3)) 0).1) (by omega)
  rw [← Nat.add_assoc, ← Nat.add_assoc] at b3
  unfold brS
  rw [hh, ← b2, ← b3, if_neg (by omega), if_neg (by omega)]
theorem esc_cases (l : List UInt8) (j : Nat) : (escS l j).1 = 0 ∨ (escS l j).1 = 2 ∨ (escS l j).1 = 4 ∨ (escS l j).1 = (brS l j).1 := by
  unfold escS
  repeat' split
  all_goals first
    | exact .inl rfl
    | exact .inr (.inl rfl)
    | exact .inr (.inr (.inl rfl))
    | exact .inr (.inr (.inr rfl))
theorem brS_cases (l : List UInt8) (j : Nat) : (brS l j).1 = 0 ∨ 4 ≤ (brS l j).1 := by
  unfold brS
  repeat' split
  · exact .inl rfl
  · exact .inl rfl
  · exact .inr (by simp only; omega)
theorem esc_two {l : List UInt8} {j : Nat} (h : (escS l j).1 ≠ 0) : 2 ≤ (escS l j).1 := by
  have h1 := esc_cases l j
  have h2 := brS_cases l j
  omega
theorem esc_ag (h : AG l j l' j' n) (h0 : (escS l j).1 ≠ 0) (hn : (escS l j).1 ≤ n) : escS l' j' = escS l j := by
  have hl := h.1
  have hl' := h.2.1
  by_cases c0 : l.length ≤ j + 1
  · exact absurd (by unfold escS; rw [if_pos c0]) h0
  have key : 2 ≤ n → escS l' j' = escS l j := fun h2 => by
    have b1 := h.2.2 1 (by omega)
    unfold escS at h0 hn ⊢
    rw [if_neg c0] at h0 hn ⊢
    rw [if_neg (show ¬ l'.length ≤ j' + 1 by omega), ← b1]
    by_cases c1 : bt l (j + 1) = 34
    · rw [if_pos c1, if_pos c1]
    rw [if_neg c1] at h0 hn ⊢
    rw [if_neg c1]
    by_cases c2 : bt l (j + 1) = 92
    · rw [if_pos c2, if_pos c2]
    rw [if_neg c2] at h0 hn ⊢
    rw [if_neg c2]
    by_cases c3 : bt l (j + 1) = 110
    · rw [if_pos c3, if_pos c3]
    rw [if_neg c3] at h0 hn ⊢
    rw [if_neg c3]
    by_cases c4 : bt l (j + 1) = 114
    · rw [if_pos c4, if_pos c4]
    rw [if_neg c4] at h0 hn ⊢
    rw [if_neg c4]
    by_cases c5 : bt l (j + 1) = 116
    · rw [if_pos c5, if_pos c5]
    rw [if_neg c5] at h0 hn ⊢
    rw [if_neg c5]
    by_cases c6 : bt l (j + 1) = 120
    · rw [if_pos c6] at h0 hn ⊢
      rw [if_pos c6]
      by_cases c7 : j + 3 < l.length
      · rw [if_pos c7] at h0 hn ⊢
        cases ha : hexD (l.getD (j + 2) 0) with
        | none => rw [ha] at h0; exact absurd rfl h0
        | some a =>
          cases hb : hexD (l.getD (j + 3) 0) with
          | none => rw [ha, hb] at h0; exact absurd rfl h0
          | some b =>
            rw [ha, hb] at hn
            simp only at hn
            rw [if_pos (show j' + 3 < l'.length by omega), h.getD (k := 2) (by omega), h.getD (k := 3) (by omega), ha, hb]
      · rw [if_neg c7] at h0
        exact absurd rfl h0
    rw [if_neg c6] at h0 hn ⊢
    rw [if_neg c6]
    by_cases c8 : bt l (j + 1) = 117
    · rw [if_pos c8] at h0 hn ⊢
      rw [if_pos c8]
      by_cases c9 : 0 < (brS l j).1
      · rw [if_pos c9] at hn ⊢
        simp only at hn
        rw [brS_ag h (by omega) hn, if_pos c9]
      · rw [if_neg c9] at h0
        exact absurd rfl h0
    rw [if_neg c8] at h0
    exact absurd rfl h0
  exact key (Nat.le_trans (esc_two h0) hn)
theorem ins_ag : ∀ (m : Nat) {j j' n : Nat} {s s' : List UInt8}, n ≤ m → AG l j l' j' n → insS l j s = (s', j + n, 0) → insS l' j' s = (s', j' + n, 0)
  | m, j, j', n, s, s', hm, h, hi => by
    have hl := h.1
    have hl' := h.2.1
    have hj : j < l.length := Classical.byContradiction (fun hc => by
      rw [insS, if_neg hc] at hi
      have := (Prod.mk.inj (Prod.mk.inj hi).2).2
      omega)
    rw [insS, if_pos hj] at hi
    by_cases c1 : bt l j = 34
    · rw [if_pos c1] at hi
      obtain ⟨e1, e2⟩ := Prod.mk.inj hi
      have e3 := (Prod.mk.inj e2).1
      obtain rfl : n = 1 := by omega
      have b0 := h.2.2 0 (by omega)
      rw [Nat.add_zero, Nat.add_zero] at b0
      rw [insS, if_pos (by omega), if_pos (by rw [← b0]; exact c1), e1]
    rw [if_neg c1] at hi
    have hn0 : 0 < n := by
      refine Nat.pos_of_ne_zero (fun e => ?_)
      subst e
      by_cases c2 : bt l j = 92
      · rw [if_pos c2] at hi
        by_cases c3 : (escS l j).1 = 0
        · rw [if_pos c3] at hi
          have := (Prod.mk.inj (Prod.mk.inj hi).2).2
          omega
        · rw [if_neg c3] at hi
          have hq := (escS_end l j (by omega)).1
          have hg := insS_ge l _ (j + (escS l j).1) (s ++ (escS l j).2) (Nat.le_refl _) (by omega)
          rw [hi] at hg
          simp only at hg
          omega
      · rw [if_neg c2] at hi
        by_cases c3 : lo1 l j = true ∨ bt l j < 32 ∨ bt l j = 127
        · rw [if_pos c3] at hi
          have := (Prod.mk.inj (Prod.mk.inj hi).2).2
          omega
        · rw [if_neg c3] at hi
          have hp := dc_pos l j
          have hle := dc_le l j hj
          have hg := insS_ge l _ (j + (dc l j).2) (s ++ (l.drop j).take (dc l j).2) (Nat.le_refl _) hle
          rw [hi] at hg
          simp only at hg
          omega
    have b0 := h.2.2 0 hn0
    rw [Nat.add_zero, Nat.add_zero] at b0
    match m, hm with
    | 0, hm => omega
    | m + 1, hm =>
      by_cases c2 : bt l j = 92
      · rw [if_pos c2] at hi
        by_cases c3 : (escS l j).1 = 0
        · rw [if_pos c3] at hi
          have := (Prod.mk.inj (Prod.mk.inj hi).2).2
          omega
        · rw [if_neg c3] at hi
          have hq := (escS_end l j (by omega)).1
          have hg := insS_ge l _ (j + (escS l j).1) (s ++ (escS l j).2) (Nat.le_refl _) (by omega)
          rw [hi] at hg
          simp only at hg
          have he := esc_ag h c3 (by omega)
          rw [insS, if_pos (by omega), if_neg (by rw [← b0]; exact c1), if_pos (by rw [← b0]; exact c2), he, if_neg c3, ins_ag m (n := n - (escS l j).1) (by omega) (h.more (by omega)) (by rw [hi, show j + n = j + (escS l j).1 + (n - (escS l j).1) by omega]), show j' + (escS l j).1 + (n - (escS l j).1) = j' + n by omega]
      · rw [if_neg c2] at hi
        by_cases c3 : lo1 l j = true ∨ bt l j < 32 ∨ bt l j = 127
        · rw [if_pos c3] at hi
          have := (Prod.mk.inj (Prod.mk.inj hi).2).2
          omega
        · rw [if_neg c3] at hi
          have hlo : lo1 l j = false := Bool.eq_false_iff.2 (fun e => c3 (.inl e))
          have hp := dc_pos l j
          have hle := dc_le l j hj
          have hg := insS_ge l _ (j + (dc l j).2) (s ++ (l.drop j).take (dc l j).2) (Nat.le_refl _) hle
          rw [hi] at hg
          simp only at hg
          have hd := dc_ag h hlo (by omega)
          have hlo' : lo1 l' j' = lo1 l j := by unfold lo1; rw [hd]
          rw [insS, if_pos (by omega), if_neg (by rw [← b0]; exact c1), if_neg (by rw [← b0]; exact c2), hlo', ← b0, if_neg c3, hd, h.take (by omega), ins_ag m (n := n - (dc l j).2) (by omega) (h.more (by omega)) (by rw [hi, show j + n = j + (dc l j).2 + (n - (dc l j).2) by omega]), show j' + (dc l j).2 + (n - (dc l j).2) = j' + n by omega]
end
end Go.Proofs.YtnboehlbcjfndaaGreatDoor
