import Derived.Test.YtepokgainceidaaGreatDoorYAN
import Derived.Test.YtepokgainceidaaGreatDoorYAO
namespace Go.Proofs.YtepokgainceidaaGreatDoor
open Go.RowKit Go.Shelf
theorem wrun_in {l : List UInt8} : ∀ (m j : Nat), l.length - j ≤ m → ∀ k, j ≤ k → k < wrun l j → inW l k = true
  | m, j, hm, k, h1, h2 => by
    cases h : inW l j with
    | false => rw [wrun_no h] at h2; omega
    | true =>
      have hj := (inW_asc h).1
      rw [wrun_yes h] at h2
      rcases Nat.lt_or_ge j k with hk | hk
      · match m, hm with
        | 0, hm => omega
        | m + 1, hm => exact wrun_in m (j + 1) (by omega) k hk h2
      · rw [show k = j by omega]; exact h
theorem inW_46 {l : List UInt8} {k : Nat} (h : inW l k = true) : bt l k ≠ 46 := fun e => by
  have hk := (inW_asc h).1
  have h5 : kl l k = 5 := by rw [kl_bt hk, e]; rfl
  unfold inW at h
  rw [h5] at h
  cases h
theorem sub_dot {l : List UInt8} {i j : Nat} (h : ∀ k, i ≤ k → k < j → bt l k ≠ 46) : Lib.indexByte (subL l i j) 46 < 0 := by
  rw [idx_no (fun k hk e => ?_)]
  · decide
  · obtain ⟨h1, h2⟩ := sub_get e
    exact h (i + k) (by omega) h2 (by rw [bt_of h1]; rfl)
theorem sub_len {l : List UInt8} {i j : Nat} (h : j ≤ l.length) : (subL l i j).length = j - i := by
  unfold subL
  simp
  omega
theorem parts_one {l : List UInt8} {i j : Nat} (h : ∀ k, i ≤ k → k < j → bt l k ≠ 46) : parts (subL l i j) = [subL l i j] := parts_neg (sub_dot h)
theorem sub_take {l : List UInt8} {i j k : Nat} (h1 : i ≤ j) (h2 : j ≤ k) : (subL l i k).take (j - i) = subL l i j := by
  unfold subL
  rw [List.take_take, Nat.min_eq_left (by omega)]
theorem sub_drop {l : List UInt8} {i j k : Nat} (h1 : i ≤ j) (h2 : j < k) : (subL l i k).drop (j - i + 1) = subL l (j + 1) k := by
  unfold subL
  rw [List.drop_take, List.drop_drop, show i + (j - i + 1) = j + 1 by omega, show k - i - (j - i + 1) = k - (j + 1) by omega]
theorem parts_two {l : List UInt8} {i j k : Nat} (h1 : i ≤ j) (h2 : j < k) (hk : k ≤ l.length) (hd : bt l j = 46) (ha : ∀ m, i ≤ m → m < j → bt l m ≠ 46) (hb : ∀ m, j + 1 ≤ m → m < k → bt l m ≠ 46) : parts (subL l i k) = [subL l i j, subL l (j + 1) k] := by
  have hj : j < l.length := by omega
  have h46 : l[j]? = some 46 := by
    rw [List.getElem?_eq_getElem hj]
    have := bt_of (List.getElem?_eq_getElem hj)
    rw [hd] at this
    exact congrArg some (UInt8.toNat_inj.1 this.symm)
  have hi : Lib.indexByte (subL l i k) 46 = ((j - i : Nat) : Int) := by
    refine idx_eq ?_ (fun m hm e => ?_)
    · unfold subL
      rw [List.getElem?_take, if_pos (by omega), List.getElem?_drop, show i + (j - i) = j by omega]
      exact h46
    · obtain ⟨e1, e2⟩ := sub_get e
      exact ha (i + m) (by omega) (by omega) (by rw [bt_of e1]; rfl)
  rw [parts_pos hi, sub_take h1 (by omega), sub_drop h1 h2, parts_one hb]
theorem tok_name {l : List UInt8} {i j : Nat} (hi : i < l.length) (h3 : kl l i = 3) (hj : wrun l i = j) (hd : dotA l j 3 = false) :
    i < j ∧ j ≤ l.length ∧ tokE l i = (if 24 < j - i then 36 else 0) ∧ tokJ l i = (if 24 < j - i then i else j) ∧ tokC l i = (2, j) := by
  have hw : inW l i = true := by unfold inW; rw [h3]; rfl
  have hj' : wrun l (i + 1) = j := by rw [← hj, wrun_yes hw]
  have hg := wrun_ge l _ (i + 1) (Nat.le_refl _)
  rw [hj'] at hg
  have hle := hg.2 hi
  have hC : tokC l i = (2, j) := by unfold tokC endF; rw [if_pos h3, if_pos rfl, hj', hd, if_neg (by decide)]
  have hp := parts_one (l := l) (i := i) (j := j) (fun k h1 h2 => inW_46 (wrun_in _ i (Nat.le_refl _) k h1 (by rw [hj]; exact h2)))
  have hF : faultE 2 (subL l i j) = if 24 < j - i then 36 else 0 := by
    unfold faultE
    rw [if_pos (.inl rfl), hp, List.any_cons, List.any_nil, Bool.or_false, sub_len hle]
    simp
  refine ⟨by omega, hle, ?_, ?_, hC⟩
  · unfold tokE
    rw [hC, if_neg (by omega)]
    exact hF
  · unfold tokJ
    rw [hC, if_neg (by omega), hF]
    by_cases h : 24 < j - i
    · rw [if_pos h, if_pos h, if_neg (by decide)]
    · rw [if_neg h, if_neg h, if_pos rfl]
theorem tok_port {l : List UInt8} {i j k : Nat} (hi : i < l.length) (h3 : kl l i = 3) (hj : wrun l i = j) (hd : dotA l j 3 = true) (hk : wrun l (j + 1) = k) :
    i < j ∧ j + 1 < l.length ∧ j + 1 < k ∧ k ≤ l.length ∧ tokE l i = (if 24 < j - i ∨ 24 < k - j - 1 then 36 else 0) ∧ tokJ l i = (if 24 < j - i ∨ 24 < k - j - 1 then i else k) ∧ tokC l i = (3, k) := by
  have hw : inW l i = true := by unfold inW; rw [h3]; rfl
  have hj' : wrun l (i + 1) = j := by rw [← hj, wrun_yes hw]
  have hg := wrun_ge l _ (i + 1) (Nat.le_refl _)
  rw [hj'] at hg
  have hle := hg.2 hi
  obtain ⟨d1, d2⟩ : kl l j = 5 ∧ kl l (j + 1) = 3 := by unfold dotA at hd; simpa using hd
  obtain ⟨e1, e2⟩ := kl5 d1
  have e3 : j + 1 < l.length := Classical.byContradiction (fun h => by rw [kl0.2 h] at d2; cases d2)
  have hw2 : inW l (j + 1) = true := by unfold inW; rw [d2]; rfl
  have hg2 := wrun_ge l _ (j + 1 + 1) (Nat.le_refl _)
  rw [← wrun_yes hw2, hk] at hg2
  have hle2 := hg2.2 (by omega)
  have hC : tokC l i = (3, k) := by unfold tokC endF; rw [if_pos h3, if_pos rfl, hj', hd, if_pos rfl, hk]
  have hp := parts_two (l := l) (i := i) (j := j) (k := k) (by omega) (by omega) hle2 e2 (fun m h1 h2 => inW_46 (wrun_in _ i (Nat.le_refl _) m h1 (by rw [hj]; exact h2))) (fun m h1 h2 => inW_46 (wrun_in _ (j + 1) (Nat.le_refl _) m h1 (by rw [hk]; exact h2)))
  have hF : faultE 3 (subL l i k) = if 24 < j - i ∨ 24 < k - j - 1 then 36 else 0 := by
    unfold faultE
    rw [if_pos (.inr rfl), hp, List.any_cons, List.any_cons, List.any_nil, Bool.or_false, sub_len (by omega), sub_len hle2, show k - (j + 1) = k - j - 1 by omega]
    simp
  refine ⟨by omega, e3, by omega, hle2, ?_, ?_, hC⟩
  · unfold tokE
    rw [hC, if_neg (by omega)]
    exact hF
  · unfold tokJ
    rw [hC, if_neg (by omega), hF]
    by_cases h : 24 < j - i ∨ 24 < k - j - 1
    · rw [if_pos h, if_pos h, if_neg (by decide)]
    · rw [if_neg h, if_neg h, if_pos rfl]
theorem tok_sign {l : List UInt8} {i : Nat} (h3 : kl l i ≠ 3) (h4 : kl l i ≠ 4) (h6 : kl l i ≠ 6) (h7 : kl l i ≠ 7) :
    tokC l i = (7, i + sgn (l.drop i)) ∧ tokE l i = (if sgn (l.drop i) = 0 then 30 else 0) ∧ tokJ l i = i + sgn (l.drop i) := by
  have hC : tokC l i = (7, i + sgn (l.drop i)) := by
    unfold tokC
    rw [if_neg h3, if_neg h4, if_neg h6, if_neg h7]
  have hl := (sgn_pre (l.drop i)).1
  have hF : faultE 7 (subL l i (i + sgn (l.drop i))) = if sgn (l.drop i) = 0 then 30 else 0 := by
    unfold faultE
    rw [if_neg (by decide), if_neg (by decide), if_neg (by decide), if_pos rfl]
    have e : subL l i (i + sgn (l.drop i)) = [] ↔ sgn (l.drop i) = 0 := by
      unfold subL
      rw [← List.length_eq_zero_iff, List.length_take, Nat.add_sub_cancel_left]
      omega
    by_cases h : sgn (l.drop i) = 0
    · rw [if_pos (e.2 h), if_pos h]
    · rw [if_neg (fun hh => h (e.1 hh)), if_neg h]
  refine ⟨hC, ?_, ?_⟩
  · unfold tokE
    rw [hC, if_neg (fun h => h7 h.1)]
    exact hF
  · unfold tokJ
    rw [hC, if_neg (fun h => h7 h.1), hF]
    by_cases h : sgn (l.drop i) = 0
    · rw [if_pos h, if_neg (by decide), h]; rfl
    · rw [if_neg h, if_pos rfl]
def AG (l : List UInt8) (j : Nat) (l' : List UInt8) (j' n : Nat) : Prop := j + n ≤ l.length ∧ j' + n ≤ l'.length ∧ ∀ k, k < n → bt l (j + k) = bt l' (j' + k)
section
variable {l l' : List UInt8} {j j' n : Nat}
theorem AG.symm (h : AG l j l' j' n) : AG l' j' l j n := ⟨h.2.1, h.1, fun k hk => (h.2.2 k hk).symm⟩
theorem AG.more (h : AG l j l' j' n) {m : Nat} (hm : m ≤ n) : AG l (j + m) l' (j' + m) (n - m) := ⟨by have := h.1; omega, by have := h.2.1; omega, fun k hk => by
  have := h.2.2 (m + k) (by omega)
  rw [← Nat.add_assoc, ← Nat.add_assoc] at this
  exact this⟩
theorem AG.kl (h : AG l j l' j' n) {k : Nat} (hk : k < n) : Proofs.YtepokgainceidaaGreatDoor.kl l (j + k) = Proofs.YtepokgainceidaaGreatDoor.kl l' (j' + k) := by
  rw [kl_bt (by have := h.1; omega), kl_bt (by have := h.2.1; omega), h.2.2 k hk]
theorem AG.kl0 (h : AG l j l' j' n) (hn : 0 < n) : Proofs.YtepokgainceidaaGreatDoor.kl l j = Proofs.YtepokgainceidaaGreatDoor.kl l' j' := h.kl (k := 0) hn
theorem AG.sub (h : AG l j l' j' n) : subL l' j' (j' + n) = subL l j (j + n) := by
  unfold subL
  rw [Nat.add_sub_cancel_left, Nat.add_sub_cancel_left]
  refine List.ext_getElem (by have := h.1; have := h.2.1; simp; omega) (fun k h1 h2 => ?_)
  simp only [List.length_take, List.length_drop] at h1
  have hk : k < n := by omega
  have e := h.2.2 k hk
  rw [bt_of (List.getElem?_eq_getElem (show j + k < l.length by have := h.1; omega)), bt_of (List.getElem?_eq_getElem (show j' + k < l'.length by have := h.2.1; omega))] at e
  simp only [List.getElem_take, List.getElem_drop]
  exact (UInt8.toNat_inj.1 e).symm
theorem wrun_ag : ∀ (m : Nat) {l l' : List UInt8} {j j' n : Nat}, n ≤ m → AG l j l' j' n → wrun l j = j + n → inW l' (j' + n) = false → wrun l' j' = j' + n
  | 0, l, l', j, j', n, hm, h, _, hs => by
    obtain rfl : n = 0 := by omega
    exact wrun_no hs
  | m + 1, l, l', j, j', n, hm, h, hw, hs => by
    by_cases hn : n = 0
    · subst hn
      exact wrun_no hs
    · have hk := h.kl0 (by omega)
      cases hi : inW l j with
      | false => rw [wrun_no hi] at hw; omega
      | true =>
        have hi' : inW l' j' = true := by unfold inW at hi ⊢; rw [← hk]; exact hi
        rw [wrun_yes hi] at hw
        rw [wrun_yes hi', wrun_ag m (by omega) (h.more (m := 1) (by omega)) (by omega) (by rw [show j' + 1 + (n - 1) = j' + n by omega]; exact hs)]
        omega
theorem nrun_ag : ∀ (m : Nat) {l l' : List UInt8} {j j' n : Nat}, n ≤ m → AG l j l' j' n → nrun l j = j + n → (inW l' (j' + n) || dotA l' (j' + n) 4) = false → (∀ k, k + 1 = n → dotA l (j + k) 4 = false) → nrun l' j' = j' + n
  | 0, l, l', j, j', n, hm, h, _, hs, _ => by
    obtain rfl : n = 0 := by omega
    exact nrun_no hs
  | m + 1, l, l', j, j', n, hm, h, hw, hs, hlast => by
    by_cases hn : n = 0
    · subst hn
      exact nrun_no hs
    · have hk := h.kl0 (by omega)
      cases hi : (inW l j || dotA l j 4) with
      | false => rw [nrun_no hi] at hw; omega
      | true =>
        have hi' : (inW l' j' || dotA l' j' 4) = true := by
          by_cases h1 : n = 1
          · have h0 := hlast 0 (by omega)
            rw [Nat.add_zero] at h0
            rw [h0, Bool.or_false] at hi
            unfold inW at hi ⊢
            rw [← hk, hi]
            rfl
          · have hk1 := h.kl (k := 1) (by omega)
            unfold inW dotA at hi ⊢
            rw [← hk, ← hk1]
            exact hi
        rw [nrun_yes hi] at hw
        rw [nrun_yes hi', nrun_ag m (by omega) (h.more (m := 1) (by omega)) (by omega) (by rw [show j' + 1 + (n - 1) = j' + n by omega]; exact hs) (fun k hk => by rw [show j + 1 + k = j + (k + 1) by omega]; exact hlast (k + 1) (by omega))]
        omega
theorem dc_ag (h : AG l j l' j' n) (hlo : lo1 l j = false) (hd : (dc l j).2 ≤ n) : dc l' j' = dc l j := by
  have hne : ¬ (dc l j = (65533, 1)) := of_decide_eq_false hlo
  have hb := h.2.2
  have hl : n ≤ l'.length - j' := by have := h.2.1; omega
  have hdd : dc l j = Lib.decodeN (l.length - j) (bt l j) (bt l (j + 1)) (bt l (j + 2)) (bt l (j + 3)) := rfl
  have hdd' : dc l' j' = Lib.decodeN (l'.length - j') (bt l' j') (bt l' (j' + 1)) (bt l' (j' + 2)) (bt l' (j' + 3)) := rfl
  rcases Lib.decodeN_shape (l.length - j) (bt l j) (bt l (j + 1)) (bt l (j + 2)) (bt l (j + 3)) with ⟨a1, e⟩ | ⟨a1, a2, a3, a4, e⟩ | ⟨a1, a2, a3, a4, a5, a6, e⟩ | ⟨a1, a2, a3, a4, a5, a6, a7, e⟩ | e
  all_goals rw [e] at hdd
  · rw [hdd] at hd ⊢
    rw [hdd']
    have h0 := hb 0 (by simp only at hd; omega)
    simp only [Nat.add_zero] at h0
    rw [← h0]
    unfold Lib.decodeN
    rw [if_pos a1]
  · rw [hdd] at hd ⊢
    rw [hdd']
    simp only at hd
    have h0 := hb 0 (by omega)
    have h1 := hb 1 (by omega)
    simp only [Nat.add_zero] at h0
    rw [← h0, ← h1]
    unfold Lib.decodeN
    rw [if_neg (by omega), if_pos ⟨a1, by omega, a3⟩, if_pos (by omega)]
  · rw [hdd] at hd ⊢
    rw [hdd']
    simp only at hd
    have h0 := hb 0 (by omega)
    have h1 := hb 1 (by omega)
    have h2 := hb 2 (by omega)
    simp only [Nat.add_zero] at h0
    rw [← h0, ← h1, ← h2]
    unfold Lib.decodeN
    rw [if_neg (by omega), if_neg (by omega), if_pos ⟨a1, ⟨by omega, a3⟩, by omega, a4⟩, if_pos (by omega)]
  · rw [hdd] at hd ⊢
    rw [hdd']
    simp only at hd
    have h0 := hb 0 (by omega)
    have h1 := hb 1 (by omega)
    have h2 := hb 2 (by omega)
    have h3 := hb 3 (by omega)
    simp only [Nat.add_zero] at h0
    rw [← h0, ← h1, ← h2, ← h3]
    unfold Lib.decodeN
    rw [if_neg (by omega), if_neg (by omega), if_neg (by omega), if_pos ⟨a1, ⟨by omega, a3⟩, ⟨by omega, a4⟩, by omega, a5⟩, if_pos (by omega)]
  · exact absurd hdd hne
end
section
variable {l l' : List UInt8} {j j' n : Nat}
theorem AG.cut (h : AG l j l' j' n) {m : Nat} (hm : m ≤ n) : AG l j l' j' m := ⟨by have := h.1; omega, by have := h.2.1; omega, fun k hk => h.2.2 k (by omega)⟩
theorem AG.getD (h : AG l j l' j' n) {k : Nat} (hk : k < n) : l'.getD (j' + k) 0 = l.getD (j + k) 0 := UInt8.toNat_inj.1 (h.2.2 k hk).symm
theorem AG.take (h : AG l j l' j' n) {k : Nat} (hk : k ≤ n) : (l'.drop j').take k = (l.drop j).take k := by
  have := (h.cut hk).sub
  unfold subL at this
  rw [Nat.add_sub_cancel_left, Nat.add_sub_cancel_left] at this
  exact this
theorem hexRun_ag : ∀ (f : Nat) {j j' n x : Nat}, AG l j l' j' n → (hexRun f (l.drop j) x).1 < n → hexRun f (l'.drop j') x = hexRun f (l.drop j) x
  | 0, j, j', n, x, _, _ => rfl
  | f + 1, j, j', n, x, h, hc => by
    have h1 : j < l.length := by have := h.1; omega
    have h2 : j' < l'.length := by have := h.2.1; omega
    have hb : l'[j'] = l[j] := by
      have e := h.2.2 0 (by omega)
      rw [Nat.add_zero, Nat.add_zero, bt_of (List.getElem?_eq_getElem h1), bt_of (List.getElem?_eq_getElem h2)] at e
      exact (UInt8.toNat_inj.1 e).symm
    rw [List.drop_eq_getElem_cons h1] at hc ⊢
    rw [List.drop_eq_getElem_cons h2, hb]
    rw [hexRun] at hc ⊢
    rw [hexRun]
    cases hd : hexD l[j] with
    | none => rfl
    | some d =>
      rw [hd] at hc
      simp only at hc ⊢
      rw [hexRun_ag f (h.more (m := 1) (by omega)) (by omega)]
theorem brS_ag (h : AG l j l' j' n) (h0 : (brS l j).1 ≠ 0) (hn : (brS l j).1 ≤ n) : brS l' j' = brS l j := by
  have hl := h.1
  have hl' := h.2.1
  by_cases c1 : l.length < j + 3 ∨ bt l (j + 2) ≠ 123
  · exact absurd (by unfold brS; rw [if_pos c1]) h0
  by_cases c2 : (hexRun 6 (l.drop (j + 3)) 0).1 = 0 ∨ l.length ≤ j + 3 + (hexRun 6 (l.drop (j + 3)) 0).1 ∨ bt l (j + 3 + (hexRun 6 (l.drop (j + 3)) 0).1) ≠ 125 ∨ 1114111 < (hexRun 6 (l.drop (j + 3)) 0).2 ∨ (55296 ≤ (hexRun 6 (l.drop (j + 3)) 0).2 ∧ (hexRun 6 (l.drop (j + 3)) 0).2 ≤ 57343)
  · exact absurd (by unfold brS; rw [if_neg c1, if_pos c2]) h0
  have e : brS l j = (4 + (hexRun 6 (l.drop (j + 3)) 0).1, (hexRun 6 (l.drop (j + 3)) 0).2) := by unfold brS; rw [if_neg c1, if_neg c2]
  rw [e] at hn ⊢
  simp only at hn
  have hh := hexRun_ag (x := 0) 6 (h.more (m := 3) (by omega)) (by omega)
  have b2 := h.2.2 2 (by omega)
  have b3 := h.2.2 (3 + (hexRun 6 (l.drop (j + 3)) 0).1) (by omega)
  rw [← Nat.add_assoc, ← Nat.add_assoc] at b3
  unfold brS
  rw [hh, ← b2, ← b3, if_neg (by omega), if_neg (by omega)]
theorem esc_cases (l : List UInt8) (j : Nat) : (escS l j).1 = 0 ∨ (escS l j).1 = 2 ∨ (escS l j).1 = 4 ∨ (escS l j).1 = (brS l j).1 := by
  unfold escS
  repeat' split
  all_goals first
    | exact .inl rfl
    | exact .inr (.inl rfl)
    | exact .inr (.inr (.inl rfl))
    | exact .inr (.inr (.inr rfl))
theorem brS_cases (l : List UInt8) (j : Nat) : (brS l j).1 = 0 ∨ 4 ≤ (brS l j).1 := by
  unfold brS
  repeat' split
  · exact .inl rfl
  · exact .inl rfl
  · exact .inr (by simp only; omega)
theorem esc_two {l : List UInt8} {j : Nat} (h : (escS l j).1 ≠ 0) : 2 ≤ (escS l j).1 := by
  have h1 := esc_cases l j
  have h2 := brS_cases l j
  omega
theorem esc_ag (h : AG l j l' j' n) (h0 : (escS l j).1 ≠ 0) (hn : (escS l j).1 ≤ n) : escS l' j' = escS l j := by
  have hl := h.1
  have hl' := h.2.1
  by_cases c0 : l.length ≤ j + 1
  · exact absurd (by unfold escS; rw [if_pos c0]) h0
  have key : 2 ≤ n → escS l' j' = escS l j := fun h2 => by
    have b1 := h.2.2 1 (by omega)
    unfold escS at h0 hn ⊢
    rw [if_neg c0] at h0 hn ⊢
    rw [if_neg (show ¬ l'.length ≤ j' + 1 by omega), ← b1]
    by_cases c1 : bt l (j + 1) = 34
    · rw [if_pos c1, if_pos c1]
    rw [if_neg c1] at h0 hn ⊢
    rw [if_neg c1]
    by_cases c2 : bt l (j + 1) = 92
    · rw [if_pos c2, if_pos c2]
    rw [if_neg c2] at h0 hn ⊢
    rw [if_neg c2]
    by_cases c3 : bt l (j + 1) = 110
    · rw [if_pos c3, if_pos c3]
    rw [if_neg c3] at h0 hn ⊢
    rw [if_neg c3]
    by_cases c4 : bt l (j + 1) = 114
    · rw [if_pos c4, if_pos c4]
    rw [if_neg c4] at h0 hn ⊢
    rw [if_neg c4]
    by_cases c5 : bt l (j + 1) = 116
    · rw [if_pos c5, if_pos c5]
    rw [if_neg c5] at h0 hn ⊢
    rw [if_neg c5]
    by_cases c6 : bt l (j + 1) = 120
    · rw [if_pos c6] at h0 hn ⊢
      rw [if_pos c6]
      by_cases c7 : j + 3 < l.length
      · rw [if_pos c7] at h0 hn ⊢
        cases ha : hexD (l.getD (j + 2) 0) with
        | none => rw [ha] at h0; exact absurd rfl h0
        | some a =>
          cases hb : hexD (l.getD (j + 3) 0) with
          | none => rw [ha, hb] at h0; exact absurd rfl h0
          | some b =>
            rw [ha, hb] at hn
            simp only at hn
            rw [if_pos (show j' + 3 < l'.length by omega), h.getD (k := 2) (by omega), h.getD (k := 3) (by omega), ha, hb]
      · rw [if_neg c7] at h0
        exact absurd rfl h0
    rw [if_neg c6] at h0 hn ⊢
    rw [if_neg c6]
    by_cases c8 : bt l (j + 1) = 117
    · rw [if_pos c8] at h0 hn ⊢
      rw [if_pos c8]
      by_cases c9 : 0 < (brS l j).1
      · rw [if_pos c9] at hn ⊢
        simp only at hn
        rw [brS_ag h (by omega) hn, if_pos c9]
      · rw [if_neg c9] at h0
        exact absurd rfl h0
    rw [if_neg c8] at h0
    exact absurd rfl h0
  exact key (Nat.le_trans (esc_two h0) hn)
theorem ins_ag : ∀ (m : Nat) {j j' n : Nat} {s s' : List UInt8}, n ≤ m → AG l j l' j' n → insS l j s = (s', j + n, 0) → insS l' j' s = (s', j' + n, 0)
  | m, j, j', n, s, s', hm, h, hi => by
    have hl := h.1
    have hl' := h.2.1
    have hj : j < l.length := Classical.byContradiction (fun hc => by
      rw [insS, if_neg hc] at hi
      have := (Prod.mk.inj (Prod.mk.inj hi).2).2
      omega)
    rw [insS, if_pos hj] at hi
    by_cases c1 : bt l j = 34
    · rw [if_pos c1] at hi
      obtain ⟨e1, e2⟩ := Prod.mk.inj hi
      have e3 := (Prod.mk.inj e2).1
      obtain rfl : n = 1 := by omega
      have b0 := h.2.2 0 (by omega)
      rw [Nat.add_zero, Nat.add_zero] at b0
      rw [insS, if_pos (by omega), if_pos (by rw [← b0]; exact c1), e1]
    rw [if_neg c1] at hi
    have hn0 : 0 < n := by
      refine Nat.pos_of_ne_zero (fun e => ?_)
      subst e
      by_cases c2 : bt l j = 92
      · rw [if_pos c2] at hi
        by_cases c3 : (escS l j).1 = 0
        · rw [if_pos c3] at hi
          have := (Prod.mk.inj (Prod.mk.inj hi).2).2
          omega
        · rw [if_neg c3] at hi
          have hq := (escS_end l j (by omega)).1
          have hg := insS_ge l _ (j + (escS l j).1) (s ++ (escS l j).2) (Nat.le_refl _) (by omega)
          rw [hi] at hg
          simp only at hg
          omega
      · rw [if_neg c2] at hi
        by_cases c3 : lo1 l j = true ∨ bt l j < 32 ∨ bt l j = 127
        · rw [if_pos c3] at hi
          have := (Prod.mk.inj (Prod.mk.inj hi).2).2
          omega
        · rw [if_neg c3] at hi
          have hp := dc_pos l j
          have hle := dc_le l j hj
          have hg := insS_ge l _ (j + (dc l j).2) (s ++ (l.drop j).take (dc l j).2) (Nat.le_refl _) hle
          rw [hi] at hg
          simp only at hg
          omega
    have b0 := h.2.2 0 hn0
    rw [Nat.add_zero, Nat.add_zero] at b0
    match m, hm with
    | 0, hm => omega
    | m + 1, hm =>
      by_cases c2 : bt l j = 92
      · rw [if_pos c2] at hi
        by_cases c3 : (escS l j).1 = 0
        · rw [if_pos c3] at hi
          have := (Prod.mk.inj (Prod.mk.inj hi).2).2
          omega
        · rw [if_neg c3] at hi
          have hq := (escS_end l j (by omega)).1
          have hg := insS_ge l _ (j + (escS l j).1) (s ++ (escS l j).2) (Nat.le_refl _) (by omega)
          rw [hi] at hg
          simp only at hg
          have he := esc_ag h c3 (by omega)
          rw [insS, if_pos (by omega), if_neg (by rw [← b0]; exact c1), if_pos (by rw [← b0]; exact c2), he, if_neg c3, ins_ag m (n := n - (escS l j).1) (by omega) (h.more (by omega)) (by rw [hi, show j + n = j + (escS l j).1 + (n - (escS l j).1) by omega]), show j' + (escS l j).1 + (n - (escS l j).1) = j' + n by omega]
      · rw [if_neg c2] at hi
        by_cases c3 : lo1 l j = true ∨ bt l j < 32 ∨ bt l j = 127
        · rw [if_pos c3] at hi
          have := (Prod.mk.inj (Prod.mk.inj hi).2).2
          omega
        · rw [if_neg c3] at hi
          have hlo : lo1 l j = false := Bool.eq_false_iff.2 (fun e => c3 (.inl e))
          have hp := dc_pos l j
          have hle := dc_le l j hj
          have hg := insS_ge l _ (j + (dc l j).2) (s ++ (l.drop j).take (dc l j).2) (Nat.le_refl _) hle
          rw [hi] at hg
          simp only at hg
          have hd := dc_ag h hlo (by omega)
          have hlo' : lo1 l' j' = lo1 l j := by unfold lo1; rw [hd]
          rw [insS, if_pos (by omega), if_neg (by rw [← b0]; exact c1), if_neg (by rw [← b0]; exact c2), hlo', ← b0, if_neg c3, hd, h.take (by omega), ins_ag m (n := n - (dc l j).2) (by omega) (h.more (by omega)) (by rw [hi, show j + n = j + (dc l j).2 + (n - (dc l j).2) by omega]), show j' + (dc l j).2 + (n - (dc l j).2) = j' + n by omega]
end
set_option maxRecDepth 100000 in
set_option maxHeartbeats 4000000 in
theorem tk0 {X : MX} (hC : MC X) (hF : FOK X.w0) {now0 line head j0 : Nat} {D : List Tok} (hA0 : AT X.l now0 j0) (hhd : head ≤ now0) (hD : D.length ≤ 65536) {Q : Exit → Act → World → Prop} (hQ0 : ∀ tmps W', tokR X now0 line head j0 D (.returned (tmps.getD 2 undef)) W' → Q .ret { tmps := tmps, defers := [] } W')
    (a : Act) (wr : World) (hJ : TJ X now0 line head j0 D 0 a wr) (R c : Code) (hc : Tryz.f150.body = some (.seq R (.scope c))) : ∃ X', findLabel c 0 = some (.seq .skip X') ∧ X'.wp Tryz.prog (jumpN (fun l' a' w' => TJ X now0 line head j0 D l' a' w' ∧ mNow X w' < mNow X wr) Q) a wr := by
  have HA0 : Hid (AT X.l now0 j0) := hA0
  have hQ : Hid (∀ tmps W', tokR X now0 line head j0 D (.returned (tmps.getD 2 undef)) W' → Q .ret { tmps := tmps, defers := [] } W') := hQ0
  have hlen := hC.len
  clear hA0 hQ0
  unfold Tryz.f150 at hc
  injection hc with hc
  injection hc with _ hc
  injection hc with hc
  subst hc
  refine ⟨_, rfl, ?_⟩
  obtain ⟨now, j, v, u, rfl, hu, h0, HF⟩ := hJ
  obtain ⟨u0, u1, u2, u3, u4, u5, u6, u7, u8, u9, u10, u11, u12, u13, u14, u15, u16, u17, u18, u19, u20, u21, u22, u23, u24, u25, u26, u27, u28, u29, u30, u31, u32, u33, u34, u35, u36, u37, u38, u39, u40, u41, u42, u43, u44, u45, u46, u47, u48, u49, u50, u51, u52, u53, u54, u55, u56, u57, u58, u59, u60, u61, u62, u63, u64, u65, u66, u67, u68, u69, u70, u71, u72, u73, u74, u75, u76, u77, u78, u79, u80, u81, u82, u83, u84, u85, u86, u87, u88, u89, u90, u91, u92, u93, u94, u95, u96, u97, u98, u99, u100, u101, u102, u103, u104, rfl⟩ := arr_105 u hu
  have e0 : u0 = .pointer (some ⟨X.b, 0, none⟩) := h0
  subst e0
  clear hu h0
  obtain ⟨-, m, hat, hj0, hjl, hasc, hend, h3, hn7, h7⟩ := HF.out
  clear HF
  have hc2 := m.c2
  have fz2 := m.fz 2
  have hle := hat.le
  have hlt := hat.lt
  have n0 : (0 : Int) ≤ (now : Int) := by omega
  have n1 : (now : Int) ≤ 16384 := by omega
  have hat1 := hat.asc hjl hasc
  have m1 := m.setNow hC (now + 1) (z := (now : Int) + 1) (by omega)
  have hM0 := mNow_of m
  have HW := inWord_any hC m1 hat1
  obtain ⟨r, hr⟩ : ∃ r, inW X.l (j + 1) = r := ⟨_, rfl⟩
  rw [hr] at HW
  clear m
  cases r with
  | true =>
    obtain ⟨hl1, ha1⟩ := inW_asc hr
    have hend1 : endF 0 X.l (j + 1) = tokC X.l j0 := by
      rw [← hend]
      show (if dotA X.l (wrun X.l (j + 1 + 1)) 3 = true then ((3 : Nat), wrun X.l (wrun X.l (j + 1 + 1) + 1)) else (2, wrun X.l (j + 1 + 1))) = (if dotA X.l (wrun X.l (j + 1)) 3 = true then ((3 : Nat), wrun X.l (wrun X.l (j + 1) + 1)) else (2, wrun X.l (j + 1)))
      rw [wrun_yes (j := j + 1) (by simp [hr])]
    have HH : Hid (∀ W', MS X W' (now + 1) now0 line head v D → Hid (TF X now0 line head j0 D 0 (now + 1) (j + 1) v W') ∧ mNow X W' < mNow X wr) := fun W' m' => ⟨⟨by decide, m', hat1, by omega, hl1, ha1, hend1, (fun h => absurd h (by decide)), (fun _ => hn7 (by decide)), (fun h => absurd h (by decide))⟩, by rw [mNow_of m', hM0]; omega⟩
    clear hend1 ha1
    clear hr hat1 hat hend h3 hn7 h7 hM0 hasc
    go_wp2_with fail
    refine HW.mono ?_
    rintro e w1 ⟨rfl, m2⟩
    go_wp2_with fail
    go_step3
    simp only [Exit.then]
    exact ⟨⟨now + 1, j + 1, v, _, rfl, rfl, rfl, (HH.out _ m2).1⟩, (HH.out _ m2).2⟩
  | false =>
    have HDt : Hid (∀ W', MS X W' (now + 1) now0 line head v D → Calls Tryz.prog 165 #[.pointer (some ⟨X.b, 0, none⟩), .int .i64 3] W' fun e w' => e = .returned (.bool (dotA X.l (j + 1) 3)) ∧ MS X w' (now + 1) now0 line head v D) := fun W' m' => dotAhead_any hC m' hat1 3 (by decide)
    obtain ⟨d, hd⟩ : ∃ d, dotA X.l (j + 1) 3 = d := ⟨_, rfl⟩
    rw [hd] at HDt
    cases d with
    | true =>
      have hk : kl X.l (j + 1) = 5 ∧ kl X.l (j + 1 + 1) = 3 := by unfold dotA at hd; simpa using hd
      obtain ⟨hl0, ha0⟩ := dotA_asc hd
      have hat2 := hat1.asc hl0 ha0
      have hr2 : inW X.l (j + 2) = true := by
        have := hk.2
        unfold inW
        rw [show j + 2 = j + 1 + 1 by rfl, this]
        rfl
      obtain ⟨hl1, ha1⟩ := inW_asc hr2
      have hend1 : endF 4 X.l (j + 2) = tokC X.l j0 := by
        rw [← hend]
        show ((3 : Nat), wrun X.l (j + 2 + 1)) = (if dotA X.l (wrun X.l (j + 1)) 3 = true then ((3 : Nat), wrun X.l (wrun X.l (j + 1) + 1)) else (2, wrun X.l (j + 1)))
        rw [wrun_no (j := j + 1) hr, if_pos hd, wrun_yes (j := j + 2) hr2]
      have HH : Hid (∀ W', MS X W' (now + 2) now0 line head v D → Hid (TF X now0 line head j0 D 4 (now + 2) (j + 2) v W') ∧ mNow X W' < mNow X wr) := fun W' m' => ⟨⟨by decide, m', hat2, by omega, hl1, ha1, hend1, (fun h => absurd h (by decide)), (fun _ => hn7 (by decide)), (fun h => absurd h (by decide))⟩, by rw [mNow_of m', hM0]; omega⟩
      have HI : Hid (∀ W', MS X W' (now + 2) now0 line head v D → Calls Tryz.prog 164 #[.pointer (some ⟨X.b, 0, none⟩)] W' fun e w' => e = .returned (.bool true) ∧ MS X w' (now + 2) now0 line head v D) := fun W' m' => by
        have := inWord_any hC m' hat2
        rw [show now + 1 + 1 = now + 2 by rfl, show j + 1 + 1 = j + 2 by rfl, hr2] at this
        exact this
      clear hend1 ha1 hd hk hr2 hat2 ha0
      clear hr hat1 hat hend h3 hn7 h7 hM0 hasc
      go_wp2_with fail
      refine HW.mono ?_
      rintro e w1 ⟨rfl, m3⟩
      go_wp2_with fail
      refine (HDt.out _ m3).mono ?_
      rintro e w2 ⟨rfl, m4⟩
      have hc4 := m4.c2
      have fz4 := m4.fz 2
      rw [show ((now + 1 : Nat) : Int) = (now : Int) + 1 by omega] at hc4
      have m5 := m4.setNow hC (now + 2) (z := (now : Int) + 1 + 1) (by omega)
      have n2 : (now : Int) + 1 + 1 = (now : Int) + 2 := by omega
      have m6 := m4.setNow hC (now + 2) (z := (now : Int) + 2) (by omega)
      clear n2
      go_wp2_with fail
      go_step3
      simp only [Exit.then]
      rename_i hK
      refine hK _ _ ?_
      clear hK
      go_wp2_with fail
      refine (HI.out _ (by first | exact m5 | exact m6)).mono ?_
      rintro e w3 ⟨rfl, m2⟩
      go_wp2_with fail
      go_step3
      simp only [Exit.then]
      exact ⟨⟨now + 2, j + 2, v, _, rfl, rfl, rfl, (HH.out _ m2).1⟩, (HH.out _ m2).2⟩
    | false =>
      have HEND : Hid (tokC X.l j0 = (2, j + 1)) := by
        unfold Hid
        rw [← hend]
        show (if dotA X.l (wrun X.l (j + 1)) 3 = true then ((3 : Nat), wrun X.l (wrun X.l (j + 1) + 1)) else (2, wrun X.l (j + 1))) = _
        rw [wrun_no (j := j + 1) hr]
        rw [if_neg (by rw [hd]; decide)]
      have HN7 : Hid (kl X.l j0 ≠ 7) := hn7 (by decide)
      have HAT : Hid (AT X.l (now + 1) (j + 1)) := hat1
      clear hd
      clear hr hat1 hat hend h3 hn7 h7 hM0 hasc
      go_wp2_with fail
      refine HW.mono ?_
      rintro e w1 ⟨rfl, m3⟩
      go_wp2_with fail
      refine (HDt.out _ m3).mono ?_
      rintro e w2 ⟨rfl, m2⟩
      go_wp2_with fail
      refine (whole_any hC hF m2 HA0.out HAT.out (by omega) (by omega) hhd hD 2 (by decide) (by decide) (by intro _; omega)).mono ?_
      rintro e w9 ⟨rfl, v9, m9⟩
      go_wp2_with fail
      refine jump_ret (hQ.out _ _ ?_)
      exact tokR_of_whole HAT.out HA0.out HEND.out (fun x => absurd x HN7.out) ⟨rfl, v9, m9⟩
set_option maxRecDepth 100000 in
set_option maxHeartbeats 4000000 in
theorem tk1 {X : MX} (hC : MC X) (hF : FOK X.w0) {now0 line head j0 : Nat} {D : List Tok} (hA0 : AT X.l now0 j0) (hhd : head ≤ now0) (hD : D.length ≤ 65536) {Q : Exit → Act → World → Prop} (hQ0 : ∀ tmps W', tokR X now0 line head j0 D (.returned (tmps.getD 2 undef)) W' → Q .ret { tmps := tmps, defers := [] } W')
    (a : Act) (wr : World) (hJ : TJ X now0 line head j0 D 1 a wr) (R c : Code) (hc : Tryz.f150.body = some (.seq R (.scope c))) : ∃ X', findLabel c 1 = some (.seq .skip X') ∧ X'.wp Tryz.prog (jumpN (fun l' a' w' => TJ X now0 line head j0 D l' a' w' ∧ mNow X w' < mNow X wr) Q) a wr := by
  have HA0 : Hid (AT X.l now0 j0) := hA0
  have hQ : Hid (∀ tmps W', tokR X now0 line head j0 D (.returned (tmps.getD 2 undef)) W' → Q .ret { tmps := tmps, defers := [] } W') := hQ0
  have hlen := hC.len
  clear hA0 hQ0
  unfold Tryz.f150 at hc
  injection hc with hc
  injection hc with _ hc
  injection hc with hc
  subst hc
  refine ⟨_, rfl, ?_⟩
  obtain ⟨now, j, v, u, rfl, hu, h0, HF⟩ := hJ
  obtain ⟨u0, u1, u2, u3, u4, u5, u6, u7, u8, u9, u10, u11, u12, u13, u14, u15, u16, u17, u18, u19, u20, u21, u22, u23, u24, u25, u26, u27, u28, u29, u30, u31, u32, u33, u34, u35, u36, u37, u38, u39, u40, u41, u42, u43, u44, u45, u46, u47, u48, u49, u50, u51, u52, u53, u54, u55, u56, u57, u58, u59, u60, u61, u62, u63, u64, u65, u66, u67, u68, u69, u70, u71, u72, u73, u74, u75, u76, u77, u78, u79, u80, u81, u82, u83, u84, u85, u86, u87, u88, u89, u90, u91, u92, u93, u94, u95, u96, u97, u98, u99, u100, u101, u102, u103, u104, rfl⟩ := arr_105 u hu
  have e0 : u0 = .pointer (some ⟨X.b, 0, none⟩) := h0
  subst e0
  clear hu h0
  obtain ⟨-, m, hat, hj0, hjl, hasc, hend, h3, hn7, h7⟩ := HF.out
  clear HF
  have hc2 := m.c2
  have fz2 := m.fz 2
  have hle := hat.le
  have hlt := hat.lt
  have n0 : (0 : Int) ≤ (now : Int) := by omega
  have n1 : (now : Int) ≤ 16384 := by omega
  have hat1 := hat.asc hjl hasc
  have m1 := m.setNow hC (now + 1) (z := (now : Int) + 1) (by omega)
  have hM0 := mNow_of m
  have HW := inWord_any hC m1 hat1
  obtain ⟨r, hr⟩ : ∃ r, inW X.l (j + 1) = r := ⟨_, rfl⟩
  rw [hr] at HW
  clear m
  cases r with
  | true =>
    obtain ⟨hl1, ha1⟩ := inW_asc hr
    have hend1 : endF 1 X.l (j + 1) = tokC X.l j0 := by
      rw [← hend]
      show ((4 : Nat), nrun X.l (j + 1 + 1)) = ((4 : Nat), nrun X.l (j + 1))
      rw [nrun_yes (j := j + 1) (by simp [hr])]
    have HH : Hid (∀ W', MS X W' (now + 1) now0 line head v D → Hid (TF X now0 line head j0 D 1 (now + 1) (j + 1) v W') ∧ mNow X W' < mNow X wr) := fun W' m' => ⟨⟨by decide, m', hat1, by omega, hl1, ha1, hend1, (fun h => absurd h (by decide)), (fun _ => hn7 (by decide)), (fun h => absurd h (by decide))⟩, by rw [mNow_of m', hM0]; omega⟩
    clear hend1 ha1
    clear hr hat1 hat hend h3 hn7 h7 hM0 hasc
    go_wp2_with fail
    refine HW.mono ?_
    rintro e w1 ⟨rfl, m2⟩
    go_wp2_with fail
    go_step3
    simp only [Exit.then]
    exact ⟨⟨now + 1, j + 1, v, _, rfl, rfl, rfl, (HH.out _ m2).1⟩, (HH.out _ m2).2⟩
  | false =>
    have HDt : Hid (∀ W', MS X W' (now + 1) now0 line head v D → Calls Tryz.prog 165 #[.pointer (some ⟨X.b, 0, none⟩), .int .i64 4] W' fun e w' => e = .returned (.bool (dotA X.l (j + 1) 4)) ∧ MS X w' (now + 1) now0 line head v D) := fun W' m' => dotAhead_any hC m' hat1 4 (by decide)
    obtain ⟨d, hd⟩ : ∃ d, dotA X.l (j + 1) 4 = d := ⟨_, rfl⟩
    rw [hd] at HDt
    cases d with
    | true =>
      obtain ⟨hl1, ha1⟩ := dotA_asc hd
      have hend1 : endF 1 X.l (j + 1) = tokC X.l j0 := by
        rw [← hend]
        show ((4 : Nat), nrun X.l (j + 1 + 1)) = ((4 : Nat), nrun X.l (j + 1))
        rw [nrun_yes (j := j + 1) (by simp [hr, hd])]
      have HH : Hid (∀ W', MS X W' (now + 1) now0 line head v D → Hid (TF X now0 line head j0 D 1 (now + 1) (j + 1) v W') ∧ mNow X W' < mNow X wr) := fun W' m' => ⟨⟨by decide, m', hat1, by omega, hl1, ha1, hend1, (fun h => absurd h (by decide)), (fun _ => hn7 (by decide)), (fun h => absurd h (by decide))⟩, by rw [mNow_of m', hM0]; omega⟩
      clear hend1 ha1 hd
      clear hr hat1 hat hend h3 hn7 h7 hM0 hasc
      go_wp2_with fail
      refine HW.mono ?_
      rintro e w1 ⟨rfl, m3⟩
      go_wp2_with fail
      refine (HDt.out _ m3).mono ?_
      rintro e w2 ⟨rfl, m2⟩
      go_wp2_with fail
      go_step3
      simp only [Exit.then]
      exact ⟨⟨now + 1, j + 1, v, _, rfl, rfl, rfl, (HH.out _ m2).1⟩, (HH.out _ m2).2⟩
    | false =>
      have HEND : Hid (tokC X.l j0 = (4, j + 1)) := by
        unfold Hid
        rw [← hend]
        show ((4 : Nat), nrun X.l (j + 1)) = _
        rw [nrun_no (j := j + 1) (by simp [hr, hd])]
      have HN7 : Hid (kl X.l j0 ≠ 7) := hn7 (by decide)
      have HAT : Hid (AT X.l (now + 1) (j + 1)) := hat1
      clear hd
      clear hr hat1 hat hend h3 hn7 h7 hM0 hasc
      go_wp2_with fail
      refine HW.mono ?_
      rintro e w1 ⟨rfl, m3⟩
      go_wp2_with fail
      refine (HDt.out _ m3).mono ?_
      rintro e w2 ⟨rfl, m2⟩
      go_wp2_with fail
      refine (whole_any hC hF m2 HA0.out HAT.out (by omega) (by omega) hhd hD 4 (by decide) (by decide) (by intro _; omega)).mono ?_
      rintro e w9 ⟨rfl, v9, m9⟩
      go_wp2_with fail
      refine jump_ret (hQ.out _ _ ?_)
      exact tokR_of_whole HAT.out HA0.out HEND.out (fun x => absurd x HN7.out) ⟨rfl, v9, m9⟩
end Go.Proofs.YtepokgainceidaaGreatDoor
