import Derived.Test.YtffgkjmfeannoaaGreatDoorXAQ
import Derived.Test.YtffgkjmfeannoaaGreatDoorXAP
import Derived.Test.YtffgkjmfeannoaaGreatDoorXAR
namespace Go.Proofs.YtffgkjmfeannoaaGreatDoor
open Go.RowKit Go.Shelf
theorem wrun_in {l : List UInt8} : ∀ (m j : Nat), l.length - j ≤ m → ∀ k, j ≤ k → k < wrun l j → inW l k = true
  | m, j, hm, k, h1, h2 => by
    cases h : inW l j with
    | false => rw [wrun_no h] at h2; omega
    | true =>
      have hj := (inW_asc h).1
      rw [wrun_yes h] at h2
      rcases Nat.lt_or_ge j k with hk | hk
      · match m, hm with
        | 0, hm => omega
        | m + 1, hm => exact wrun_in m (j + 1) (by omega) k hk h2
      · rw [show k = j by omega]; exact h
theorem inW_46 {l : List UInt8} {k : Nat} (h : inW l k = true) : bt l k ≠ 46 := fun e => by
  have hk := (inW_asc h).1
  have h5 : kl l k = 5 := by rw [kl_bt hk, e]; rfl
  unfold inW at h
  rw [h5] at h
  cases h
theorem sub_dot {l : List UInt8} {i j : Nat} (h : ∀ k, i ≤ k → k < j → bt l k ≠ 46) : Lib.indexByte (subL l i j) 46 < 0 := by
  rw [idx_no (fun k hk e => ?_)]
  · decide
  · obtain ⟨h1, h2⟩ := sub_get e
    exact h (i + k) (by omega) h2 (by rw [bt_of h1]; rfl)
theorem sub_len {l : List UInt8} {i j : Nat} (h : j ≤ l.length) : (subL l i j).length = j - i := by
  unfold subL
  simp
  omega
theorem parts_one {l : List UInt8} {i j : Nat} (h : ∀ k, i ≤ k → k < j → bt l k ≠ 46) : parts (subL l i j) = [subL l i j] := parts_neg (sub_dot h)
theorem sub_take {l : List UInt8} {i j k : Nat} (h1 : i ≤ j) (h2 : j ≤ k) : (subL l i k).take (j - i) = subL l i j := by
  unfold subL
  rw [List.take_take, Nat.min_eq_left (by omega)]
theorem sub_drop {l : List UInt8} {i j k : Nat} (h1 : i ≤ j) (h2 : j < k) : (subL l i k).drop (j - i + 1) = subL l (j + 1) k := by
  unfold subL
  rw [List.drop_take, List.drop_drop, show i + (j - i + 1) = j + 1 by omega, show k - i - (j - i + 1) = k - (j + 1) by omega]
theorem parts_two {l : List UInt8} {i j k : Nat} (h1 : i ≤ j) (h2 : j < k) (hk : k ≤ l.length) (hd : bt l j = 46) (ha : ∀ m, i ≤ m → m < j → bt l m ≠ 46) (hb : ∀ m, j + 1 ≤ m → m < k → bt l m ≠ 46) : parts (subL l i k) = [subL l i j, subL l (j + 1) k] := by
  have hj : j < l.length := by omega
  have h46 : l[j]? = some 46 := by
    rw [List.getElem?_eq_getElem hj]
    have := bt_of (List.getElem?_eq_getElem hj)
    rw [hd] at this
    exact congrArg some (UInt8.toNat_inj.1 this.symm)
  have hi : Lib.indexByte (subL l i k) 46 = ((j - i : Nat) : Int) := by
    refine idx_eq ?_ (fun m hm e => ?_)
    · unfold subL
      rw [List.getElem?_take, if_pos (by omega), List.getElem?_drop, show i + (j - i) = j by omega]
      exact h46
    · obtain ⟨e1, e2⟩ := sub_get e
      exact ha (i + m) (by omega) (by omega) (by rw [bt_of e1]; rfl)
  rw [parts_pos hi, sub_take h1 (by omega), sub_drop h1 h2, parts_one hb]
theorem tok_name {l : List UInt8} {i j : Nat} (hi : i < l.length) (h3 : kl l i = 3) (hj : wrun l i = j) (hd : dotA l j 3 = false) :
    i < j ∧ j ≤ l.length ∧ tokE l i = (if 24 < j - i then 36 else 0) ∧ tokJ l i = (if 24 < j - i then i else j) ∧ tokC l i = (2, j) := by
  have hw : inW l i = true := by unfold inW; rw [h3]; rfl
  have hj' : wrun l (i + 1) = j := by rw [← hj, wrun_yes hw]
  have hg := wrun_ge l _ (i + 1) (Nat.le_refl _)
  rw [hj'] at hg
  have hle := hg.2 hi
  have hC : tokC l i = (2, j) := by unfold tokC endF; rw [if_pos h3, if_pos rfl, hj', hd, if_neg (by decide)]
  have hp := parts_one (l := l) (i := i) (j := j) (fun k h1 h2 => inW_46 (wrun_in _ i (Nat.le_refl _) k h1 (by rw [hj]; exact h2)))
  have hF : faultE 2 (subL l i j) = if 24 < j - i then 36 else 0 := by
    unfold faultE
    rw [if_pos (.inl rfl), hp, List.any_cons, List.any_nil, Bool.or_false, sub_len hle]
    simp
  refine ⟨by omega, hle, ?_, ?_, hC⟩
  · unfold tokE
    rw [hC, if_neg (by omega)]
    exact hF
  · unfold tokJ
    rw [hC, if_neg (by omega), hF]
    by_cases h : 24 < j - i
    · rw [if_pos h, if_pos h, if_neg (by decide)]
    · rw [if_neg h, if_neg h, if_pos rfl]
theorem tok_port {l : List UInt8} {i j k : Nat} (hi : i < l.length) (h3 : kl l i = 3) (hj : wrun l i = j) (hd : dotA l j 3 = true) (hk : wrun l (j + 1) = k) :
    i < j ∧ j + 1 < l.length ∧ j + 1 < k ∧ k ≤ l.length ∧ tokE l i = (if 24 < j - i ∨ 24 < k - j - 1 then 36 else 0) ∧ tokJ l i = (if 24 < j - i ∨ 24 < k - j - 1 then i else k) ∧ tokC l i = (3, k) := by
  have hw : inW l i = true := by unfold inW; rw [h3]; rfl
  have hj' : wrun l (i + 1) = j := by rw [← hj, wrun_yes hw]
  have hg := wrun_ge l _ (i + 1) (Nat.le_refl _)
  rw [hj'] at hg
  have hle := hg.2 hi
  obtain ⟨d1, d2⟩ : kl l j = 5 ∧ kl l (j + 1) = 3 := by unfold dotA at hd; simpa using hd
  obtain ⟨e1, e2⟩ := kl5 d1
  have e3 : j + 1 < l.length := Classical.byContradiction (fun h => by rw [kl0.2 h] at d2; cases d2)
  have hw2 : inW l (j + 1) = true := by unfold inW; rw [d2]; rfl
  have hg2 := wrun_ge l _ (j + 1 + 1) (Nat.le_refl _)
  rw [← wrun_yes hw2, hk] at hg2
  have hle2 := hg2.2 (by omega)
  have hC : tokC l i = (3, k) := by unfold tokC endF; rw [if_pos h3, if_pos rfl, hj', hd, if_pos rfl, hk]
  have hp := parts_two (l := l) (i := i) (j := j) (k := k) (by omega) (by omega) hle2 e2 (fun m h1 h2 => inW_46 (wrun_in _ i (Nat.le_refl _) m h1 (by rw [hj]; exact h2))) (fun m h1 h2 => inW_46 (wrun_in _ (j + 1) (Nat.le_refl _) m h1 (by rw [hk]; exact h2)))
  have hF : faultE 3 (subL l i k) = if 24 < j - i ∨ 24 < k - j - 1 then 36 else 0 := by
    unfold faultE
    rw [if_pos (.inr rfl), hp, List.any_cons, List.any_cons, List.any_nil, Bool.or_false, sub_len (by omega), sub_len hle2, show k - (j + 1) = k - j - 1 by omega]
    simp
  refine ⟨by omega, e3, by omega, hle2, ?_, ?_, hC⟩
  · unfold tokE
    rw [hC, if_neg (by omega)]
    exact hF
  · unfold tokJ
    rw [hC, if_neg (by omega), hF]
    by_cases h : 24 < j - i ∨ 24 < k - j - 1
    · rw [if_pos h, if_pos h, if_neg (by decide)]
    · rw [if_neg h, if_neg h, if_pos rfl]
theorem tok_num {l : List UInt8} {i : Nat} (hi : i < l.length) (hs : l.length ≤ 16384) (h4 : kl l i = 4) :
    i < nrun l i ∧ nrun l i ≤ l.length ∧ tokC l i = (4, nrun l i) ∧ tokE l i = (if numN (subL l i (nrun l i)) = none then 31 else 0) ∧ tokJ l i = (if numN (subL l i (nrun l i)) = none then i else nrun l i) := by
  have hw : (inW l i || dotA l i 4) = true := by unfold inW; rw [h4]; rfl
  have hy := nrun_yes hw
  have hg := nrun_ge l _ (i + 1) (Nat.le_refl _)
  rw [← hy] at hg
  have hle := hg.2 hi
  have hC : tokC l i = (4, nrun l i) := by
    unfold tokC endF
    rw [if_neg (by omega), if_pos h4, if_neg (by decide), if_neg (by decide), if_pos rfl, hy]
  have hF : faultE 4 (subL l i (nrun l i)) = if numN (subL l i (nrun l i)) = none then 31 else 0 := by
    have hl := subL_len l i (nrun l i)
    unfold faultE valE
    rw [if_neg (by decide), if_pos rfl, if_neg (by omega)]
    cases numN (subL l i (nrun l i)) <;> simp
  refine ⟨by omega, hle, hC, ?_, ?_⟩
  · unfold tokE
    rw [hC, if_neg (by omega)]
    exact hF
  · unfold tokJ
    rw [hC, if_neg (by omega), hF]
    cases numN (subL l i (nrun l i)) <;> simp
def patX (t : List UInt8) : Bool := decide (2 ≤ t.length) && (decide (t.length ≤ 33) && (t.drop 1).all is01x)
theorem tok_pat {l : List UInt8} {i : Nat} (hi : i < l.length) (h6 : kl l i = 6) :
    i < wrun l (i + 1) ∧ wrun l (i + 1) ≤ l.length ∧ tokC l i = (5, wrun l (i + 1)) ∧ tokE l i = (if patX (subL l i (wrun l (i + 1))) = true then 0 else 44) ∧ tokJ l i = (if patX (subL l i (wrun l (i + 1))) = true then wrun l (i + 1) else i) := by
  have hg := wrun_ge l _ (i + 1) (Nat.le_refl _)
  have hle := hg.2 hi
  have hC : tokC l i = (5, wrun l (i + 1)) := by
    unfold tokC endF
    rw [if_neg (by omega), if_neg (by omega), if_pos h6, if_neg (by decide), if_neg (by decide), if_neg (by decide), if_pos rfl]
  have hF : faultE 5 (subL l i (wrun l (i + 1))) = if patX (subL l i (wrun l (i + 1))) = true then 0 else 44 := by
    obtain ⟨t, ht⟩ : ∃ t, subL l i (wrun l (i + 1)) = t := ⟨_, rfl⟩
    rw [ht]
    unfold faultE patX
    rw [if_neg (by decide), if_neg (by decide), if_pos rfl]
    have e0 : (t.drop 1 = []) ↔ t.length ≤ 1 := by rw [← List.length_eq_zero_iff, List.length_drop]; omega
    rw [List.length_drop]
    by_cases ha : (t.drop 1).all is01x = true
    · by_cases hb : 2 ≤ t.length ∧ t.length ≤ 33
      · rw [if_neg (fun h => by rcases h with h | h | h <;> first | (rw [e0] at h; omega) | omega | (rw [ha] at h; cases h)), if_pos (by rw [ha]; simp [hb.1, hb.2])]
      · rw [if_pos (by rw [e0]; omega), if_neg (by simp only [Bool.and_eq_true, decide_eq_true_eq]; exact fun h => hb ⟨h.1, h.2.1⟩)]
    · rw [if_pos (.inr (.inr (Bool.eq_false_iff.2 ha))), if_neg (by simp only [Bool.and_eq_true]; exact fun h => ha h.2.2)]
  refine ⟨by omega, hle, hC, ?_, ?_⟩
  · unfold tokE
    rw [hC, if_neg (by omega)]
    exact hF
  · unfold tokJ
    rw [hC, if_neg (by omega), hF]
    cases patX (subL l i (wrun l (i + 1))) <;> simp
theorem tok_quo {l : List UInt8} {i : Nat} (hi : i < l.length) (hn : ∀ j, j < l.length → kl l j ≠ 1) (h7 : kl l i = 7) :
    ((insS l (i + 1) []).2.2 ≠ 0 → tokE l i = (insS l (i + 1) []).2.2 ∧ tokJ l i = (insS l (i + 1) []).2.1) ∧
    ((insS l (i + 1) []).2.2 = 0 → 256 < (insS l (i + 1) []).1.length → tokE l i = 37 ∧ tokJ l i = i) ∧
    ((insS l (i + 1) []).2.2 = 0 → ¬ 256 < (insS l (i + 1) []).1.length → tokE l i = 0 ∧ tokJ l i = (insS l (i + 1) []).2.1 ∧ tokC l i = (6, (insS l (i + 1) []).2.1)) := by
  have hC : tokC l i = (6, quoJ l i) := by
    unfold tokC endF
    rw [if_neg (by omega), if_neg (by omega), if_neg (by omega), if_pos h7, if_neg (by decide), if_neg (by decide), if_neg (by decide), if_neg (by decide)]
  have hf : ∀ t, faultE 6 t = 0 := fun t => by
    unfold faultE
    rw [if_neg (by decide), if_neg (by decide), if_neg (by decide), if_neg (by decide)]
  have h33 : ¬ ((insS l (i + 1) []).2.2 = 33 ∧ kl l (insS l (i + 1) []).2.1 = 1) := fun ⟨h1, h2⟩ => hn _ ((insS_at l _ (i + 1) [] (Nat.le_refl _) hi).2 h1) h2
  have hq : quoE l i = if (insS l (i + 1) []).2.2 = 0 ∧ 256 < (insS l (i + 1) []).1.length then 37 else (insS l (i + 1) []).2.2 := by unfold quoE; rw [if_neg h33]
  refine ⟨fun h => ?_, fun h1 h2 => ?_, fun h1 h2 => ?_⟩
  · have hc : ¬ ((insS l (i + 1) []).2.2 = 0 ∧ 256 < (insS l (i + 1) []).1.length) := fun hh => h hh.1
    have hq1 : quoE l i = (insS l (i + 1) []).2.2 := hq.trans (if_neg hc)
    have hj1 : quoJ l i = (insS l (i + 1) []).2.1 := by unfold quoJ; exact if_neg hc
    have h7' : kl l i = 7 ∧ quoE l i ≠ 0 := ⟨h7, by rw [hq1]; exact h⟩
    exact ⟨by unfold tokE; rw [if_pos h7', hq1], by unfold tokJ; rw [if_pos h7', hj1]⟩
  · have hq1 : quoE l i = 37 := hq.trans (if_pos ⟨h1, h2⟩)
    have hj1 : quoJ l i = i := by unfold quoJ; exact if_pos ⟨h1, h2⟩
    have h7' : kl l i = 7 ∧ quoE l i ≠ 0 := ⟨h7, by rw [hq1]; decide⟩
    exact ⟨by unfold tokE; rw [if_pos h7', hq1], by unfold tokJ; rw [if_pos h7', hj1]⟩
  · have hq1 : quoE l i = 0 := (hq.trans (if_neg (fun hh => h2 hh.2))).trans h1
    have hj1 : quoJ l i = (insS l (i + 1) []).2.1 := by unfold quoJ; exact if_neg (fun hh => h2 hh.2)
    have h7' : ¬ (kl l i = 7 ∧ quoE l i ≠ 0) := fun hh => hh.2 hq1
    exact ⟨by unfold tokE; rw [if_neg h7', hC, hf], by unfold tokJ; rw [if_neg h7', hC, hf, if_pos rfl, hj1], by rw [hC, hj1]⟩
theorem find_eq (a : List UInt8) : ∀ L : List (List UInt8), L.find? (fun s => s == a) = if a ∈ L then some a else none
  | [] => rfl
  | b :: L => by
    rw [List.find?_cons, find_eq a L]
    by_cases h : b = a
    · subst h
      simp
    · have : (b == a) = false := beq_eq_false_iff_ne.2 h
      rw [this]
      simp only [List.mem_cons]
      by_cases h2 : a ∈ L
      · rw [if_pos h2, if_pos (.inr h2)]
      · rw [if_neg h2, if_neg (fun hh => hh.elim (fun e => h e.symm) h2)]
theorem find_cong {α : Type} {p q : α → Bool} : ∀ L : List α, (∀ x ∈ L, p x = q x) → L.find? p = L.find? q := findc
abbrev signs2 : List (List UInt8) := [[33, 61], [60, 61], [62, 61], [46, 46], [45, 62]]
abbrev signs1 : List (List UInt8) := [[40], [41], [33], [61], [60], [62], [38], [124], [44], [58], [47]]
theorem pre_two (x y : UInt8) (r : List UInt8) : ∀ s ∈ signs2, Lib.hasPrefix (x :: y :: r) s = (s == [x, y]) := by
  intro s hs
  have h2 : ∀ s ∈ signs2, s.length = 2 := by decide
  obtain ⟨a, b, rfl⟩ : ∃ a b, s = [a, b] := by
    have := h2 s hs
    match s, this with
    | [a, b], _ => exact ⟨a, b, rfl⟩
  unfold Lib.hasPrefix
  simp [List.isPrefixOf]
theorem pre_one (x : UInt8) (r : List UInt8) : ∀ s ∈ signs1, Lib.hasPrefix (x :: r) s = (s == [x]) := by
  intro s hs
  have h2 : ∀ s ∈ signs1, s.length = 1 := by decide
  obtain ⟨a, rfl⟩ : ∃ a, s = [a] := by
    have := h2 s hs
    match s, this with
    | [a], _ => exact ⟨a, rfl⟩
  unfold Lib.hasPrefix
  simp [List.isPrefixOf]
theorem sgn_two (x y : UInt8) (r : List UInt8) : sgn (x :: y :: r) = if [x, y] ∈ signs2 then 2 else if [x] ∈ signs1 then 1 else 0 := by
  unfold sgn
  rw [show signsL = signs2 ++ signs1 from rfl, List.find?_append, find_cong signs2 (pre_two x y r), find_cong signs1 (pre_one x (y :: r)), find_eq, find_eq]
  by_cases h : [x, y] ∈ signs2
  · rw [if_pos h, if_pos h]; rfl
  · rw [if_neg h, if_neg h]
    by_cases h1 : [x] ∈ signs1
    · rw [if_pos h1, if_pos h1]; rfl
    · rw [if_neg h1, if_neg h1]; rfl
theorem sgn_one (x : UInt8) : sgn [x] = if [x] ∈ signs1 then 1 else 0 := by
  unfold sgn
  have hn : signs2.find? (fun s => Lib.hasPrefix [x] s) = none := by
    rw [List.find?_eq_none]
    intro s hs
    have h2 : ∀ s ∈ signs2, s.length = 2 := by decide
    have := h2 s hs
    match s, this with
    | [a, b], _ => simp [Lib.hasPrefix, List.isPrefixOf]
  rw [show signsL = signs2 ++ signs1 from rfl, List.find?_append, hn, find_cong signs1 (pre_one x []), find_eq]
  by_cases h1 : [x] ∈ signs1
  · rw [if_pos h1, if_pos h1]; rfl
  · rw [if_neg h1, if_neg h1]; rfl
theorem tok_sign {l : List UInt8} {i : Nat} (h3 : kl l i ≠ 3) (h4 : kl l i ≠ 4) (h6 : kl l i ≠ 6) (h7 : kl l i ≠ 7) :
    tokC l i = (7, i + sgn (l.drop i)) ∧ tokE l i = (if sgn (l.drop i) = 0 then 30 else 0) ∧ tokJ l i = i + sgn (l.drop i) := by
  have hC : tokC l i = (7, i + sgn (l.drop i)) := by
    unfold tokC
    rw [if_neg h3, if_neg h4, if_neg h6, if_neg h7]
  have hl := (sgn_pre (l.drop i)).1
  have hF : faultE 7 (subL l i (i + sgn (l.drop i))) = if sgn (l.drop i) = 0 then 30 else 0 := by
    unfold faultE
    rw [if_neg (by decide), if_neg (by decide), if_neg (by decide), if_pos rfl]
    have e : subL l i (i + sgn (l.drop i)) = [] ↔ sgn (l.drop i) = 0 := by
      unfold subL
      rw [← List.length_eq_zero_iff, List.length_take, Nat.add_sub_cancel_left]
      omega
    by_cases h : sgn (l.drop i) = 0
    · rw [if_pos (e.2 h), if_pos h]
    · rw [if_neg (fun hh => h (e.1 hh)), if_neg h]
  refine ⟨hC, ?_, ?_⟩
  · unfold tokE
    rw [hC, if_neg (fun h => h7 h.1)]
    exact hF
  · unfold tokJ
    rw [hC, if_neg (fun h => h7 h.1), hF]
    by_cases h : sgn (l.drop i) = 0
    · rw [if_pos h, if_neg (by decide), h]; rfl
    · rw [if_neg h, if_pos rfl]
def AG (l : List UInt8) (j : Nat) (l' : List UInt8) (j' n : Nat) : Prop := j + n ≤ l.length ∧ j' + n ≤ l'.length ∧ ∀ k, k < n → bt l (j + k) = bt l' (j' + k)
section
variable {l l' : List UInt8} {j j' n : Nat}
theorem AG.symm (h : AG l j l' j' n) : AG l' j' l j n := ⟨h.2.1, h.1, fun k hk => (h.2.2 k hk).symm⟩
theorem AG.more (h : AG l j l' j' n) {m : Nat} (hm : m ≤ n) : AG l (j + m) l' (j' + m) (n - m) := ⟨by have := h.1; omega, by have := h.2.1; omega, fun k hk => by
  have := h.2.2 (m + k) (by omega)
  rw [← Nat.add_assoc, ← Nat.add_assoc] at this
  exact this⟩
theorem AG.kl (h : AG l j l' j' n) {k : Nat} (hk : k < n) : Proofs.YtffgkjmfeannoaaGreatDoor.kl l (j + k) = Proofs.YtffgkjmfeannoaaGreatDoor.kl l' (j' + k) := by
  rw [kl_bt (by have := h.1; omega), kl_bt (by have := h.2.1; omega), h.2.2 k hk]
theorem AG.kl0 (h : AG l j l' j' n) (hn : 0 < n) : Proofs.YtffgkjmfeannoaaGreatDoor.kl l j = Proofs.YtffgkjmfeannoaaGreatDoor.kl l' j' := h.kl (k := 0) hn
theorem AG.sub (h : AG l j l' j' n) : subL l' j' (j' + n) = subL l j (j + n) := by
  unfold subL
  rw [Nat.add_sub_cancel_left, Nat.add_sub_cancel_left]
  refine List.ext_getElem (by have := h.1; have := h.2.1; simp; omega) (fun k h1 h2 => ?_)
  simp only [List.length_take, List.length_drop] at h1
  have hk : k < n := by omega
  have e := h.2.2 k hk
  rw [bt_of (List.getElem?_eq_getElem (show j + k < l.length by have := h.1; omega)), bt_of (List.getElem?_eq_getElem (show j' + k < l'.length by have := h.2.1; omega))] at e
  simp only [List.getElem_take, List.getElem_drop]
  exact (UInt8.toNat_inj.1 e).symm
theorem wrun_ag : ∀ (m : Nat) {l l' : List UInt8} {j j' n : Nat}, n ≤ m → AG l j l' j' n → wrun l j = j + n → inW l' (j' + n) = false → wrun l' j' = j' + n
  | 0, l, l', j, j', n, hm, h, _, hs => by
    obtain rfl : n = 0 := by omega
    exact wrun_no hs
  | m + 1, l, l', j, j', n, hm, h, hw, hs => by
    by_cases hn : n = 0
    · subst hn
      exact wrun_no hs
    · have hk := h.kl0 (by omega)
      cases hi : inW l j with
      | false => rw [wrun_no hi] at hw; omega
      | true =>
        have hi' : inW l' j' = true := by unfold inW at hi ⊢; rw [← hk]; exact hi
        rw [wrun_yes hi] at hw
        rw [wrun_yes hi', wrun_ag m (by omega) (h.more (m := 1) (by omega)) (by omega) (by rw [show j' + 1 + (n - 1) = j' + n by omega]; exact hs)]
        omega
theorem nrun_ag : ∀ (m : Nat) {l l' : List UInt8} {j j' n : Nat}, n ≤ m → AG l j l' j' n → nrun l j = j + n → (inW l' (j' + n) || dotA l' (j' + n) 4) = false → (∀ k, k + 1 = n → dotA l (j + k) 4 = false) → nrun l' j' = j' + n
  | 0, l, l', j, j', n, hm, h, _, hs, _ => by
    obtain rfl : n = 0 := by omega
    exact nrun_no hs
  | m + 1, l, l', j, j', n, hm, h, hw, hs, hlast => by
    by_cases hn : n = 0
    · subst hn
      exact nrun_no hs
    · have hk := h.kl0 (by omega)
      cases hi : (inW l j || dotA l j 4) with
      | false => rw [nrun_no hi] at hw; omega
      | true =>
        have hi' : (inW l' j' || dotA l' j' 4) = true := by
          by_cases h1 : n = 1
          · have h0 := hlast 0 (by omega)
            rw [Nat.add_zero] at h0
            rw [h0, Bool.or_false] at hi
            unfold inW at hi ⊢
            rw [← hk, hi]
            rfl
          · have hk1 := h.kl (k := 1) (by omega)
            unfold inW dotA at hi ⊢
            rw [← hk, ← hk1]
            exact hi
        rw [nrun_yes hi] at hw
        rw [nrun_yes hi', nrun_ag m (by omega) (h.more (m := 1) (by omega)) (by omega) (by rw [show j' + 1 + (n - 1) = j' + n by omega]; exact hs) (fun k hk => by rw [show j + 1 + k = j + (k + 1) by omega]; exact hlast (k + 1) (by omega))]
        omega
theorem dc_ag (h : AG l j l' j' n) (hlo : lo1 l j = false) (hd : (dc l j).2 ≤ n) : dc l' j' = dc l j := by
  have hne : ¬ (dc l j = (65533, 1)) := of_decide_eq_false hlo
  have hb := h.2.2
  have hl : n ≤ l'.length - j' := by have := h.2.1; omega
  have hdd : dc l j = Lib.decodeN (l.length - j) (bt l j) (bt l (j + 1)) (bt l (j + 2)) (bt l (j + 3)) := rfl
  have hdd' : dc l' j' = Lib.decodeN (l'.length - j') (bt l' j') (bt l' (j' + 1)) (bt l' (j' + 2)) (bt l' (j' + 3)) := rfl
  rcases Lib.decodeN_shape (l.length - j) (bt l j) (bt l (j + 1)) (bt l (j + 2)) (bt l (j + 3)) with ⟨a1, e⟩ | ⟨a1, a2, a3, a4, e⟩ | ⟨a1, a2, a3, a4, a5, a6, e⟩ | ⟨a1, a2, a3, a4, a5, a6, a7, e⟩ | e
  all_goals rw [e] at hdd
  · rw [hdd] at hd ⊢
    rw [hdd']
    have h0 := hb 0 (by simp only at hd; omega)
    simp only [Nat.add_zero] at h0
    rw [← h0]
    unfold Lib.decodeN
    rw [if_pos a1]
  · rw [hdd] at hd ⊢
    rw [hdd']
    simp only at hd
    have h0 := hb 0 (by omega)
    have h1 := hb 1 (by omega)
    simp only [Nat.add_zero] at h0
    rw [← h0, ← h1]
    unfold Lib.decodeN
    rw [if_neg (by omega), if_pos ⟨a1, by omega, a3⟩, if_pos (by omega)]
  · rw [hdd] at hd ⊢
    rw [hdd']
    simp only at hd
    have h0 := hb 0 (by omega)
    have h1 := hb 1 (by omega)
    have h2 := hb 2 (by omega)
    simp only [Nat.add_zero] at h0
    rw [← h0, ← h1, ← h2]
    unfold Lib.decodeN
    rw [if_neg (by omega), if_neg (by omega), if_pos ⟨a1, ⟨by omega, a3⟩, by omega, a4⟩, if_pos (by omega)]
  · rw [hdd] at hd ⊢
    rw [hdd']
    simp only at hd
    have h0 := hb 0 (by omega)
    have h1 := hb 1 (by omega)
    have h2 := hb 2 (by omega)
    have h3 := hb 3 (by omega)
    simp only [Nat.add_zero] at h0
    rw [← h0, ← h1, ← h2, ← h3]
    unfold Lib.decodeN
    rw [if_neg (by omega), if_neg (by omega), if_neg (by omega), if_pos ⟨a1, ⟨by omega, a3⟩, ⟨by omega, a4⟩, by omega, a5⟩, if_pos (by omega)]
  · exact absurd hdd hne
end
section
variable {l l' : List UInt8} {j j' n : Nat}
theorem AG.cut (h : AG l j l' j' n) {m : Nat} (hm : m ≤ n) : AG l j l' j' m := ⟨by have := h.1; omega, by have := h.2.1; omega, fun k hk => h.2.2 k (by omega)⟩
theorem AG.getD (h : AG l j l' j' n) {k : Nat} (hk : k < n) : l'.getD (j' + k) 0 = l.getD (j + k) 0 := UInt8.toNat_inj.1 (h.2.2 k hk).symm
theorem AG.take (h : AG l j l' j' n) {k : Nat} (hk : k ≤ n) : (l'.drop j').take k = (l.drop j).take k := by
  have := (h.cut hk).sub
  unfold subL at this
  rw [Nat.add_sub_cancel_left, Nat.add_sub_cancel_left] at this
  exact this
theorem hexRun_ag : ∀ (f : Nat) {j j' n x : Nat}, AG l j l' j' n → (hexRun f (l.drop j) x).1 < n → hexRun f (l'.drop j') x = hexRun f (l.drop j) x
  | 0, j, j', n, x, _, _ => rfl
  | f + 1, j, j', n, x, h, hc => by
    have h1 : j < l.length := by have := h.1; omega
    have h2 : j' < l'.length := by have := h.2.1; omega
    have hb : l'[j'] = l[j] := by
      have e := h.2.2 0 (by omega)
      rw [Nat.add_zero, Nat.add_zero, bt_of (List.getElem?_eq_getElem h1), bt_of (List.getElem?_eq_getElem h2)] at e
      exact (UInt8.toNat_inj.1 e).symm
    rw [List.drop_eq_getElem_cons h1] at hc ⊢
    rw [List.drop_eq_getElem_cons h2, hb]
    rw [hexRun] at hc ⊢
    rw [hexRun]
    cases hd : hexD l[j] with
    | none => rfl
    | some d =>
      rw [hd] at hc
      simp only at hc ⊢
      rw [hexRun_ag f (h.more (m := 1) (by omega)) (by omega)]
theorem brS_ag (h : AG l j l' j' n) (h0 : (brS l j).1 ≠ 0) (hn : (brS l j).1 ≤ n) : brS l' j' = brS l j := by
  have hl := h.1
  have hl' := h.2.1
  by_cases c1 : l.length < j + 3 ∨ bt l (j + 2) ≠ 123
  · exact absurd (by unfold brS; rw [if_pos c1]) h0
  by_cases c2 : (hexRun 6 (l.drop (j + 3)) 0).1 = 0 ∨ l.length ≤ j + 3 + (hexRun 6 (l.drop (j + 3)) 0).1 ∨ bt l (j + 3 + (hexRun 6 (l.drop (j + 3)) 0).1) ≠ 125 ∨ 1114111 < (hexRun 6 (l.drop (j + 3)) 0).2 ∨ (55296 ≤ (hexRun 6 (l.drop (j + 3)) 0).2 ∧ (hexRun 6 (l.drop (j + 3)) 0).2 ≤ 57343)
  · exact absurd (by unfold brS; rw [if_neg c1, if_pos c2]) h0
  have e : brS l j = (4 + (hexRun 6 (l.drop (j + 3)) 0).1, (hexRun 6 (l.drop (j + 3)) 0).2) := by unfold brS; rw [if_neg c1, if_neg c2]
  rw [e] at hn ⊢
  simp only at hn
  have hh := hexRun_ag (x := 0) 6 (h.more (m := 3) (by omega)) (by omega)
  have b2 := h.2.2 2 (by omega)
  have b3 := h.2.2 (3 + (hexRun 6 (l.drop (j + 3)) 0).1) (by omega)
  rw [← Nat.add_assoc, ← Nat.add_assoc] at b3
  unfold brS
  rw [hh, ← b2, ← b3, if_neg (by omega), if_neg (by omega)]
theorem esc_cases (l : List UInt8) (j : Nat) : (escS l j).1 = 0 ∨ (escS l j).1 = 2 ∨ (escS l j).1 = 4 ∨ (escS l j).1 = (brS l j).1 := by
  unfold escS
  repeat' split
  all_goals first
    | exact .inl rfl
    | exact .inr (.inl rfl)
    | exact .inr (.inr (.inl rfl))
    | exact .inr (.inr (.inr rfl))
theorem brS_cases (l : List UInt8) (j : Nat) : (brS l j).1 = 0 ∨ 4 ≤ (brS l j).1 := by
  unfold brS
  repeat' split
  · exact .inl rfl
  · exact .inl rfl
  · exact .inr (by simp only; omega)
theorem esc_two {l : List UInt8} {j : Nat} (h : (escS l j).1 ≠ 0) : 2 ≤ (escS l j).1 := by
  have h1 := esc_cases l j
  have h2 := brS_cases l j
  omega
theorem esc_ag (h : AG l j l' j' n) (h0 : (escS l j).1 ≠ 0) (hn : (escS l j).1 ≤ n) : escS l' j' = escS l j := by
  have hl := h.1
  have hl' := h.2.1
  by_cases c0 : l.length ≤ j + 1
  · exact absurd (by unfold escS; rw [if_pos c0]) h0
  have key : 2 ≤ n → escS l' j' = escS l j := fun h2 => by
    have b1 := h.2.2 1 (by omega)
    unfold escS at h0 hn ⊢
    rw [if_neg c0] at h0 hn ⊢
    rw [if_neg (show ¬ l'.length ≤ j' + 1 by omega), ← b1]
    by_cases c1 : bt l (j + 1) = 34
    · rw [if_pos c1, if_pos c1]
    rw [if_neg c1] at h0 hn ⊢
    rw [if_neg c1]
    by_cases c2 : bt l (j + 1) = 92
    · rw [if_pos c2, if_pos c2]
    rw [if_neg c2] at h0 hn ⊢
    rw [if_neg c2]
    by_cases c3 : bt l (j + 1) = 110
    · rw [if_pos c3, if_pos c3]
    rw [if_neg c3] at h0 hn ⊢
    rw [if_neg c3]
    by_cases c4 : bt l (j + 1) = 114
    · rw [if_pos c4, if_pos c4]
    rw [if_neg c4] at h0 hn ⊢
    rw [if_neg c4]
    by_cases c5 : bt l (j + 1) = 116
    · rw [if_pos c5, if_pos c5]
    rw [if_neg c5] at h0 hn ⊢
    rw [if_neg c5]
    by_cases c6 : bt l (j + 1) = 120
    · rw [if_pos c6] at h0 hn ⊢
      rw [if_pos c6]
      by_cases c7 : j + 3 < l.length
      · rw [if_pos c7] at h0 hn ⊢
        cases ha : hexD (l.getD (j + 2) 0) with
        | none => rw [ha] at h0; exact absurd rfl h0
        | some a =>
          cases hb : hexD (l.getD (j + 3) 0) with
          | none => rw [ha, hb] at h0; exact absurd rfl h0
          | some b =>
            rw [ha, hb] at hn
            simp only at hn
            rw [if_pos (show j' + 3 < l'.length by omega), h.getD (k := 2) (by omega), h.getD (k := 3) (by omega), ha, hb]
      · rw [if_neg c7] at h0
        exact absurd rfl h0
    rw [if_neg c6] at h0 hn ⊢
    rw [if_neg c6]
    by_cases c8 : bt l (j + 1) = 117
    · rw [if_pos c8] at h0 hn ⊢
      rw [if_pos c8]
      by_cases c9 : 0 < (brS l j).1
      · rw [if_pos c9] at hn ⊢
        simp only at hn
        rw [brS_ag h (by omega) hn, if_pos c9]
      · rw [if_neg c9] at h0
        exact absurd rfl h0
    rw [if_neg c8] at h0
    exact absurd rfl h0
  exact key (Nat.le_trans (esc_two h0) hn)
theorem ins_ag : ∀ (m : Nat) {j j' n : Nat} {s s' : List UInt8}, n ≤ m → AG l j l' j' n → insS l j s = (s', j + n, 0) → insS l' j' s = (s', j' + n, 0)
  | m, j, j', n, s, s', hm, h, hi => by
    have hl := h.1
    have hl' := h.2.1
    have hj : j < l.length := Classical.byContradiction (fun hc => by
      rw [insS, if_neg hc] at hi
      have := (Prod.mk.inj (Prod.mk.inj hi).2).2
      omega)
    rw [insS, if_pos hj] at hi
    by_cases c1 : bt l j = 34
    · rw [if_pos c1] at hi
      obtain ⟨e1, e2⟩ := Prod.mk.inj hi
      have e3 := (Prod.mk.inj e2).1
      obtain rfl : n = 1 := by omega
      have b0 := h.2.2 0 (by omega)
      rw [Nat.add_zero, Nat.add_zero] at b0
      rw [insS, if_pos (by omega), if_pos (by rw [← b0]; exact c1), e1]
    rw [if_neg c1] at hi
    have hn0 : 0 < n := by
      refine Nat.pos_of_ne_zero (fun e => ?_)
      subst e
      by_cases c2 : bt l j = 92
      · rw [if_pos c2] at hi
        by_cases c3 : (escS l j).1 = 0
        · rw [if_pos c3] at hi
          have := (Prod.mk.inj (Prod.mk.inj hi).2).2
          omega
        · rw [if_neg c3] at hi
          have hq := (escS_end l j (by omega)).1
          have hg := insS_ge l _ (j + (escS l j).1) (s ++ (escS l j).2) (Nat.le_refl _) (by omega)
          rw [hi] at hg
          simp only at hg
          omega
      · rw [if_neg c2] at hi
        by_cases c3 : lo1 l j = true ∨ bt l j < 32 ∨ bt l j = 127
        · rw [if_pos c3] at hi
          have := (Prod.mk.inj (Prod.mk.inj hi).2).2
          omega
        · rw [if_neg c3] at hi
          have hp := dc_pos l j
          have hle := dc_le l j hj
          have hg := insS_ge l _ (j + (dc l j).2) (s ++ (l.drop j).take (dc l j).2) (Nat.le_refl _) hle
          rw [hi] at hg
          simp only at hg
          omega
    have b0 := h.2.2 0 hn0
    rw [Nat.add_zero, Nat.add_zero] at b0
    match m, hm with
    | 0, hm => omega
    | m + 1, hm =>
      by_cases c2 : bt l j = 92
      · rw [if_pos c2] at hi
        by_cases c3 : (escS l j).1 = 0
        · rw [if_pos c3] at hi
          have := (Prod.mk.inj (Prod.mk.inj hi).2).2
          omega
        · rw [if_neg c3] at hi
          have hq := (escS_end l j (by omega)).1
          have hg := insS_ge l _ (j + (escS l j).1) (s ++ (escS l j).2) (Nat.le_refl _) (by omega)
          rw [hi] at hg
          simp only at hg
          have he := esc_ag h c3 (by omega)
          rw [insS, if_pos (by omega), if_neg (by rw [← b0]; exact c1), if_pos (by rw [← b0]; exact c2), he, if_neg c3, ins_ag m (n := n - (escS l j).1) (by omega) (h.more (by omega)) (by rw [hi, show j + n = j + (escS l j).1 + (n - (escS l j).1) by omega]), show j' + (escS l j).1 + (n - (escS l j).1) = j' + n by omega]
      · rw [if_neg c2] at hi
        by_cases c3 : lo1 l j = true ∨ bt l j < 32 ∨ bt l j = 127
        · rw [if_pos c3] at hi
          have := (Prod.mk.inj (Prod.mk.inj hi).2).2
          omega
        · rw [if_neg c3] at hi
          have hlo : lo1 l j = false := Bool.eq_false_iff.2 (fun e => c3 (.inl e))
          have hp := dc_pos l j
          have hle := dc_le l j hj
          have hg := insS_ge l _ (j + (dc l j).2) (s ++ (l.drop j).take (dc l j).2) (Nat.le_refl _) hle
          rw [hi] at hg
          simp only at hg
          have hd := dc_ag h hlo (by omega)
          have hlo' : lo1 l' j' = lo1 l j := by unfold lo1; rw [hd]
          rw [insS, if_pos (by omega), if_neg (by rw [← b0]; exact c1), if_neg (by rw [← b0]; exact c2), hlo', ← b0, if_neg c3, hd, h.take (by omega), ins_ag m (n := n - (dc l j).2) (by omega) (h.more (by omega)) (by rw [hi, show j + n = j + (dc l j).2 + (n - (dc l j).2) by omega]), show j' + (dc l j).2 + (n - (dc l j).2) = j' + n by omega]
end
end Go.Proofs.YtffgkjmfeannoaaGreatDoor
