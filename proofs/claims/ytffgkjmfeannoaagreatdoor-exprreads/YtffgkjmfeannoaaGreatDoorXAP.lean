import Derived.Test.YtffgkjmfeannoaaGreatDoorXAO
namespace Go.Proofs.YtffgkjmfeannoaaGreatDoor
open Go.RowKit Go.Shelf
section
variable {P a S : List UInt8}
theorem hexRun_stop (hS : stopL S) : ∀ (f : Nat) (x : List UInt8) (n : Nat), hexRun f (x ++ S) n = hexRun f x n
  | 0, _, _ => by unfold hexRun; rfl
  | f + 1, [], n => by
    rcases hS with rfl | ⟨S', rfl⟩
    · rfl
    · show hexRun (f + 1) (10 :: S') n = _
      rw [hexRun, hexRun, show hexD 10 = none by decide]
  | f + 1, c :: x, n => by
    show hexRun (f + 1) (c :: (x ++ S)) n = _
    rw [hexRun, hexRun]
    cases hexD c with
    | none => rfl
    | some d => simp only [hexRun_stop hS f x (16 * n + d)]
theorem bt_app {x : List UInt8} {i : Nat} (h : i < x.length) : bt (x ++ S) i = bt x i := by
  unfold bt
  rw [List.getD_eq_getElem?_getD, List.getD_eq_getElem?_getD, List.getElem?_append_left h]
theorem getD_app {x : List UInt8} {i : Nat} (h : i < x.length) : (x ++ S).getD i 0 = x.getD i 0 := by
  rw [List.getD_eq_getElem?_getD, List.getD_eq_getElem?_getD, List.getElem?_append_left h]
theorem bt_at {x S' : List UInt8} : bt (x ++ 10 :: S') x.length = 10 := bt_of (l := x ++ 10 :: S') (c := 10) (by simp)
theorem getD_at {x S' : List UInt8} : (x ++ 10 :: S').getD x.length 0 = 10 := by simp [List.getD]
theorem brS_stop (hS : stopL S) {x : List UInt8} (hx : 2 ≤ x.length) : brS (x ++ S) 0 = brS x 0 := by
  have hk := hexRun_le 6 (x.drop 3) 0
  unfold brS
  simp only [Nat.zero_add]
  by_cases h3 : x.length < 3
  · rw [if_pos (c := x.length < 3 ∨ bt x 2 ≠ 123) (.inl h3)]
    have e2 : x.length = 2 := by omega
    rcases hS with rfl | ⟨S', rfl⟩
    · rw [List.append_nil, if_pos (.inl h3)]
    · have hb : bt (x ++ 10 :: S') 2 = 10 := by rw [← e2]; exact bt_at
      rw [if_pos (.inr (by rw [hb]; decide))]
  · have hl : ¬ (x ++ S).length < 3 := by simp; omega
    have hd : (x ++ S).drop 3 = x.drop 3 ++ S := List.drop_append_of_le_length (by omega)
    rw [bt_app (by omega), hd, hexRun_stop hS]
    by_cases h123 : bt x 2 ≠ 123
    · rw [if_pos (.inr h123), if_pos (.inr h123)]
    have n1 : ¬ ((x ++ S).length < 3 ∨ bt x 2 ≠ 123) := fun e => e.elim hl h123
    have n2 : ¬ (x.length < 3 ∨ bt x 2 ≠ 123) := fun e => e.elim h3 h123
    rw [if_neg n1, if_neg n2]
    obtain ⟨k, hkk⟩ : ∃ k, (hexRun 6 (x.drop 3) 0).1 = k := ⟨_, rfl⟩
    rw [List.length_drop, hkk] at hk
    rw [hkk]
    by_cases hlt : 3 + k < x.length
    · rw [bt_app hlt]
      have e1 : ((x ++ S).length ≤ 3 + k) = (x.length ≤ 3 + k) := by
        rw [eq_iff_iff]
        constructor
        · intro h; simp at h; omega
        · intro h; omega
      simp only [e1]
    · have ek : 3 + k = x.length := by omega
      have hle : x.length ≤ 3 + k := by omega
      simp only [hle, true_or, or_true, if_true]
      rcases hS with rfl | ⟨S', rfl⟩
      · simp only [List.append_nil, hle, true_or, or_true, if_true]
      · have hb : bt (x ++ 10 :: S') (3 + k) = 10 := by rw [ek]; exact bt_at
        have hb2 : bt (x ++ 10 :: S') (3 + k) ≠ 125 := by rw [hb]; decide
        simp only [hb2, ne_eq, not_false_eq_true, true_or, or_true, if_true]
theorem escS_stop (hS : stopL S) {x : List UInt8} (hx : 1 ≤ x.length) : escS (x ++ S) 0 = escS x 0 := by
  unfold escS
  simp only [Nat.zero_add]
  by_cases h1 : x.length ≤ 1
  · have e1 : x.length = 1 := by omega
    rw [if_pos h1]
    rcases hS with rfl | ⟨S', rfl⟩
    · rw [List.append_nil, if_pos h1]
    · have hb : bt (x ++ 10 :: S') 1 = 10 := by rw [← e1]; exact bt_at
      rw [if_neg (by simp; omega), hb]
      rfl
  · rw [if_neg h1, if_neg (by simp; omega), bt_app (by omega), brS_stop hS (by omega)]
    by_cases h120 : bt x 1 = 120
    · have i1 : ¬ bt x 1 = 34 := by omega
      have i2 : ¬ bt x 1 = 92 := by omega
      have i3 : ¬ bt x 1 = 110 := by omega
      have i4 : ¬ bt x 1 = 114 := by omega
      have i5 : ¬ bt x 1 = 116 := by omega
      rw [if_neg i1, if_neg i2, if_neg i3, if_neg i4, if_neg i5, if_pos h120, if_neg i1, if_neg i2, if_neg i3, if_neg i4, if_neg i5, if_pos h120]
      by_cases h3 : 3 < x.length
      · rw [if_pos h3, if_pos (by simp; omega), getD_app (by omega), getD_app h3]
      · rw [if_neg h3]
        rcases hS with rfl | ⟨S', rfl⟩
        · rw [List.append_nil, if_neg h3]
        · have hn : hexD 10 = none := by decide
          by_cases h4 : 3 < (x ++ 10 :: S').length
          · rw [if_pos h4]
            by_cases e2 : x.length = 2
            · have hg : (x ++ 10 :: S').getD 2 0 = 10 := by rw [← e2]; exact getD_at
              rw [hg, hn]
            · have e3 : x.length = 3 := by omega
              have hg : (x ++ 10 :: S').getD 3 0 = 10 := by rw [← e3]; exact getD_at
              rw [hg, hn]
              cases hexD ((x ++ 10 :: S').getD 2 0) <;> rfl
          · rw [if_neg h4]
    · simp only [h120, if_false]
theorem escL (hS : stopL S) {j : Nat} (hj : j < a.length) : escS (P ++ (a ++ S)) (P.length + j) = escS a j := by
  have e1 : P ++ (a ++ S) = (P ++ a.take j) ++ (a.drop j ++ S) := by
    rw [List.append_assoc, ← List.append_assoc (a.take j), List.take_append_drop]
  have e2 : P.length + j = (P ++ a.take j).length := by simp; omega
  have e3 : escS a j = escS (a.take j ++ a.drop j) (a.take j).length := by
    rw [List.take_append_drop, List.length_take, Nat.min_eq_left (by omega)]
  rw [e1, e2, escS_shift, e3, escS_shift]
  exact escS_stop hS (by simp; omega)
theorem insL (hS : stopL S) : ∀ (m j : Nat) (s : List UInt8), a.length - j ≤ m → j ≤ a.length →
    insS (P ++ (a ++ S)) (P.length + j) s = if (insS a j s).2.2 = 32 then ([], P.length + a.length, if S = [] then 32 else 33) else ((insS a j s).1, P.length + (insS a j s).2.1, (insS a j s).2.2)
  | m, j, s, hm, hj => by
    rcases Nat.lt_or_ge j a.length with h | h
    · match m, hm with
      | 0, hm => omega
      | m + 1, hm =>
        have hl : P.length + j < (P ++ (a ++ S)).length := by simp; omega
        have hdrop : ((P ++ (a ++ S)).drop (P.length + j)).take (dc a j).2 = (a.drop j).take (dc a j).2 := by
          have := dc_le a j h
          rw [drop_shift, List.drop_append_of_le_length hj, List.take_append_of_le_length (by simp; omega)]
        rw [insS, if_pos hl, btL h, escL hS h, dcL hS h, hdrop]
        have hlo : lo1 (P ++ (a ++ S)) (P.length + j) = lo1 a j := by unfold lo1; rw [dcL hS h]
        rw [hlo]
        rw [show insS a j s = _ from by rw [insS, if_pos h]]
        by_cases c34 : bt a j = 34
        · simp only [c34, if_true]
          rfl
        simp only [c34, if_false]
        by_cases c92 : bt a j = 92
        · simp only [c92, if_true]
          by_cases c0 : (escS a j).1 = 0
          · simp only [c0, if_true]
            rfl
          · simp only [c0, if_false]
            have := (escS_end a j (by omega)).1
            rw [Nat.add_assoc]
            exact insL hS m (j + (escS a j).1) _ (by omega) this
        simp only [c92, if_false]
        by_cases cb : lo1 a j = true ∨ bt a j < 32 ∨ bt a j = 127
        · simp only [cb, if_true]
          rfl
        · simp only [cb, if_false]
          have hp := dc_pos a j
          have := dc_le a j h
          rw [Nat.add_assoc]
          exact insL hS m (j + (dc a j).2) _ (by omega) this
    · obtain rfl : j = a.length := by omega
      have e0 : insS a a.length s = ([], a.length, 32) := by rw [insS, if_neg (by omega)]
      rw [e0]
      simp only [if_true]
      rcases hS with rfl | ⟨S', rfl⟩
      · rw [insS, if_neg (by simp)]
        simp
      · have hb : bt (P ++ (a ++ 10 :: S')) (P.length + a.length) = 10 := by rw [bt_shift]; exact bt_at
        rw [insS, if_pos (by simp), hb]
        simp
end
theorem insS_at (l : List UInt8) : ∀ (m j : Nat) (s : List UInt8), l.length - j ≤ m → j ≤ l.length → ((insS l j s).2.2 = 32 → (insS l j s).2.1 = l.length) ∧ ((insS l j s).2.2 = 33 → (insS l j s).2.1 < l.length) := by
  intro m
  induction m with
  | zero =>
    intro j s h hj
    rw [insS, if_neg (by omega)]
    exact ⟨fun _ => rfl, fun h => by simp at h⟩
  | succ m ih =>
    intro j s h hj
    by_cases h1 : j < l.length
    · rw [insS, if_pos h1]
      split
      · exact ⟨fun h => by simp at h, fun h => by simp at h⟩
      · split
        · split
          · exact ⟨fun h => by simp at h, fun h => by simp at h⟩
          · have := (escS_end l j (by omega)).1
            exact ih _ _ (by omega) this
        · split
          · exact ⟨fun h => by simp at h, fun _ => h1⟩
          · have hp := dc_pos l j
            have := dc_le l j h1
            exact ih _ _ (by omega) this
    · rw [insS, if_neg h1]
      exact ⟨fun _ => rfl, fun h => by simp at h⟩
section
variable {P a S : List UInt8}
theorem quoEL (hS : stopL S) {j : Nat} (hj : j < a.length) : quoE (P ++ (a ++ S)) (P.length + j) = quoE a j ∧ quoJ (P ++ (a ++ S)) (P.length + j) = P.length + quoJ a j := by
  have hi := insL (P := P) hS _ (j + 1) [] (Nat.le_refl _) (show j + 1 ≤ a.length from hj)
  obtain ⟨h32, h33⟩ := insS_at a _ (j + 1) [] (Nat.le_refl _) hj
  unfold quoE quoJ
  rw [Nat.add_assoc, hi]
  by_cases e : (insS a (j + 1) []).2.2 = 32
  · have e1 := h32 e
    rw [if_pos e]
    rw [e, e1]
    rcases hS with rfl | ⟨S', rfl⟩
    · simp
    · have hk : kl (P ++ (a ++ 10 :: S')) (P.length + a.length) = 1 := by
        rcases klE (P := P) (a := a) (S := 10 :: S') (.inr ⟨S', rfl⟩) with h | h
        · exact absurd (kl0.1 h) (by simp)
        · exact h
      simp [hk]
  · rw [if_neg e]
    by_cases e33 : (insS a (j + 1) []).2.2 = 33
    · have hk := klL (P := P) hS (h33 e33)
      simp only [e33, hk]
      simp
    · simp only [e33, false_and, if_false]
      split
      · exact ⟨trivial, rfl⟩
      · exact ⟨trivial, rfl⟩
theorem subLL {j e : Nat} (hj : j ≤ e) (he : e ≤ a.length) : subL (P ++ (a ++ S)) (P.length + j) (P.length + e) = subL a j e := by
  unfold subL
  rw [drop_shift, List.drop_append_of_le_length (by omega), show P.length + e - (P.length + j) = e - j by omega, List.take_append_of_le_length (by simp; omega)]
theorem tokC_le {l : List UInt8} {j : Nat} (hj : j < l.length) : j ≤ (tokC l j).2 ∧ (tokC l j).2 ≤ l.length := by
  have wr := wrun_ge l _ (j + 1) (Nat.le_refl _)
  have nr := nrun_ge l _ (j + 1) (Nat.le_refl _)
  have wr2 := wrun_ge l _ (wrun l (j + 1) + 1) (Nat.le_refl _)
  have hw1 := wr.2 hj
  have hn1 := nr.2 hj
  have hg := insS_ge l _ (j + 1) [] (Nat.le_refl _) hj
  have hle := insS_le l _ (j + 1) [] (Nat.le_refl _) hj
  obtain ⟨hs1, _⟩ := sgn_pre (l.drop j)
  rw [List.length_drop] at hs1
  unfold tokC
  split
  · show j ≤ (if dotA l (wrun l (j + 1)) 3 = true then ((3 : Nat), wrun l (wrun l (j + 1) + 1)) else (2, wrun l (j + 1))).2 ∧ (if dotA l (wrun l (j + 1)) 3 = true then ((3 : Nat), wrun l (wrun l (j + 1) + 1)) else (2, wrun l (j + 1))).2 ≤ l.length
    split
    · rename_i hd
      have := (dotA_asc hd).1
      have := wr2.2 (by omega)
      exact ⟨by simp only; omega, by simp only; omega⟩
    · exact ⟨by simp only; omega, by simp only; omega⟩
  · split
    · show j ≤ nrun l (j + 1) ∧ nrun l (j + 1) ≤ l.length
      omega
    · split
      · show j ≤ wrun l (j + 1) ∧ wrun l (j + 1) ≤ l.length
        omega
      · split
        · show j ≤ quoJ l j ∧ quoJ l j ≤ l.length
          unfold quoJ
          split
          · omega
          · omega
        · show j ≤ j + sgn (l.drop j) ∧ j + sgn (l.drop j) ≤ l.length
          omega
theorem tokCL (hS : stopL S) {j : Nat} (hj : j < a.length) : tokC (P ++ (a ++ S)) (P.length + j) = ((tokC a j).1, P.length + (tokC a j).2) := by
  have w1 := wrunL (P := P) hS _ (j + 1) (Nat.le_refl _) hj
  have n1 := nrunL (P := P) hS _ (j + 1) (Nat.le_refl _) hj
  have hwl := (wrun_ge a _ (j + 1) (Nat.le_refl _)).2 hj
  rw [← Nat.add_assoc] at w1 n1
  unfold tokC
  rw [klL hS hj]
  by_cases k3 : kl a j = 3
  · rw [if_pos k3, if_pos k3]
    show (if dotA (P ++ (a ++ S)) (wrun (P ++ (a ++ S)) (P.length + j + 1)) 3 = true then ((3 : Nat), wrun (P ++ (a ++ S)) (wrun (P ++ (a ++ S)) (P.length + j + 1) + 1)) else (2, wrun (P ++ (a ++ S)) (P.length + j + 1))) = _
    rw [w1, dotAL hS hwl (by decide)]
    show _ = ((if dotA a (wrun a (j + 1)) 3 = true then ((3 : Nat), wrun a (wrun a (j + 1) + 1)) else (2, wrun a (j + 1))).1, P.length + (if dotA a (wrun a (j + 1)) 3 = true then ((3 : Nat), wrun a (wrun a (j + 1) + 1)) else (2, wrun a (j + 1))).2)
    by_cases hd : dotA a (wrun a (j + 1)) 3 = true
    · have hlt := (dotA_asc hd).1
      have w2 := wrunL (P := P) hS _ (wrun a (j + 1) + 1) (Nat.le_refl _) hlt
      rw [if_pos hd, if_pos hd, Nat.add_assoc, w2]
    · rw [if_neg hd, if_neg hd]
  rw [if_neg k3, if_neg k3]
  by_cases k4 : kl a j = 4
  · rw [if_pos k4, if_pos k4]
    show ((4 : Nat), nrun (P ++ (a ++ S)) (P.length + j + 1)) = (4, P.length + nrun a (j + 1))
    rw [n1]
  rw [if_neg k4, if_neg k4]
  by_cases k6 : kl a j = 6
  · rw [if_pos k6, if_pos k6]
    show ((5 : Nat), wrun (P ++ (a ++ S)) (P.length + j + 1)) = (5, P.length + wrun a (j + 1))
    rw [w1]
  rw [if_neg k6, if_neg k6]
  by_cases k7 : kl a j = 7
  · rw [if_pos k7, if_pos k7]
    show ((6 : Nat), quoJ (P ++ (a ++ S)) (P.length + j)) = (6, P.length + quoJ a j)
    rw [(quoEL hS hj).2]
  rw [if_neg k7, if_neg k7, sgnL hS j (by omega), Nat.add_assoc]
theorem tokEL (hS : stopL S) {j : Nat} (hj : j < a.length) : tokE (P ++ (a ++ S)) (P.length + j) = tokE a j ∧ tokJ (P ++ (a ++ S)) (P.length + j) = P.length + tokJ a j := by
  obtain ⟨q1, q2⟩ := quoEL (P := P) hS hj
  obtain ⟨t1, t2⟩ := tokC_le hj
  have hs := subLL (P := P) (S := S) t1 t2
  unfold tokE tokJ
  rw [klL hS hj, q1, q2, tokCL hS hj]
  simp only [hs]
  refine ⟨trivial, ?_⟩
  split
  · rfl
  · split
    · rfl
    · rfl
end
def RE (l : List UInt8) (j : Nat) : Prop := ∃ k, AT l k j
theorem RE.zero (l : List UInt8) : RE l 0 := ⟨0, rfl⟩
theorem RE.asc {l : List UInt8} {j : Nat} (h : RE l j) (hj : j < l.length) (hb : bt l j < 128) : RE l (j + 1) := by
  obtain ⟨k, h⟩ := h
  exact ⟨k + 1, h.asc hj hb⟩
theorem RE.next {l : List UInt8} {j : Nat} (h : RE l j) (hj : j < l.length) : RE l (j + (dc l j).2) := by
  obtain ⟨k, h⟩ := h
  exact ⟨k + 1, h.next hj⟩
theorem RE.wrun {l : List UInt8} : ∀ (m j : Nat), l.length - j ≤ m → RE l j → RE l (wrun l j)
  | m, j, hm, h => by
    cases hw : inW l j with
    | false => rw [wrun_no hw]; exact h
    | true =>
      obtain ⟨h1, h2⟩ := inW_asc hw
      match m, hm with
      | 0, hm => omega
      | m + 1, hm =>
        rw [wrun_yes hw]
        exact RE.wrun m (j + 1) (by omega) (h.asc h1 h2)
theorem RE.nrun {l : List UInt8} : ∀ (m j : Nat), l.length - j ≤ m → RE l j → RE l (nrun l j)
  | m, j, hm, h => by
    cases hw : (inW l j || dotA l j 4) with
    | false => rw [nrun_no hw]; exact h
    | true =>
      have ⟨h1, h2⟩ : j < l.length ∧ bt l j < 128 := by
        rcases Bool.or_eq_true_iff.1 hw with h | h
        · exact inW_asc h
        · exact dotA_asc h
      match m, hm with
      | 0, hm => omega
      | m + 1, hm =>
        rw [nrun_yes hw]
        exact RE.nrun m (j + 1) (by omega) (h.asc h1 h2)
theorem RE.ins {l : List UInt8} : ∀ (m j : Nat) (s : List UInt8), l.length - j ≤ m → j ≤ l.length → RE l j → RE l (insS l j s).2.1 := by
  intro m
  induction m with
  | zero =>
    intro j s h hj hr
    rw [insS, if_neg (by omega)]
    obtain rfl : j = l.length := by omega
    exact hr
  | succ m ih =>
    intro j s h hj hr
    by_cases h1 : j < l.length
    · rw [insS, if_pos h1]
      split
      · rename_i h34
        exact hr.asc h1 (by omega)
      · split
        · rename_i h92
          split
          · exact hr
          · rename_i hne
            have he := (escS_end l j (by omega)).1
            refine ih _ _ (by omega) he ?_
            obtain ⟨k, hk⟩ := hr
            have hd := escS_drop l j h1 h92 (by omega)
            exact ⟨k + (escS l j).1, by
              show (chars l 0).drop _ = _
              rw [← List.drop_drop, show (chars l 0).drop k = chars l j from hk]
              exact hd⟩
        · split
          · exact hr
          · have hp := dc_pos l j
            have := dc_le l j h1
            exact ih _ _ (by omega) this (hr.next h1)
    · rw [insS, if_neg h1]
      obtain rfl : j = l.length := by omega
      exact hr
theorem RE.cend {l : List UInt8} : ∀ (m j : Nat), l.length - j ≤ m → RE l j → RE l (cend l j)
  | m, j, hm, h => by
    by_cases hk : kl l j = 1 ∨ kl l j = 0
    · rw [cend_end hk]; exact h
    · have h1 : kl l j ≠ 1 := fun e => hk (.inl e)
      have h0 : kl l j ≠ 0 := fun e => hk (.inr e)
      have hj : j < l.length := Classical.byContradiction (fun e => h0 (kl0.2 e))
      have hp := dc_pos l j
      match m, hm with
      | 0, hm => omega
      | m + 1, hm =>
        rw [cend_on h1 h0]
        exact RE.cend m _ (by omega) (h.next hj)
theorem RE.tok {l : List UInt8} {j : Nat} (h : RE l j) (hj : j < l.length) : RE l (tokJ l j) := by
  have hq : kl l j = 7 → RE l (quoJ l j) := fun h7 => by
    unfold quoJ
    split
    · exact h
    · obtain ⟨h1, h2⟩ := kl_asc (l := l) (j := j) (by omega) (by omega)
      exact RE.ins _ _ _ (Nat.le_refl _) hj (h.asc h1 h2)
  unfold tokJ
  split
  · rename_i h7
    exact hq h7.1
  · split
    · unfold tokC
      split
      · rename_i k3
        obtain ⟨h1, h2⟩ := kl_asc (l := l) (j := j) (by omega) (by omega)
        have hw := RE.wrun _ _ (Nat.le_refl _) (h.asc h1 h2)
        show RE l (if dotA l (Proofs.YtffgkjmfeannoaaGreatDoor.wrun l (j + 1)) 3 = true then ((3 : Nat), Proofs.YtffgkjmfeannoaaGreatDoor.wrun l (Proofs.YtffgkjmfeannoaaGreatDoor.wrun l (j + 1) + 1)) else (2, Proofs.YtffgkjmfeannoaaGreatDoor.wrun l (j + 1))).2
        split
        · rename_i hd
          obtain ⟨d1, d2⟩ := dotA_asc hd
          exact RE.wrun _ _ (Nat.le_refl _) (hw.asc d1 d2)
        · exact hw
      · split
        · obtain ⟨h1, h2⟩ := kl_asc (l := l) (j := j) (by omega) (by omega)
          exact RE.nrun _ _ (Nat.le_refl _) (h.asc h1 h2)
        · split
          · obtain ⟨h1, h2⟩ := kl_asc (l := l) (j := j) (by omega) (by omega)
            exact RE.wrun _ _ (Nat.le_refl _) (h.asc h1 h2)
          · split
            · rename_i k7
              exact hq k7
            · obtain ⟨k, hk⟩ := h
              exact ⟨_, (at_sgn hk (Nat.le_of_lt hj)).1⟩
    · exact h
section
variable {P a S : List UInt8}
theorem charsL (hS : stopL S) : ∀ (i j j' : Nat), j ≤ a.length → j' ≤ a.length → (chars a j).drop i = chars a j' → (chars (P ++ (a ++ S)) (P.length + j)).drop i = chars (P ++ (a ++ S)) (P.length + j')
  | 0, j, j', hj, hj', h => by
    have h2 : chars a j = chars a j' := h
    obtain ⟨r1, e1⟩ := chars_head a j
    obtain ⟨r2, e2⟩ := chars_head a j'
    rw [e1, e2] at h2
    have h3 := congrArg Prod.snd (List.cons.inj h2).1
    simp only at h3
    have : j = j' := by
      split at h3
      · split at h3
        · exact h3
        · omega
      · split at h3
        · omega
        · omega
    rw [this]
    rfl
  | i + 1, j, j', hj, hj', h => by
    by_cases hlt : j < a.length
    · rw [chars_lt hlt, List.drop_succ_cons] at h
      have hl : P.length + j < (P ++ (a ++ S)).length := by simp; omega
      rw [chars_lt hl, List.drop_succ_cons, dcL hS hlt, Nat.add_assoc]
      exact charsL hS i _ j' (dc_le a j hlt) hj' h
    · rw [chars_end hlt] at h
      obtain ⟨r, e⟩ := chars_head a j'
      rw [e] at h
      simp at h
theorem atL (hS : stopL S) {k0 k j : Nat} (h0 : AT (P ++ (a ++ S)) k0 P.length) (hj : j ≤ a.length) (h : AT a k j) : AT (P ++ (a ++ S)) (k0 + k) (P.length + j) := by
  have := charsL (P := P) hS k 0 j (Nat.zero_le _) hj h
  show (chars (P ++ (a ++ S)) 0).drop (k0 + k) = _
  rw [← List.drop_drop, show (chars (P ++ (a ++ S)) 0).drop k0 = chars (P ++ (a ++ S)) P.length from h0]
  exact this
theorem ciL (hS : stopL S) (h0 : RE (P ++ (a ++ S)) P.length) {j : Nat} (hj : j ≤ a.length) (h : RE a j) : ci (P ++ (a ++ S)) (P.length + j) - ci (P ++ (a ++ S)) P.length = ci a j - ci a 0 := by
  obtain ⟨k0, h0⟩ := h0
  obtain ⟨k, h⟩ := h
  have h1 := (atL hS h0 hj h).ci
  have h2 := h0.ci
  have h3 := h.ci
  have h4 : ci a 0 = 0 := by unfold ci; omega
  omega
end
def noNL (a : List UInt8) : Prop := ∀ j, j < a.length → kl a j ≠ 1
theorem cend_noNL {a : List UInt8} (hn : noNL a) : ∀ (m j : Nat), a.length - j ≤ m → j ≤ a.length → cend a j = a.length
  | m, j, hm, hj => by
    by_cases hlt : j < a.length
    · have hp := dc_pos a j
      have hl := dc_le a j hlt
      match m, hm with
      | 0, hm => omega
      | m + 1, hm =>
        rw [cend_on (hn j hlt) (fun e => kl0.1 e hlt)]
        exact cend_noNL hn m _ (by omega) hl
    · rw [cend_end (.inr (kl0.2 hlt))]
      omega
section
variable {P a S : List UInt8}
theorem cendL (hS : stopL S) (hn : noNL a) : ∀ (m j : Nat), a.length - j ≤ m → j ≤ a.length → cend (P ++ (a ++ S)) (P.length + j) = P.length + a.length
  | m, j, hm, hj => by
    by_cases hlt : j < a.length
    · have hp := dc_pos a j
      have hl := dc_le a j hlt
      have hk := klL (P := P) hS hlt
      match m, hm with
      | 0, hm => omega
      | m + 1, hm =>
        rw [cend_on (by rw [hk]; exact hn j hlt) (by rw [hk]; exact fun e => kl0.1 e hlt), dcL hS hlt, Nat.add_assoc]
        exact cendL hS hn m _ (by omega) hl
    · obtain rfl : j = a.length := by omega
      exact cend_end (klE (P := P) (a := a) hS).symm
def goesOn (f : Nat) (P a S : List UInt8) (line : Nat) (r : Res) : Res := if r.2.1 ≠ 0 then r else if S = [] then r else runM f (P ++ (a ++ S)) (P.length + a.length + 1) (line + 1) (P.length + a.length + 1) r.1
theorem lend_line (hS : stopL S) (h0 : RE (P ++ (a ++ S)) P.length) (f g line : Nat) (D : List Tok) (hr : RE a a.length) : lendM f (P ++ (a ++ S)) (P.length + a.length) line P.length D = goesOn f P a S line (lendM g a a.length line 0 D) := by
  have hc := ciL (P := P) hS h0 (Nat.le_refl _) hr
  have ha : lendM g a a.length line 0 D = (endT D line (ci a a.length - ci a 0 + 1), 0, 0, 0) := by
    unfold lendM
    rw [if_pos (kl0.2 (Nat.lt_irrefl _))]
  rw [ha]
  have hg : goesOn f P a S line (endT D line (ci a a.length - ci a 0 + 1), 0, 0, 0) = if S = [] then (endT D line (ci a a.length - ci a 0 + 1), 0, 0, 0) else runM f (P ++ (a ++ S)) (P.length + a.length + 1) (line + 1) (P.length + a.length + 1) (endT D line (ci a a.length - ci a 0 + 1)) := by
    unfold goesOn
    exact if_neg (fun h => h rfl)
  rw [hg]
  unfold lendM
  rw [hc]
  rcases hS with rfl | ⟨S', rfl⟩
  · have hk : kl (P ++ (a ++ [])) (P.length + a.length) = 0 := kl0.2 (by simp)
    rw [if_pos hk, if_pos rfl]
  · have hk : ¬ kl (P ++ (a ++ 10 :: S')) (P.length + a.length) = 0 := fun e => kl0.1 e (by simp)
    have hs : ¬ (10 :: S' = []) := by simp
    rw [if_neg hk, if_neg hs]
theorem line_run (hS : stopL S) (h0 : RE (P ++ (a ++ S)) P.length) (hn : noNL a) : ∀ (f j line : Nat) (D : List Tok), j ≤ a.length → a.length - j < f → RE a j → ∃ f', f ≤ f' + (a.length - j) + 1 ∧ f' < f ∧ runM f (P ++ (a ++ S)) (P.length + j) line P.length D = goesOn f' P a S line (runM f a j line 0 D)
  | 0, j, line, D, hj, hf, hr => by omega
  | f + 1, j, line, D, hj, hf, hr => by
    by_cases hlt : j < a.length
    · have hk := klL (P := P) hS hlt
      have h0' : kl a j ≠ 0 := fun e => kl0.1 e hlt
      have h1 := hn j hlt
      by_cases h2 : kl a j = 2
      · obtain ⟨_, hb⟩ := kl_asc (l := a) (j := j) (by omega) (by omega)
        obtain ⟨f', e1, e2, e3⟩ := line_run hS h0 hn f (j + 1) line D hlt (by omega) (hr.asc hlt hb)
        refine ⟨f', by omega, by omega, ?_⟩
        rw [runM_blank (by rw [hk]; exact h2), runM_blank h2, Nat.add_assoc]
        exact e3
      by_cases h8 : kl a j = 8
      · obtain ⟨_, hb⟩ := kl_asc (l := a) (j := j) (by omega) (by omega)
        have hc := cend_noNL hn _ (j + 1) (Nat.le_refl _) hlt
        have hre : RE a a.length := by
          have := RE.cend _ _ (Nat.le_refl _) (hr.asc hlt hb)
          rwa [hc] at this
        refine ⟨f, by omega, by omega, ?_⟩
        rw [runM_hash (by rw [hk]; exact h8), runM_hash h8, Nat.add_assoc, cendL hS hn _ (j + 1) (Nat.le_refl _) hlt, hc]
        exact lend_line hS h0 f f line D hre
      obtain ⟨tE, tJ⟩ := tokEL (P := P) hS hlt
      have hcj := ciL (P := P) hS h0 hj hr
      by_cases he : tokE a j = 0
      · obtain ⟨a1, a2⟩ := tok_adv hlt h1 he
        obtain ⟨f', e1, e2, e3⟩ := line_run hS h0 hn f (tokJ a j) line (D ++ [((tokC a j).1, subL a j (tokC a j).2, line, ci a j - ci a 0 + 1)]) a2 (by omega) (hr.tok hlt)
        refine ⟨f', by omega, by omega, ?_⟩
        obtain ⟨c1, c2⟩ := tokC_le hlt
        rw [runM_tok (by rw [hk]; exact h2) (by rw [hk]; exact h8) (by rw [hk]; exact h1) (by rw [hk]; exact h0') (by rw [tE]; exact he), runM_tok h2 h8 h1 h0' he, tJ, tokCL hS hlt, hcj]
        simp only [subLL c1 c2]
        exact e3
      · obtain ⟨g1, g2⟩ := tok_ge hlt he
        refine ⟨f, by omega, by omega, ?_⟩
        rw [runM_err (by rw [hk]; exact h2) (by rw [hk]; exact h8) (by rw [hk]; exact h1) (by rw [hk]; exact h0') (by rw [tE]; exact he), runM_err h2 h8 h1 h0' he, tE, tJ, ciL hS h0 g2 (hr.tok hlt)]
        unfold goesOn
        rw [if_pos he]
    · obtain rfl : j = a.length := by omega
      refine ⟨f, by omega, by omega, ?_⟩
      rw [runM_end (klE (P := P) (a := a) hS).symm, runM_end (.inr (kl0.2 hlt))]
      exact lend_line hS h0 f f line D hr
end
theorem kl_one {l : List UInt8} {j : Nat} (h : kl l j = 1) : bt l j = 10 := by
  have h10 : chr l j = 10 := by
    unfold kl cls at h
    repeat' split at h
    all_goals first | assumption | omega
  exact ((chr_asc l j 10 (by decide)).1 h10).2
theorem noNL_of {a : List UInt8} (h : ∀ c ∈ a, c ≠ 10) : noNL a := fun j hj h1 => by
  have := kl_one h1
  unfold bt at this
  have e : a.getD j 0 = a[j] := by simp [List.getD, hj]
  rw [e] at this
  exact h _ (List.getElem_mem hj) (UInt8.toNat_inj.1 this)
theorem cend_ge {l : List UInt8} : ∀ (m j : Nat), l.length - j ≤ m → j ≤ cend l j
  | m, j, hm => by
    by_cases hk : kl l j = 1 ∨ kl l j = 0
    · rw [cend_end hk]; exact Nat.le_refl _
    · have h1 : kl l j ≠ 1 := fun e => hk (.inl e)
      have h0 : kl l j ≠ 0 := fun e => hk (.inr e)
      have hj : j < l.length := Classical.byContradiction (fun e => h0 (kl0.2 e))
      have hp := dc_pos l j
      match m, hm with
      | 0, hm => omega
      | m + 1, hm =>
        rw [cend_on h1 h0]
        have := cend_ge (l := l) m (j + (dc l j).2) (by omega)
        omega
theorem runM_fuel (l : List UInt8) : ∀ (f g j line hb : Nat) (D : List Tok), l.length - j < f → l.length - j < g → runM f l j line hb D = runM g l j line hb D
  | 0, g, j, line, hb, D, hf, hg => by omega
  | f + 1, 0, j, line, hb, D, hf, hg => by omega
  | f + 1, g + 1, j, line, hb, D, hf, hg => by
    have hend : ∀ e, j ≤ e → lendM f l e line hb D = lendM g l e line hb D := fun e he => by
      unfold lendM
      by_cases h0 : kl l e = 0
      · rw [if_pos h0, if_pos h0]
      · have hlt : e < l.length := Classical.byContradiction (fun h => h0 (kl0.2 h))
        rw [if_neg h0, if_neg h0]
        exact runM_fuel l f g _ _ _ _ (by omega) (by omega)
    by_cases h10 : kl l j = 1 ∨ kl l j = 0
    · rw [runM_end h10, runM_end h10]
      exact hend j (Nat.le_refl _)
    have h1 : kl l j ≠ 1 := fun e => h10 (.inl e)
    have h0 : kl l j ≠ 0 := fun e => h10 (.inr e)
    have hj : j < l.length := Classical.byContradiction (fun e => h0 (kl0.2 e))
    by_cases h2 : kl l j = 2
    · rw [runM_blank h2, runM_blank h2]
      exact runM_fuel l f g _ _ _ _ (by omega) (by omega)
    by_cases h8 : kl l j = 8
    · rw [runM_hash h8, runM_hash h8]
      have := cend_ge (l := l) _ (j + 1) (Nat.le_refl _)
      exact hend _ (by omega)
    by_cases he : tokE l j = 0
    · obtain ⟨a1, a2⟩ := tok_adv hj h1 he
      rw [runM_tok h2 h8 h1 h0 he, runM_tok h2 h8 h1 h0 he]
      exact runM_fuel l f g _ _ _ _ (by omega) (by omega)
    · rw [runM_err h2 h8 h1 h0 he, runM_err h2 h8 h1 h0 he]
theorem RE.fwd {l : List UInt8} : ∀ (m j : Nat), l.length - j ≤ m → j ≤ l.length → RE l j → RE l l.length
  | m, j, hm, hj, h => by
    by_cases hlt : j < l.length
    · have hp := dc_pos l j
      have hl := dc_le l j hlt
      match m, hm with
      | 0, hm => omega
      | m + 1, hm => exact RE.fwd m _ (by omega) hl (h.next hlt)
    · have e : j = l.length := by omega
      rw [e] at h
      exact h
theorem RE.len (l : List UInt8) : RE l l.length := RE.fwd _ 0 (Nat.le_refl _) (Nat.zero_le _) (RE.zero l)
def textM (T : List UInt8) (line : Nat) (D : List Tok) : Res := runM (T.length + 1) T 0 line 0 D
theorem cut (T : List UInt8) : ∃ a S, T = a ++ S ∧ stopL S ∧ ∀ c ∈ a, c ≠ 10 := by
  induction T with
  | nil => exact ⟨[], [], rfl, .inl rfl, fun c h => by simp at h⟩
  | cons c T ih =>
    by_cases h : c = 10
    · exact ⟨[], c :: T, rfl, .inr ⟨T, by rw [h]⟩, fun c h => by simp at h⟩
    · obtain ⟨a, S, e, hS, ha⟩ := ih
      refine ⟨c :: a, S, by rw [e]; rfl, hS, fun d hd => ?_⟩
      rcases List.mem_cons.1 hd with e | e
      · rw [e]; exact h
      · exact ha d e
theorem RE.nl {P a S' : List UInt8} (h0 : RE (P ++ (a ++ 10 :: S')) P.length) : RE (P ++ (a ++ 10 :: S')) (P.length + a.length + 1) := by
  obtain ⟨k0, h0⟩ := h0
  obtain ⟨k, h⟩ := RE.len a
  have hS : stopL (10 :: S') := .inr ⟨S', rfl⟩
  have h1 : RE (P ++ (a ++ 10 :: S')) (P.length + a.length) := ⟨_, atL hS h0 (Nat.le_refl _) h⟩
  refine h1.asc (by simp) ?_
  rcases btE (P := P) (a := a) hS with e | e
  · omega
  · simp at e
theorem text_run : ∀ (m : Nat) (P T : List UInt8) (f line : Nat) (D : List Tok), T.length ≤ m → RE (P ++ T) P.length → T.length < f → runM f (P ++ T) P.length line P.length D = textM T line D
  | m, P, T, f, line, D, hm, h0, hf => by
    obtain ⟨a, S, e, hS, ha⟩ := cut T
    subst e
    have hn := noNL_of ha
    have hla : a.length ≤ (a ++ S).length := by simp
    obtain ⟨f1, e1, e2, e3⟩ := line_run (P := P) hS h0 hn f 0 line D (Nat.zero_le _) (by omega) (RE.zero a)
    obtain ⟨f2, d1, d2, d3⟩ := line_run (P := []) hS (RE.zero _) hn ((a ++ S).length + 1) 0 line D (Nat.zero_le _) (by omega) (RE.zero a)
    rw [show runM ((a ++ S).length + 1) a 0 line 0 D = runM f a 0 line 0 D from runM_fuel a _ _ _ _ _ _ (by omega) (by omega)] at d3
    have e3' : runM f (P ++ (a ++ S)) P.length line P.length D = goesOn f1 P a S line (runM f a 0 line 0 D) := e3
    have d3' : textM (a ++ S) line D = goesOn f2 [] a S line (runM f a 0 line 0 D) := d3
    rw [e3', d3']
    unfold goesOn
    by_cases hr : (runM f a 0 line 0 D).2.1 ≠ 0
    · rw [if_pos hr, if_pos hr]
    rw [if_neg hr, if_neg hr]
    rcases hS with rfl | ⟨S', rfl⟩
    · rw [if_pos rfl, if_pos rfl]
    have hs : ¬ (10 :: S' = []) := by simp
    rw [if_neg hs, if_neg hs]
    have hlen : (a ++ 10 :: S').length = a.length + S'.length + 1 := by simp; omega
    have key : ∀ (Q : List UInt8) (g : Nat), RE (Q ++ (a ++ 10 :: S')) Q.length → S'.length < g → runM g (Q ++ (a ++ 10 :: S')) (Q.length + a.length + 1) (line + 1) (Q.length + a.length + 1) (runM f a 0 line 0 D).1 = textM S' (line + 1) (runM f a 0 line 0 D).1 := fun Q g hQ hg => by
      have hq := RE.nl hQ
      have eq : Q ++ (a ++ 10 :: S') = (Q ++ (a ++ [10])) ++ S' := by simp
      have el : Q.length + a.length + 1 = (Q ++ (a ++ [10])).length := by simp; omega
      rw [eq, el] at hq ⊢
      match m, hm with
      | 0, hm => omega
      | m + 1, hm => exact text_run m _ S' g _ _ (by omega) hq hg
    rw [key P f1 h0 (by omega), key [] f2 (RE.zero _) (by omega)]
theorem text_cons {a S' : List UInt8} (ha : ∀ c ∈ a, c ≠ 10) (line : Nat) (D : List Tok) : textM (a ++ 10 :: S') line D = if (textM a line D).2.1 ≠ 0 then textM a line D else textM S' (line + 1) (textM a line D).1 := by
  have hS : stopL (10 :: S') := .inr ⟨S', rfl⟩
  have hlen : (a ++ 10 :: S').length = a.length + S'.length + 1 := by simp; omega
  obtain ⟨f2, d1, d2, d3⟩ := line_run (P := []) hS (RE.zero _) (noNL_of ha) ((a ++ 10 :: S').length + 1) 0 line D (Nat.zero_le _) (by omega) (RE.zero a)
  rw [show runM ((a ++ 10 :: S').length + 1) a 0 line 0 D = textM a line D from runM_fuel a _ _ _ _ _ _ (by omega) (by omega)] at d3
  have d3' : textM (a ++ 10 :: S') line D = goesOn f2 [] a (10 :: S') line (textM a line D) := d3
  rw [d3']
  unfold goesOn
  by_cases hr : (textM a line D).2.1 ≠ 0
  · rw [if_pos hr, if_pos hr]
  have hs : ¬ (10 :: S' = []) := by simp
  rw [if_neg hr, if_neg hr, if_neg hs]
  have hq := RE.nl (P := []) (a := a) (S' := S') (RE.zero _)
  have eq : [] ++ (a ++ 10 :: S') = (a ++ [10]) ++ S' := by simp
  have el : ([] : List UInt8).length + a.length + 1 = (a ++ [10]).length := by simp
  rw [eq, el] at hq ⊢
  exact text_run _ _ S' f2 _ _ (Nat.le_refl _) hq (by omega)
end Go.Proofs.YtffgkjmfeannoaaGreatDoor
