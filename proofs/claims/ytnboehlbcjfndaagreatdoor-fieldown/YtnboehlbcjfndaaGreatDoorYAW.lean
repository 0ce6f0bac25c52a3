import Derived.Test.YtnboehlbcjfndaaGreatDoorYAQ
import Derived.Test.YtnboehlbcjfndaaGreatDoorYAV
import Derived.Test.YtnboehlbcjfndaaGreatDoorYAJ
import Derived.Test.YtnboehlbcjfndaaGreatDoorYAE
import Derived.Test.YtnboehlbcjfndaaGreatDoorYAK
namespace Go.Proofs.YtnboehlbcjfndaaGreatDoor
open Go.RowKit Go.Shelf
def okA (K : Nat) (l : List UInt8) (j e : Nat) : Prop :=
  (K = 2 → inW l e = false ∧ dotA l e 3 = false) ∧ (K = 3 ∨ K = 5 → inW l e = false) ∧ (K = 4 → (inW l e || dotA l e 4) = false) ∧ (K = 7 → sgn (l.drop j) = e - j)
theorem nrun_stop (l : List UInt8) : ∀ (m j : Nat), l.length - j ≤ m → (inW l (nrun l j) || dotA l (nrun l j) 4) = false
  | m, j, hm => by
    cases h : (inW l j || dotA l j 4) with
    | false => rw [nrun_no h]; exact h
    | true =>
      have hj : j < l.length := by
        rcases Bool.or_eq_true_iff.1 h with h | h
        · exact (inW_asc h).1
        · exact (dotA_asc h).1
      match m, hm with
      | 0, hm => omega
      | m + 1, hm => rw [nrun_yes h]; exact nrun_stop l m (j + 1) (by omega)
theorem inW_end' {l : List UInt8} {i : Nat} (h : ¬ i < l.length) : inW l i = false := by
  unfold inW
  rw [kl0.2 h]
  rfl
section
variable {l l' : List UInt8} {j j' n K : Nat}
theorem fault_ag (h : AG l j l' j' n) (h7 : kl l j ≠ 7) (h7' : kl l' j' ≠ 7) (hC : tokC l j = (K, j + n)) (hE : tokE l j = 0) (hC' : tokC l' j' = (K, j' + n)) : tokE l' j' = 0 := by
  unfold tokE at hE ⊢
  rw [if_neg (fun e => h7 e.1), hC] at hE
  rw [if_neg (fun e => h7' e.1), hC']
  simp only at hE ⊢
  rw [h.sub]
  exact hE
theorem tok_ag (h : AG l j l' j' n) (hn : 0 < n) (hC : tokC l j = (K, j + n)) (hE : tokE l j = 0) (ok : okA K l' j' (j' + n)) : tokC l' j' = (K, j' + n) ∧ tokE l' j' = 0 := by
  have hl := h.1
  have hl' := h.2.1
  have hk := h.kl0 hn
  have a1 := h.more (m := 1) (by omega)
  by_cases h3 : kl l j = 3
  · have h3' : kl l' j' = 3 := hk ▸ h3
    have hw := (wrun_ge l _ (j + 1) (Nat.le_refl _)).1
    cases hd : dotA l (wrun l (j + 1)) 3 with
    | true =>
      have e : tokC l j = (3, wrun l (wrun l (j + 1) + 1)) := by unfold tokC endF; rw [if_pos h3, if_pos rfl, hd, if_pos rfl]
      obtain ⟨rfl, e2⟩ := Prod.mk.inj (e.symm.trans hC)
      obtain ⟨d1, d2⟩ : kl l (wrun l (j + 1)) = 5 ∧ kl l (wrun l (j + 1) + 1) = 3 := by unfold dotA at hd; simpa using hd
      have hw2 : inW l (wrun l (j + 1) + 1) = true := by unfold inW; rw [d2]; rfl
      have hw3 := (wrun_ge l _ (wrun l (j + 1) + 1 + 1) (Nat.le_refl _)).1
      rw [← wrun_yes hw2, e2] at hw3
      obtain ⟨p, hp⟩ : ∃ p, wrun l (j + 1) = j + p := ⟨wrun l (j + 1) - j, by omega⟩
      rw [hp] at d1 d2 hw hw3 e2
      have k1 := h.kl (k := p) (by omega)
      have k2 := h.kl (k := p + 1) (by omega)
      rw [← Nat.add_assoc, ← Nat.add_assoc] at k2
      have s1 : inW l' (j' + p) = false := by unfold inW; rw [← k1, d1]; rfl
      have w1 : wrun l' (j' + 1) = j' + p := by
        have := wrun_ag _ (Nat.le_refl _) (a1.cut (m := p - 1) (by omega)) (by omega) (by rw [show j' + 1 + (p - 1) = j' + p by omega]; exact s1)
        omega
      have hd' : dotA l' (j' + p) 3 = true := by unfold dotA; rw [← k1, ← k2, d1, d2]; rfl
      have a2 := h.more (m := p + 1) (by omega)
      have w2 : wrun l' (j' + p + 1) = j' + n := by
        have := wrun_ag _ (Nat.le_refl _) a2 (by rw [show j + (p + 1) = j + p + 1 by omega, e2]; omega) (by rw [show j' + (p + 1) + (n - (p + 1)) = j' + n by omega]; exact ok.2.1 (.inl rfl))
        rw [show j' + (p + 1) = j' + p + 1 by omega] at this
        omega
      have hC' : tokC l' j' = (3, j' + n) := by unfold tokC endF; rw [if_pos h3', if_pos rfl, w1, hd', if_pos rfl, w2]
      exact ⟨hC', fault_ag h (by omega) (by omega) hC hE hC'⟩
    | false =>
      have e : tokC l j = (2, wrun l (j + 1)) := by unfold tokC endF; rw [if_pos h3, if_pos rfl, hd, if_neg (by decide)]
      obtain ⟨rfl, e2⟩ := Prod.mk.inj (e.symm.trans hC)
      have w1 : wrun l' (j' + 1) = j' + n := by
        have := wrun_ag _ (Nat.le_refl _) a1 (by omega) (by rw [show j' + 1 + (n - 1) = j' + n by omega]; exact (ok.1 rfl).1)
        omega
      have hC' : tokC l' j' = (2, j' + n) := by unfold tokC endF; rw [if_pos h3', if_pos rfl, w1, (ok.1 rfl).2, if_neg (by decide)]
      exact ⟨hC', fault_ag h (by omega) (by omega) hC hE hC'⟩
  have h3' : kl l' j' ≠ 3 := hk ▸ h3
  by_cases h4 : kl l j = 4
  · have h4' : kl l' j' = 4 := hk ▸ h4
    have e : tokC l j = (4, nrun l (j + 1)) := by unfold tokC endF; rw [if_neg h3, if_pos h4, if_neg (by decide), if_neg (by decide), if_pos rfl]
    obtain ⟨rfl, e2⟩ := Prod.mk.inj (e.symm.trans hC)
    have hst := nrun_stop l _ (j + 1) (Nat.le_refl _)
    rw [e2] at hst
    have w1 : nrun l' (j' + 1) = j' + n := by
      have := nrun_ag _ (Nat.le_refl _) a1 (by omega) (by rw [show j' + 1 + (n - 1) = j' + n by omega]; exact ok.2.2.1 rfl) (fun k hk2 => by
        cases hd : dotA l (j + 1 + k) 4 with
        | false => rfl
        | true =>
          have d2 : kl l (j + 1 + k + 1) = 4 := by unfold dotA at hd; simp at hd; exact hd.2
          rw [show j + 1 + k + 1 = j + n by omega] at d2
          rw [show inW l (j + n) = true by unfold inW; rw [d2]; rfl] at hst
          cases hst)
      omega
    have hC' : tokC l' j' = (4, j' + n) := by unfold tokC endF; rw [if_neg h3', if_pos h4', if_neg (by decide), if_neg (by decide), if_pos rfl, w1]
    exact ⟨hC', fault_ag h (by omega) (by omega) hC hE hC'⟩
  have h4' : kl l' j' ≠ 4 := hk ▸ h4
  by_cases h6 : kl l j = 6
  · have h6' : kl l' j' = 6 := hk ▸ h6
    have e : tokC l j = (5, wrun l (j + 1)) := by unfold tokC endF; rw [if_neg h3, if_neg h4, if_pos h6, if_neg (by decide), if_neg (by decide), if_neg (by decide), if_pos rfl]
    obtain ⟨rfl, e2⟩ := Prod.mk.inj (e.symm.trans hC)
    have w1 : wrun l' (j' + 1) = j' + n := by
      have := wrun_ag _ (Nat.le_refl _) a1 (by omega) (by rw [show j' + 1 + (n - 1) = j' + n by omega]; exact ok.2.1 (.inr rfl))
      omega
    have hC' : tokC l' j' = (5, j' + n) := by unfold tokC endF; rw [if_neg h3', if_neg h4', if_pos h6', if_neg (by decide), if_neg (by decide), if_neg (by decide), if_pos rfl, w1]
    exact ⟨hC', fault_ag h (by omega) (by omega) hC hE hC'⟩
  have h6' : kl l' j' ≠ 6 := hk ▸ h6
  by_cases h7 : kl l j = 7
  · have h7' : kl l' j' = 7 := hk ▸ h7
    have hCq : ∀ {x : List UInt8} {i : Nat}, kl x i = 7 → tokC x i = (6, quoJ x i) := fun hx => by
      unfold tokC endF
      rw [if_neg (by omega), if_neg (by omega), if_neg (by omega), if_pos hx, if_neg (by decide), if_neg (by decide), if_neg (by decide), if_neg (by decide)]
    obtain ⟨rfl, e2⟩ := Prod.mk.inj ((hCq h7).symm.trans hC)
    have hq0 : quoE l j = 0 := Classical.byContradiction (fun e => by
      unfold tokE at hE
      rw [if_pos ⟨h7, e⟩] at hE
      exact e hE)
    unfold quoE at hq0
    by_cases q1 : (insS l (j + 1) []).2.2 = 33 ∧ kl l (insS l (j + 1) []).2.1 = 1
    · rw [if_pos q1] at hq0; cases hq0
    rw [if_neg q1] at hq0
    by_cases q2 : (insS l (j + 1) []).2.2 = 0 ∧ 256 < (insS l (j + 1) []).1.length
    · rw [if_pos q2] at hq0; cases hq0
    rw [if_neg q2] at hq0
    unfold quoJ at e2
    rw [if_neg q2] at e2
    have hi : insS l (j + 1) [] = ((insS l (j + 1) []).1, j + 1 + (n - 1), 0) := Prod.ext rfl (Prod.ext (by show (insS l (j + 1) []).2.1 = j + 1 + (n - 1); omega) hq0)
    have hi' := ins_ag _ (Nat.le_refl _) a1 hi
    have q2' : ¬ ((insS l' (j' + 1) []).2.2 = 0 ∧ 256 < (insS l' (j' + 1) []).1.length) := by
      rw [hi']
      exact fun hh => q2 ⟨hq0, hh.2⟩
    have hJ' : quoJ l' j' = j' + n := by
      unfold quoJ
      rw [if_neg q2', hi']
      simp only
      omega
    have hE' : quoE l' j' = 0 := by
      unfold quoE
      rw [if_neg q2', hi']
      simp
    refine ⟨by rw [hCq h7', hJ'], ?_⟩
    unfold tokE
    rw [if_neg (fun hh => hh.2 hE'), hCq h7']
    show faultE 6 _ = 0
    unfold faultE
    rw [if_neg (by decide), if_neg (by decide), if_neg (by decide), if_neg (by decide)]
  have h7' : kl l' j' ≠ 7 := hk ▸ h7
  obtain ⟨c1, -, -⟩ := tok_sign h3 h4 h6 h7
  obtain ⟨c1', -, -⟩ := tok_sign h3' h4' h6' h7'
  obtain ⟨rfl, -⟩ := Prod.mk.inj (c1.symm.trans hC)
  have hs := ok.2.2.2 rfl
  have hC' : tokC l' j' = (7, j' + n) := by rw [c1', hs, show j' + n - j' = n by omega]
  exact ⟨hC', fault_ag h h7 h7' hC hE hC'⟩
end
theorem sgn_all : ∀ s ∈ signsL, sgn s = s.length := by decide
theorem sgn_alone {r : List UInt8} {n : Nat} (hn : 0 < n) (h : sgn r = n) : sgn (r.take n) = n := by
  unfold sgn at h
  cases hf : signsL.find? (fun s => Lib.hasPrefix r s) with
  | none => rw [hf] at h; simp at h; omega
  | some z =>
    have hz := List.find?_some hf
    have hm := List.mem_of_find?_eq_some hf
    rw [hf] at h
    simp only [Option.map_some, Option.getD_some] at h
    unfold Lib.hasPrefix at hz
    rw [List.isPrefixOf_iff_prefix] at hz
    obtain ⟨t, ht⟩ := hz
    have e : r.take n = z := by rw [← ht, ← h]; exact List.take_left
    rw [e, sgn_all z hm, h]
def goodT (K : Nat) (X : List UInt8) : Prop := 0 < X.length ∧ kl X 0 ≠ 1 ∧ kl X 0 ≠ 2 ∧ kl X 0 ≠ 8 ∧ tokC X 0 = (K, X.length) ∧ tokE X 0 = 0
theorem ag_sub {l : List UInt8} {j n : Nat} (h : j + n ≤ l.length) : AG l j (subL l j (j + n)) 0 n := by
  have hl : (subL l j (j + n)).length = n := by rw [sub_len h]; omega
  refine ⟨h, by omega, fun k hk => ?_⟩
  rw [Nat.zero_add]
  have e : (subL l j (j + n))[k]? = some l[j + k] := by
    unfold subL
    rw [List.getElem?_take, if_pos (by omega), List.getElem?_drop, List.getElem?_eq_getElem]
  rw [bt_of e, bt_of (List.getElem?_eq_getElem (show j + k < l.length by omega))]
theorem tok_alone {l : List UInt8} {j n K : Nat} (hn : 0 < n) (hl : j + n ≤ l.length) (h1 : kl l j ≠ 1) (h2 : kl l j ≠ 2) (h8 : kl l j ≠ 8) (hC : tokC l j = (K, j + n)) (hE : tokE l j = 0) : goodT K (subL l j (j + n)) := by
  have a := ag_sub hl
  have hlen : (subL l j (j + n)).length = n := by rw [sub_len hl]; omega
  have hk := a.kl0 hn
  have ok : okA K (subL l j (j + n)) 0 (0 + n) := by
    have hi : inW (subL l j (j + n)) (0 + n) = false := inW_end' (by omega)
    have hd : ∀ c, c ≠ 0 → dotA (subL l j (j + n)) (0 + n) c = false := fun c hc => by
      unfold dotA
      rw [kl0.2 (show ¬ 0 + n + 1 < (subL l j (j + n)).length by omega), decide_eq_false (show ¬ 0 = c by omega), Bool.and_false]
    refine ⟨fun _ => ⟨hi, hd 3 (by decide)⟩, fun _ => hi, fun _ => by rw [hi, hd 4 (by decide)]; rfl, fun h7 => ?_⟩
    subst h7
    have hs : sgn (l.drop j) = n := by
      have h3 : kl l j ≠ 3 := fun e => by
        unfold tokC endF at hC
        rw [if_pos e, if_pos rfl] at hC
        split at hC <;> simp at hC
      have h4 : kl l j ≠ 4 := fun e => by
        unfold tokC endF at hC
        rw [if_neg h3, if_pos e, if_neg (by decide), if_neg (by decide), if_pos rfl] at hC
        simp at hC
      have h6 : kl l j ≠ 6 := fun e => by
        unfold tokC endF at hC
        rw [if_neg h3, if_neg h4, if_pos e, if_neg (by decide), if_neg (by decide), if_neg (by decide), if_pos rfl] at hC
        simp at hC
      have h7 : kl l j ≠ 7 := fun e => by
        unfold tokC endF at hC
        rw [if_neg h3, if_neg h4, if_neg h6, if_pos e, if_neg (by decide), if_neg (by decide), if_neg (by decide), if_neg (by decide)] at hC
        simp at hC
      have := (tok_sign h3 h4 h6 h7).1
      rw [hC] at this
      have := (Prod.mk.inj this).2
      omega
    have := sgn_alone hn hs
    rw [List.drop_zero, Nat.zero_add, Nat.sub_zero]
    unfold subL
    rw [Nat.add_sub_cancel_left]
    exact this
  obtain ⟨t1, t2⟩ := tok_ag a hn hC hE ok
  exact ⟨by omega, by rw [← hk]; exact h1, by rw [← hk]; exact h2, by rw [← hk]; exact h8, by rw [t1, hlen, Nat.zero_add], t2⟩
theorem scan_one {K : Nat} {X : List UInt8} (h : goodT K X) (hX : X.length ≤ 16384) : ∃ c, scanM X = ([(K, X, 1, 1), (1, [10], 1, c)], 0, 0, 0) := by
  obtain ⟨h0, h1, h2, h8, hC, hE⟩ := h
  have hz : kl X 0 ≠ 0 := fun e => kl0.1 e h0
  have hJ : tokJ X 0 = X.length := by rw [tok_same hE, hC]
  have hK : K ≠ 1 := fun e => by
    have : (tokC X 0).1 ≠ 1 := by
      unfold tokC endF
      repeat' split
      all_goals simp
    rw [hC] at this
    exact this e
  have hs : subL X 0 X.length = X := by unfold subL; simp
  unfold scanM
  rw [if_neg (by omega), runM_tok h2 h8 h1 hz hE, hJ, hC]
  obtain ⟨m, hm⟩ : ∃ m, X.length = m + 1 := ⟨X.length - 1, by omega⟩
  have hend : kl X X.length = 0 := kl0.2 (by omega)
  have e0 : ∀ (f : Nat) (D : List Tok), f = m + 1 → runM f X X.length 1 0 D = lendM m X X.length 1 0 D := fun f D hf => by
    subst hf
    exact runM_end (.inr hend)
  have e := e0 X.length ([] ++ [(K, subL X 0 X.length, 1, ci X 0 - ci X 0 + 1)]) hm
  simp only at e ⊢
  rw [e]
  unfold lendM
  rw [if_pos hend, hs, Nat.sub_self]
  refine ⟨ci X X.length - ci X 0 + 1, ?_⟩
  unfold endT
  simp [hK]
def ended (X : List Tok) : Prop := ∀ t, X.getLast? = some t → t.1 = 1
theorem endT_ended (D : List Tok) (line col : Nat) : ended (endT D line col) := by
  unfold endT ended
  intro t ht
  cases h : D.getLast? with
  | none =>
    rw [h] at ht
    simp only [h] at ht
    cases ht
  | some u =>
    rw [h] at ht
    by_cases hu : u.1 = 1
    · simp only [if_pos hu, h] at ht
      rw [← Option.some.inj ht]
      exact hu
    · simp only [if_neg hu, List.getLast?_concat] at ht
      rw [← Option.some.inj ht]
theorem run_done (l : List UInt8) : ∀ (f j line hb : Nat) (D : List Tok), l.length - j < f → ((runM f l j line hb D).2.1 = 0 → ended (runM f l j line hb D).1 ∧ (runM f l j line hb D).2 = (0, 0, 0)) ∧ ((runM f l j line hb D).2.1 ≠ 0 → (runM f l j line hb D).1 = [])
  | 0, j, line, hb, D, hf => by omega
  | f + 1, j, line, hb, D, hf => by
    have hend : ∀ e, j ≤ e → ((lendM f l e line hb D).2.1 = 0 → ended (lendM f l e line hb D).1 ∧ (lendM f l e line hb D).2 = (0, 0, 0)) ∧ ((lendM f l e line hb D).2.1 ≠ 0 → (lendM f l e line hb D).1 = []) := fun e he => by
      unfold lendM
      by_cases h0 : kl l e = 0
      · rw [if_pos h0]
        exact ⟨fun _ => ⟨endT_ended _ _ _, rfl⟩, fun h => absurd rfl h⟩
      · have hlt : e < l.length := Classical.byContradiction (fun h => h0 (kl0.2 h))
        rw [if_neg h0]
        exact run_done l f _ _ _ _ (by omega)
    by_cases h10 : kl l j = 1 ∨ kl l j = 0
    · rw [runM_end h10]
      exact hend j (Nat.le_refl _)
    have h1 : kl l j ≠ 1 := fun e => h10 (.inl e)
    have h0 : kl l j ≠ 0 := fun e => h10 (.inr e)
    have hj : j < l.length := Classical.byContradiction (fun e => h0 (kl0.2 e))
    by_cases h2 : kl l j = 2
    · rw [runM_blank h2]
      exact run_done l f _ _ _ _ (by omega)
    by_cases h8 : kl l j = 8
    · rw [runM_hash h8]
      have := cend_ge (l := l) _ (j + 1) (Nat.le_refl _)
      exact hend _ (by omega)
    by_cases he : tokE l j = 0
    · obtain ⟨a1, a2⟩ := tok_adv hj h1 he
      rw [runM_tok h2 h8 h1 h0 he]
      exact run_done l f _ _ _ _ (by omega)
    · rw [runM_err h2 h8 h1 h0 he]
      exact ⟨fun h => absurd h he, fun _ => rfl⟩
abbrev KT := Nat × List UInt8
def kt (L : List Tok) : List KT := L.map fun t => (t.1, t.2.1)
def flat (Ls : List (List KT)) : List KT := Ls.flatMap fun ln => ln ++ [(1, [10])]
def goodL (ln : List KT) : Prop := ∀ t ∈ ln, goodT t.1 t.2
def goodLs (Ls : List (List KT)) : Prop := ∀ ln ∈ Ls, ln ≠ [] ∧ goodL ln
def totL (ln : List KT) : Nat := (ln.map fun t => t.2.length).sum
def totLs (Ls : List (List KT)) : Nat := (Ls.map totL).sum
theorem goodT_kind {K : Nat} {X : List UInt8} (h : goodT K X) : K ≠ 1 := fun e => by
  have h1 : (tokC X 0).1 ≠ 1 := by
    unfold tokC endF
    repeat' split
    all_goals simp
  rw [h.2.2.2.2.1] at h1
  exact h1 e
theorem flat_snoc (Ls : List (List KT)) (ln : List KT) : flat (Ls ++ [ln]) = flat Ls ++ (ln ++ [(1, [10])]) := by
  unfold flat
  simp
theorem kt_snoc (D : List Tok) (t : Tok) : kt (D ++ [t]) = kt D ++ [(t.1, t.2.1)] := by
  unfold kt
  simp
theorem kt_last {D : List Tok} {A : List KT} {u : KT} (h : kt D = A ++ [u]) : ∃ t, D.getLast? = some t ∧ t.1 = u.1 := by
  rcases List.eq_nil_or_concat D with rfl | ⟨D0, t, rfl⟩
  · cases A <;> cases h
  · rw [List.concat_eq_append, kt_snoc] at h
    have e := (List.append_inj' h rfl).2
    refine ⟨t, by rw [List.concat_eq_append]; simp, ?_⟩
    have := List.head_eq_of_cons_eq e
    rw [← this]
theorem totLs_snoc (Ls : List (List KT)) (ln : List KT) : totLs (Ls ++ [ln]) = totLs Ls + totL ln := by
  unfold totLs
  simp
theorem totL_snoc (ln : List KT) (t : KT) : totL (ln ++ [t]) = totL ln + t.2.length := by
  unfold totL
  simp
theorem endT_kt {D : List Tok} {Ls : List (List KT)} {cur : List KT} (h : kt D = flat Ls ++ cur) (hL : goodLs Ls) (hc : goodL cur) (line col : Nat) :
    ∃ Ls', kt (endT D line col) = flat Ls' ∧ goodLs Ls' ∧ totLs Ls' = totLs Ls + totL cur := by
  rcases List.eq_nil_or_concat cur with rfl | ⟨c0, u, rfl⟩
  · refine ⟨Ls, ?_, hL, by simp [totL]⟩
    rw [List.append_nil] at h
    rcases List.eq_nil_or_concat Ls with rfl | ⟨L0, ln, rfl⟩
    · have hD : D = [] := by
        unfold kt flat at h
        simpa using h
      subst hD
      rfl
    · rw [List.concat_eq_append] at h ⊢
      have h2 := h
      rw [flat_snoc, ← List.append_assoc] at h2
      obtain ⟨t, ht1, ht2⟩ := kt_last h2
      unfold endT
      rw [ht1]
      simp only
      rw [if_pos ht2, h]
  · rw [List.concat_eq_append] at h hc ⊢
    have h2 := h
    rw [← List.append_assoc] at h2
    obtain ⟨t, ht1, ht2⟩ := kt_last h2
    have hu : u.1 ≠ 1 := goodT_kind (hc u (by simp))
    refine ⟨Ls ++ [c0 ++ [u]], ?_, ?_, totLs_snoc _ _⟩
    · unfold endT
      rw [ht1]
      simp only
      rw [if_neg (by rw [ht2]; exact hu), kt_snoc, h, flat_snoc, List.append_assoc]
    · intro ln hln
      rcases List.mem_append.1 hln with e | e
      · exact hL ln e
      · rw [List.mem_singleton.1 e]
        exact ⟨by simp, hc⟩
theorem cend_le' {l : List UInt8} : ∀ (m j : Nat), l.length - j ≤ m → j ≤ l.length → cend l j ≤ l.length
  | m, j, hm, hj => by
    by_cases hk : kl l j = 1 ∨ kl l j = 0
    · rw [cend_end hk]; exact hj
    · have h1 : kl l j ≠ 1 := fun e => hk (.inl e)
      have h0 : kl l j ≠ 0 := fun e => hk (.inr e)
      have hlt : j < l.length := Classical.byContradiction (fun e => h0 (kl0.2 e))
      have hp := dc_pos l j
      have hle := dc_le l j hlt
      match m, hm with
      | 0, hm => omega
      | m + 1, hm => rw [cend_on h1 h0]; exact cend_le' m _ (by omega) hle
theorem run_ls (l : List UInt8) : ∀ (f j line hb : Nat) (D : List Tok) (Ls : List (List KT)) (cur : List KT), l.length - j < f → j ≤ l.length → kt D = flat Ls ++ cur → goodLs Ls → goodL cur → (runM f l j line hb D).2.1 = 0 → ∃ Ls', kt (runM f l j line hb D).1 = flat Ls' ∧ goodLs Ls' ∧ totLs Ls' ≤ totLs Ls + totL cur + (l.length - j)
  | 0, j, line, hb, D, Ls, cur, hf, _, _, _, _, _ => by omega
  | f + 1, j, line, hb, D, Ls, cur, hf, hj, hD, hL, hc, h0 => by
    have hend : ∀ e, j ≤ e → e ≤ l.length → (lendM f l e line hb D).2.1 = 0 → ∃ Ls', kt (lendM f l e line hb D).1 = flat Ls' ∧ goodLs Ls' ∧ totLs Ls' ≤ totLs Ls + totL cur + (l.length - j) := fun e he hel h => by
      obtain ⟨L2, e1, e2, e3⟩ := endT_kt hD hL hc line (ci l e - ci l hb + 1)
      unfold lendM at h ⊢
      by_cases hz : kl l e = 0
      · rw [if_pos hz]
        exact ⟨L2, e1, e2, by omega⟩
      · have hlt : e < l.length := Classical.byContradiction (fun h => hz (kl0.2 h))
        rw [if_neg hz] at h ⊢
        obtain ⟨L3, g1, g2, g3⟩ := run_ls l f (e + 1) (line + 1) (e + 1) _ L2 [] (by omega) hlt (by rw [e1, List.append_nil]) e2 (fun t ht => by cases ht) h
        refine ⟨L3, g1, g2, ?_⟩
        have : totL [] = 0 := rfl
        omega
    by_cases h10 : kl l j = 1 ∨ kl l j = 0
    · rw [runM_end h10] at h0 ⊢
      exact hend j (Nat.le_refl _) hj h0
    have h1 : kl l j ≠ 1 := fun e => h10 (.inl e)
    have hz : kl l j ≠ 0 := fun e => h10 (.inr e)
    have hlt : j < l.length := Classical.byContradiction (fun e => hz (kl0.2 e))
    by_cases h2 : kl l j = 2
    · rw [runM_blank h2] at h0 ⊢
      obtain ⟨L3, g1, g2, g3⟩ := run_ls l f (j + 1) line hb D Ls cur (by omega) hlt hD hL hc h0
      exact ⟨L3, g1, g2, by omega⟩
    by_cases h8 : kl l j = 8
    · rw [runM_hash h8] at h0 ⊢
      have c1 := cend_ge (l := l) _ (j + 1) (Nat.le_refl _)
      have c2 := cend_le' (l := l) _ (j + 1) (Nat.le_refl _) hlt
      exact hend _ (by omega) c2 h0
    by_cases he : tokE l j = 0
    · obtain ⟨a1, a2⟩ := tok_adv hlt h1 he
      have hsm := tok_same he
      rw [runM_tok h2 h8 h1 hz he] at h0 ⊢
      have hn : tokJ l j = j + (tokJ l j - j) := by omega
      have hg := tok_alone (l := l) (j := j) (n := tokJ l j - j) (K := (tokC l j).1) (by omega) (by omega) h1 h2 h8 (by rw [← hn, hsm]) he
      rw [← hn] at hg
      obtain ⟨L3, g1, g2, g3⟩ := run_ls l f (tokJ l j) line hb _ Ls (cur ++ [((tokC l j).1, subL l j (tokC l j).2)]) (by omega) a2 (by rw [kt_snoc, hD, List.append_assoc]) hL (fun t ht => by
        rcases List.mem_append.1 ht with e | e
        · exact hc t e
        · rw [List.mem_singleton.1 e, ← hsm]
          exact hg) h0
      refine ⟨L3, g1, g2, ?_⟩
      rw [totL_snoc] at g3
      simp only at g3
      rw [← hsm, sub_len a2] at g3
      omega
    · rw [runM_err h2 h8 h1 hz he] at h0
      exact absurd h0 he
theorem scan_ls (l : List UInt8) (h : l.length ≤ 16384) (he : (scanM l).2.1 = 0) : ∃ Ls, kt (scanM l).1 = flat Ls ∧ goodLs Ls ∧ totLs Ls ≤ l.length := by
  unfold scanM at he ⊢
  rw [if_neg (by omega)] at he ⊢
  obtain ⟨Ls, g1, g2, g3⟩ := run_ls l (l.length + 1) 0 1 0 [] [] [] (by omega) (Nat.zero_le _) rfl (fun ln h => by cases h) (fun t h => by cases h) he
  exact ⟨Ls, g1, g2, by simpa [totLs, totL] using g3⟩
theorem own_le {w : World} {B e sz n : Nat} {v : Value} {xs : List Value} (h : w.ownsRow B e sz v n xs) : n ≤ maxLen := by
  rcases h.2 with hh | ⟨g, c, cur, h1, h2, h3, h4, h5, _⟩
  · rw [hh.2]; exact Nat.zero_le _
  · exact Nat.le_trans h4 h5
theorem own_at {w : World} {B e sz n c : Nat} {o : Option Addr} {xs : List Value} (h : w.ownsRow B e sz (.slice o n c) n xs) (hn : 0 < n) : ∃ g, o = some ⟨g, 0, none⟩ := by
  obtain ⟨g, cap, e⟩ := own_form h hn
  cases e
  exact ⟨g, rfl⟩
abbrev IFld := List UInt8 × Int
def fcel (f : IFld) : List Value := [.string ⟨f.1.toArray⟩, .int .i64 f.2]
def fagg (f : IFld) : Value := .agg (fcel f).toArray
def IRF (w : World) (o : Option Addr) (L : List IFld) : Prop := ∀ W : World, Below w.heap.size w W → ∀ (k : Nat) (f : IFld), L[k]? = some f → ∃ g o0, o = some ⟨g, o0, none⟩ ∧ W.cell? ⟨g, o0 + k * 2, none⟩ = some (.string ⟨f.1.toArray⟩) ∧ W.cell? ⟨g, o0 + k * 2 + 1, none⟩ = some (.int .i64 f.2)
theorem IRF.later {w w' : World} {o : Option Addr} {L : List IFld} (h : IRF w o L) (hb : Below w.heap.size w w') : IRF w' o L := fun W hW => h W (bel0 hb hW)
theorem IRF.take {w : World} {o : Option Addr} {L : List IFld} (h : IRF w o L) (n : Nat) : IRF w o (L.take n) := fun W hW k f hf => by
  rw [List.getElem?_take] at hf
  split at hf
  · exact h W hW k f hf
  · cases hf
def nameB (x : List UInt8) : Bool := decide (0 < x.length) && (decide (x.length ≤ 24) && (letX (bt x 0) && x.all (fun c => letX c.toNat || digX c.toNat)))
theorem inW_bt {x : List UInt8} {j : Nat} (hj : j < x.length) : inW x j = (letX (bt x j) || digX (bt x j)) := by
  unfold inW
  rw [kl_bt hj, letX_cls (bt_lt x j), digX_cls (bt_lt x j)]
theorem wrun_all {x : List UInt8} : ∀ (m j : Nat), x.length - j ≤ m → j ≤ x.length → (∀ k, j ≤ k → k < x.length → inW x k = true) → wrun x j = x.length
  | m, j, hm, hj, h => by
    rcases Nat.lt_or_ge j x.length with hlt | hge
    · match m, hm with
      | 0, hm => omega
      | m + 1, hm =>
        rw [wrun_yes (h j (Nat.le_refl _) hlt)]
        exact wrun_all m (j + 1) (by omega) hlt (fun k h1 h2 => h k (by omega) h2)
    · have : inW x j = false := by
        unfold inW
        rw [kl0.2 (by omega)]
        rfl
      rw [wrun_no this]
      omega
theorem name_good {x : List UInt8} (h : nameB x = true) : goodT 2 x := by
  unfold nameB at h
  simp only [Bool.and_eq_true, decide_eq_true_eq] at h
  obtain ⟨h0, h24, hl, ha⟩ := h
  have hw : ∀ k, 0 ≤ k → k < x.length → inW x k = true := fun k _ hk => by
    rw [inW_bt hk]
    have := List.all_eq_true.1 ha x[k] (List.getElem_mem hk)
    rw [bt_of (List.getElem?_eq_getElem hk)]
    exact this
  have h3 : kl x 0 = 3 := by
    rw [letX_cls (bt_lt x 0), decide_eq_true_eq] at hl
    rw [kl_bt h0]
    exact hl
  have hr := wrun_all _ 0 (Nat.le_refl _) (Nat.zero_le _) hw
  have hd : dotA x x.length 3 = false := by
    unfold dotA
    rw [kl0.2 (show ¬ x.length + 1 < x.length by omega)]
    simp
  obtain ⟨b1, b2, b3, b4, b5⟩ := tok_name h0 h3 hr hd
  exact ⟨h0, by omega, by omega, by omega, b5, by rw [b3, if_neg (by omega)]⟩
theorem good_name {x : List UInt8} (h : goodT 2 x) : nameB x = true := by
  obtain ⟨h0, h1, h2, h8, hC, hE⟩ := h
  have h3 : kl x 0 = 3 := Classical.byContradiction (fun h3 => by
    unfold tokC endF at hC
    rw [if_neg h3] at hC
    by_cases h4 : kl x 0 = 4
    · rw [if_pos h4, if_neg (by decide), if_neg (by decide), if_pos rfl] at hC
      simp at hC
    · rw [if_neg h4] at hC
      by_cases h6 : kl x 0 = 6
      · rw [if_pos h6, if_neg (by decide), if_neg (by decide), if_neg (by decide), if_pos rfl] at hC
        simp at hC
      · rw [if_neg h6] at hC
        by_cases h7 : kl x 0 = 7
        · rw [if_pos h7, if_neg (by decide), if_neg (by decide), if_neg (by decide), if_neg (by decide)] at hC
          simp at hC
        · rw [if_neg h7] at hC
          simp at hC)
  cases hd : dotA x (wrun x 0) 3 with
  | true =>
    have := (tok_port h0 h3 rfl hd rfl).2.2.2.2.2.2
    rw [hC] at this
    simp at this
  | false =>
    obtain ⟨b1, b2, b3, b4, b5⟩ := tok_name h0 h3 rfl hd
    rw [hC] at b5
    have e := (Prod.mk.inj b5).2
    have h24 : ¬ 24 < wrun x 0 - 0 := fun hh => by rw [hE, if_pos hh] at b3; cases b3
    have hl : letX (bt x 0) = true := by
      rw [letX_cls (bt_lt x 0), decide_eq_true_eq, ← kl_bt h0]
      exact h3
    have ha : x.all (fun c => letX c.toNat || digX c.toNat) = true := by
      rw [List.all_eq_true]
      intro c hc
      obtain ⟨k, hk, rfl⟩ := List.getElem_of_mem hc
      have := wrun_in (l := x) _ 0 (Nat.le_refl _) k (Nat.zero_le _) (by omega)
      rw [inW_bt hk, bt_of (List.getElem?_eq_getElem hk)] at this
      exact this
    unfold nameB
    rw [hl, ha, decide_eq_true h0, decide_eq_true (by omega)]
    rfl
def headN (D : List Tok) (x : List UInt8) : Bool := match D with
  | [] => false
  | t :: _ => t.1 == 2 && t.2.1 == x
theorem head_name (x : List UInt8) : headN (scanM x).1 x = nameB x := by
  rw [Bool.eq_iff_iff]
  constructor
  · intro h
    by_cases hl : x.length ≤ 16384
    · cases hD : (scanM x).1 with
      | nil => rw [hD] at h; cases h
      | cons a D =>
        rw [hD] at h
        unfold headN at h
        rw [Bool.and_eq_true, beq_iff_eq, beq_iff_eq] at h
        have he : (scanM x).2.1 = 0 := Classical.byContradiction (fun hne => by
          have h0 : (scanM x).1 = [] := by
            have := (run_done x (x.length + 1) 0 1 0 [] (by omega)).2
            unfold scanM at hne ⊢
            rw [if_neg (by omega)] at hne ⊢
            exact this hne
          rw [h0] at hD
          cases hD)
        obtain ⟨Ls, g1, g2, g3⟩ := scan_ls x hl he
        rw [hD] at g1
        have g4 : flat Ls = (a.1, a.2.1) :: kt D := g1.symm
        cases Ls with
        | nil => cases g4
        | cons ln Ls =>
          obtain ⟨hne, hgl⟩ := g2 ln (by simp)
          cases ln with
          | nil => exact absurd rfl hne
          | cons u ln =>
            have e1 : u = (a.1, a.2.1) := List.head_eq_of_cons_eq g4
            have hg := hgl u (by simp)
            rw [e1, h.1, h.2] at hg
            exact good_name hg
    · have e : scanM x = ([], 2, 0, 0) := by unfold scanM; rw [if_pos (by omega)]
      rw [e] at h
      cases h
  · intro h
    have hg := name_good h
    have h24 : x.length ≤ 24 := by
      unfold nameB at h
      simp only [Bool.and_eq_true, decide_eq_true_eq] at h
      exact h.2.1
    obtain ⟨c, hc⟩ := scan_one hg (by omega)
    rw [hc]
    simp [headN]
def nmB (x : List UInt8) : Bool := nameB x && (!(x == [97, 110, 121]) && !(x == [110, 111, 110, 101]))
set_option maxRecDepth 100000 in
set_option maxHeartbeats 2000000 in
theorem isName_any (x : List UInt8) (w : World) (hl : x.length ≤ 281474976710656) (hv1 : SH w) (hv4 : SG w) (hv5 : VW w) : Calls Tryz.prog 47 #[.string ⟨x.toArray⟩] w fun e w' => e = .returned (.bool (nmB x)) ∧ Below w.heap.size w w' := by
  have H1 := scan_any x w hl hv1 hv4 (FOK_of hv5)
  unfold scR at H1
  have hr0 : nmB x = (headN (scanM x).1 x && (!(x == [97, 110, 121]) && !(x == [110, 111, 110, 101]))) := by unfold nmB; rw [head_name]
  obtain ⟨r, hr⟩ : ∃ r, scanM x = r := ⟨_, rfl⟩
  rw [hr] at H1 hr0
  obtain ⟨D, e0, ln, cl⟩ := r
  simp only at H1 hr0
  obtain ⟨q, hq⟩ : ∃ q, nmB x = q := ⟨_, rfl⟩
  rw [hq] at hr0 ⊢
  clear hr hq hv1 hv4 hv5
  go_enter Tryz.func47, Tryz.ntmps47
  go_wp2_with fail
  refine H1.mono ?_
  rintro e W1 ⟨v1, rfl, hown, hb1⟩
  clear H1
  cases D with
  | nil =>
    obtain rfl : q = false := hr0
    obtain ⟨p, c, rfl⟩ := shapeP hown
    clear hown
    go_wp2_with fail
    go_ret
    exact ⟨rfl, hb1⟩
  | cons t0 D =>
    obtain ⟨g, cp, rfl⟩ := own_form hown (by simp)
    obtain ⟨p0, p1, -, -⟩ := tok_cell hown (k := 0) (t := t0) rfl
    simp only [Nat.zero_mul, Nat.zero_add] at p0 p1
    clear hown
    obtain ⟨k0, x0, l0, c0⟩ := t0
    simp only at p0 p1
    have i1 : (0 : Int) < ((((k0, x0, l0, c0) :: D).length : Nat) : Int) := by simp only [List.length_cons]; omega
    have i2 : (0 : Int) < (D.length : Int) + 1 := by omega
    by_cases ek : k0 = 2
    · have y1 : ((k0 : Int) == 2) = true := beq_iff_eq.2 (by omega)
      by_cases ex : x0 = x
      · have hq2 : q = (!(x == [97, 110, 121]) && !(x == [110, 111, 110, 101])) := by
          rw [hr0]
          unfold headN
          simp [ek, ex]
        subst ex ek
        have y2 : (x0 == x0) = true := beq_self_eq_true x0
        by_cases ea : x0 = [97, 110, 121]
        · have z1 : (x0 == [97, 110, 121]) = true := beq_iff_eq.2 ea
          have z2 : (x0 != [97, 110, 121]) = false := by rw [bne, z1]; rfl
          obtain rfl : q = false := by rw [hq2, z1]; rfl
          clear hr0 hq2 ea
          go_wp2_with fail
          go_ret
          exact ⟨rfl, hb1⟩
        · have z1 : (x0 == [97, 110, 121]) = false := beq_eq_false_iff_ne.2 ea
          have z2 : (x0 != [97, 110, 121]) = true := by rw [bne, z1]; rfl
          by_cases en : x0 = [110, 111, 110, 101]
          · have z3 : (x0 == [110, 111, 110, 101]) = true := beq_iff_eq.2 en
            have z4 : (x0 != [110, 111, 110, 101]) = false := by rw [bne, z3]; rfl
            obtain rfl : q = false := by rw [hq2, z1, z3]; rfl
            clear hr0 hq2 ea en
            go_wp2_with fail
            go_ret
            exact ⟨rfl, hb1⟩
          · have z3 : (x0 == [110, 111, 110, 101]) = false := beq_eq_false_iff_ne.2 en
            have z4 : (x0 != [110, 111, 110, 101]) = true := by rw [bne, z3]; rfl
            obtain rfl : q = true := by rw [hq2, z1, z3]; rfl
            clear hr0 hq2 ea en
            go_wp2_with fail
            go_ret
            exact ⟨rfl, hb1⟩
      · have y2 : (x0 == x) = false := beq_eq_false_iff_ne.2 ex
        obtain rfl : q = false := by
          rw [hr0]
          unfold headN
          simp [ex]
        subst ek
        clear hr0
        go_wp2_with fail
        go_ret
        exact ⟨rfl, hb1⟩
    · have y1 : ((k0 : Int) == 2) = false := beq_eq_false_iff_ne.2 (by omega)
      obtain rfl : q = false := by
        rw [hr0]
        unfold headN
        simp [ek]
      clear hr0
      go_wp2_with fail
      go_ret
      exact ⟨rfl, hb1⟩
end Go.Proofs.YtnboehlbcjfndaaGreatDoor
