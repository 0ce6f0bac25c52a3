import Derived.Test.YthlgjdadkmpbbaaDoorXBD
import Derived.Test.YthlgjdadkmpbbaaDoorXBJ
import Derived.Test.YthlgjdadkmpbbaaDoorXBA
namespace Go.Proofs.YthlgjdadkmpbbaaDoor
open Go.RowKit Go.Shelf
/-- what stands behind a token lets it end there -/
def okA (K : Nat) (l : List UInt8) (j e : Nat) : Prop :=
  (K = 2 → inW l e = false ∧ dotA l e 3 = false) ∧ (K = 3 ∨ K = 5 → inW l e = false) ∧ (K = 4 → (inW l e || dotA l e 4) = false) ∧ (K = 7 → sgn (l.drop j) = e - j)
theorem nrun_stop (l : List UInt8) : ∀ (m j : Nat), l.length - j ≤ m → (inW l (nrun l j) || dotA l (nrun l j) 4) = false
  | m, j, hm => by
    cases h : (inW l j || dotA l j 4) with
    | false => rw [nrun_no h]; exact h
    | true =>
      have hj : j < l.length := by
        rcases Bool.or_eq_true_iff.1 h with h | h
        · exact (inW_asc h).1
        · exact (dotA_asc h).1
      match m, hm with
      | 0, hm => omega
      | m + 1, hm => rw [nrun_yes h]; exact nrun_stop l m (j + 1) (by omega)
theorem inW_end' {l : List UInt8} {i : Nat} (h : ¬ i < l.length) : inW l i = false := by
  unfold inW
  rw [kl0.2 h]
  rfl
section
variable {l l' : List UInt8} {j j' n K : Nat}
theorem fault_ag (h : AG l j l' j' n) (h7 : kl l j ≠ 7) (h7' : kl l' j' ≠ 7) (hC : tokC l j = (K, j + n)) (hE : tokE l j = 0) (hC' : tokC l' j' = (K, j' + n)) : tokE l' j' = 0 := by
  unfold tokE at hE ⊢
  rw [if_neg (fun e => h7 e.1), hC] at hE
  rw [if_neg (fun e => h7' e.1), hC']
  simp only at hE ⊢
  rw [h.sub]
  exact hE
theorem tok_ag (h : AG l j l' j' n) (hn : 0 < n) (hC : tokC l j = (K, j + n)) (hE : tokE l j = 0) (ok : okA K l' j' (j' + n)) : tokC l' j' = (K, j' + n) ∧ tokE l' j' = 0 := by
  have hl := h.1
  have hl' := h.2.1
  have hk := h.kl0 hn
  have a1 := h.more (m := 1) (by omega)
  by_cases h3 : kl l j = 3
  · have h3' : kl l' j' = 3 := hk ▸ h3
    have hw := (wrun_ge l _ (j + 1) (Nat.le_refl _)).1
    cases hd : dotA l (wrun l (j + 1)) 3 with
    | true =>
      have e : tokC l j = (3, wrun l (wrun l (j + 1) + 1)) := by unfold tokC endF; rw [if_pos h3, if_pos rfl, hd, if_pos rfl]
      obtain ⟨rfl, e2⟩ := Prod.mk.inj (e.symm.trans hC)
      obtain ⟨d1, d2⟩ : kl l (wrun l (j + 1)) = 5 ∧ kl l (wrun l (j + 1) + 1) = 3 := by unfold dotA at hd; simpa using hd
      have hw2 : inW l (wrun l (j + 1) + 1) = true := by unfold inW; rw [d2]; rfl
      have hw3 := (wrun_ge l _ (wrun l (j + 1) + 1 + 1) (Nat.le_refl _)).1
      rw [← wrun_yes hw2, e2] at hw3
      obtain ⟨p, hp⟩ : ∃ p, wrun l (j + 1) = j + p := ⟨wrun l (j + 1) - j, by omega⟩
      rw [hp] at d1 d2 hw hw3 e2
      have k1 := h.kl (k := p) (by omega)
      have k2 := h.kl (k := p + 1) (by omega)
      rw [← Nat.add_assoc, ← Nat.add_assoc] at k2
      have s1 : inW l' (j' + p) = false := by unfold inW; rw [← k1, d1]; rfl
      have w1 : wrun l' (j' + 1) = j' + p := by
        have := wrun_ag _ (Nat.le_refl _) (a1.cut (m := p - 1) (by omega)) (by omega) (by rw [show j' + 1 + (p - 1) = j' + p by omega]; exact s1)
        omega
      have hd' : dotA l' (j' + p) 3 = true := by unfold dotA; rw [← k1, ← k2, d1, d2]; rfl
      have a2 := h.more (m := p + 1) (by omega)
      have w2 : wrun l' (j' + p + 1) = j' + n := by
        have := wrun_ag _ (Nat.le_refl _) a2 (by rw [show j + (p + 1) = j + p + 1 by omega, e2]; omega) (by rw [show j' + (p + 1) + (n - (p + 1)) = j' + n by omega]; exact ok.2.1 (.inl rfl))
        rw [show j' + (p + 1) = j' + p + 1 by omega] at this
        omega
      have hC' : tokC l' j' = (3, j' + n) := by unfold tokC endF; rw [if_pos h3', if_pos rfl, w1, hd', if_pos rfl, w2]
      exact ⟨hC', fault_ag h (by omega) (by omega) hC hE hC'⟩
    | false =>
      have e : tokC l j = (2, wrun l (j + 1)) := by unfold tokC endF; rw [if_pos h3, if_pos rfl, hd, if_neg (by decide)]
      obtain ⟨rfl, e2⟩ := Prod.mk.inj (e.symm.trans hC)
      have w1 : wrun l' (j' + 1) = j' + n := by
        have := wrun_ag _ (Nat.le_refl _) a1 (by omega) (by rw [show j' + 1 + (n - 1) = j' + n by omega]; exact (ok.1 rfl).1)
        omega
      have hC' : tokC l' j' = (2, j' + n) := by unfold tokC endF; rw [if_pos h3', if_pos rfl, w1, (ok.1 rfl).2, if_neg (by decide)]
      exact ⟨hC', fault_ag h (by omega) (by omega) hC hE hC'⟩
  have h3' : kl l' j' ≠ 3 := hk ▸ h3
  by_cases h4 : kl l j = 4
  · have h4' : kl l' j' = 4 := hk ▸ h4
    have e : tokC l j = (4, nrun l (j + 1)) := by unfold tokC endF; rw [if_neg h3, if_pos h4, if_neg (by decide), if_neg (by decide), if_pos rfl]
    obtain ⟨rfl, e2⟩ := Prod.mk.inj (e.symm.trans hC)
    have hst := nrun_stop l _ (j + 1) (Nat.le_refl _)
    rw [e2] at hst
    have w1 : nrun l' (j' + 1) = j' + n := by
      have := nrun_ag _ (Nat.le_refl _) a1 (by omega) (by rw [show j' + 1 + (n - 1) = j' + n by omega]; exact ok.2.2.1 rfl) (fun k hk2 => by
        cases hd : dotA l (j + 1 + k) 4 with
        | false => rfl
        | true =>
          have d2 : kl l (j + 1 + k + 1) = 4 := by unfold dotA at hd; simp at hd; exact hd.2
          rw [show j + 1 + k + 1 = j + n by omega] at d2
          rw [show inW l (j + n) = true by unfold inW; rw [d2]; rfl] at hst
          cases hst)
      omega
    have hC' : tokC l' j' = (4, j' + n) := by unfold tokC endF; rw [if_neg h3', if_pos h4', if_neg (by decide), if_neg (by decide), if_pos rfl, w1]
    exact ⟨hC', fault_ag h (by omega) (by omega) hC hE hC'⟩
  have h4' : kl l' j' ≠ 4 := hk ▸ h4
  by_cases h6 : kl l j = 6
  · have h6' : kl l' j' = 6 := hk ▸ h6
    have e : tokC l j = (5, wrun l (j + 1)) := by unfold tokC endF; rw [if_neg h3, if_neg h4, if_pos h6, if_neg (by decide), if_neg (by decide), if_neg (by decide), if_pos rfl]
    obtain ⟨rfl, e2⟩ := Prod.mk.inj (e.symm.trans hC)
    have w1 : wrun l' (j' + 1) = j' + n := by
      have := wrun_ag _ (Nat.le_refl _) a1 (by omega) (by rw [show j' + 1 + (n - 1) = j' + n by omega]; exact ok.2.1 (.inr rfl))
      omega
    have hC' : tokC l' j' = (5, j' + n) := by unfold tokC endF; rw [if_neg h3', if_neg h4', if_pos h6', if_neg (by decide), if_neg (by decide), if_neg (by decide), if_pos rfl, w1]
    exact ⟨hC', fault_ag h (by omega) (by omega) hC hE hC'⟩
  have h6' : kl l' j' ≠ 6 := hk ▸ h6
  by_cases h7 : kl l j = 7
  · have h7' : kl l' j' = 7 := hk ▸ h7
    have hCq : ∀ {x : List UInt8} {i : Nat}, kl x i = 7 → tokC x i = (6, quoJ x i) := fun hx => by
      unfold tokC endF
      rw [if_neg (by omega), if_neg (by omega), if_neg (by omega), if_pos hx, if_neg (by decide), if_neg (by decide), if_neg (by decide), if_neg (by decide)]
    obtain ⟨rfl, e2⟩ := Prod.mk.inj ((hCq h7).symm.trans hC)
    have hq0 : quoE l j = 0 := Classical.byContradiction (fun e => by
      unfold tokE at hE
      rw [if_pos ⟨h7, e⟩] at hE
      exact e hE)
    unfold quoE at hq0
    by_cases q1 : (insS l (j + 1) []).2.2 = 33 ∧ kl l (insS l (j + 1) []).2.1 = 1
    · rw [if_pos q1] at hq0; cases hq0
    rw [if_neg q1] at hq0
    by_cases q2 : (insS l (j + 1) []).2.2 = 0 ∧ 256 < (insS l (j + 1) []).1.length
    · rw [if_pos q2] at hq0; cases hq0
    rw [if_neg q2] at hq0
    unfold quoJ at e2
    rw [if_neg q2] at e2
    have hi : insS l (j + 1) [] = ((insS l (j + 1) []).1, j + 1 + (n - 1), 0) := Prod.ext rfl (Prod.ext (by show (insS l (j + 1) []).2.1 = j + 1 + (n - 1); omega) hq0)
    have hi' := ins_ag _ (Nat.le_refl _) a1 hi
    have q2' : ¬ ((insS l' (j' + 1) []).2.2 = 0 ∧ 256 < (insS l' (j' + 1) []).1.length) := by
      rw [hi']
      exact fun hh => q2 ⟨hq0, hh.2⟩
    have hJ' : quoJ l' j' = j' + n := by
      unfold quoJ
      rw [if_neg q2', hi']
      simp only
      omega
    have hE' : quoE l' j' = 0 := by
      unfold quoE
      rw [if_neg q2', hi']
      simp
    refine ⟨by rw [hCq h7', hJ'], ?_⟩
    unfold tokE
    rw [if_neg (fun hh => hh.2 hE'), hCq h7']
    show faultE 6 _ = 0
    unfold faultE
    rw [if_neg (by decide), if_neg (by decide), if_neg (by decide), if_neg (by decide)]
  have h7' : kl l' j' ≠ 7 := hk ▸ h7
  obtain ⟨c1, -, -⟩ := tok_sign h3 h4 h6 h7
  obtain ⟨c1', -, -⟩ := tok_sign h3' h4' h6' h7'
  obtain ⟨rfl, -⟩ := Prod.mk.inj (c1.symm.trans hC)
  have hs := ok.2.2.2 rfl
  have hC' : tokC l' j' = (7, j' + n) := by rw [c1', hs, show j' + n - j' = n by omega]
  exact ⟨hC', fault_ag h h7 h7' hC hE hC'⟩
end
theorem sgn_all : ∀ s ∈ signsL, sgn s = s.length := by decide
theorem sgn_alone {r : List UInt8} {n : Nat} (hn : 0 < n) (h : sgn r = n) : sgn (r.take n) = n := by
  unfold sgn at h
  cases hf : signsL.find? (fun s => Lib.hasPrefix r s) with
  | none => rw [hf] at h; simp at h; omega
  | some z =>
    have hz := List.find?_some hf
    have hm := List.mem_of_find?_eq_some hf
    rw [hf] at h
    simp only [Option.map_some, Option.getD_some] at h
    unfold Lib.hasPrefix at hz
    rw [List.isPrefixOf_iff_prefix] at hz
    obtain ⟨t, ht⟩ := hz
    have e : r.take n = z := by rw [← ht, ← h]; exact List.take_left
    rw [e, sgn_all z hm, h]
/-- a token by itself: its kind and text -/
def goodT (K : Nat) (X : List UInt8) : Prop := 0 < X.length ∧ kl X 0 ≠ 1 ∧ kl X 0 ≠ 2 ∧ kl X 0 ≠ 8 ∧ tokC X 0 = (K, X.length) ∧ tokE X 0 = 0
theorem ag_sub {l : List UInt8} {j n : Nat} (h : j + n ≤ l.length) : AG l j (subL l j (j + n)) 0 n := by
  have hl : (subL l j (j + n)).length = n := by rw [sub_len h]; omega
  refine ⟨h, by omega, fun k hk => ?_⟩
  rw [Nat.zero_add]
  have e : (subL l j (j + n))[k]? = some l[j + k] := by
    unfold subL
    rw [List.getElem?_take, if_pos (by omega), List.getElem?_drop, List.getElem?_eq_getElem]
  rw [bt_of e, bt_of (List.getElem?_eq_getElem (show j + k < l.length by omega))]
theorem tok_alone {l : List UInt8} {j n K : Nat} (hn : 0 < n) (hl : j + n ≤ l.length) (h1 : kl l j ≠ 1) (h2 : kl l j ≠ 2) (h8 : kl l j ≠ 8) (hC : tokC l j = (K, j + n)) (hE : tokE l j = 0) : goodT K (subL l j (j + n)) := by
  have a := ag_sub hl
  have hlen : (subL l j (j + n)).length = n := by rw [sub_len hl]; omega
  have hk := a.kl0 hn
  have ok : okA K (subL l j (j + n)) 0 (0 + n) := by
    have hi : inW (subL l j (j + n)) (0 + n) = false := inW_end' (by omega)
    have hd : ∀ c, c ≠ 0 → dotA (subL l j (j + n)) (0 + n) c = false := fun c hc => by
      unfold dotA
      rw [kl0.2 (show ¬ 0 + n + 1 < (subL l j (j + n)).length by omega), decide_eq_false (show ¬ 0 = c by omega), Bool.and_false]
    refine ⟨fun _ => ⟨hi, hd 3 (by decide)⟩, fun _ => hi, fun _ => by rw [hi, hd 4 (by decide)]; rfl, fun h7 => ?_⟩
    subst h7
    have hs : sgn (l.drop j) = n := by
      have h3 : kl l j ≠ 3 := fun e => by
        unfold tokC endF at hC
        rw [if_pos e, if_pos rfl] at hC
        split at hC <;> simp at hC
      have h4 : kl l j ≠ 4 := fun e => by
        unfold tokC endF at hC
        rw [if_neg h3, if_pos e, if_neg (by decide), if_neg (by decide), if_pos rfl] at hC
        simp at hC
      have h6 : kl l j ≠ 6 := fun e => by
        unfold tokC endF at hC
        rw [if_neg h3, if_neg h4, if_pos e, if_neg (by decide), if_neg (by decide), if_neg (by decide), if_pos rfl] at hC
        simp at hC
      have h7 : kl l j ≠ 7 := fun e => by
        unfold tokC endF at hC
        rw [if_neg h3, if_neg h4, if_neg h6, if_pos e, if_neg (by decide), if_neg (by decide), if_neg (by decide), if_neg (by decide)] at hC
        simp at hC
      have := (tok_sign h3 h4 h6 h7).1
      rw [hC] at this
      have := (Prod.mk.inj this).2
      omega
    have := sgn_alone hn hs
    rw [List.drop_zero, Nat.zero_add, Nat.sub_zero]
    unfold subL
    rw [Nat.add_sub_cancel_left]
    exact this
  obtain ⟨t1, t2⟩ := tok_ag a hn hC hE ok
  exact ⟨by omega, by rw [← hk]; exact h1, by rw [← hk]; exact h2, by rw [← hk]; exact h8, by rw [t1, hlen, Nat.zero_add], t2⟩
end Go.Proofs.YthlgjdadkmpbbaaDoor
namespace Go.Proofs.YthlgjdadkmpbbaaDoor
open Go.RowKit Go.Shelf
/-- no line is begun -/
def ended (X : List Tok) : Prop := ∀ t, X.getLast? = some t → t.1 = 1
theorem endT_ended (D : List Tok) (line col : Nat) : ended (endT D line col) := by
  unfold endT ended
  intro t ht
  cases h : D.getLast? with
  | none =>
    rw [h] at ht
    simp only [h] at ht
    cases ht
  | some u =>
    rw [h] at ht
    by_cases hu : u.1 = 1
    · simp only [if_pos hu, h] at ht
      rw [← Option.some.inj ht]
      exact hu
    · simp only [if_neg hu, List.getLast?_concat] at ht
      rw [← Option.some.inj ht]
theorem run_done (l : List UInt8) : ∀ (f j line hb : Nat) (D : List Tok), l.length - j < f → ((runM f l j line hb D).2.1 = 0 → ended (runM f l j line hb D).1 ∧ (runM f l j line hb D).2 = (0, 0, 0)) ∧ ((runM f l j line hb D).2.1 ≠ 0 → (runM f l j line hb D).1 = [])
  | 0, j, line, hb, D, hf => by omega
  | f + 1, j, line, hb, D, hf => by
    have hend : ∀ e, j ≤ e → ((lendM f l e line hb D).2.1 = 0 → ended (lendM f l e line hb D).1 ∧ (lendM f l e line hb D).2 = (0, 0, 0)) ∧ ((lendM f l e line hb D).2.1 ≠ 0 → (lendM f l e line hb D).1 = []) := fun e he => by
      unfold lendM
      by_cases h0 : kl l e = 0
      · rw [if_pos h0]
        exact ⟨fun _ => ⟨endT_ended _ _ _, rfl⟩, fun h => absurd rfl h⟩
      · have hlt : e < l.length := Classical.byContradiction (fun h => h0 (kl0.2 h))
        rw [if_neg h0]
        exact run_done l f _ _ _ _ (by omega)
    by_cases h10 : kl l j = 1 ∨ kl l j = 0
    · rw [runM_end h10]
      exact hend j (Nat.le_refl _)
    have h1 : kl l j ≠ 1 := fun e => h10 (.inl e)
    have h0 : kl l j ≠ 0 := fun e => h10 (.inr e)
    have hj : j < l.length := Classical.byContradiction (fun e => h0 (kl0.2 e))
    by_cases h2 : kl l j = 2
    · rw [runM_blank h2]
      exact run_done l f _ _ _ _ (by omega)
    by_cases h8 : kl l j = 8
    · rw [runM_hash h8]
      have := cend_ge (l := l) _ (j + 1) (Nat.le_refl _)
      exact hend _ (by omega)
    by_cases he : tokE l j = 0
    · obtain ⟨a1, a2⟩ := tok_adv hj h1 he
      rw [runM_tok h2 h8 h1 h0 he]
      exact run_done l f _ _ _ _ (by omega)
    · rw [runM_err h2 h8 h1 h0 he]
      exact ⟨fun h => absurd h he, fun _ => rfl⟩
end Go.Proofs.YthlgjdadkmpbbaaDoor
