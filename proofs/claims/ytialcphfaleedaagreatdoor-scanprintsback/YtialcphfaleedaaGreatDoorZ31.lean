import Derived.Test.YtialcphfaleedaaGreatDoorZ10
import Derived.Test.YtialcphfaleedaaGreatDoorZ30
namespace Go.Proofs.YtialcphfaleedaaGreatDoor
open Go.RowKit Go.Shelf
theorem own_le {w : World} {B e sz n : Nat} {v : Value} {xs : List Value} (h : w.ownsRow B e sz v n xs) : n ≤ maxLen := by
  rcases h.2 with hh | ⟨g, c, cur, h1, h2, h3, h4, h5, _⟩
  · rw [hh.2]; exact Nat.zero_le _
  · exact Nat.le_trans h4 h5
theorem own_at {w : World} {B e sz n c : Nat} {o : Option Addr} {xs : List Value} (h : w.ownsRow B e sz (.slice o n c) n xs) (hn : 0 < n) : ∃ g, o = some ⟨g, 0, none⟩ := by
  obtain ⟨g, cap, e⟩ := own_form h hn
  cases e
  exact ⟨g, rfl⟩
end Go.Proofs.YtialcphfaleedaaGreatDoor
namespace Go.Proofs.YtialcphfaleedaaGreatDoor
open Go.RowKit Go.Shelf
theorem line_err {a : List UInt8} (hn : noNL a) (no hb : Nat) : ∀ (f j : Nat) (D : List Tok), (runM f a j no hb D).2.1 ≠ 0 → (runM f a j no hb D).2.2.1 = no
  | 0, j, D, h => absurd rfl h
  | f + 1, j, D, h => by
    have hz : ∀ e, ¬ e < a.length → (lendM f a e no hb D).2.1 = 0 := fun e he => by
      unfold lendM
      rw [if_pos (kl0.2 he)]
    by_cases hj : j < a.length
    · have h1 := hn j hj
      have h0 : kl a j ≠ 0 := fun e => kl0.1 e hj
      by_cases h2 : kl a j = 2
      · rw [runM_blank h2] at h ⊢
        exact line_err hn no hb f _ D h
      by_cases h8 : kl a j = 8
      · rw [runM_hash h8, cend_noNL hn _ (j + 1) (Nat.le_refl _) hj] at h
        exact absurd (hz _ (by omega)) h
      by_cases he : tokE a j = 0
      · rw [runM_tok h2 h8 h1 h0 he] at h ⊢
        exact line_err hn no hb f _ _ h
      · rw [runM_err h2 h8 h1 h0 he]
    · rw [runM_end (.inr (kl0.2 hj))] at h
      exact absurd (hz _ hj) h
theorem endT_len (D : List Tok) (line col : Nat) : (endT D line col).length ≤ D.length + 1 := by
  unfold endT
  cases D.getLast? with
  | none => simp
  | some t =>
    simp only
    split <;> simp
theorem run_len (l : List UInt8) : ∀ (f j line hb : Nat) (D : List Tok), (runM f l j line hb D).1.length ≤ D.length + 2 * (l.length - j) + 1
  | 0, j, line, hb, D => by
    show D.length ≤ _
    omega
  | f + 1, j, line, hb, D => by
    have hend : ∀ e, j ≤ e → (lendM f l e line hb D).1.length ≤ D.length + 2 * (l.length - j) + 1 := fun e he => by
      have hl := endT_len D line (ci l e - ci l hb + 1)
      unfold lendM
      by_cases h0 : kl l e = 0
      · rw [if_pos h0]
        simp only
        omega
      · have hlt : e < l.length := Classical.byContradiction (fun h => h0 (kl0.2 h))
        rw [if_neg h0]
        have := run_len l f (e + 1) (line + 1) (e + 1) (endT D line (ci l e - ci l hb + 1))
        omega
    by_cases h10 : kl l j = 1 ∨ kl l j = 0
    · rw [runM_end h10]
      exact hend j (Nat.le_refl _)
    have h1 : kl l j ≠ 1 := fun e => h10 (.inl e)
    have h0 : kl l j ≠ 0 := fun e => h10 (.inr e)
    have hj : j < l.length := Classical.byContradiction (fun e => h0 (kl0.2 e))
    by_cases h2 : kl l j = 2
    · rw [runM_blank h2]
      have := run_len l f (j + 1) line hb D
      omega
    by_cases h8 : kl l j = 8
    · rw [runM_hash h8]
      have := cend_ge (l := l) _ (j + 1) (Nat.le_refl _)
      exact hend _ (by omega)
    by_cases he : tokE l j = 0
    · obtain ⟨a1, a2⟩ := tok_adv hj h1 he
      rw [runM_tok h2 h8 h1 h0 he]
      have := run_len l f (tokJ l j) line hb (D ++ [((tokC l j).1, subL l j (tokC l j).2, line, ci l j - ci l hb + 1)])
      rw [List.length_append, List.length_singleton] at this
      omega
    · rw [runM_err h2 h8 h1 h0 he]
      simp
theorem shT_zero (L : List Tok) : shT 0 L = L := by
  unfold shT
  simp
/-- the tokens that stand already -/
theorem text_acc {X : List Tok} (hX : ended X) (a : List UInt8) (line : Nat) : textM a line X = if (textM a line []).2.1 ≠ 0 then textM a line [] else (X ++ (textM a line []).1, (textM a line []).2) := by
  have h : runM (a.length + 1) a 0 line 0 X = shR X 0 (runM (a.length + 1) a 0 line 0 []) := by
    have h := run_shift hX a 0 (a.length + 1) 0 line 0 []
    rw [shT_zero, List.append_nil] at h
    exact h
  unfold textM
  rw [h]
  unfold shR
  rw [shT_zero]
  rfl
theorem text_done (a : List UInt8) (line : Nat) (X : List Tok) : ((textM a line X).2.1 = 0 → ended (textM a line X).1 ∧ (textM a line X).2 = (0, 0, 0)) ∧ ((textM a line X).2.1 ≠ 0 → (textM a line X).1 = []) := run_done a (a.length + 1) 0 line 0 X (by omega)
/-- one line more -/
theorem text_line {T : List UInt8} {fr k no : Nat} {L : List Tok} (hfk : fr ≤ k) (hk : k ≤ T.length) (hnl : ∀ r, fr ≤ r → r < k → bt T r ≠ 10) (hend : k = T.length ∨ bt T k = 10) (hL : ended L) :
    ((textM (subL T fr k) no []).2.1 ≠ 0 → textM (T.drop fr) no L = ([], (textM (subL T fr k) no []).2.1, no, (textM (subL T fr k) no []).2.2.2)) ∧
    ((textM (subL T fr k) no []).2.1 = 0 → ended (L ++ (textM (subL T fr k) no []).1) ∧ (textM (subL T fr k) no []).2 = (0, 0, 0) ∧
      (k < T.length → textM (T.drop (k + 1)) (no + 1) (L ++ (textM (subL T fr k) no []).1) = textM (T.drop fr) no L) ∧ (¬ k < T.length → textM (T.drop fr) no L = (L ++ (textM (subL T fr k) no []).1, 0, 0, 0))) := by
  have ha : ∀ c ∈ subL T fr k, c ≠ 10 := fun c hc e => by
    obtain ⟨m, hm, rfl⟩ := List.mem_iff_getElem.1 hc
    obtain ⟨g1, g2⟩ := sub_get (List.getElem?_eq_getElem hm)
    exact hnl (fr + m) (by omega) g2 (by rw [bt_of g1, e]; rfl)
  have hsp : T.drop fr = subL T fr k ++ T.drop k := by
    unfold subL
    rw [show T.drop k = (T.drop fr).drop (k - fr) by rw [List.drop_drop, show fr + (k - fr) = k by omega], List.take_append_drop]
  have hacc := text_acc hL (subL T fr k) no
  have hdone := text_done (subL T fr k) no []
  have hdone2 := text_done (subL T fr k) no L
  have hle := line_err (noNL_of ha) no 0 ((subL T fr k).length + 1) 0 []
  have hR : textM (T.drop fr) no L = if (textM (subL T fr k) no L).2.1 ≠ 0 then textM (subL T fr k) no L else if k < T.length then textM (T.drop (k + 1)) (no + 1) (textM (subL T fr k) no L).1 else textM (subL T fr k) no L := by
    by_cases hkl : k < T.length
    · have h10 : bt T k = 10 := hend.resolve_left (by omega)
      have hd : T.drop k = 10 :: T.drop (k + 1) := by
        rw [List.drop_eq_getElem_cons hkl]
        congr 1
        exact UInt8.toNat_inj.1 (by rw [← bt_of (List.getElem?_eq_getElem hkl), h10]; rfl)
      rw [hsp, hd, text_cons ha, if_pos hkl]
    · rw [hsp, List.drop_eq_nil_of_le (by omega), List.append_nil, if_neg hkl]
      split <;> rfl
  refine ⟨fun he => ?_, fun he => ?_⟩
  · rw [if_pos he] at hacc
    rw [hR, hacc, if_pos he]
    have h1 := hdone.2 he
    have h2 : (textM (subL T fr k) no []).2.2.1 = no := hle he
    exact Prod.ext h1 (Prod.ext rfl (Prod.ext h2 rfl))
  · rw [if_neg (fun h => h he)] at hacc
    obtain ⟨d1, d2⟩ := hdone.1 he
    rw [hacc] at hdone2 hR
    obtain ⟨d3, d4⟩ := hdone2.1 he
    refine ⟨d3, d2, fun hkl => ?_, fun hkl => ?_⟩
    · rw [hR, if_neg (fun h => h he), if_pos hkl]
    · rw [hR, if_neg (fun h => h he), if_neg hkl, d2]
end Go.Proofs.YtialcphfaleedaaGreatDoor
