import Derived.Test.YthlgjdadkmpbbaaDoorXBK
import Derived.Test.YthlgjdadkmpbbaaDoorXAL
import Derived.Test.YthlgjdadkmpbbaaDoorXAA
import Derived.Test.YthlgjdadkmpbbaaDoorXBC
import Derived.Test.YthlgjdadkmpbbaaDoorXBJ
namespace Go.Proofs.YthlgjdadkmpbbaaDoor
open Go.RowKit Go.Shelf
/-- a token's kind and text -/
abbrev KT := Nat × List UInt8
def kt (L : List Tok) : List KT := L.map fun t => (t.1, t.2.1)
/-- lines of tokens, each with its end -/
def flat (Ls : List (List KT)) : List KT := Ls.flatMap fun ln => ln ++ [(1, [10])]
def goodL (ln : List KT) : Prop := ∀ t ∈ ln, goodT t.1 t.2
def goodLs (Ls : List (List KT)) : Prop := ∀ ln ∈ Ls, ln ≠ [] ∧ goodL ln
def totL (ln : List KT) : Nat := (ln.map fun t => t.2.length).sum
def totLs (Ls : List (List KT)) : Nat := (Ls.map totL).sum
theorem goodT_kind {K : Nat} {X : List UInt8} (h : goodT K X) : K ≠ 1 := fun e => by
  have h1 : (tokC X 0).1 ≠ 1 := by
    unfold tokC endF
    repeat' split
    all_goals simp
  rw [h.2.2.2.2.1] at h1
  exact h1 e
theorem flat_snoc (Ls : List (List KT)) (ln : List KT) : flat (Ls ++ [ln]) = flat Ls ++ (ln ++ [(1, [10])]) := by
  unfold flat
  simp
theorem kt_snoc (D : List Tok) (t : Tok) : kt (D ++ [t]) = kt D ++ [(t.1, t.2.1)] := by
  unfold kt
  simp
theorem kt_last {D : List Tok} {A : List KT} {u : KT} (h : kt D = A ++ [u]) : ∃ t, D.getLast? = some t ∧ t.1 = u.1 := by
  rcases List.eq_nil_or_concat D with rfl | ⟨D0, t, rfl⟩
  · cases A <;> cases h
  · rw [List.concat_eq_append, kt_snoc] at h
    have e := (List.append_inj' h rfl).2
    refine ⟨t, by rw [List.concat_eq_append]; simp, ?_⟩
    have := List.head_eq_of_cons_eq e
    rw [← this]
theorem totLs_snoc (Ls : List (List KT)) (ln : List KT) : totLs (Ls ++ [ln]) = totLs Ls + totL ln := by
  unfold totLs
  simp
theorem totL_snoc (ln : List KT) (t : KT) : totL (ln ++ [t]) = totL ln + t.2.length := by
  unfold totL
  simp
/-- the end of a line -/
theorem endT_kt {D : List Tok} {Ls : List (List KT)} {cur : List KT} (h : kt D = flat Ls ++ cur) (hL : goodLs Ls) (hc : goodL cur) (line col : Nat) :
    ∃ Ls', kt (endT D line col) = flat Ls' ∧ goodLs Ls' ∧ totLs Ls' = totLs Ls + totL cur := by
  rcases List.eq_nil_or_concat cur with rfl | ⟨c0, u, rfl⟩
  · refine ⟨Ls, ?_, hL, by simp [totL]⟩
    rw [List.append_nil] at h
    rcases List.eq_nil_or_concat Ls with rfl | ⟨L0, ln, rfl⟩
    · have hD : D = [] := by
        unfold kt flat at h
        simpa using h
      subst hD
      rfl
    · rw [List.concat_eq_append] at h ⊢
      have h2 := h
      rw [flat_snoc, ← List.append_assoc] at h2
      obtain ⟨t, ht1, ht2⟩ := kt_last h2
      unfold endT
      rw [ht1]
      simp only
      rw [if_pos ht2, h]
  · rw [List.concat_eq_append] at h hc ⊢
    have h2 := h
    rw [← List.append_assoc] at h2
    obtain ⟨t, ht1, ht2⟩ := kt_last h2
    have hu : u.1 ≠ 1 := goodT_kind (hc u (by simp))
    refine ⟨Ls ++ [c0 ++ [u]], ?_, ?_, totLs_snoc _ _⟩
    · unfold endT
      rw [ht1]
      simp only
      rw [if_neg (by rw [ht2]; exact hu), kt_snoc, h, flat_snoc, List.append_assoc]
    · intro ln hln
      rcases List.mem_append.1 hln with e | e
      · exact hL ln e
      · rw [List.mem_singleton.1 e]
        exact ⟨by simp, hc⟩
theorem cend_le' {l : List UInt8} : ∀ (m j : Nat), l.length - j ≤ m → j ≤ l.length → cend l j ≤ l.length
  | m, j, hm, hj => by
    by_cases hk : kl l j = 1 ∨ kl l j = 0
    · rw [cend_end hk]; exact hj
    · have h1 : kl l j ≠ 1 := fun e => hk (.inl e)
      have h0 : kl l j ≠ 0 := fun e => hk (.inr e)
      have hlt : j < l.length := Classical.byContradiction (fun e => h0 (kl0.2 e))
      have hp := dc_pos l j
      have hle := dc_le l j hlt
      match m, hm with
      | 0, hm => omega
      | m + 1, hm => rw [cend_on h1 h0]; exact cend_le' m _ (by omega) hle
theorem run_ls (l : List UInt8) : ∀ (f j line hb : Nat) (D : List Tok) (Ls : List (List KT)) (cur : List KT), l.length - j < f → j ≤ l.length → kt D = flat Ls ++ cur → goodLs Ls → goodL cur → (runM f l j line hb D).2.1 = 0 → ∃ Ls', kt (runM f l j line hb D).1 = flat Ls' ∧ goodLs Ls' ∧ totLs Ls' ≤ totLs Ls + totL cur + (l.length - j)
  | 0, j, line, hb, D, Ls, cur, hf, _, _, _, _, _ => by omega
  | f + 1, j, line, hb, D, Ls, cur, hf, hj, hD, hL, hc, h0 => by
    have hend : ∀ e, j ≤ e → e ≤ l.length → (lendM f l e line hb D).2.1 = 0 → ∃ Ls', kt (lendM f l e line hb D).1 = flat Ls' ∧ goodLs Ls' ∧ totLs Ls' ≤ totLs Ls + totL cur + (l.length - j) := fun e he hel h => by
      obtain ⟨L2, e1, e2, e3⟩ := endT_kt hD hL hc line (ci l e - ci l hb + 1)
      unfold lendM at h ⊢
      by_cases hz : kl l e = 0
      · rw [if_pos hz]
        exact ⟨L2, e1, e2, by omega⟩
      · have hlt : e < l.length := Classical.byContradiction (fun h => hz (kl0.2 h))
        rw [if_neg hz] at h ⊢
        obtain ⟨L3, g1, g2, g3⟩ := run_ls l f (e + 1) (line + 1) (e + 1) _ L2 [] (by omega) hlt (by rw [e1, List.append_nil]) e2 (fun t ht => by cases ht) h
        refine ⟨L3, g1, g2, ?_⟩
        have : totL [] = 0 := rfl
        omega
    by_cases h10 : kl l j = 1 ∨ kl l j = 0
    · rw [runM_end h10] at h0 ⊢
      exact hend j (Nat.le_refl _) hj h0
    have h1 : kl l j ≠ 1 := fun e => h10 (.inl e)
    have hz : kl l j ≠ 0 := fun e => h10 (.inr e)
    have hlt : j < l.length := Classical.byContradiction (fun e => hz (kl0.2 e))
    by_cases h2 : kl l j = 2
    · rw [runM_blank h2] at h0 ⊢
      obtain ⟨L3, g1, g2, g3⟩ := run_ls l f (j + 1) line hb D Ls cur (by omega) hlt hD hL hc h0
      exact ⟨L3, g1, g2, by omega⟩
    by_cases h8 : kl l j = 8
    · rw [runM_hash h8] at h0 ⊢
      have c1 := cend_ge (l := l) _ (j + 1) (Nat.le_refl _)
      have c2 := cend_le' (l := l) _ (j + 1) (Nat.le_refl _) hlt
      exact hend _ (by omega) c2 h0
    by_cases he : tokE l j = 0
    · obtain ⟨a1, a2⟩ := tok_adv hlt h1 he
      have hsm := tok_same he
      rw [runM_tok h2 h8 h1 hz he] at h0 ⊢
      have hn : tokJ l j = j + (tokJ l j - j) := by omega
      have hg := tok_alone (l := l) (j := j) (n := tokJ l j - j) (K := (tokC l j).1) (by omega) (by omega) h1 h2 h8 (by rw [← hn, hsm]) he
      rw [← hn] at hg
      obtain ⟨L3, g1, g2, g3⟩ := run_ls l f (tokJ l j) line hb _ Ls (cur ++ [((tokC l j).1, subL l j (tokC l j).2)]) (by omega) a2 (by rw [kt_snoc, hD, List.append_assoc]) hL (fun t ht => by
        rcases List.mem_append.1 ht with e | e
        · exact hc t e
        · rw [List.mem_singleton.1 e, ← hsm]
          exact hg) h0
      refine ⟨L3, g1, g2, ?_⟩
      rw [totL_snoc] at g3
      simp only at g3
      rw [← hsm, sub_len a2] at g3
      omega
    · rw [runM_err h2 h8 h1 hz he] at h0
      exact absurd h0 he
/-- what Scan answers: lines of tokens -/
theorem scan_ls (l : List UInt8) (h : l.length ≤ 16384) (he : (scanM l).2.1 = 0) : ∃ Ls, kt (scanM l).1 = flat Ls ∧ goodLs Ls ∧ totLs Ls ≤ l.length := by
  unfold scanM at he ⊢
  rw [if_neg (by omega)] at he ⊢
  obtain ⟨Ls, g1, g2, g3⟩ := run_ls l (l.length + 1) 0 1 0 [] [] [] (by omega) (Nat.zero_le _) rfl (fun ln h => by cases h) (fun t h => by cases h) he
  exact ⟨Ls, g1, g2, by simpa [totLs, totL] using g3⟩
end Go.Proofs.YthlgjdadkmpbbaaDoor
namespace Go.Proofs.YthlgjdadkmpbbaaDoor
open Go.RowKit Go.Shelf
end Go.Proofs.YthlgjdadkmpbbaaDoor
namespace Go.Proofs.YthlgjdadkmpbbaaDoor
open Go.RowKit Go.Shelf
end Go.Proofs.YthlgjdadkmpbbaaDoor
namespace Go.Proofs.YthlgjdadkmpbbaaDoor
open Go.RowKit Go.Shelf
theorem scan_a : ∃ p q, scanM [97] = ([(2, [97], p), (1, [10], q)], 0, 0, 0) := by
  have hk : kl [97] 0 = 3 := by decide
  have hk1 : kl [97] 1 = 0 := kl0.2 (by decide)
  have hw : wrun [97] 1 = 1 := wrun_no (by unfold inW; rw [hk1]; rfl)
  have hd : ¬ dotA [97] 1 3 = true := by unfold dotA; rw [hk1]; simp
  have htc : tokC [97] 0 = (2, 1) := by
    unfold tokC
    rw [if_pos hk]
    show (if dotA [97] (wrun [97] 1) 3 = true then ((3 : Nat), wrun [97] (wrun [97] 1 + 1)) else (2, wrun [97] 1)) = _
    rw [hw, if_neg hd]
  have hs : subL [97] 0 1 = [97] := rfl
  have hf : faultE 2 [97] = 0 := by
    unfold faultE
    have hp : parts [97] = [[97]] := by rw [parts, if_pos (by decide)]
    rw [if_pos (.inl rfl), hp]
    rfl
  have h7 : ¬ (kl [97] 0 = 7 ∧ quoE [97] 0 ≠ 0) := fun h => by omega
  have he : tokE [97] 0 = 0 := by
    unfold tokE
    rw [if_neg h7, htc]
    exact hf
  have hj : tokJ [97] 0 = 1 := by
    unfold tokJ
    rw [if_neg h7, htc]
    exact if_pos hf
  unfold scanM
  rw [if_neg (by decide)]
  show ∃ p q, runM 2 [97] 0 1 0 [] = _
  rw [runM_tok (by omega) (by omega) (by omega) (by omega) he, hj, htc, hs, runM_end (.inr hk1)]
  unfold lendM
  rw [if_pos hk1]
  exact ⟨_, _, rfl⟩
theorem scan_done (a : List UInt8) (h : a.length ≤ 16384) : ((scanM a).2.1 = 0 → (scanM a).2 = (0, 0, 0)) ∧ ((scanM a).2.1 ≠ 0 → (scanM a).1 = []) := by
  unfold scanM
  rw [if_neg (by omega)]
  have := run_done a (a.length + 1) 0 1 0 [] (by omega)
  exact ⟨fun h => (this.1 h).2, this.2⟩
end Go.Proofs.YthlgjdadkmpbbaaDoor
