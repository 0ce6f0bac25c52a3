import Derived.Test.YtepokgainceidaaGreatDoorYAN
import Derived.Test.YtepokgainceidaaGreatDoorYAR
import Derived.Test.YtepokgainceidaaGreatDoorYAG
import Derived.Test.YtepokgainceidaaGreatDoorYAO
namespace Go.Proofs.YtepokgainceidaaGreatDoor
open Go.RowKit Go.Shelf
def ended (X : List Tok) : Prop := ∀ t, X.getLast? = some t → t.1 = 1
theorem endT_ended (D : List Tok) (line col : Nat) : ended (endT D line col) := by
  unfold endT ended
  intro t ht
  cases h : D.getLast? with
  | none =>
    rw [h] at ht
    simp only [h] at ht
    cases ht
  | some u =>
    rw [h] at ht
    by_cases hu : u.1 = 1
    · simp only [if_pos hu, h] at ht
      rw [← Option.some.inj ht]
      exact hu
    · simp only [if_neg hu, List.getLast?_concat] at ht
      rw [← Option.some.inj ht]
theorem run_done (l : List UInt8) : ∀ (f j line hb : Nat) (D : List Tok), l.length - j < f → ((runM f l j line hb D).2.1 = 0 → ended (runM f l j line hb D).1 ∧ (runM f l j line hb D).2 = (0, 0, 0)) ∧ ((runM f l j line hb D).2.1 ≠ 0 → (runM f l j line hb D).1 = [])
  | 0, j, line, hb, D, hf => by omega
  | f + 1, j, line, hb, D, hf => by
    have hend : ∀ e, j ≤ e → ((lendM f l e line hb D).2.1 = 0 → ended (lendM f l e line hb D).1 ∧ (lendM f l e line hb D).2 = (0, 0, 0)) ∧ ((lendM f l e line hb D).2.1 ≠ 0 → (lendM f l e line hb D).1 = []) := fun e he => by
      unfold lendM
      by_cases h0 : kl l e = 0
      · rw [if_pos h0]
        exact ⟨fun _ => ⟨endT_ended _ _ _, rfl⟩, fun h => absurd rfl h⟩
      · have hlt : e < l.length := Classical.byContradiction (fun h => h0 (kl0.2 h))
        rw [if_neg h0]
        exact run_done l f _ _ _ _ (by omega)
    by_cases h10 : kl l j = 1 ∨ kl l j = 0
    · rw [runM_end h10]
      exact hend j (Nat.le_refl _)
    have h1 : kl l j ≠ 1 := fun e => h10 (.inl e)
    have h0 : kl l j ≠ 0 := fun e => h10 (.inr e)
    have hj : j < l.length := Classical.byContradiction (fun e => h0 (kl0.2 e))
    by_cases h2 : kl l j = 2
    · rw [runM_blank h2]
      exact run_done l f _ _ _ _ (by omega)
    by_cases h8 : kl l j = 8
    · rw [runM_hash h8]
      have := cend_ge (l := l) _ (j + 1) (Nat.le_refl _)
      exact hend _ (by omega)
    by_cases he : tokE l j = 0
    · obtain ⟨a1, a2⟩ := tok_adv hj h1 he
      rw [runM_tok h2 h8 h1 h0 he]
      exact run_done l f _ _ _ _ (by omega)
    · rw [runM_err h2 h8 h1 h0 he]
      exact ⟨fun h => absurd h he, fun _ => rfl⟩
abbrev KT := Nat × List UInt8
def kt (L : List Tok) : List KT := L.map fun t => (t.1, t.2.1)
def flat (Ls : List (List KT)) : List KT := Ls.flatMap fun ln => ln ++ [(1, [10])]
def goodL (ln : List KT) : Prop := ∀ t ∈ ln, goodT t.1 t.2
def goodLs (Ls : List (List KT)) : Prop := ∀ ln ∈ Ls, ln ≠ [] ∧ goodL ln
def totL (ln : List KT) : Nat := (ln.map fun t => t.2.length).sum
def totLs (Ls : List (List KT)) : Nat := (Ls.map totL).sum
theorem goodT_kind {K : Nat} {X : List UInt8} (h : goodT K X) : K ≠ 1 := fun e => by
  have h1 : (tokC X 0).1 ≠ 1 := by
    unfold tokC endF
    repeat' split
    all_goals simp
  rw [h.2.2.2.2.1] at h1
  exact h1 e
theorem flat_snoc (Ls : List (List KT)) (ln : List KT) : flat (Ls ++ [ln]) = flat Ls ++ (ln ++ [(1, [10])]) := by
  unfold flat
  simp
theorem kt_snoc (D : List Tok) (t : Tok) : kt (D ++ [t]) = kt D ++ [(t.1, t.2.1)] := by
  unfold kt
  simp
theorem kt_last {D : List Tok} {A : List KT} {u : KT} (h : kt D = A ++ [u]) : ∃ t, D.getLast? = some t ∧ t.1 = u.1 := by
  rcases List.eq_nil_or_concat D with rfl | ⟨D0, t, rfl⟩
  · cases A <;> cases h
  · rw [List.concat_eq_append, kt_snoc] at h
    have e := (List.append_inj' h rfl).2
    refine ⟨t, by rw [List.concat_eq_append]; simp, ?_⟩
    have := List.head_eq_of_cons_eq e
    rw [← this]
theorem totLs_snoc (Ls : List (List KT)) (ln : List KT) : totLs (Ls ++ [ln]) = totLs Ls + totL ln := by
  unfold totLs
  simp
theorem totL_snoc (ln : List KT) (t : KT) : totL (ln ++ [t]) = totL ln + t.2.length := by
  unfold totL
  simp
theorem endT_kt {D : List Tok} {Ls : List (List KT)} {cur : List KT} (h : kt D = flat Ls ++ cur) (hL : goodLs Ls) (hc : goodL cur) (line col : Nat) :
    ∃ Ls', kt (endT D line col) = flat Ls' ∧ goodLs Ls' ∧ totLs Ls' = totLs Ls + totL cur := by
  rcases List.eq_nil_or_concat cur with rfl | ⟨c0, u, rfl⟩
  · refine ⟨Ls, ?_, hL, by simp [totL]⟩
    rw [List.append_nil] at h
    rcases List.eq_nil_or_concat Ls with rfl | ⟨L0, ln, rfl⟩
    · have hD : D = [] := by
        unfold kt flat at h
        simpa using h
      subst hD
      rfl
    · rw [List.concat_eq_append] at h ⊢
      have h2 := h
      rw [flat_snoc, ← List.append_assoc] at h2
      obtain ⟨t, ht1, ht2⟩ := kt_last h2
      unfold endT
      rw [ht1]
      simp only
      rw [if_pos ht2, h]
  · rw [List.concat_eq_append] at h hc ⊢
    have h2 := h
    rw [← List.append_assoc] at h2
    obtain ⟨t, ht1, ht2⟩ := kt_last h2
    have hu : u.1 ≠ 1 := goodT_kind (hc u (by simp))
    refine ⟨Ls ++ [c0 ++ [u]], ?_, ?_, totLs_snoc _ _⟩
    · unfold endT
      rw [ht1]
      simp only
      rw [if_neg (by rw [ht2]; exact hu), kt_snoc, h, flat_snoc, List.append_assoc]
    · intro ln hln
      rcases List.mem_append.1 hln with e | e
      · exact hL ln e
      · rw [List.mem_singleton.1 e]
        exact ⟨by simp, hc⟩
theorem cend_le' {l : List UInt8} : ∀ (m j : Nat), l.length - j ≤ m → j ≤ l.length → cend l j ≤ l.length
  | m, j, hm, hj => by
    by_cases hk : kl l j = 1 ∨ kl l j = 0
    · rw [cend_end hk]; exact hj
    · have h1 : kl l j ≠ 1 := fun e => hk (.inl e)
      have h0 : kl l j ≠ 0 := fun e => hk (.inr e)
      have hlt : j < l.length := Classical.byContradiction (fun e => h0 (kl0.2 e))
      have hp := dc_pos l j
      have hle := dc_le l j hlt
      match m, hm with
      | 0, hm => omega
      | m + 1, hm => rw [cend_on h1 h0]; exact cend_le' m _ (by omega) hle
theorem run_ls (l : List UInt8) : ∀ (f j line hb : Nat) (D : List Tok) (Ls : List (List KT)) (cur : List KT), l.length - j < f → j ≤ l.length → kt D = flat Ls ++ cur → goodLs Ls → goodL cur → (runM f l j line hb D).2.1 = 0 → ∃ Ls', kt (runM f l j line hb D).1 = flat Ls' ∧ goodLs Ls' ∧ totLs Ls' ≤ totLs Ls + totL cur + (l.length - j)
  | 0, j, line, hb, D, Ls, cur, hf, _, _, _, _, _ => by omega
  | f + 1, j, line, hb, D, Ls, cur, hf, hj, hD, hL, hc, h0 => by
    have hend : ∀ e, j ≤ e → e ≤ l.length → (lendM f l e line hb D).2.1 = 0 → ∃ Ls', kt (lendM f l e line hb D).1 = flat Ls' ∧ goodLs Ls' ∧ totLs Ls' ≤ totLs Ls + totL cur + (l.length - j) := fun e he hel h => by
      obtain ⟨L2, e1, e2, e3⟩ := endT_kt hD hL hc line (ci l e - ci l hb + 1)
      unfold lendM at h ⊢
      by_cases hz : kl l e = 0
      · rw [if_pos hz]
        exact ⟨L2, e1, e2, by omega⟩
      · have hlt : e < l.length := Classical.byContradiction (fun h => hz (kl0.2 h))
        rw [if_neg hz] at h ⊢
        obtain ⟨L3, g1, g2, g3⟩ := run_ls l f (e + 1) (line + 1) (e + 1) _ L2 [] (by omega) hlt (by rw [e1, List.append_nil]) e2 (fun t ht => by cases ht) h
        refine ⟨L3, g1, g2, ?_⟩
        have : totL [] = 0 := rfl
        omega
    by_cases h10 : kl l j = 1 ∨ kl l j = 0
    · rw [runM_end h10] at h0 ⊢
      exact hend j (Nat.le_refl _) hj h0
    have h1 : kl l j ≠ 1 := fun e => h10 (.inl e)
    have hz : kl l j ≠ 0 := fun e => h10 (.inr e)
    have hlt : j < l.length := Classical.byContradiction (fun e => hz (kl0.2 e))
    by_cases h2 : kl l j = 2
    · rw [runM_blank h2] at h0 ⊢
      obtain ⟨L3, g1, g2, g3⟩ := run_ls l f (j + 1) line hb D Ls cur (by omega) hlt hD hL hc h0
      exact ⟨L3, g1, g2, by omega⟩
    by_cases h8 : kl l j = 8
    · rw [runM_hash h8] at h0 ⊢
      have c1 := cend_ge (l := l) _ (j + 1) (Nat.le_refl _)
      have c2 := cend_le' (l := l) _ (j + 1) (Nat.le_refl _) hlt
      exact hend _ (by omega) c2 h0
    by_cases he : tokE l j = 0
    · obtain ⟨a1, a2⟩ := tok_adv hlt h1 he
      have hsm := tok_same he
      rw [runM_tok h2 h8 h1 hz he] at h0 ⊢
      have hn : tokJ l j = j + (tokJ l j - j) := by omega
      have hg := tok_alone (l := l) (j := j) (n := tokJ l j - j) (K := (tokC l j).1) (by omega) (by omega) h1 h2 h8 (by rw [← hn, hsm]) he
      rw [← hn] at hg
      obtain ⟨L3, g1, g2, g3⟩ := run_ls l f (tokJ l j) line hb _ Ls (cur ++ [((tokC l j).1, subL l j (tokC l j).2)]) (by omega) a2 (by rw [kt_snoc, hD, List.append_assoc]) hL (fun t ht => by
        rcases List.mem_append.1 ht with e | e
        · exact hc t e
        · rw [List.mem_singleton.1 e, ← hsm]
          exact hg) h0
      refine ⟨L3, g1, g2, ?_⟩
      rw [totL_snoc] at g3
      simp only at g3
      rw [← hsm, sub_len a2] at g3
      omega
    · rw [runM_err h2 h8 h1 hz he] at h0
      exact absurd h0 he
theorem scan_ls (l : List UInt8) (h : l.length ≤ 16384) (he : (scanM l).2.1 = 0) : ∃ Ls, kt (scanM l).1 = flat Ls ∧ goodLs Ls ∧ totLs Ls ≤ l.length := by
  unfold scanM at he ⊢
  rw [if_neg (by omega)] at he ⊢
  obtain ⟨Ls, g1, g2, g3⟩ := run_ls l (l.length + 1) 0 1 0 [] [] [] (by omega) (Nat.zero_le _) rfl (fun ln h => by cases h) (fun t h => by cases h) he
  exact ⟨Ls, g1, g2, by simpa [totLs, totL] using g3⟩
theorem own_at {w : World} {B e sz n c : Nat} {o : Option Addr} {xs : List Value} (h : w.ownsRow B e sz (.slice o n c) n xs) (hn : 0 < n) : ∃ g, o = some ⟨g, 0, none⟩ := by
  obtain ⟨g, cap, e⟩ := own_form h hn
  cases e
  exact ⟨g, rfl⟩
abbrev IFld := List UInt8 × Int
def fcel (f : IFld) : List Value := [.string ⟨f.1.toArray⟩, .int .i64 f.2]
def fagg (f : IFld) : Value := .agg (fcel f).toArray
def IRF (w : World) (o : Option Addr) (L : List IFld) : Prop := ∀ W : World, Below w.heap.size w W → ∀ (k : Nat) (f : IFld), L[k]? = some f → ∃ g o0, o = some ⟨g, o0, none⟩ ∧ W.cell? ⟨g, o0 + k * 2, none⟩ = some (.string ⟨f.1.toArray⟩) ∧ W.cell? ⟨g, o0 + k * 2 + 1, none⟩ = some (.int .i64 f.2)
theorem IRF.later {w w' : World} {o : Option Addr} {L : List IFld} (h : IRF w o L) (hb : Below w.heap.size w w') : IRF w' o L := fun W hW => h W (bel0 hb hW)
theorem IRF.take {w : World} {o : Option Addr} {L : List IFld} (h : IRF w o L) (n : Nat) : IRF w o (L.take n) := fun W hW k f hf => by
  rw [List.getElem?_take] at hf
  split at hf
  · exact h W hW k f hf
  · cases hf
def nameB (x : List UInt8) : Bool := decide (0 < x.length) && (decide (x.length ≤ 24) && (letX (bt x 0) && x.all (fun c => letX c.toNat || digX c.toNat)))
theorem inW_bt {x : List UInt8} {j : Nat} (hj : j < x.length) : inW x j = (letX (bt x j) || digX (bt x j)) := by
  unfold inW
  rw [kl_bt hj, letX_cls (bt_lt x j), digX_cls (bt_lt x j)]
theorem wrun_all {x : List UInt8} : ∀ (m j : Nat), x.length - j ≤ m → j ≤ x.length → (∀ k, j ≤ k → k < x.length → inW x k = true) → wrun x j = x.length
  | m, j, hm, hj, h => by
    rcases Nat.lt_or_ge j x.length with hlt | hge
    · match m, hm with
      | 0, hm => omega
      | m + 1, hm =>
        rw [wrun_yes (h j (Nat.le_refl _) hlt)]
        exact wrun_all m (j + 1) (by omega) hlt (fun k h1 h2 => h k (by omega) h2)
    · have : inW x j = false := by
        unfold inW
        rw [kl0.2 (by omega)]
        rfl
      rw [wrun_no this]
      omega
theorem name_good {x : List UInt8} (h : nameB x = true) : goodT 2 x := by
  unfold nameB at h
  simp only [Bool.and_eq_true, decide_eq_true_eq] at h
  obtain ⟨h0, h24, hl, ha⟩ := h
  have hw : ∀ k, 0 ≤ k → k < x.length → inW x k = true := fun k _ hk => by
    rw [inW_bt hk]
    have := List.all_eq_true.1 ha x[k] (List.getElem_mem hk)
    rw [bt_of (List.getElem?_eq_getElem hk)]
    exact this
  have h3 : kl x 0 = 3 := by
    rw [letX_cls (bt_lt x 0), decide_eq_true_eq] at hl
    rw [kl_bt h0]
    exact hl
  have hr := wrun_all _ 0 (Nat.le_refl _) (Nat.zero_le _) hw
  have hd : dotA x x.length 3 = false := by
    unfold dotA
    rw [kl0.2 (show ¬ x.length + 1 < x.length by omega)]
    simp
  obtain ⟨b1, b2, b3, b4, b5⟩ := tok_name h0 h3 hr hd
  exact ⟨h0, by omega, by omega, by omega, b5, by rw [b3, if_neg (by omega)]⟩
theorem good_name {x : List UInt8} (h : goodT 2 x) : nameB x = true := by
  obtain ⟨h0, h1, h2, h8, hC, hE⟩ := h
  have h3 : kl x 0 = 3 := Classical.byContradiction (fun h3 => by
    unfold tokC endF at hC
    rw [if_neg h3] at hC
    by_cases h4 : kl x 0 = 4
    · rw [if_pos h4, if_neg (by decide), if_neg (by decide), if_pos rfl] at hC
      simp at hC
    · rw [if_neg h4] at hC
      by_cases h6 : kl x 0 = 6
      · rw [if_pos h6, if_neg (by decide), if_neg (by decide), if_neg (by decide), if_pos rfl] at hC
        simp at hC
      · rw [if_neg h6] at hC
        by_cases h7 : kl x 0 = 7
        · rw [if_pos h7, if_neg (by decide), if_neg (by decide), if_neg (by decide), if_neg (by decide)] at hC
          simp at hC
        · rw [if_neg h7] at hC
          simp at hC)
  cases hd : dotA x (wrun x 0) 3 with
  | true =>
    have := (tok_port h0 h3 rfl hd rfl).2.2.2.2.2.2
    rw [hC] at this
    simp at this
  | false =>
    obtain ⟨b1, b2, b3, b4, b5⟩ := tok_name h0 h3 rfl hd
    rw [hC] at b5
    have e := (Prod.mk.inj b5).2
    have h24 : ¬ 24 < wrun x 0 - 0 := fun hh => by rw [hE, if_pos hh] at b3; cases b3
    have hl : letX (bt x 0) = true := by
      rw [letX_cls (bt_lt x 0), decide_eq_true_eq, ← kl_bt h0]
      exact h3
    have ha : x.all (fun c => letX c.toNat || digX c.toNat) = true := by
      rw [List.all_eq_true]
      intro c hc
      obtain ⟨k, hk, rfl⟩ := List.getElem_of_mem hc
      have := wrun_in (l := x) _ 0 (Nat.le_refl _) k (Nat.zero_le _) (by omega)
      rw [inW_bt hk, bt_of (List.getElem?_eq_getElem hk)] at this
      exact this
    unfold nameB
    rw [hl, ha, decide_eq_true h0, decide_eq_true (by omega)]
    rfl
def headN (D : List Tok) (x : List UInt8) : Bool := match D with
  | [] => false
  | t :: _ => t.1 == 2 && t.2.1 == x
theorem head_name (x : List UInt8) : headN (scanM x).1 x = nameB x := by
  rw [Bool.eq_iff_iff]
  constructor
  · intro h
    by_cases hl : x.length ≤ 16384
    · cases hD : (scanM x).1 with
      | nil => rw [hD] at h; cases h
      | cons a D =>
        rw [hD] at h
        unfold headN at h
        rw [Bool.and_eq_true, beq_iff_eq, beq_iff_eq] at h
        have he : (scanM x).2.1 = 0 := Classical.byContradiction (fun hne => by
          have h0 : (scanM x).1 = [] := by
            have := (run_done x (x.length + 1) 0 1 0 [] (by omega)).2
            unfold scanM at hne ⊢
            rw [if_neg (by omega)] at hne ⊢
            exact this hne
          rw [h0] at hD
          cases hD)
        obtain ⟨Ls, g1, g2, g3⟩ := scan_ls x hl he
        rw [hD] at g1
        have g4 : flat Ls = (a.1, a.2.1) :: kt D := g1.symm
        cases Ls with
        | nil => cases g4
        | cons ln Ls =>
          obtain ⟨hne, hgl⟩ := g2 ln (by simp)
          cases ln with
          | nil => exact absurd rfl hne
          | cons u ln =>
            have e1 : u = (a.1, a.2.1) := List.head_eq_of_cons_eq g4
            have hg := hgl u (by simp)
            rw [e1, h.1, h.2] at hg
            exact good_name hg
    · have e : scanM x = ([], 2, 0, 0) := by unfold scanM; rw [if_pos (by omega)]
      rw [e] at h
      cases h
  · intro h
    have hg := name_good h
    have h24 : x.length ≤ 24 := by
      unfold nameB at h
      simp only [Bool.and_eq_true, decide_eq_true_eq] at h
      exact h.2.1
    obtain ⟨c, hc⟩ := scan_one hg (by omega)
    rw [hc]
    simp [headN]
def nmB (x : List UInt8) : Bool := nameB x && (!(x == [97, 110, 121]) && !(x == [110, 111, 110, 101]))
set_option maxRecDepth 100000 in
set_option maxHeartbeats 2000000 in
theorem isName_any (x : List UInt8) (w : World) (hl : x.length ≤ 281474976710656) (hv1 : SH w) (hv4 : SG w) (hv5 : VW w) : Calls Tryz.prog 74 #[.string ⟨x.toArray⟩] w fun e w' => e = .returned (.bool (nmB x)) ∧ Below w.heap.size w w' := by
  have H1 := scan_any x w hl hv1 hv4 (FOK_of hv5)
  unfold scR at H1
  have hr0 : nmB x = (headN (scanM x).1 x && (!(x == [97, 110, 121]) && !(x == [110, 111, 110, 101]))) := by unfold nmB; rw [head_name]
  obtain ⟨r, hr⟩ : ∃ r, scanM x = r := ⟨_, rfl⟩
  rw [hr] at H1 hr0
  obtain ⟨D, e0, ln, cl⟩ := r
  simp only at H1 hr0
  obtain ⟨q, hq⟩ : ∃ q, nmB x = q := ⟨_, rfl⟩
  rw [hq] at hr0 ⊢
  clear hr hq hv1 hv4 hv5
  go_enter Tryz.func74, Tryz.ntmps74
  go_wp2_with fail
  refine H1.mono ?_
  rintro e W1 ⟨v1, rfl, hown, hb1⟩
  clear H1
  cases D with
  | nil =>
    obtain rfl : q = false := hr0
    obtain ⟨p, c, rfl⟩ := shapeP hown
    clear hown
    go_wp2_with fail
    go_ret
    exact ⟨rfl, hb1⟩
  | cons t0 D =>
    obtain ⟨g, cp, rfl⟩ := own_form hown (by simp)
    obtain ⟨p0, p1, -, -⟩ := tok_cell hown (k := 0) (t := t0) rfl
    simp only [Nat.zero_mul, Nat.zero_add] at p0 p1
    clear hown
    obtain ⟨k0, x0, l0, c0⟩ := t0
    simp only at p0 p1
    have i1 : (0 : Int) < ((((k0, x0, l0, c0) :: D).length : Nat) : Int) := by simp only [List.length_cons]; omega
    have i2 : (0 : Int) < (D.length : Int) + 1 := by omega
    by_cases ek : k0 = 2
    · have y1 : ((k0 : Int) == 2) = true := beq_iff_eq.2 (by omega)
      by_cases ex : x0 = x
      · have hq2 : q = (!(x == [97, 110, 121]) && !(x == [110, 111, 110, 101])) := by
          rw [hr0]
          unfold headN
          simp [ek, ex]
        subst ex ek
        have y2 : (x0 == x0) = true := beq_self_eq_true x0
        by_cases ea : x0 = [97, 110, 121]
        · have z1 : (x0 == [97, 110, 121]) = true := beq_iff_eq.2 ea
          have z2 : (x0 != [97, 110, 121]) = false := by rw [bne, z1]; rfl
          obtain rfl : q = false := by rw [hq2, z1]; rfl
          clear hr0 hq2 ea
          go_wp2_with fail
          go_ret
          exact ⟨rfl, hb1⟩
        · have z1 : (x0 == [97, 110, 121]) = false := beq_eq_false_iff_ne.2 ea
          have z2 : (x0 != [97, 110, 121]) = true := by rw [bne, z1]; rfl
          by_cases en : x0 = [110, 111, 110, 101]
          · have z3 : (x0 == [110, 111, 110, 101]) = true := beq_iff_eq.2 en
            have z4 : (x0 != [110, 111, 110, 101]) = false := by rw [bne, z3]; rfl
            obtain rfl : q = false := by rw [hq2, z1, z3]; rfl
            clear hr0 hq2 ea en
            go_wp2_with fail
            go_ret
            exact ⟨rfl, hb1⟩
          · have z3 : (x0 == [110, 111, 110, 101]) = false := beq_eq_false_iff_ne.2 en
            have z4 : (x0 != [110, 111, 110, 101]) = true := by rw [bne, z3]; rfl
            obtain rfl : q = true := by rw [hq2, z1, z3]; rfl
            clear hr0 hq2 ea en
            go_wp2_with fail
            go_ret
            exact ⟨rfl, hb1⟩
      · have y2 : (x0 == x) = false := beq_eq_false_iff_ne.2 ex
        obtain rfl : q = false := by
          rw [hr0]
          unfold headN
          simp [ex]
        subst ek
        clear hr0
        go_wp2_with fail
        go_ret
        exact ⟨rfl, hb1⟩
    · have y1 : ((k0 : Int) == 2) = false := beq_eq_false_iff_ne.2 (by omega)
      obtain rfl : q = false := by
        rw [hr0]
        unfold headN
        simp [ek]
      clear hr0
      go_wp2_with fail
      go_ret
      exact ⟨rfl, hb1⟩
def sizB (f : IFld) : Bool := decide (1 ≤ f.2) && decide (f.2 ≤ 32)
set_option maxRecDepth 100000 in
theorem isSized_any (f : IFld) (w : World) : Calls Tryz.prog 73 #[fagg f] w fun e w' => e = .returned (.bool (sizB f)) ∧ Below w.heap.size w w' := by
  obtain ⟨x, b⟩ := f
  show Calls Tryz.prog 73 #[.agg #[.string ⟨x.toArray⟩, .int .i64 b]] w _
  by_cases h1 : 1 ≤ b
  · by_cases h2 : b ≤ 32
    · have hr : Hid (sizB (x, b) = true) := by unfold Hid sizB; simp [h1, h2]
      go_enter Tryz.func73, Tryz.ntmps73
      go_wp2_with fail
      go_ret
      exact ⟨by rw [hr.out]; rfl, (Below.refl _ _).alloc (Nat.le_refl _) _⟩
    · have hr : Hid (sizB (x, b) = false) := by unfold Hid sizB; simp [h2]
      go_enter Tryz.func73, Tryz.ntmps73
      go_wp2_with fail
      go_ret
      exact ⟨by rw [hr.out]; rfl, (Below.refl _ _).alloc (Nat.le_refl _) _⟩
  · have hr : Hid (sizB (x, b) = false) := by unfold Hid sizB; simp [h1]
    go_enter Tryz.func73, Tryz.ntmps73
    go_wp2_with fail
    go_ret
    exact ⟨by rw [hr.out]; rfl, (Below.refl _ _).alloc (Nat.le_refl _) _⟩
def idxG : Nat → List IFld → List UInt8 → Int
  | _, [], _ => -1
  | k, f :: r, x => if f.1 = x then (k : Int) else idxG (k + 1) r x
def idxF (L : List IFld) (x : List UInt8) : Int := idxG 0 L x
theorem idxG_step {L : List IFld} {k : Nat} {f : IFld} (hf : L[k]? = some f) (x : List UInt8) : idxG k (L.drop k) x = if f.1 = x then (k : Int) else idxG (k + 1) (L.drop (k + 1)) x := by
  obtain ⟨hk, e⟩ := List.getElem?_eq_some_iff.1 hf
  rw [List.drop_eq_getElem_cons hk, e]
  rfl
theorem idxG_ge : ∀ (L : List IFld) (k : Nat) (x : List UInt8), idxG k L x = -1 ∨ ∃ j f, idxG k L x = ((k + j : Nat) : Int) ∧ L[j]? = some f ∧ f.1 = x
  | [], k, x => .inl rfl
  | f :: r, k, x => by
    rw [idxG]
    by_cases h : f.1 = x
    · rw [if_pos h]
      exact .inr ⟨0, f, rfl, rfl, h⟩
    · rw [if_neg h]
      rcases idxG_ge r (k + 1) x with e | ⟨j, g, e, h1, h2⟩
      · exact .inl e
      · exact .inr ⟨j + 1, g, by rw [e]; omega, h1, h2⟩
theorem idxF_ge {L : List IFld} {x : List UInt8} : 0 ≤ idxF L x ↔ ∃ f ∈ L, f.1 = x := by
  constructor
  · intro h
    rcases idxG_ge L 0 x with e | ⟨j, f, e, h1, h2⟩
    · unfold idxF at h
      rw [e] at h
      omega
    · exact ⟨f, List.mem_of_getElem? h1, h2⟩
  · rintro ⟨f, hf, hx⟩
    rcases idxG_ge L 0 x with e | ⟨j, g, e, h1, h2⟩
    · exfalso
      obtain ⟨i, hi⟩ := List.getElem?_of_mem hf
      clear hf
      have : ∀ (L : List IFld) (k i : Nat), L[i]? = some f → idxG k L x ≠ -1 := by
        intro L
        induction L with
        | nil => intro k i hi; simp at hi
        | cons g r ih =>
          intro k i hi
          rw [idxG]
          by_cases hg : g.1 = x
          · rw [if_pos hg]; omega
          · rw [if_neg hg]
            cases i with
            | zero =>
              simp at hi
              rw [hi] at hg
              exact absurd hx hg
            | succ i => exact ih (k + 1) i (by simpa using hi)
      exact this L 0 i hi e
    · unfold idxF
      rw [e]
      omega
set_option maxRecDepth 100000 in
theorem find1_any (f : IFld) (x : List UInt8) (b : Nat) (w : World) (hb : w.heap[b]? = some (.cells #[.string ⟨x.toArray⟩] 9)) : Calls Tryz.prog 76 #[fagg f, .pointer (some ⟨b, 0, none⟩)] w fun e w' => e = .returned (.bool (f.1 == x)) ∧ Below w.heap.size w w' := by
  obtain ⟨y, n⟩ := f
  show Calls Tryz.prog 76 #[.agg #[.string ⟨y.toArray⟩, .int .i64 n], .pointer (some ⟨b, 0, none⟩)] w _
  have c0 : (w.alloc (Obj.cells #[.string ⟨y.toArray⟩, .int .i64 n] 51)).cell? ⟨b, 0, none⟩ = some (.string ⟨x.toArray⟩) := cell_of_row _ _ 0 _ _ _ (allocblk hb _)
  have n0 : (w.alloc (Obj.cells #[.string ⟨y.toArray⟩, .int .i64 n] 51)).cell? ⟨w.heap.size, 0, none⟩ = some (.string ⟨y.toArray⟩) := cell_of_row _ _ 0 _ _ _ (alloc_get _ _)
  obtain ⟨V, hV⟩ : ∃ V : World, w.alloc (Obj.cells #[.string ⟨y.toArray⟩, .int .i64 n] 51) = V := ⟨_, rfl⟩
  have vB : Below w.heap.size w V := by rw [← hV]; exact (Below.refl _ _).alloc (Nat.le_refl _) _
  rw [hV] at c0 n0
  clear hb
  go_enter Tryz.func76, Tryz.ntmps76
  go_wp2_with fail
  go_ret
  exact ⟨rfl, vB⟩
set_option maxRecDepth 100000 in
set_option maxHeartbeats 2000000 in
theorem idxf_any (L : List IFld) (o : Option Addr) (c : Nat) (x : List UInt8) (b : Nat) (w : World) (hL : L.length ≤ 281474976710656) (hr : IRF w o L) (hb : w.heap[b]? = some (.cells #[.string ⟨x.toArray⟩] 9)) :
    Calls Tryz.prog 75 #[.slice o L.length c, .func (.func 76) #[] #[.pointer (some ⟨b, 0, none⟩)]] w fun e w' => e = .returned (.int .i64 (idxF L x)) ∧ Below w.heap.size w w' := by
  have HR : Hid (IRF w o L) := hr
  have HB : Hid (w.heap[b]? = some (.cells #[.string ⟨x.toArray⟩] 9)) := hb
  obtain ⟨q, hq⟩ : ∃ q, idxF L x = q := ⟨_, rfl⟩
  rw [hq]
  have HQ : Hid (idxG 0 (L.drop 0) x = q) := hq
  clear hr hb hq
  go_enter Tryz.func75, Tryz.ntmps75
  go_wp2_with fail
  go_loopw [8] (fun vk wr => ∃ k : Nat, vk = .int .i64 k ∧ k ≤ L.length ∧ Hid (idxG k (L.drop k) x = q) ∧ Below w.heap.size w wr) (fun vk _ => L.length - (intOf vk).toNat)
  case atStart => exact ⟨0, rfl, Nat.zero_le _, HQ, Below.refl _ _⟩
  case round =>
    clear HQ
    obtain ⟨k, rfl, hk, hidx, hB⟩ := hrel
    by_cases hlt : k < L.length
    · have j1 : (k : Int) < (L.length : Int) := by omega
      have j0 : (0 : Int) ≤ (k : Int) := by omega
      obtain ⟨f, hf⟩ : ∃ f, L[k]? = some f := ⟨_, List.getElem?_eq_getElem hlt⟩
      obtain ⟨g, o0, rfl, p0, p1⟩ := HR.out wr hB k f hf
      have hx2 := hidx.out
      rw [idxG_step hf] at hx2
      have H1 : Calls Tryz.prog 76 #[fagg f, .pointer (some ⟨b, 0, none⟩)] wr fun e w' => e = .returned (.bool (f.1 == x)) ∧ Below wr.heap.size wr w' := find1_any f x b wr (keepblk hB HB.out)
      obtain ⟨y, n⟩ := f
      simp only at p0 p1 hx2 H1
      clear hf hidx
      by_cases hy : y = x
      · rw [if_pos hy] at hx2
        rw [beq_iff_eq.2 hy] at H1
        have HX2 : Hid ((k : Int) = q) := hx2
        clear hx2 hy
        go_wp2_with fail
        refine H1.mono ?_
        rintro e W1 ⟨rfl, hb1⟩
        go_wp2_with fail
        go_ret
        exact ⟨by rw [← HX2.out]; rfl, bel0 hB hb1⟩
      · rw [if_neg hy] at hx2
        rw [beq_eq_false_iff_ne.2 hy] at H1
        have HX : Hid (idxG (k + 1) (L.drop (k + 1)) x = q) := hx2
        clear hx2
        go_wp2_with fail
        refine H1.mono ?_
        rintro e W1 ⟨rfl, hb1⟩
        go_wp2_with fail
        go_roundw
        case rel => exact ⟨k + 1, by go_num, by omega, HX, bel0 hB hb1⟩
        case measure => simp [intOf]; omega
    · have j1 : ¬ (k : Int) < (L.length : Int) := by omega
      have HX2 : Hid (-1 = q) := by
        unfold Hid
        rw [← hidx.out, List.drop_eq_nil_of_le (by omega)]
        rfl
      clear hidx
      go_wp2_with fail
      go_ret
      exact ⟨by rw [← HX2.out]; rfl, hB⟩
set_option maxRecDepth 100000 in
theorem find_any (L : List IFld) (o : Option Addr) (c : Nat) (x : List UInt8) (w : World) (hL : L.length ≤ 281474976710656) (hr : IRF w o L) :
    Calls Tryz.prog 39 #[.slice o L.length c, .string ⟨x.toArray⟩] w fun e w' => e = .returned (.int .i64 (idxF L x)) ∧ Below w.heap.size w w' := by
  have vB : Below w.heap.size w (w.alloc (Obj.cells #[.string ⟨x.toArray⟩] 9)) := (Below.refl _ _).alloc (Nat.le_refl _) _
  have H1 := idxf_any L o c x w.heap.size (w.alloc (Obj.cells #[.string ⟨x.toArray⟩] 9)) hL (hr.later vB) (alloc_get _ _)
  clear hr
  go_enter Tryz.func39, Tryz.ntmps39
  go_wp2_with fail
  refine H1.mono ?_
  rintro e W1 ⟨rfl, hb1⟩
  go_wp2_with fail
  go_ret
  exact ⟨rfl, bel0 vB hb1⟩
def sumB : List IFld → Int
  | [] => 0
  | f :: r => f.2 + sumB r
theorem sumB_app (a b : List IFld) : sumB (a ++ b) = sumB a + sumB b := by
  induction a with
  | nil => simp [sumB]
  | cons f a ih => rw [List.cons_append, sumB, sumB, ih]; omega
theorem sumB_take {L : List IFld} {k : Nat} {f : IFld} (h : L[k]? = some f) : sumB (L.take (k + 1)) = sumB (L.take k) + f.2 := by
  rw [List.take_add_one, h, sumB_app]
  simp [sumB]
theorem sumB_bound : ∀ L : List IFld, (∀ f ∈ L, 0 ≤ f.2 ∧ f.2 ≤ 32) → 0 ≤ sumB L ∧ sumB L ≤ 32 * (L.length : Int)
  | [], _ => ⟨Int.le_refl _, by simp [sumB]⟩
  | f :: r, h => by
    have h1 := h f (by simp)
    have h2 := sumB_bound r (fun g hg => h g (by simp [hg]))
    rw [sumB, List.length_cons]
    omega
set_option maxRecDepth 100000 in
set_option maxHeartbeats 2000000 in
theorem widthOf_any (L : List IFld) (o : Option Addr) (c : Nat) (w : World) (hL : L.length ≤ 4096) (hf : ∀ f ∈ L, 0 ≤ f.2 ∧ f.2 ≤ 32) (hr : IRF w o L) :
    Calls Tryz.prog 52 #[.slice o L.length c] w fun e w' => e = .returned (.int .i64 (sumB L)) ∧ Below w.heap.size w w' := by
  have HR : Hid (IRF w o L) := hr
  have HF : Hid (∀ f ∈ L, 0 ≤ f.2 ∧ f.2 ≤ 32) := hf
  clear hr hf
  go_enter Tryz.func52, Tryz.ntmps52
  go_wp2_with fail
  go_loopw [3, 8] (fun vs vk wr => ∃ k : Nat, vk = .int .i64 k ∧ k ≤ L.length ∧ vs = .int .i64 (sumB (L.take k)) ∧ Below w.heap.size w wr) (fun _ vk _ => L.length - (intOf vk).toNat)
  case atStart => exact ⟨0, rfl, Nat.zero_le _, rfl, Below.refl _ _⟩
  case round =>
    obtain ⟨k, rfl, hk, rfl, hB⟩ := hrel
    by_cases hlt : k < L.length
    · have j1 : (k : Int) < (L.length : Int) := by omega
      have j0 : (0 : Int) ≤ (k : Int) := by omega
      obtain ⟨f, hf⟩ : ∃ f, L[k]? = some f := ⟨_, List.getElem?_eq_getElem hlt⟩
      obtain ⟨g, o0, rfl, p0, p1⟩ := HR.out wr hB k f hf
      have hs := sumB_take hf
      have hbd := sumB_bound (L.take k) (fun g hg => HF.out g (List.mem_of_mem_take hg))
      have hfb := HF.out f (List.mem_of_getElem? hf)
      have hlen : (L.take k).length = k := by rw [List.length_take]; omega
      rw [hlen] at hbd
      obtain ⟨y, n⟩ := f
      simp only at p0 p1 hs hfb
      obtain ⟨s, hs0⟩ : ∃ s, sumB (L.take k) = s := ⟨_, rfl⟩
      rw [hs0] at hs hbd
      have HS : Hid (sumB (L.take (k + 1)) = s + n) := hs
      rw [hs0]
      clear hf hs hlen hs0
      have e1 : IntKind.i64.wrap (s + n) = s + n := by rw [IntKind.wrap_i64]; omega
      have hBs := hB.size
      go_wp2_with fail
      go_roundw
      case rel => exact ⟨k + 1, by go_num, by omega, by rw [HS.out], hB.alloc hBs _⟩
      case measure => simp [intOf]; omega
    · have j1 : ¬ (k : Int) < (L.length : Int) := by omega
      rw [List.take_of_length_le (by omega)]
      go_wp2_with fail
      go_ret
      exact ⟨rfl, hB⟩
end Go.Proofs.YtepokgainceidaaGreatDoor
