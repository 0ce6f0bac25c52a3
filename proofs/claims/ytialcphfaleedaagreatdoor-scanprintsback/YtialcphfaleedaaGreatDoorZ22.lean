import Derived.Test.YtialcphfaleedaaGreatDoorZ21
namespace Go.Proofs.YtialcphfaleedaaGreatDoor
open Go.RowKit Go.Shelf
/-- a byte at which a character begins -/
def RE (l : List UInt8) (j : Nat) : Prop := ∃ k, AT l k j
theorem RE.zero (l : List UInt8) : RE l 0 := ⟨0, rfl⟩
theorem RE.asc {l : List UInt8} {j : Nat} (h : RE l j) (hj : j < l.length) (hb : bt l j < 128) : RE l (j + 1) := by
  obtain ⟨k, h⟩ := h
  exact ⟨k + 1, h.asc hj hb⟩
theorem RE.next {l : List UInt8} {j : Nat} (h : RE l j) (hj : j < l.length) : RE l (j + (dc l j).2) := by
  obtain ⟨k, h⟩ := h
  exact ⟨k + 1, h.next hj⟩
theorem RE.wrun {l : List UInt8} : ∀ (m j : Nat), l.length - j ≤ m → RE l j → RE l (wrun l j)
  | m, j, hm, h => by
    cases hw : inW l j with
    | false => rw [wrun_no hw]; exact h
    | true =>
      obtain ⟨h1, h2⟩ := inW_asc hw
      match m, hm with
      | 0, hm => omega
      | m + 1, hm =>
        rw [wrun_yes hw]
        exact RE.wrun m (j + 1) (by omega) (h.asc h1 h2)
theorem RE.nrun {l : List UInt8} : ∀ (m j : Nat), l.length - j ≤ m → RE l j → RE l (nrun l j)
  | m, j, hm, h => by
    cases hw : (inW l j || dotA l j 4) with
    | false => rw [nrun_no hw]; exact h
    | true =>
      have ⟨h1, h2⟩ : j < l.length ∧ bt l j < 128 := by
        rcases Bool.or_eq_true_iff.1 hw with h | h
        · exact inW_asc h
        · exact dotA_asc h
      match m, hm with
      | 0, hm => omega
      | m + 1, hm =>
        rw [nrun_yes hw]
        exact RE.nrun m (j + 1) (by omega) (h.asc h1 h2)
theorem RE.ins {l : List UInt8} : ∀ (m j : Nat) (s : List UInt8), l.length - j ≤ m → j ≤ l.length → RE l j → RE l (insS l j s).2.1 := by
  intro m
  induction m with
  | zero =>
    intro j s h hj hr
    rw [insS, if_neg (by omega)]
    obtain rfl : j = l.length := by omega
    exact hr
  | succ m ih =>
    intro j s h hj hr
    by_cases h1 : j < l.length
    · rw [insS, if_pos h1]
      split
      · rename_i h34
        exact hr.asc h1 (by omega)
      · split
        · rename_i h92
          split
          · exact hr
          · rename_i hne
            have he := (escS_end l j (by omega)).1
            refine ih _ _ (by omega) he ?_
            obtain ⟨k, hk⟩ := hr
            have hd := escS_drop l j h1 h92 (by omega)
            exact ⟨k + (escS l j).1, by
              show (chars l 0).drop _ = _
              rw [← List.drop_drop, show (chars l 0).drop k = chars l j from hk]
              exact hd⟩
        · split
          · exact hr
          · have hp := dc_pos l j
            have := dc_le l j h1
            exact ih _ _ (by omega) this (hr.next h1)
    · rw [insS, if_neg h1]
      obtain rfl : j = l.length := by omega
      exact hr
theorem RE.cend {l : List UInt8} : ∀ (m j : Nat), l.length - j ≤ m → RE l j → RE l (cend l j)
  | m, j, hm, h => by
    by_cases hk : kl l j = 1 ∨ kl l j = 0
    · rw [cend_end hk]; exact h
    · have h1 : kl l j ≠ 1 := fun e => hk (.inl e)
      have h0 : kl l j ≠ 0 := fun e => hk (.inr e)
      have hj : j < l.length := Classical.byContradiction (fun e => h0 (kl0.2 e))
      have hp := dc_pos l j
      match m, hm with
      | 0, hm => omega
      | m + 1, hm =>
        rw [cend_on h1 h0]
        exact RE.cend m _ (by omega) (h.next hj)
theorem RE.tok {l : List UInt8} {j : Nat} (h : RE l j) (hj : j < l.length) : RE l (tokJ l j) := by
  have hq : kl l j = 7 → RE l (quoJ l j) := fun h7 => by
    unfold quoJ
    split
    · exact h
    · obtain ⟨h1, h2⟩ := kl_asc (l := l) (j := j) (by omega) (by omega)
      exact RE.ins _ _ _ (Nat.le_refl _) hj (h.asc h1 h2)
  unfold tokJ
  split
  · rename_i h7
    exact hq h7.1
  · split
    · unfold tokC
      split
      · rename_i k3
        obtain ⟨h1, h2⟩ := kl_asc (l := l) (j := j) (by omega) (by omega)
        have hw := RE.wrun _ _ (Nat.le_refl _) (h.asc h1 h2)
        show RE l (if dotA l (Proofs.YtialcphfaleedaaGreatDoor.wrun l (j + 1)) 3 = true then ((3 : Nat), Proofs.YtialcphfaleedaaGreatDoor.wrun l (Proofs.YtialcphfaleedaaGreatDoor.wrun l (j + 1) + 1)) else (2, Proofs.YtialcphfaleedaaGreatDoor.wrun l (j + 1))).2
        split
        · rename_i hd
          obtain ⟨d1, d2⟩ := dotA_asc hd
          exact RE.wrun _ _ (Nat.le_refl _) (hw.asc d1 d2)
        · exact hw
      · split
        · obtain ⟨h1, h2⟩ := kl_asc (l := l) (j := j) (by omega) (by omega)
          exact RE.nrun _ _ (Nat.le_refl _) (h.asc h1 h2)
        · split
          · obtain ⟨h1, h2⟩ := kl_asc (l := l) (j := j) (by omega) (by omega)
            exact RE.wrun _ _ (Nat.le_refl _) (h.asc h1 h2)
          · split
            · rename_i k7
              exact hq k7
            · obtain ⟨k, hk⟩ := h
              exact ⟨_, (at_sgn hk (Nat.le_of_lt hj)).1⟩
    · exact h
section
variable {P a S : List UInt8}
/-- a character of the line is one of the text -/
theorem charsL (hS : stopL S) : ∀ (i j j' : Nat), j ≤ a.length → j' ≤ a.length → (chars a j).drop i = chars a j' → (chars (P ++ (a ++ S)) (P.length + j)).drop i = chars (P ++ (a ++ S)) (P.length + j')
  | 0, j, j', hj, hj', h => by
    have h2 : chars a j = chars a j' := h
    obtain ⟨r1, e1⟩ := chars_head a j
    obtain ⟨r2, e2⟩ := chars_head a j'
    rw [e1, e2] at h2
    have h3 := congrArg Prod.snd (List.cons.inj h2).1
    simp only at h3
    have : j = j' := by
      split at h3
      · split at h3
        · exact h3
        · omega
      · split at h3
        · omega
        · omega
    rw [this]
    rfl
  | i + 1, j, j', hj, hj', h => by
    by_cases hlt : j < a.length
    · rw [chars_lt hlt, List.drop_succ_cons] at h
      have hl : P.length + j < (P ++ (a ++ S)).length := by simp; omega
      rw [chars_lt hl, List.drop_succ_cons, dcL hS hlt, Nat.add_assoc]
      exact charsL hS i _ j' (dc_le a j hlt) hj' h
    · rw [chars_end hlt] at h
      obtain ⟨r, e⟩ := chars_head a j'
      rw [e] at h
      simp at h
theorem atL (hS : stopL S) {k0 k j : Nat} (h0 : AT (P ++ (a ++ S)) k0 P.length) (hj : j ≤ a.length) (h : AT a k j) : AT (P ++ (a ++ S)) (k0 + k) (P.length + j) := by
  have := charsL (P := P) hS k 0 j (Nat.zero_le _) hj h
  show (chars (P ++ (a ++ S)) 0).drop (k0 + k) = _
  rw [← List.drop_drop, show (chars (P ++ (a ++ S)) 0).drop k0 = chars (P ++ (a ++ S)) P.length from h0]
  exact this
/-- columns are counted in the line -/
theorem ciL (hS : stopL S) (h0 : RE (P ++ (a ++ S)) P.length) {j : Nat} (hj : j ≤ a.length) (h : RE a j) : ci (P ++ (a ++ S)) (P.length + j) - ci (P ++ (a ++ S)) P.length = ci a j - ci a 0 := by
  obtain ⟨k0, h0⟩ := h0
  obtain ⟨k, h⟩ := h
  have h1 := (atL hS h0 hj h).ci
  have h2 := h0.ci
  have h3 := h.ci
  have h4 : ci a 0 = 0 := by unfold ci; omega
  omega
end
end Go.Proofs.YtialcphfaleedaaGreatDoor
namespace Go.Proofs.YtialcphfaleedaaGreatDoor
open Go.RowKit Go.Shelf
/-- a line: no byte ends it -/
def noNL (a : List UInt8) : Prop := ∀ j, j < a.length → kl a j ≠ 1
theorem cend_noNL {a : List UInt8} (hn : noNL a) : ∀ (m j : Nat), a.length - j ≤ m → j ≤ a.length → cend a j = a.length
  | m, j, hm, hj => by
    by_cases hlt : j < a.length
    · have hp := dc_pos a j
      have hl := dc_le a j hlt
      match m, hm with
      | 0, hm => omega
      | m + 1, hm =>
        rw [cend_on (hn j hlt) (fun e => kl0.1 e hlt)]
        exact cend_noNL hn m _ (by omega) hl
    · rw [cend_end (.inr (kl0.2 hlt))]
      omega
section
variable {P a S : List UInt8}
theorem cendL (hS : stopL S) (hn : noNL a) : ∀ (m j : Nat), a.length - j ≤ m → j ≤ a.length → cend (P ++ (a ++ S)) (P.length + j) = P.length + a.length
  | m, j, hm, hj => by
    by_cases hlt : j < a.length
    · have hp := dc_pos a j
      have hl := dc_le a j hlt
      have hk := klL (P := P) hS hlt
      match m, hm with
      | 0, hm => omega
      | m + 1, hm =>
        rw [cend_on (by rw [hk]; exact hn j hlt) (by rw [hk]; exact fun e => kl0.1 e hlt), dcL hS hlt, Nat.add_assoc]
        exact cendL hS hn m _ (by omega) hl
    · obtain rfl : j = a.length := by omega
      exact cend_end (klE (P := P) (a := a) hS).symm
/-- what a line's answer becomes in the text -/
def goesOn (f : Nat) (P a S : List UInt8) (line : Nat) (r : Res) : Res := if r.2.1 ≠ 0 then r else if S = [] then r else runM f (P ++ (a ++ S)) (P.length + a.length + 1) (line + 1) (P.length + a.length + 1) r.1
theorem lend_line (hS : stopL S) (h0 : RE (P ++ (a ++ S)) P.length) (f g line : Nat) (D : List Tok) (hr : RE a a.length) : lendM f (P ++ (a ++ S)) (P.length + a.length) line P.length D = goesOn f P a S line (lendM g a a.length line 0 D) := by
  have hc := ciL (P := P) hS h0 (Nat.le_refl _) hr
  have ha : lendM g a a.length line 0 D = (endT D line (ci a a.length - ci a 0 + 1), 0, 0, 0) := by
    unfold lendM
    rw [if_pos (kl0.2 (Nat.lt_irrefl _))]
  rw [ha]
  have hg : goesOn f P a S line (endT D line (ci a a.length - ci a 0 + 1), 0, 0, 0) = if S = [] then (endT D line (ci a a.length - ci a 0 + 1), 0, 0, 0) else runM f (P ++ (a ++ S)) (P.length + a.length + 1) (line + 1) (P.length + a.length + 1) (endT D line (ci a a.length - ci a 0 + 1)) := by
    unfold goesOn
    exact if_neg (fun h => h rfl)
  rw [hg]
  unfold lendM
  rw [hc]
  rcases hS with rfl | ⟨S', rfl⟩
  · have hk : kl (P ++ (a ++ [])) (P.length + a.length) = 0 := kl0.2 (by simp)
    rw [if_pos hk, if_pos rfl]
  · have hk : ¬ kl (P ++ (a ++ 10 :: S')) (P.length + a.length) = 0 := fun e => kl0.1 e (by simp)
    have hs : ¬ (10 :: S' = []) := by simp
    rw [if_neg hk, if_neg hs]
/-- a line in a text is read as it is read alone -/
theorem line_run (hS : stopL S) (h0 : RE (P ++ (a ++ S)) P.length) (hn : noNL a) : ∀ (f j line : Nat) (D : List Tok), j ≤ a.length → a.length - j < f → RE a j → ∃ f', f ≤ f' + (a.length - j) + 1 ∧ f' < f ∧ runM f (P ++ (a ++ S)) (P.length + j) line P.length D = goesOn f' P a S line (runM f a j line 0 D)
  | 0, j, line, D, hj, hf, hr => by omega
  | f + 1, j, line, D, hj, hf, hr => by
    by_cases hlt : j < a.length
    · have hk := klL (P := P) hS hlt
      have h0' : kl a j ≠ 0 := fun e => kl0.1 e hlt
      have h1 := hn j hlt
      by_cases h2 : kl a j = 2
      · obtain ⟨_, hb⟩ := kl_asc (l := a) (j := j) (by omega) (by omega)
        obtain ⟨f', e1, e2, e3⟩ := line_run hS h0 hn f (j + 1) line D hlt (by omega) (hr.asc hlt hb)
        refine ⟨f', by omega, by omega, ?_⟩
        rw [runM_blank (by rw [hk]; exact h2), runM_blank h2, Nat.add_assoc]
        exact e3
      by_cases h8 : kl a j = 8
      · obtain ⟨_, hb⟩ := kl_asc (l := a) (j := j) (by omega) (by omega)
        have hc := cend_noNL hn _ (j + 1) (Nat.le_refl _) hlt
        have hre : RE a a.length := by
          have := RE.cend _ _ (Nat.le_refl _) (hr.asc hlt hb)
          rwa [hc] at this
        refine ⟨f, by omega, by omega, ?_⟩
        rw [runM_hash (by rw [hk]; exact h8), runM_hash h8, Nat.add_assoc, cendL hS hn _ (j + 1) (Nat.le_refl _) hlt, hc]
        exact lend_line hS h0 f f line D hre
      obtain ⟨tE, tJ⟩ := tokEL (P := P) hS hlt
      have hcj := ciL (P := P) hS h0 hj hr
      by_cases he : tokE a j = 0
      · obtain ⟨a1, a2⟩ := tok_adv hlt h1 he
        obtain ⟨f', e1, e2, e3⟩ := line_run hS h0 hn f (tokJ a j) line (D ++ [((tokC a j).1, subL a j (tokC a j).2, line, ci a j - ci a 0 + 1)]) a2 (by omega) (hr.tok hlt)
        refine ⟨f', by omega, by omega, ?_⟩
        obtain ⟨c1, c2⟩ := tokC_le hlt
        rw [runM_tok (by rw [hk]; exact h2) (by rw [hk]; exact h8) (by rw [hk]; exact h1) (by rw [hk]; exact h0') (by rw [tE]; exact he), runM_tok h2 h8 h1 h0' he, tJ, tokCL hS hlt, hcj]
        simp only [subLL c1 c2]
        exact e3
      · obtain ⟨g1, g2⟩ := tok_ge hlt he
        refine ⟨f, by omega, by omega, ?_⟩
        rw [runM_err (by rw [hk]; exact h2) (by rw [hk]; exact h8) (by rw [hk]; exact h1) (by rw [hk]; exact h0') (by rw [tE]; exact he), runM_err h2 h8 h1 h0' he, tE, tJ, ciL hS h0 g2 (hr.tok hlt)]
        unfold goesOn
        rw [if_pos he]
    · obtain rfl : j = a.length := by omega
      refine ⟨f, by omega, by omega, ?_⟩
      rw [runM_end (klE (P := P) (a := a) hS).symm, runM_end (.inr (kl0.2 hlt))]
      exact lend_line hS h0 f f line D hr
end
end Go.Proofs.YtialcphfaleedaaGreatDoor
namespace Go.Proofs.YtialcphfaleedaaGreatDoor
open Go.RowKit Go.Shelf
theorem kl_one {l : List UInt8} {j : Nat} (h : kl l j = 1) : bt l j = 10 := by
  have h10 : chr l j = 10 := by
    unfold kl cls at h
    repeat' split at h
    all_goals first | assumption | omega
  exact ((chr_asc l j 10 (by decide)).1 h10).2
theorem noNL_of {a : List UInt8} (h : ∀ c ∈ a, c ≠ 10) : noNL a := fun j hj h1 => by
  have := kl_one h1
  unfold bt at this
  have e : a.getD j 0 = a[j] := by simp [List.getD, hj]
  rw [e] at this
  exact h _ (List.getElem_mem hj) (UInt8.toNat_inj.1 this)
theorem cend_ge {l : List UInt8} : ∀ (m j : Nat), l.length - j ≤ m → j ≤ cend l j
  | m, j, hm => by
    by_cases hk : kl l j = 1 ∨ kl l j = 0
    · rw [cend_end hk]; exact Nat.le_refl _
    · have h1 : kl l j ≠ 1 := fun e => hk (.inl e)
      have h0 : kl l j ≠ 0 := fun e => hk (.inr e)
      have hj : j < l.length := Classical.byContradiction (fun e => h0 (kl0.2 e))
      have hp := dc_pos l j
      match m, hm with
      | 0, hm => omega
      | m + 1, hm =>
        rw [cend_on h1 h0]
        have := cend_ge (l := l) m (j + (dc l j).2) (by omega)
        omega
/-- more fuel says the same -/
theorem runM_fuel (l : List UInt8) : ∀ (f g j line hb : Nat) (D : List Tok), l.length - j < f → l.length - j < g → runM f l j line hb D = runM g l j line hb D
  | 0, g, j, line, hb, D, hf, hg => by omega
  | f + 1, 0, j, line, hb, D, hf, hg => by omega
  | f + 1, g + 1, j, line, hb, D, hf, hg => by
    have hend : ∀ e, j ≤ e → lendM f l e line hb D = lendM g l e line hb D := fun e he => by
      unfold lendM
      by_cases h0 : kl l e = 0
      · rw [if_pos h0, if_pos h0]
      · have hlt : e < l.length := Classical.byContradiction (fun h => h0 (kl0.2 h))
        rw [if_neg h0, if_neg h0]
        exact runM_fuel l f g _ _ _ _ (by omega) (by omega)
    by_cases h10 : kl l j = 1 ∨ kl l j = 0
    · rw [runM_end h10, runM_end h10]
      exact hend j (Nat.le_refl _)
    have h1 : kl l j ≠ 1 := fun e => h10 (.inl e)
    have h0 : kl l j ≠ 0 := fun e => h10 (.inr e)
    have hj : j < l.length := Classical.byContradiction (fun e => h0 (kl0.2 e))
    by_cases h2 : kl l j = 2
    · rw [runM_blank h2, runM_blank h2]
      exact runM_fuel l f g _ _ _ _ (by omega) (by omega)
    by_cases h8 : kl l j = 8
    · rw [runM_hash h8, runM_hash h8]
      have := cend_ge (l := l) _ (j + 1) (Nat.le_refl _)
      exact hend _ (by omega)
    by_cases he : tokE l j = 0
    · obtain ⟨a1, a2⟩ := tok_adv hj h1 he
      rw [runM_tok h2 h8 h1 h0 he, runM_tok h2 h8 h1 h0 he]
      exact runM_fuel l f g _ _ _ _ (by omega) (by omega)
    · rw [runM_err h2 h8 h1 h0 he, runM_err h2 h8 h1 h0 he]
theorem RE.fwd {l : List UInt8} : ∀ (m j : Nat), l.length - j ≤ m → j ≤ l.length → RE l j → RE l l.length
  | m, j, hm, hj, h => by
    by_cases hlt : j < l.length
    · have hp := dc_pos l j
      have hl := dc_le l j hlt
      match m, hm with
      | 0, hm => omega
      | m + 1, hm => exact RE.fwd m _ (by omega) hl (h.next hlt)
    · have e : j = l.length := by omega
      rw [e] at h
      exact h
theorem RE.len (l : List UInt8) : RE l l.length := RE.fwd _ 0 (Nat.le_refl _) (Nat.zero_le _) (RE.zero l)
/-- a text from a line on -/
def textM (T : List UInt8) (line : Nat) (D : List Tok) : Res := runM (T.length + 1) T 0 line 0 D
theorem cut (T : List UInt8) : ∃ a S, T = a ++ S ∧ stopL S ∧ ∀ c ∈ a, c ≠ 10 := by
  induction T with
  | nil => exact ⟨[], [], rfl, .inl rfl, fun c h => by simp at h⟩
  | cons c T ih =>
    by_cases h : c = 10
    · exact ⟨[], c :: T, rfl, .inr ⟨T, by rw [h]⟩, fun c h => by simp at h⟩
    · obtain ⟨a, S, e, hS, ha⟩ := ih
      refine ⟨c :: a, S, by rw [e]; rfl, hS, fun d hd => ?_⟩
      rcases List.mem_cons.1 hd with e | e
      · rw [e]; exact h
      · exact ha d e
/-- a line's reachable end -/
theorem RE.nl {P a S' : List UInt8} (h0 : RE (P ++ (a ++ 10 :: S')) P.length) : RE (P ++ (a ++ 10 :: S')) (P.length + a.length + 1) := by
  obtain ⟨k0, h0⟩ := h0
  obtain ⟨k, h⟩ := RE.len a
  have hS : stopL (10 :: S') := .inr ⟨S', rfl⟩
  have h1 : RE (P ++ (a ++ 10 :: S')) (P.length + a.length) := ⟨_, atL hS h0 (Nat.le_refl _) h⟩
  refine h1.asc (by simp) ?_
  rcases btE (P := P) (a := a) hS with e | e
  · omega
  · simp at e
/-- what stands ahead of a line says nothing of it -/
theorem text_run : ∀ (m : Nat) (P T : List UInt8) (f line : Nat) (D : List Tok), T.length ≤ m → RE (P ++ T) P.length → T.length < f → runM f (P ++ T) P.length line P.length D = textM T line D
  | m, P, T, f, line, D, hm, h0, hf => by
    obtain ⟨a, S, e, hS, ha⟩ := cut T
    subst e
    have hn := noNL_of ha
    have hla : a.length ≤ (a ++ S).length := by simp
    obtain ⟨f1, e1, e2, e3⟩ := line_run (P := P) hS h0 hn f 0 line D (Nat.zero_le _) (by omega) (RE.zero a)
    obtain ⟨f2, d1, d2, d3⟩ := line_run (P := []) hS (RE.zero _) hn ((a ++ S).length + 1) 0 line D (Nat.zero_le _) (by omega) (RE.zero a)
    rw [show runM ((a ++ S).length + 1) a 0 line 0 D = runM f a 0 line 0 D from runM_fuel a _ _ _ _ _ _ (by omega) (by omega)] at d3
    have e3' : runM f (P ++ (a ++ S)) P.length line P.length D = goesOn f1 P a S line (runM f a 0 line 0 D) := e3
    have d3' : textM (a ++ S) line D = goesOn f2 [] a S line (runM f a 0 line 0 D) := d3
    rw [e3', d3']
    unfold goesOn
    by_cases hr : (runM f a 0 line 0 D).2.1 ≠ 0
    · rw [if_pos hr, if_pos hr]
    rw [if_neg hr, if_neg hr]
    rcases hS with rfl | ⟨S', rfl⟩
    · rw [if_pos rfl, if_pos rfl]
    have hs : ¬ (10 :: S' = []) := by simp
    rw [if_neg hs, if_neg hs]
    have hlen : (a ++ 10 :: S').length = a.length + S'.length + 1 := by simp; omega
    have key : ∀ (Q : List UInt8) (g : Nat), RE (Q ++ (a ++ 10 :: S')) Q.length → S'.length < g → runM g (Q ++ (a ++ 10 :: S')) (Q.length + a.length + 1) (line + 1) (Q.length + a.length + 1) (runM f a 0 line 0 D).1 = textM S' (line + 1) (runM f a 0 line 0 D).1 := fun Q g hQ hg => by
      have hq := RE.nl hQ
      have eq : Q ++ (a ++ 10 :: S') = (Q ++ (a ++ [10])) ++ S' := by simp
      have el : Q.length + a.length + 1 = (Q ++ (a ++ [10])).length := by simp; omega
      rw [eq, el] at hq ⊢
      match m, hm with
      | 0, hm => omega
      | m + 1, hm => exact text_run m _ S' g _ _ (by omega) hq hg
    rw [key P f1 h0 (by omega), key [] f2 (RE.zero _) (by omega)]
/-- a text is read line by line -/
theorem text_cons {a S' : List UInt8} (ha : ∀ c ∈ a, c ≠ 10) (line : Nat) (D : List Tok) : textM (a ++ 10 :: S') line D = if (textM a line D).2.1 ≠ 0 then textM a line D else textM S' (line + 1) (textM a line D).1 := by
  have hS : stopL (10 :: S') := .inr ⟨S', rfl⟩
  have hlen : (a ++ 10 :: S').length = a.length + S'.length + 1 := by simp; omega
  obtain ⟨f2, d1, d2, d3⟩ := line_run (P := []) hS (RE.zero _) (noNL_of ha) ((a ++ 10 :: S').length + 1) 0 line D (Nat.zero_le _) (by omega) (RE.zero a)
  rw [show runM ((a ++ 10 :: S').length + 1) a 0 line 0 D = textM a line D from runM_fuel a _ _ _ _ _ _ (by omega) (by omega)] at d3
  have d3' : textM (a ++ 10 :: S') line D = goesOn f2 [] a (10 :: S') line (textM a line D) := d3
  rw [d3']
  unfold goesOn
  by_cases hr : (textM a line D).2.1 ≠ 0
  · rw [if_pos hr, if_pos hr]
  have hs : ¬ (10 :: S' = []) := by simp
  rw [if_neg hr, if_neg hr, if_neg hs]
  have hq := RE.nl (P := []) (a := a) (S' := S') (RE.zero _)
  have eq : [] ++ (a ++ 10 :: S') = (a ++ [10]) ++ S' := by simp
  have el : ([] : List UInt8).length + a.length + 1 = (a ++ [10]).length := by simp
  rw [eq, el] at hq ⊢
  exact text_run _ _ S' f2 _ _ (Nat.le_refl _) hq (by omega)
end Go.Proofs.YtialcphfaleedaaGreatDoor
namespace Go.Proofs.YtialcphfaleedaaGreatDoor
open Go.RowKit Go.Shelf
theorem RE.at {l : List UInt8} {j : Nat} (h : RE l j) : AT l (ci l j) j := by
  obtain ⟨k, hk⟩ := h
  rw [← hk.ci]
  exact hk
theorem RE.step {l : List UInt8} {p q : Nat} (h1 : RE l p) (h2 : RE l q) (h : p < q) (hq : q ≤ l.length) : p + (dc l p).2 ≤ q ∧ ci l (p + (dc l p).2) = ci l p + 1 ∧ RE l (p + (dc l p).2) := by
  have a1 := h1.at
  have a2 := h2.at
  have a3 := a1.next (show p < l.length by omega)
  have hle := dc_le l p (by omega)
  have hlt := at_mono a1 a2 h hq
  refine ⟨Classical.byContradiction (fun hc => ?_), a3.ci.symm, ⟨_, a3⟩⟩
  have := at_mono a2 a3 (by omega) hle
  omega
theorem sub_get {l : List UInt8} {i j k : Nat} {c : UInt8} (h : (subL l i j)[k]? = some c) : l[i + k]? = some c ∧ i + k < j := by
  unfold subL at h
  rw [List.getElem?_take] at h
  split at h
  · rw [List.getElem?_drop] at h
    exact ⟨h, by omega⟩
  · cases h
theorem tok_same {l : List UInt8} {j : Nat} (he : tokE l j = 0) : tokJ l j = (tokC l j).2 := by
  by_cases h7 : kl l j = 7 ∧ quoE l j ≠ 0
  · unfold tokE at he
    rw [if_pos h7] at he
    exact absurd he h7.2
  · unfold tokE at he
    rw [if_neg h7] at he
    unfold tokJ
    rw [if_neg h7, if_pos he]
theorem cls_high (r : Int) (h2 : r ≠ -2) (h : ¬ (0 ≤ r ∧ r < 128)) : cls r = 9 := by
  unfold cls
  rw [if_neg (by omega), if_neg (by omega), if_neg (by omega), if_neg (by omega), if_neg (by omega), if_neg (by omega), if_neg (by omega), if_neg (by omega), if_neg (by omega), if_neg (by omega), if_neg (by omega)]
/-- a byte's class is its character's -/
theorem kl_bt {l : List UInt8} {i : Nat} (h : i < l.length) : kl l i = cls (bt l i : Int) := by
  unfold kl
  by_cases hb : bt l i < 128
  · rw [(chr_asc l i (bt l i) hb).2 ⟨h, rfl⟩]
  · have hn : ∀ x : Nat, x < 128 → chr l i ≠ (x : Int) := fun x hx e => hb (by rw [((chr_asc l i x hx).1 e).2]; exact hx)
    have h2 : chr l i ≠ -2 := by unfold chr; rw [if_pos h]; split <;> omega
    rw [cls_high _ h2 (fun hh => hn (chr l i).toNat (by omega) (by omega)), cls_high _ (by omega) (by omega)]
def letX (x : Nat) : Bool := decide ((65 ≤ x ∧ x ≤ 90) ∨ (97 ≤ x ∧ x ≤ 122) ∨ x = 95)
def digX (x : Nat) : Bool := decide (48 ≤ x ∧ x ≤ 57)
def blaX (x : Nat) : Bool := decide (x = 32 ∨ x = 9 ∨ x = 13)
theorem cls_tab : ∀ x : Fin 256, letX x.val = decide (cls (x.val : Int) = 3) ∧ digX x.val = decide (cls (x.val : Int) = 4) ∧ blaX x.val = decide (cls (x.val : Int) = 2) ∧ (cls (x.val : Int) = 8 → x.val = 35) := by decide +kernel
theorem letX_cls {x : Nat} (h : x < 256) : letX x = decide (cls (x : Int) = 3) := (cls_tab ⟨x, h⟩).1
theorem digX_cls {x : Nat} (h : x < 256) : digX x = decide (cls (x : Int) = 4) := (cls_tab ⟨x, h⟩).2.1
theorem blaX_cls {x : Nat} (h : x < 256) : blaX x = decide (cls (x : Int) = 2) := (cls_tab ⟨x, h⟩).2.2.1
theorem hashX_cls {x : Nat} (h : x < 256) : cls (x : Int) = 8 → x = 35 := (cls_tab ⟨x, h⟩).2.2.2
theorem blank_bt {l : List UInt8} {j : Nat} (h : kl l j = 2) : bt l j = 32 ∨ bt l j = 9 ∨ bt l j = 13 := by
  have hj := (kl_asc (l := l) (j := j) (by omega) (by omega)).1
  rw [kl_bt hj] at h
  have h2 := blaX_cls (bt_lt l j)
  rw [decide_eq_true h] at h2
  exact of_decide_eq_true h2
theorem hash_bt {l : List UInt8} {j : Nat} (h : kl l j = 8) : j < l.length ∧ bt l j = 35 := by
  have hj := (kl_asc (l := l) (j := j) (by omega) (by omega)).1
  rw [kl_bt hj] at h
  exact ⟨hj, hashX_cls (bt_lt l j) h⟩
end Go.Proofs.YtialcphfaleedaaGreatDoor
namespace Go.Proofs.YtialcphfaleedaaGreatDoor
open Go.RowKit Go.Shelf
set_option maxRecDepth 100000 in
theorem refLetter_any (x : Nat) (w : World) : Calls Tryz.prog 42 #[.int .u8 (x : Int)] w fun e w' => e = .returned (.bool (letX x)) ∧ w' = w := by
  by_cases a1 : 65 ≤ x
  · by_cases a2 : x ≤ 90
    · have j1 : (65 : Int) ≤ (x : Int) := by omega
      have j2 : (x : Int) ≤ 90 := by omega
      have hr : Hid (letX x = true) := by unfold Hid letX; simp; omega
      go_enter Tryz.func42, Tryz.ntmps42
      go_wp2_with fail
      go_ret
      exact ⟨by rw [hr.out]; first | rfl | simp_all, rfl⟩
    · by_cases a3 : 97 ≤ x
      · by_cases a4 : x ≤ 122
        · have j1 : (65 : Int) ≤ (x : Int) := by omega
          have j2 : ¬ (x : Int) ≤ 90 := by omega
          have j3 : (97 : Int) ≤ (x : Int) := by omega
          have j4 : (x : Int) ≤ 122 := by omega
          have hr : Hid (letX x = true) := by unfold Hid letX; simp; omega
          go_enter Tryz.func42, Tryz.ntmps42
          go_wp2_with fail
          go_ret
          exact ⟨by rw [hr.out]; first | rfl | simp_all, rfl⟩
        · have j1 : (65 : Int) ≤ (x : Int) := by omega
          have j2 : ¬ (x : Int) ≤ 90 := by omega
          have j3 : (97 : Int) ≤ (x : Int) := by omega
          have j4 : ¬ (x : Int) ≤ 122 := by omega
          have j5 : ((x : Int) == 95) = false := by rw [beq_eq_false_iff_ne]; omega
          have hr : Hid (letX x = false) := by unfold Hid letX; simp; omega
          go_enter Tryz.func42, Tryz.ntmps42
          go_wp2_with fail
          go_ret
          exact ⟨by rw [hr.out]; first | rfl | simp_all, rfl⟩
      · by_cases a4 : x = 95
        · subst a4
          have hr : Hid (letX 95 = true) := show letX 95 = true by decide
          go_enter Tryz.func42, Tryz.ntmps42
          go_wp2_with fail
          go_ret
          exact ⟨by rw [hr.out]; first | rfl | simp_all, rfl⟩
        · have j1 : (65 : Int) ≤ (x : Int) := by omega
          have j2 : ¬ (x : Int) ≤ 90 := by omega
          have j3 : ¬ (97 : Int) ≤ (x : Int) := by omega
          have j5 : ((x : Int) == 95) = false := by rw [beq_eq_false_iff_ne]; omega
          have hr : Hid (letX x = false) := by unfold Hid letX; simp; omega
          go_enter Tryz.func42, Tryz.ntmps42
          go_wp2_with fail
          go_ret
          exact ⟨by rw [hr.out]; first | rfl | simp_all, rfl⟩
  · have j1 : ¬ (65 : Int) ≤ (x : Int) := by omega
    have j3 : ¬ (97 : Int) ≤ (x : Int) := by omega
    have j5 : ((x : Int) == 95) = false := by rw [beq_eq_false_iff_ne]; omega
    have hr : Hid (letX x = false) := by unfold Hid letX; simp; omega
    go_enter Tryz.func42, Tryz.ntmps42
    go_wp2_with fail
    go_ret
    exact ⟨by rw [hr.out]; first | rfl | simp_all, rfl⟩
set_option maxRecDepth 100000 in
theorem refDigit_any (x : Nat) (w : World) : Calls Tryz.prog 44 #[.int .u8 (x : Int)] w fun e w' => e = .returned (.bool (digX x)) ∧ w' = w := by
  by_cases a1 : 48 ≤ x
  · by_cases a2 : x ≤ 57
    · have j1 : (48 : Int) ≤ (x : Int) := by omega
      have j2 : (x : Int) ≤ 57 := by omega
      have hr : Hid (digX x = true) := by unfold Hid digX; simp; omega
      go_enter Tryz.func44, Tryz.ntmps44
      go_wp2_with fail
      go_ret
      exact ⟨by rw [hr.out]; first | rfl | simp_all, rfl⟩
    · have j1 : (48 : Int) ≤ (x : Int) := by omega
      have j2 : ¬ (x : Int) ≤ 57 := by omega
      have hr : Hid (digX x = false) := by unfold Hid digX; simp; omega
      go_enter Tryz.func44, Tryz.ntmps44
      go_wp2_with fail
      go_ret
      exact ⟨by rw [hr.out]; first | rfl | simp_all, rfl⟩
  · have j1 : ¬ (48 : Int) ≤ (x : Int) := by omega
    have hr : Hid (digX x = false) := by unfold Hid digX; simp; omega
    go_enter Tryz.func44, Tryz.ntmps44
    go_wp2_with fail
    go_ret
    exact ⟨by rw [hr.out]; first | rfl | simp_all, rfl⟩
set_option maxRecDepth 100000 in
theorem refBlank_any (x : Nat) (w : World) : Calls Tryz.prog 37 #[.int .u8 (x : Int)] w fun e w' => e = .returned (.bool (blaX x)) ∧ w' = w := by
  by_cases a1 : x = 32
  · subst a1
    go_enter Tryz.func37, Tryz.ntmps37
    go_wp2_with fail
    go_ret
    exact ⟨rfl, rfl⟩
  · by_cases a2 : x = 9
    · subst a2
      go_enter Tryz.func37, Tryz.ntmps37
      go_wp2_with fail
      go_ret
      exact ⟨rfl, rfl⟩
    · by_cases a3 : x = 13
      · subst a3
        go_enter Tryz.func37, Tryz.ntmps37
        go_wp2_with fail
        go_ret
        exact ⟨rfl, rfl⟩
      · have j1 : ((x : Int) == 32) = false := by rw [beq_eq_false_iff_ne]; omega
        have j2 : ((x : Int) == 9) = false := by rw [beq_eq_false_iff_ne]; omega
        have j3 : ((x : Int) == 13) = false := by rw [beq_eq_false_iff_ne]; omega
        have hr : Hid (blaX x = false) := by unfold Hid blaX; simp; omega
        go_enter Tryz.func37, Tryz.ntmps37
        go_wp2_with fail
        go_ret
        exact ⟨by rw [hr.out]; first | rfl | simp_all, rfl⟩
set_option maxRecDepth 100000 in
theorem refWord_any (x : Nat) (w : World) : Calls Tryz.prog 45 #[.int .u8 (x : Int)] w fun e w' => e = .returned (.bool (letX x || digX x)) ∧ w' = w := by
  have H1 := refLetter_any x w
  have H2 := refDigit_any x w
  obtain ⟨p, hp⟩ : ∃ p, letX x = p := ⟨_, rfl⟩
  obtain ⟨q, hq⟩ : ∃ q, digX x = q := ⟨_, rfl⟩
  rw [hp] at H1 ⊢
  rw [hq] at H2 ⊢
  clear hp hq
  cases p with
  | true =>
    go_enter Tryz.func45, Tryz.ntmps45
    go_wp2_with fail
    refine H1.mono ?_
    rintro e w2 ⟨rfl, rfl⟩
    go_wp2_with fail
    go_ret
    exact ⟨rfl, rfl⟩
  | false =>
    go_enter Tryz.func45, Tryz.ntmps45
    go_wp2_with fail
    refine H1.mono ?_
    rintro e w2 ⟨rfl, rfl⟩
    go_wp2_with fail
    refine H2.mono ?_
    rintro e w2 ⟨rfl, rfl⟩
    go_wp2_with fail
    go_ret
    exact ⟨rfl, rfl⟩
end Go.Proofs.YtialcphfaleedaaGreatDoor
