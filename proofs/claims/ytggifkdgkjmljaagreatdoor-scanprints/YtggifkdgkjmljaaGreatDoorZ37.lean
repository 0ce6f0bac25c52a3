import Derived.Test.YtggifkdgkjmljaaGreatDoorZ36
import Derived.Test.YtggifkdgkjmljaaGreatDoorZ31
import Derived.Test.YtggifkdgkjmljaaGreatDoorZ30
import Derived.Test.YtggifkdgkjmljaaGreatDoorZ34
import Derived.Test.YtggifkdgkjmljaaGreatDoorZ32
namespace Go.Proofs.YtggifkdgkjmljaaGreatDoor
open Go.RowKit Go.Shelf
theorem scan_a : ∃ p q, scanM [97] = ([(2, [97], p), (1, [10], q)], 0, 0, 0) := by
  have hk : kl [97] 0 = 3 := by decide
  have hk1 : kl [97] 1 = 0 := kl0.2 (by decide)
  have hw : wrun [97] 1 = 1 := wrun_no (by unfold inW; rw [hk1]; rfl)
  have hd : ¬ dotA [97] 1 3 = true := by unfold dotA; rw [hk1]; simp
  have htc : tokC [97] 0 = (2, 1) := by
    unfold tokC
    rw [if_pos hk]
    show (if dotA [97] (wrun [97] 1) 3 = true then ((3 : Nat), wrun [97] (wrun [97] 1 + 1)) else (2, wrun [97] 1)) = _
    rw [hw, if_neg hd]
  have hs : subL [97] 0 1 = [97] := rfl
  have hf : faultE 2 [97] = 0 := by
    unfold faultE
    have hp : parts [97] = [[97]] := by rw [parts, if_pos (by decide)]
    rw [if_pos (.inl rfl), hp]
    rfl
  have h7 : ¬ (kl [97] 0 = 7 ∧ quoE [97] 0 ≠ 0) := fun h => by omega
  have he : tokE [97] 0 = 0 := by
    unfold tokE
    rw [if_neg h7, htc]
    exact hf
  have hj : tokJ [97] 0 = 1 := by
    unfold tokJ
    rw [if_neg h7, htc]
    exact if_pos hf
  unfold scanM
  rw [if_neg (by decide)]
  show ∃ p q, runM 2 [97] 0 1 0 [] = _
  rw [runM_tok (by omega) (by omega) (by omega) (by omega) he, hj, htc, hs, runM_end (.inr hk1)]
  unfold lendM
  rw [if_pos hk1]
  exact ⟨_, _, rfl⟩
/-- what Scan answers of two texts with a newline between -/
theorem scan_joins (a b : List UInt8) (h : a.length + b.length + 1 ≤ 16384) : scanM (a ++ [10] ++ b) = if (scanM a).2.1 ≠ 0 then scanM a else shR (scanM a).1 (nls a + 1) (scanM b) := by
  have e : ∀ l : List UInt8, l.length ≤ 16384 → scanM l = textM l 1 [] := fun l hl => by unfold scanM; rw [if_neg (by omega)]; rfl
  rw [e _ (by simp; omega), e a (by omega), e b (by omega), ← text_joins]
  simp
theorem scan_done (a : List UInt8) (h : a.length ≤ 16384) : ((scanM a).2.1 = 0 → (scanM a).2 = (0, 0, 0)) ∧ ((scanM a).2.1 ≠ 0 → (scanM a).1 = []) := by
  unfold scanM
  rw [if_neg (by omega)]
  have := run_done a (a.length + 1) 0 1 0 [] (by omega)
  exact ⟨fun h => (this.1 h).2, this.2⟩
theorem own_slice {w : World} {B e sz n : Nat} {v : Value} {xs : List Value} (h : w.ownsRow B e sz v n xs) : ∃ o c, v = .slice o n c := by
  rcases h.2 with hh | ⟨g, c, cur, h1, h2, h3, h4⟩
  · exact ⟨none, 0, by rw [hh.2]; exact hh.1⟩
  · exact ⟨_, c, h1⟩
end Go.Proofs.YtggifkdgkjmljaaGreatDoor
namespace Go.Proofs.YtggifkdgkjmljaaGreatDoor
open Go.RowKit Go.Shelf
theorem cat10 (a b : List UInt8) : ByteArray.mk a.toArray ++ ByteArray.mk #[10] ++ ByteArray.mk b.toArray = ⟨(a ++ [10] ++ b).toArray⟩ := ByteArray.ext (by simp)
/-- Scan's answer at a text, in plain words -/
def SA1 (w : World) (T : ByteArray) (r : Res) : Prop := ∀ W : World, Below w.heap.size w W → Calls Tryz.prog 17 #[.string T] W fun e w' =>
  ∃ o c, e = .returned (.tuple #[.slice o r.1.length c, .int .i64 (r.2.1 : Int), .int .i64 (r.2.2.1 : Int), .int .i64 (r.2.2.2 : Int)]) ∧ w'.ownsRow W.heap.size 24 4 (.slice o r.1.length c) r.1.length (tcels r.1) ∧ Below W.heap.size W w' ∧ Below w.heap.size w w'
theorem sa1 {w : World} (hv1 : SH w) (hv4 : SG w) (hv5 : VW w) (l : List UInt8) (hl : l.length ≤ 16384) : SA1 w ⟨l.toArray⟩ (scanM l) := fun W hW => by
  have h := scan_any l W (by omega) (hv1.below hW) (hv4.below hW) (FOK_of (hv5.below hW))
  refine h.mono ?_
  rintro e w' ⟨v, h1, h2, h3⟩
  obtain ⟨o, c, rfl⟩ := own_slice h2
  exact ⟨o, c, h1, h2, h3, bel0 hW h3⟩
end Go.Proofs.YtggifkdgkjmljaaGreatDoor
namespace Go.Proofs.YtggifkdgkjmljaaGreatDoor
open Go.RowKit Go.Shelf
theorem endT_lines {D : List Tok} {line col M : Nat} (hD : ∀ t ∈ D, t.2.2.1 ≤ M) (hl : line ≤ M) : ∀ t ∈ endT D line col, t.2.2.1 ≤ M := by
  unfold endT
  intro t ht
  cases h : D.getLast? with
  | none => simp only [h] at ht; exact hD t ht
  | some u =>
    simp only [h] at ht
    split at ht
    · exact hD t ht
    · rcases List.mem_append.1 ht with h | h
      · exact hD t h
      · rw [List.mem_singleton.1 h]; exact hl
theorem run_lines (l : List UInt8) (M : Nat) : ∀ (f j line hb : Nat) (D : List Tok), l.length - j < f → line + (l.length - j) ≤ M → (∀ t ∈ D, t.2.2.1 ≤ M) → (∀ t ∈ (runM f l j line hb D).1, t.2.2.1 ≤ M) ∧ (runM f l j line hb D).2.2.1 ≤ M
  | 0, j, line, hb, D, hf, hm, hD => by omega
  | f + 1, j, line, hb, D, hf, hm, hD => by
    have hend : ∀ e, j ≤ e → (∀ t ∈ (lendM f l e line hb D).1, t.2.2.1 ≤ M) ∧ (lendM f l e line hb D).2.2.1 ≤ M := fun e he => by
      unfold lendM
      by_cases h0 : kl l e = 0
      · rw [if_pos h0]
        exact ⟨endT_lines hD (by omega), Nat.zero_le _⟩
      · have hlt : e < l.length := Classical.byContradiction (fun h => h0 (kl0.2 h))
        rw [if_neg h0]
        exact run_lines l M f _ _ _ _ (by omega) (by omega) (endT_lines hD (by omega))
    by_cases h10 : kl l j = 1 ∨ kl l j = 0
    · rw [runM_end h10]
      exact hend j (Nat.le_refl _)
    have h1 : kl l j ≠ 1 := fun e => h10 (.inl e)
    have h0 : kl l j ≠ 0 := fun e => h10 (.inr e)
    have hj : j < l.length := Classical.byContradiction (fun e => h0 (kl0.2 e))
    by_cases h2 : kl l j = 2
    · rw [runM_blank h2]
      exact run_lines l M f _ _ _ _ (by omega) (by omega) hD
    by_cases h8 : kl l j = 8
    · rw [runM_hash h8]
      have := cend_ge (l := l) _ (j + 1) (Nat.le_refl _)
      exact hend _ (by omega)
    by_cases he : tokE l j = 0
    · obtain ⟨a1, a2⟩ := tok_adv hj h1 he
      rw [runM_tok h2 h8 h1 h0 he]
      refine run_lines l M f _ _ _ _ (by omega) (by omega) (fun t ht => ?_)
      rcases List.mem_append.1 ht with h | h
      · exact hD t h
      · rw [List.mem_singleton.1 h]
        show line ≤ M
        omega
    · rw [runM_err h2 h8 h1 h0 he]
      exact ⟨fun t ht => by simp at ht, by show line ≤ M; omega⟩
theorem scan_lines (l : List UInt8) (h : l.length ≤ 16384) : (∀ t ∈ (scanM l).1, t.2.2.1 ≤ 16385) ∧ (scanM l).2.2.1 ≤ 16385 := by
  unfold scanM
  rw [if_neg (by omega)]
  exact run_lines l 16385 (l.length + 1) 0 1 0 [] (by omega) (by omega) (fun t ht => by simp at ht)
end Go.Proofs.YtggifkdgkjmljaaGreatDoor
namespace Go.Proofs.YtggifkdgkjmljaaGreatDoor
open Go.RowKit Go.Shelf
/-- the next spot: its byte, line and column -/
def nxt (l : List UInt8) (s : Nat × Nat × Nat) : Nat × Nat × Nat := (s.1 + (dc l s.1).2, if kl l s.1 = 1 then (s.2.1 + 1, 1) else (s.2.1, s.2.2 + 1))
def stN (l : List UInt8) : Nat → Nat × Nat × Nat → Nat × Nat × Nat → Prop
  | 0, s, t => s = t
  | n + 1, s, t => s.1 < l.length ∧ stN l n (nxt l s) t
theorem stN_trans {l : List UInt8} : ∀ (n m : Nat) (s t u : Nat × Nat × Nat), stN l n s t → stN l m t u → stN l (n + m) s u
  | 0, m, s, t, u, h1, h2 => by
    rw [Nat.zero_add, show s = t from h1]
    exact h2
  | n + 1, m, s, t, u, h1, h2 => by
    rw [show n + 1 + m = (n + m) + 1 by omega]
    exact ⟨h1.1, stN_trans n m _ t u h1.2 h2⟩
theorem nxt_lt (l : List UInt8) (s : Nat × Nat × Nat) : s.2.1 < (nxt l s).2.1 ∨ (s.2.1 = (nxt l s).2.1 ∧ s.2.2 < (nxt l s).2.2) := by
  unfold nxt
  by_cases h : kl l s.1 = 1
  · rw [if_pos h]; exact .inl (Nat.lt_succ_self _)
  · rw [if_neg h]; exact .inr ⟨rfl, Nat.lt_succ_self _⟩
theorem stN_lt {l : List UInt8} : ∀ (n : Nat) (s t : Nat × Nat × Nat), stN l (n + 1) s t → s.2.1 < t.2.1 ∨ (s.2.1 = t.2.1 ∧ s.2.2 < t.2.2)
  | 0, s, t, h => by
    have := nxt_lt l s
    rw [show nxt l s = t from h.2] at this
    exact this
  | n + 1, s, t, h => by
    have h1 := nxt_lt l s
    have h2 := stN_lt n _ t h.2
    omega
theorem stN_ne {l : List UInt8} {n : Nat} {s t : Nat × Nat × Nat} (h : stN l n s t) (he : s.2 = t.2) : n = 0 ∧ s = t := by
  match n, h with
  | 0, h => exact ⟨rfl, h⟩
  | n + 1, h =>
    have := stN_lt n s t h
    rw [he] at this
    omega
/-- along a line -/
theorem stN_walk {l : List UInt8} : ∀ (m p q : Nat), q - p ≤ m → p ≤ q → q ≤ l.length → RE l p → RE l q → (∀ r, p ≤ r → r < q → bt l r ≠ 10) → ∀ line col, ci l p ≤ ci l q ∧ stN l (ci l q - ci l p) (p, line, col) (q, line, col + (ci l q - ci l p))
  | m, p, q, hm, hpq, hq, h1, h2, hb, line, col => by
    rcases Nat.lt_or_ge p q with h | h
    · match m, hm with
      | 0, hm => omega
      | m + 1, hm =>
        have hp := dc_pos l p
        have a1 := h1.at
        have a2 := h2.at
        have a3 := a1.next (show p < l.length by omega)
        have hle := dc_le l p (by omega)
        have hlt := at_mono a1 a2 h hq
        have hstep : p + (dc l p).2 ≤ q := Classical.byContradiction (fun hc => by
          have := at_mono a2 a3 (by omega) hle
          omega)
        have h3 : RE l (p + (dc l p).2) := ⟨_, a3⟩
        have ih := stN_walk m (p + (dc l p).2) q (by omega) hstep hq h3 h2 (fun r hr1 hr2 => hb r (by omega) hr2) line (col + 1)
        have e3 := a3.ci
        rw [← e3] at ih
        refine ⟨by omega, ?_⟩
        rw [show ci l q - ci l p = (ci l q - (ci l p + 1)) + 1 by omega]
        refine ⟨by show p < l.length; omega, ?_⟩
        have hk : kl l p ≠ 1 := fun e => hb p (Nat.le_refl _) h (kl_one e)
        unfold nxt
        rw [if_neg hk, show col + (ci l q - (ci l p + 1) + 1) = col + 1 + (ci l q - (ci l p + 1)) by omega]
        exact ih.2
    · have e : p = q := by omega
      subst e
      refine ⟨Nat.le_refl _, ?_⟩
      rw [Nat.sub_self]
      rfl
/-- blanks, comments and ends of lines: is a comment open behind them -/
def idF : List UInt8 → Bool → Option Bool
  | [], c => some c
  | b :: r, c => if b = 10 then idF r false else if b = 35 then idF r true else if c = false ∧ b ≠ 32 ∧ b ≠ 9 ∧ b ≠ 13 then none else idF r c
theorem idF_app : ∀ (x y : List UInt8) (c : Bool), idF (x ++ y) c = (idF x c).bind (idF y)
  | [], y, c => rfl
  | b :: x, y, c => by
    rw [List.cons_append, idF, idF]
    split
    · exact idF_app x y _
    · split
      · exact idF_app x y _
      · split
        · rfl
        · exact idF_app x y _
theorem idF_open : ∀ x : List UInt8, (∀ c ∈ x, c ≠ 10) → idF x true = some true
  | [], _ => rfl
  | b :: x, h => by
    rw [idF, if_neg (h b (by simp))]
    split
    · exact idF_open x (fun c hc => h c (by simp [hc]))
    · rw [if_neg (by simp)]
      exact idF_open x (fun c hc => h c (by simp [hc]))
theorem sub_self (l : List UInt8) (i : Nat) : subL l i i = [] := by unfold subL; simp
theorem sub_app {l : List UInt8} {i j k : Nat} (h1 : i ≤ j) (h2 : j ≤ k) : subL l i k = subL l i j ++ subL l j k := by
  unfold subL
  rw [show k - i = (j - i) + (k - j) by omega, List.take_add, List.drop_drop, show i + (j - i) = j by omega]
theorem sub_one {l : List UInt8} {i : Nat} (h : i < l.length) : subL l i (i + 1) = [l[i]] := by
  unfold subL
  rw [Nat.add_sub_cancel_left, List.drop_eq_getElem_cons h]
  rfl
theorem sub_end (l : List UInt8) (i : Nat) : subL l i l.length = l.drop i := by
  unfold subL
  exact List.take_of_length_le (by simp)
theorem bt_at' {l : List UInt8} {i : Nat} (h : i < l.length) : bt l i = l[i].toNat := bt_of (List.getElem?_eq_getElem h)
/-- what lies from a byte on -/
def PLc (l : List UInt8) : Nat → Nat × Nat × Nat → Nat → List Tok → Prop
  | fr, _, _, [] => fr ≤ l.length ∧ ∃ c, idF (l.drop fr) false = some c
  | fr, s, pl, t :: r => ∃ n a, stN l n s (a, t.2.2.1, t.2.2.2) ∧ fr ≤ a ∧ a ≤ l.length ∧
      (t.1 ≠ 1 → idF (subL l fr a) false = some false ∧ subL l a (a + t.2.1.length) = t.2.1 ∧ a + t.2.1.length ≤ l.length ∧ PLc l (a + t.2.1.length) (a, t.2.2.1, t.2.2.2) t.2.2.1 r) ∧
      (t.1 = 1 → (∃ c, idF (subL l fr a) false = some c) ∧ pl = t.2.2.1 ∧ t.2.1 = [10] ∧ ((a = l.length ∧ PLc l a (a, t.2.2.1, t.2.2.2) t.2.2.1 r) ∨ (a < l.length ∧ bt l a = 10 ∧ PLc l (a + 1) (a, t.2.2.1, t.2.2.2) t.2.2.1 r)))
/-- is a line begun -/
def opn (D : List Tok) : Prop := ∃ t, D.getLast? = some t ∧ t.1 ≠ 1
theorem endT_open {D : List Tok} (h : opn D) (line col : Nat) : endT D line col = D ++ [(1, [10], line, col)] := by
  obtain ⟨t, h1, h2⟩ := h
  unfold endT
  rw [h1]
  exact if_neg h2
theorem endT_shut {D : List Tok} (h : ¬ opn D) (line col : Nat) : endT D line col = D := by
  unfold endT
  cases hd : D.getLast? with
  | none => rfl
  | some t =>
    simp only
    by_cases h1 : t.1 = 1
    · rw [if_pos h1]
    · exact absurd ⟨t, hd, h1⟩ h
theorem not_opn_end (D : List Tok) (line col : Nat) : ¬ opn (endT D line col) := by
  rintro ⟨t, h1, h2⟩
  exact h2 (endT_ended D line col t h1)
/-- a text from a byte on: its line there -/
theorem cut_at (l : List UInt8) {j : Nat} (hj : j ≤ l.length) : ∃ P a S, l = P ++ (a ++ S) ∧ P.length = j ∧ stopL S ∧ ∀ c ∈ a, c ≠ 10 := by
  obtain ⟨a, S, e, hS, ha⟩ := cut (l.drop j)
  exact ⟨l.take j, a, S, by rw [← e, List.take_append_drop], by simp; omega, hS, ha⟩
theorem line_bt {P a S : List UInt8} (ha : ∀ c ∈ a, c ≠ 10) {r : Nat} (h1 : P.length ≤ r) (h2 : r < P.length + a.length) : bt (P ++ (a ++ S)) r ≠ 10 := by
  obtain ⟨k, rfl⟩ : ∃ k, r = P.length + k := ⟨r - P.length, by omega⟩
  have hk : k < a.length := by omega
  rw [btL hk, bt_at' hk]
  intro e
  exact ha _ (List.getElem_mem hk) (UInt8.toNat_inj.1 e)
/-- no token goes over a newline -/
theorem tok_nonl {l : List UInt8} {j : Nat} (hj : j < l.length) (h1 : kl l j ≠ 1) (he : tokE l j = 0) : ∀ r, j ≤ r → r < tokJ l j → bt l r ≠ 10 := by
  obtain ⟨P, a, S, rfl, rfl, hS, ha⟩ := cut_at l (Nat.le_of_lt hj)
  have h0 : 0 < a.length := by
    refine Nat.pos_of_ne_zero (fun e => ?_)
    rcases klE (P := P) (a := a) hS with h | h
    · rw [e] at h
      exact (kl0.1 h) hj
    · rw [e] at h
      exact h1 h
  have ht := tokEL (P := P) (S := S) hS h0
  rw [Nat.add_zero] at ht
  rw [ht.1] at he
  have hk : kl a 0 ≠ 1 := noNL_of ha 0 h0
  have h2 := tok_adv h0 hk he
  intro r hr1 hr2
  rw [ht.2] at hr2
  exact line_bt ha hr1 (by omega)
/-- a comment ends with its line -/
theorem cend_nonl {l : List UInt8} {j : Nat} (hj : j ≤ l.length) : j ≤ cend l j ∧ cend l j ≤ l.length ∧ (∀ r, j ≤ r → r < cend l j → bt l r ≠ 10) ∧ (kl l (cend l j) = 0 ∨ kl l (cend l j) = 1) := by
  obtain ⟨P, a, S, rfl, rfl, hS, ha⟩ := cut_at l hj
  have h := cendL (P := P) hS (noNL_of ha) _ 0 (Nat.le_refl _) (Nat.zero_le _)
  rw [Nat.add_zero] at h
  rw [h]
  exact ⟨by omega, by simp, fun r h1 h2 => line_bt ha h1 h2, klE hS⟩
theorem tokC_kind (l : List UInt8) (j : Nat) : (tokC l j).1 ≠ 1 := by
  unfold tokC endF
  repeat' split
  all_goals first | decide | (intro h; simp at h)
theorem idF_more {l : List UInt8} {fr j e : Nat} {c : Bool} (h1 : fr ≤ j) (h2 : j ≤ e) (h : idF (subL l fr j) false = some c) : idF (subL l fr e) false = idF (subL l j e) c := by
  rw [sub_app h1 h2, idF_app, h]
  rfl
theorem idF_nl {l : List UInt8} {j : Nat} (hj : j < l.length) (hb : bt l j = 10) (c : Bool) : idF (subL l j (j + 1)) c = some false := by
  rw [sub_one hj, idF, if_pos (UInt8.toNat_inj.1 (by rw [← bt_at' hj, hb]; rfl))]
  rfl
/-- where the tokens lie that come from a byte on -/
def PLR (l : List UInt8) (j line hb : Nat) (D R : List Tok) : Prop := ∀ fr s pl n, fr ≤ j → idF (subL l fr j) false = some false → stN l n s (j, line, ci l j - ci l hb + 1) → (opn D → pl = line) → PLc l fr s pl R
theorem RE_nl {l : List UInt8} {e : Nat} (h : RE l e) (hb : bt l e = 10) (he : e < l.length) : RE l (e + 1) := h.asc he (by omega)
theorem lend_placed {l : List UInt8} {f e line hb : Nat} {D : List Tok} (he : e ≤ l.length) (hk : kl l e = 0 ∨ kl l e = 1)
    (ih : ∀ D' : List Tok, e < l.length → (runM f l (e + 1) (line + 1) (e + 1) D').2.1 = 0 → ∃ R, (runM f l (e + 1) (line + 1) (e + 1) D').1 = D' ++ R ∧ PLR l (e + 1) (line + 1) (e + 1) D' R)
    (h0 : (lendM f l e line hb D).2.1 = 0) :
    ∃ R, (lendM f l e line hb D).1 = D ++ R ∧ ∀ fr s pl n c, fr ≤ e → idF (subL l fr e) false = some c → stN l n s (e, line, ci l e - ci l hb + 1) → (opn D → pl = line) → PLc l fr s pl R := by
  unfold lendM at h0 ⊢
  by_cases hz : kl l e = 0
  · have hel : e = l.length := by
      have := kl0.1 hz
      omega
    rw [if_pos hz]
    by_cases ho : opn D
    · refine ⟨_, endT_open ho _ _, fun fr s pl n c hfr hi hst hpl => ?_⟩
      refine ⟨n, e, hst, hfr, he, fun h => absurd rfl h, fun _ => ⟨⟨c, hi⟩, hpl ho, rfl, .inl ⟨hel, he, false, ?_⟩⟩⟩
      rw [hel, List.drop_length]
      rfl
    · refine ⟨[], by rw [endT_shut ho, List.append_nil], fun fr s pl n c hfr hi hst hpl => ?_⟩
      refine ⟨by omega, c, ?_⟩
      rw [← sub_end, ← hel]
      exact hi
  · have h1 : kl l e = 1 := hk.resolve_left hz
    have hel : e < l.length := Classical.byContradiction (fun h => hz (kl0.2 h))
    have hb10 := kl_one h1
    rw [if_neg hz] at h0 ⊢
    obtain ⟨R, hR, hP⟩ := ih _ hel h0
    have hstep : ∀ col, stN l 1 (e, line, col) (e + 1, line + 1, ci l (e + 1) - ci l (e + 1) + 1) := fun col => by
      have hd : dc l e = (10, 1) := by rw [dc_asc (by omega), hb10]
      refine ⟨hel, ?_⟩
      show nxt l (e, line, col) = _
      unfold nxt
      simp only
      rw [if_pos h1, hd, Nat.sub_self]
    by_cases ho : opn D
    · refine ⟨(1, [10], line, ci l e - ci l hb + 1) :: R, by rw [hR, endT_open ho, List.append_assoc]; rfl, fun fr s pl n c hfr hi hst hpl => ?_⟩
      refine ⟨n, e, hst, hfr, he, fun h => absurd rfl h, fun _ => ⟨⟨c, hi⟩, hpl ho, rfl, .inr ⟨hel, hb10, ?_⟩⟩⟩
      exact hP (e + 1) _ _ 1 (Nat.le_refl _) (by rw [sub_self]; rfl) (hstep _) (fun h => absurd h (not_opn_end _ _ _))
    · refine ⟨R, by rw [hR, endT_shut ho], fun fr s pl n c hfr hi hst hpl => ?_⟩
      refine hP fr s pl (n + 1) (by omega) ?_ (stN_trans n 1 _ _ _ hst (hstep _)) (fun h => absurd h (not_opn_end _ _ _))
      rw [idF_more hfr (Nat.le_succ _) hi]
      exact idF_nl hel hb10 c
set_option maxHeartbeats 1000000 in
theorem run_placed (l : List UInt8) : ∀ (f j line hb : Nat) (D : List Tok), l.length - j < f → hb ≤ j → j ≤ l.length → RE l j → RE l hb → (∀ r, hb ≤ r → r < j → bt l r ≠ 10) → (runM f l j line hb D).2.1 = 0 → ∃ R, (runM f l j line hb D).1 = D ++ R ∧ PLR l j line hb D R
  | 0, j, line, hb, D, hf, _, _, _, _, _, _ => by omega
  | f + 1, j, line, hb, D, hf, hbj, hj, hr, hrb, hnl, h0 => by
    have hcb : ci l hb ≤ ci l j := (stN_walk _ hb j (Nat.le_refl _) hbj hj hrb hr hnl 0 0).1
    have IH : ∀ e, j ≤ e → ∀ D' : List Tok, RE l e → bt l e = 10 → e < l.length → (runM f l (e + 1) (line + 1) (e + 1) D').2.1 = 0 → ∃ R, (runM f l (e + 1) (line + 1) (e + 1) D').1 = D' ++ R ∧ PLR l (e + 1) (line + 1) (e + 1) D' R := fun e hje D' hre hbe hel h =>
      run_placed l f (e + 1) (line + 1) (e + 1) D' (by omega) (Nat.le_refl _) hel (RE_nl hre hbe hel) (RE_nl hre hbe hel) (fun r h1 h2 => by omega) h
    by_cases h10 : kl l j = 1 ∨ kl l j = 0
    · rw [runM_end h10] at h0 ⊢
      obtain ⟨R, hR, hP⟩ := lend_placed hj h10.symm (fun D' hel h => by
        rcases h10 with h1 | h1
        · exact IH j (Nat.le_refl _) D' hr (kl_one h1) hel h
        · exact absurd hel (kl0.1 h1)) h0
      exact ⟨R, hR, fun fr s pl n hfr hi hst hpl => hP fr s pl n false hfr hi hst hpl⟩
    have h1 : kl l j ≠ 1 := fun e => h10 (.inl e)
    have hz : kl l j ≠ 0 := fun e => h10 (.inr e)
    have hlt : j < l.length := Classical.byContradiction (fun e => hz (kl0.2 e))
    have hb10 : bt l j ≠ 10 := fun e => h1 (by rw [kl, (chr_asc l j 10 (by decide)).2 ⟨hlt, e⟩]; rfl)
    by_cases h2 : kl l j = 2
    · have hasc := (kl_asc (l := l) (j := j) (by omega) (by omega)).2
      have hr2 := hr.asc hlt hasc
      have hn2 : ∀ r, hb ≤ r → r < j + 1 → bt l r ≠ 10 := fun r a1 a2 => by
        rcases Nat.lt_or_ge r j with h | h
        · exact hnl r a1 h
        · rw [show r = j by omega]; exact hb10
      rw [runM_blank h2] at h0 ⊢
      obtain ⟨R, hR, hP⟩ := run_placed l f (j + 1) line hb D (by omega) (by omega) hlt hr2 hrb hn2 h0
      refine ⟨R, hR, fun fr s pl n hfr hi hst hpl => ?_⟩
      obtain ⟨c1, c2⟩ := stN_walk 1 j (j + 1) (by omega) (by omega) hlt hr hr2 (fun r a1 a2 => hn2 r (by omega) a2) line (ci l j - ci l hb + 1)
      refine hP fr s pl _ (by omega) ?_ (stN_trans n _ _ _ _ hst (by rw [show ci l j - ci l hb + 1 + (ci l (j + 1) - ci l j) = ci l (j + 1) - ci l hb + 1 by omega] at c2; exact c2)) hpl
      rw [idF_more hfr (Nat.le_succ _) hi, sub_one hlt]
      have hbl := blank_bt h2
      rw [bt_at' hlt] at hbl
      have hl : l[j] = 32 ∨ l[j] = 9 ∨ l[j] = 13 := by
        rcases hbl with h | h | h
        · exact .inl (UInt8.toNat_inj.1 h)
        · exact .inr (.inl (UInt8.toNat_inj.1 h))
        · exact .inr (.inr (UInt8.toNat_inj.1 h))
      rcases hl with h | h | h <;> rw [h] <;> rfl
    by_cases h8 : kl l j = 8
    · have hb35 := (hash_bt h8).2
      have hr2 := hr.asc hlt (by omega)
      obtain ⟨k1, k2, k3, k4⟩ := cend_nonl (l := l) (j := j + 1) hlt
      have hre := RE.cend (l := l) _ (j + 1) (Nat.le_refl _) hr2
      rw [runM_hash h8] at h0 ⊢
      have hne : ∀ r, j ≤ r → r < cend l (j + 1) → bt l r ≠ 10 := fun r a1 a2 => by
        rcases Nat.lt_or_ge j r with h | h
        · exact k3 r h a2
        · rw [show r = j by omega]; exact hb10
      obtain ⟨R, hR, hP⟩ := lend_placed k2 k4 (fun D' hel h => by
        rcases k4 with h1 | h1
        · exact absurd hel (kl0.1 h1)
        · exact IH _ (by omega) D' hre (kl_one h1) hel h) h0
      refine ⟨R, hR, fun fr s pl n hfr hi hst hpl => ?_⟩
      obtain ⟨c1, c2⟩ := stN_walk _ j (cend l (j + 1)) (Nat.le_refl _) (by omega) k2 hr hre hne line (ci l j - ci l hb + 1)
      refine hP fr s pl _ true (by omega) ?_ (stN_trans n _ _ _ _ hst (by rw [show ci l j - ci l hb + 1 + (ci l (cend l (j + 1)) - ci l j) = ci l (cend l (j + 1)) - ci l hb + 1 by omega] at c2; exact c2)) hpl
      rw [idF_more hfr (by omega) hi, sub_app (Nat.le_succ j) k1, sub_one hlt, idF_app]
      have e35 : l[j] = 35 := UInt8.toNat_inj.1 (by rw [← bt_at' hlt, hb35]; rfl)
      rw [e35]
      refine idF_open _ (fun c hc e => ?_)
      obtain ⟨m, hm, rfl⟩ := List.mem_iff_getElem.1 hc
      obtain ⟨g1, g2⟩ := sub_get (List.getElem?_eq_getElem hm)
      exact k3 (j + 1 + m) (by omega) g2 (by rw [bt_of g1, e]; rfl)
    by_cases he : tokE l j = 0
    · obtain ⟨a1, a2⟩ := tok_adv hlt h1 he
      have a3 := tok_nonl hlt h1 he
      have hrt := RE.tok hr hlt
      have hsm := tok_same he
      rw [runM_tok h2 h8 h1 hz he] at h0 ⊢
      obtain ⟨R, hR, hP⟩ := run_placed l f (tokJ l j) line hb _ (by omega) (by omega) a2 hrt hrb (fun r b1 b2 => by
        rcases Nat.lt_or_ge r j with h | h
        · exact hnl r b1 h
        · exact a3 r h b2) h0
      refine ⟨((tokC l j).1, subL l j (tokC l j).2, line, ci l j - ci l hb + 1) :: R, by rw [hR, List.append_assoc]; rfl, fun fr s pl n hfr hi hst hpl => ?_⟩
      have hlen : j + (subL l j (tokC l j).2).length = tokJ l j := by
        rw [← hsm]
        unfold subL
        simp
        omega
      refine ⟨n, j, hst, hfr, hj, fun _ => ⟨hi, ?_, ?_, ?_⟩, fun h => absurd h (tokC_kind l j)⟩
      · show subL l j (j + (subL l j (tokC l j).2).length) = subL l j (tokC l j).2
        rw [hlen, hsm]
      · show j + (subL l j (tokC l j).2).length ≤ l.length
        rw [hlen]; exact a2
      · show PLc l (j + (subL l j (tokC l j).2).length) _ _ R
        rw [hlen]
        obtain ⟨c1, c2⟩ := stN_walk _ j (tokJ l j) (Nat.le_refl _) (by omega) a2 hr hrt a3 line (ci l j - ci l hb + 1)
        rw [show ci l j - ci l hb + 1 + (ci l (tokJ l j) - ci l j) = ci l (tokJ l j) - ci l hb + 1 by omega] at c2
        exact hP _ _ _ (ci l (tokJ l j) - ci l j) (Nat.le_refl _) (by rw [sub_self]; rfl) c2 (fun _ => rfl)
    · rw [runM_err h2 h8 h1 hz he] at h0
      exact absurd h0 he
theorem scan_placed (l : List UInt8) (h : l.length ≤ 16384) (he : (scanM l).2.1 = 0) : PLc l 0 (0, 1, 1) 0 (scanM l).1 := by
  unfold scanM at he ⊢
  rw [if_neg (by omega)] at he ⊢
  obtain ⟨R, hR, hP⟩ := run_placed l (l.length + 1) 0 1 0 [] (by omega) (Nat.le_refl _) (Nat.zero_le _) (RE.zero l) (RE.zero l) (fun r h1 h2 => by omega) he
  rw [hR]
  refine hP 0 (0, 1, 1) 0 0 (Nat.le_refl _) (by rw [sub_self]; rfl) ?_ (fun ⟨t, h1, _⟩ => by cases h1)
  rw [Nat.sub_self]
  rfl
end Go.Proofs.YtggifkdgkjmljaaGreatDoor
namespace Go.Proofs.YtggifkdgkjmljaaGreatDoor
open Go.RowKit Go.Shelf
def joinK (a b : KT) : Bool := joinB ((a.1 : Int), a.2, 0, 0) ((b.1 : Int), b.2, 0, 0)
def gapK (p : Option KT) (t : KT) : List UInt8 := match p with
  | some u => if joinK u t = true then [] else [32]
  | none => []
/-- the text of tokens -/
def prT : Option KT → List KT → List UInt8
  | _, [] => []
  | p, t :: r => gapK p t ++ (t.2 ++ prT (some t) r)
theorem joinK_cases {a b : KT} (ha : a.1 ≠ 1) (hb : b.1 ≠ 1) (h : joinK a b = true) :
    (a.2 = [40] ∨ a.2 = [47] ∨ a.2 = [46, 46] ∨ a.2 = [58]) ∨ (b.2 = [41] ∨ b.2 = [44] ∨ b.2 = [47] ∨ b.2 = [46, 46] ∨ b.2 = [58]) ∨ (a.2 = [33] ∧ (b.1 = 2 ∨ b.2 = [40] ∨ b.2 = [33])) := by
  have e1 : ((1 : Int) == (a.1 : Int)) = false := by rw [beq_eq_false_iff_ne]; omega
  have e2 : ((1 : Int) == (b.1 : Int)) = false := by rw [beq_eq_false_iff_ne]; omega
  unfold joinK joinB at h
  simp only [joinedT, List.any_cons, List.any_nil, likeB, e1, e2] at h
  simp at h
  rcases h with h | h | h | h | h | h | h | h | h | h | h | h
  all_goals simp_all
  all_goals first
    | exact .inr (.inr (.inr (.inr (h.2.symm.trans h.1))))
    | exact .inr (.inr (.inl (by omega)))
theorem joinK_end (a : KT) : joinK a (1, [10]) = true := by
  unfold joinK joinB
  simp [joinedT, likeB]
theorem joinK_end' (b : KT) : joinK (1, [10]) b = true := by
  unfold joinK joinB
  simp [joinedT, likeB]
theorem signs_kl : ∀ s ∈ signsL, kl s 0 ≠ 3 ∧ kl s 0 ≠ 4 ∧ kl s 0 ≠ 6 ∧ kl s 0 ≠ 7 := by decide
theorem kind7 {K : Nat} {X : List UInt8} (h : goodT K X) (hX : X ∈ signsL) : K = 7 := by
  obtain ⟨a1, a2, a3, a4⟩ := signs_kl X hX
  have := (tok_sign a1 a2 a3 a4).1
  rw [h.2.2.2.2.1] at this
  exact (Prod.mk.inj this).1
theorem kinds_kl {K : Nat} {X : List UInt8} (h : goodT K X) : (K = 2 → kl X 0 = 3) ∧ (K = 7 → X ∈ signsL) := by
  have hC := h.2.2.2.2.1
  by_cases h3 : kl X 0 = 3
  · refine ⟨fun _ => h3, fun h7 => ?_⟩
    unfold tokC endF at hC
    rw [if_pos h3, if_pos rfl] at hC
    split at hC <;> (have := (Prod.mk.inj hC).1; omega)
  by_cases h4 : kl X 0 = 4
  · unfold tokC endF at hC
    rw [if_neg h3, if_pos h4, if_neg (by decide), if_neg (by decide), if_pos rfl] at hC
    have := (Prod.mk.inj hC).1
    exact ⟨fun h => by omega, fun h => by omega⟩
  by_cases h6 : kl X 0 = 6
  · unfold tokC endF at hC
    rw [if_neg h3, if_neg h4, if_pos h6, if_neg (by decide), if_neg (by decide), if_neg (by decide), if_pos rfl] at hC
    have := (Prod.mk.inj hC).1
    exact ⟨fun h => by omega, fun h => by omega⟩
  by_cases h7 : kl X 0 = 7
  · unfold tokC endF at hC
    rw [if_neg h3, if_neg h4, if_neg h6, if_pos h7, if_neg (by decide), if_neg (by decide), if_neg (by decide), if_neg (by decide)] at hC
    have := (Prod.mk.inj hC).1
    exact ⟨fun h => by omega, fun h => by omega⟩
  have hs := (tok_sign h3 h4 h6 h7).1
  rw [hC] at hs
  obtain ⟨e1, e2⟩ := Prod.mk.inj hs
  refine ⟨fun h => by omega, fun _ => ?_⟩
  rw [List.drop_zero, Nat.zero_add] at e2
  have hpos := h.1
  unfold sgn at e2
  cases hf : signsL.find? (fun s => Lib.hasPrefix X s) with
  | none =>
    rw [hf] at e2
    have e3 : X.length = 0 := e2
    omega
  | some z =>
    have hz := List.find?_some hf
    have hm := List.mem_of_find?_eq_some hf
    rw [hf] at e2
    simp only [Option.map_some, Option.getD_some] at e2
    unfold Lib.hasPrefix at hz
    rw [List.isPrefixOf_iff_prefix] at hz
    have := hz.eq_of_length (by omega)
    rw [← this]
    exact hm
/-- what follows a sign -/
theorem sgn_front {X : List UInt8} (hX : X ∈ signsL) {R : List UInt8} (hR : R = [] ∨ ∃ y R', R = y :: R' ∧ (X.length = 1 → y ≠ 61 ∧ y ≠ 62)) : sgn (X ++ R) = X.length := by
  rw [show signsL = signs2 ++ signs1 from rfl, List.mem_append] at hX
  rcases hX with h | h
  · have h2 : ∀ s ∈ signs2, s.length = 2 := by decide
    have := h2 X h
    match X, this with
    | [x, y], _ => rw [show [x, y] ++ R = x :: y :: R from rfl, sgn_two, if_pos h]; rfl
  · have h1 : ∀ s ∈ signs1, s.length = 1 ∧ s ≠ [46] := by decide
    obtain ⟨hl, hne⟩ := h1 X h
    match X, hl with
    | [x], _ =>
      rcases hR with rfl | ⟨y, R', rfl, hy⟩
      · rw [List.append_nil, sgn_one, if_pos h]; rfl
      · obtain ⟨y1, y2⟩ := hy rfl
        rw [show [x] ++ y :: R' = x :: y :: R' from rfl, sgn_two, if_neg (fun hm => ?_), if_pos h]
        · rfl
        · simp only [List.mem_cons, List.not_mem_nil, or_false, List.cons.injEq, and_true] at hm
          rcases hm with ⟨_, e⟩ | ⟨_, e⟩ | ⟨_, e⟩ | ⟨e, _⟩ | ⟨_, e⟩
          · exact y1 e
          · exact y1 e
          · exact y1 e
          · exact hne (by rw [e])
          · exact y2 e
/-- what lets a token end -/
def nextOK (K : Nat) (X R : List UInt8) : Prop := (K = 7 → sgn (X ++ R) = X.length) ∧ (K ≠ 7 → K ≠ 6 → R = [] ∨ ∃ y R', R = y :: R' ∧ cls (y.toNat : Int) ≠ 3 ∧ cls (y.toNat : Int) ≠ 4 ∧ (cls (y.toNat : Int) = 5 → ∃ R'', R' = 46 :: R''))
theorem okA_of {K : Nat} {X R : List UInt8} (h : nextOK K X R) (P : List UInt8) : okA K (P ++ (X ++ R)) P.length (P.length + X.length) := by
  have hA : K ≠ 7 → K ≠ 6 → inW (P ++ (X ++ R)) (P.length + X.length) = false ∧ ∀ c, c = 3 ∨ c = 4 → dotA (P ++ (X ++ R)) (P.length + X.length) c = false := fun h7 h6 => by
    rcases h.2 h7 h6 with rfl | ⟨y, R', rfl, y3, y4, y5⟩
    · have hz : kl (P ++ (X ++ [])) (P.length + X.length) = 0 := kl0.2 (by simp)
      refine ⟨by unfold inW; rw [hz]; rfl, fun c hc => by unfold dotA; rw [hz]; rfl⟩
    · have e0 : (P ++ (X ++ y :: R'))[P.length + X.length]? = some y := by
        rw [← List.append_assoc, ← List.length_append, List.getElem?_append_right (Nat.le_refl _), Nat.sub_self]
        rfl
      have hk : kl (P ++ (X ++ y :: R')) (P.length + X.length) = cls (y.toNat : Int) := by
        rw [kl_bt (by simp), bt_of e0]
      refine ⟨by unfold inW; rw [hk]; simp [y3, y4], fun c hc => ?_⟩
      unfold dotA
      rw [hk]
      by_cases h5 : cls (y.toNat : Int) = 5
      · obtain ⟨R'', rfl⟩ := y5 h5
        have e1 : (P ++ (X ++ y :: 46 :: R''))[P.length + X.length + 1]? = some 46 := by
          rw [← List.append_assoc, ← List.length_append, List.getElem?_append_right (Nat.le_succ _), show (P ++ X).length.succ - (P ++ X).length = 1 by omega]
          rfl
        have hk1 : kl (P ++ (X ++ y :: 46 :: R'')) (P.length + X.length + 1) = 5 := by
          rw [kl_bt (by simp; omega), bt_of e1]
          rfl
        rw [hk1]
        rcases hc with rfl | rfl <;> simp
      · simp [h5]
  refine ⟨fun e => ?_, fun e => ?_, fun e => ?_, fun e => ?_⟩
  · obtain ⟨a1, a2⟩ := hA (by omega) (by omega)
    exact ⟨a1, a2 3 (.inl rfl)⟩
  · exact (hA (by omega) (by omega)).1
  · obtain ⟨a1, a2⟩ := hA (by omega) (by omega)
    rw [a1, a2 4 (.inr rfl)]
    rfl
  · rw [List.drop_left, h.1 e]
    omega
theorem next_ok {t : KT} (ht : goodT t.1 t.2) {r : List KT} (hr : goodL r) : nextOK t.1 t.2 (prT (some t) r) := by
  have hk1 := goodT_kind ht
  obtain ⟨-, hs7⟩ := kinds_kl ht
  cases r with
  | nil => exact ⟨fun e => sgn_front (hs7 e) (.inl rfl), fun _ _ => .inl rfl⟩
  | cons u r =>
    have hu := hr u (by simp)
    have hu1 := goodT_kind hu
    have hR : prT (some t) (u :: r) = gapK (some t) u ++ (u.2 ++ prT (some u) r) := rfl
    rw [hR]
    cases hj : joinK t u with
    | false =>
      have hg : gapK (some t) u = [32] := by unfold gapK; simp [hj]
      rw [hg]
      exact ⟨fun e => sgn_front (hs7 e) (.inr ⟨32, _, rfl, fun _ => ⟨by decide, by decide⟩⟩), fun _ _ => .inr ⟨32, _, rfl, by decide, by decide, fun h => absurd h (by decide)⟩⟩
    | true =>
      have hg : gapK (some t) u = [] := by unfold gapK; simp [hj]
      rw [hg, List.nil_append]
      obtain ⟨y, ys, hy⟩ : ∃ y ys, u.2 = y :: ys := by
        cases hu2 : u.2 with
        | nil => have := hu.1; rw [hu2] at this; simp at this
        | cons y ys => exact ⟨y, ys, rfl⟩
      rcases joinK_cases hk1 hu1 hj with h | h | ⟨h, h2⟩
      · have hm : t.2 ∈ signsL := by rcases h with h | h | h | h <;> rw [h] <;> decide
        have h7 := kind7 ht hm
        refine ⟨fun _ => ?_, fun e => absurd h7 e⟩
        rcases h with h | h | h | h
        · rw [h, hy, show ([40] : List UInt8) ++ (y :: ys ++ prT (some u) r) = 40 :: y :: (ys ++ prT (some u) r) from rfl, sgn_two, if_neg (by simp), if_pos (by decide)]; rfl
        · rw [h, hy, show ([47] : List UInt8) ++ (y :: ys ++ prT (some u) r) = 47 :: y :: (ys ++ prT (some u) r) from rfl, sgn_two, if_neg (by simp), if_pos (by decide)]; rfl
        · rw [h, show ([46, 46] : List UInt8) ++ (u.2 ++ prT (some u) r) = 46 :: 46 :: (u.2 ++ prT (some u) r) from rfl, sgn_two, if_pos (by decide)]; rfl
        · rw [h, hy, show ([58] : List UInt8) ++ (y :: ys ++ prT (some u) r) = 58 :: y :: (ys ++ prT (some u) r) from rfl, sgn_two, if_neg (by simp), if_pos (by decide)]; rfl
      · have key : ∃ y ys, u.2 = y :: ys ∧ (y ≠ 61 ∧ y ≠ 62) ∧ cls (y.toNat : Int) ≠ 3 ∧ cls (y.toNat : Int) ≠ 4 ∧ (cls (y.toNat : Int) = 5 → ∃ R'', ys = 46 :: R'') := by
          rcases h with h | h | h | h | h
          · exact ⟨41, [], h, by decide, by decide, by decide, fun h => absurd h (by decide)⟩
          · exact ⟨44, [], h, by decide, by decide, by decide, fun h => absurd h (by decide)⟩
          · exact ⟨47, [], h, by decide, by decide, by decide, fun h => absurd h (by decide)⟩
          · exact ⟨46, [46], h, by decide, by decide, by decide, fun _ => ⟨[], rfl⟩⟩
          · exact ⟨58, [], h, by decide, by decide, by decide, fun h => absurd h (by decide)⟩
        obtain ⟨y, ys, e, k1, k2, k3, k4⟩ := key
        rw [e]
        refine ⟨fun e7 => sgn_front (hs7 e7) (.inr ⟨y, ys ++ prT (some u) r, rfl, fun _ => k1⟩), fun _ _ => .inr ⟨y, ys ++ prT (some u) r, rfl, k2, k3, fun h5 => ?_⟩⟩
        obtain ⟨R'', e''⟩ := k4 h5
        exact ⟨R'' ++ prT (some u) r, by rw [e'']; rfl⟩
      · have hm : t.2 ∈ signsL := by rw [h]; decide
        have h7 := kind7 ht hm
        refine ⟨fun _ => sgn_front hm (.inr ⟨y, ys ++ prT (some u) r, by rw [hy]; rfl, fun _ => ?_⟩), fun e => absurd h7 e⟩
        have hby : kl u.2 0 = cls (y.toNat : Int) := by
          rw [kl_bt hu.1, bt_of (show u.2[0]? = some y by rw [hy]; rfl)]
        rcases h2 with h2 | h2 | h2
        · have := (kinds_kl hu).1 h2
          rw [hby] at this
          refine ⟨fun e => ?_, fun e => ?_⟩
          · rw [e] at this; exact absurd this (by decide)
          · rw [e] at this; exact absurd this (by decide)
        · rw [hy] at h2
          rw [List.head_eq_of_cons_eq h2]
          decide
        · rw [hy] at h2
          rw [List.head_eq_of_cons_eq h2]
          decide
end Go.Proofs.YtggifkdgkjmljaaGreatDoor
namespace Go.Proofs.YtggifkdgkjmljaaGreatDoor
open Go.RowKit Go.Shelf
theorem ag_in (P X R : List UInt8) : AG X 0 (P ++ (X ++ R)) P.length X.length := by
  refine ⟨by omega, by simp, fun k hk => ?_⟩
  rw [Nat.zero_add, bt_shift]
  unfold bt
  rw [List.getD_eq_getElem?_getD, List.getD_eq_getElem?_getD, List.getElem?_append_left hk]
theorem sub_whole (X : List UInt8) : subL X 0 (0 + X.length) = X := by
  unfold subL
  simp
/-- one token, wherever it stands -/
theorem tok_put {K : Nat} {X R : List UInt8} (h : goodT K X) (hR : nextOK K X R) (P : List UInt8) :
    kl (P ++ (X ++ R)) P.length = kl X 0 ∧ tokC (P ++ (X ++ R)) P.length = (K, P.length + X.length) ∧ tokE (P ++ (X ++ R)) P.length = 0 ∧ subL (P ++ (X ++ R)) P.length (P.length + X.length) = X := by
  have a := ag_in P X R
  obtain ⟨h0, h1, h2, h8, hC, hE⟩ := h
  obtain ⟨t1, t2⟩ := tok_ag a h0 (by rw [hC, Nat.zero_add]) hE (okA_of hR P)
  refine ⟨(a.kl0 h0).symm, t1, t2, ?_⟩
  rw [a.sub, sub_whole]
/-- a line that was written is read as it was -/
theorem run_line : ∀ (r : List KT) (p : Option KT) (P a : List UInt8) (f line : Nat) (D : List Tok), goodL r → a = P ++ prT p r → a.length - P.length < f → ∃ f' D', runM f a P.length line 0 D = runM (f' + 1) a a.length line 0 (D ++ D') ∧ kt D' = r
  | [], p, P, a, f, line, D, _, ha, hf => by
    have e : P.length = a.length := by rw [ha]; simp [prT]
    obtain ⟨g, rfl⟩ : ∃ g, f = g + 1 := ⟨f - 1, by omega⟩
    exact ⟨g, [], by rw [e, List.append_nil], rfl⟩
  | t :: r, p, P, a, f, line, D, hg, ha, hf => by
    have ht := hg t (by simp)
    have hr : goodL r := fun u hu => hg u (by simp [hu])
    have hn := next_ok ht hr
    have step : ∀ (Q : List UInt8) (g : Nat), a = Q ++ (t.2 ++ prT (some t) r) → a.length - Q.length < g → ∃ f' D', runM g a Q.length line 0 D = runM (f' + 1) a a.length line 0 (D ++ D') ∧ kt D' = t :: r := fun Q g hQ hlt => by
      obtain ⟨k0, k1, k2, k3⟩ := tok_put ht hn Q
      rw [← hQ] at k0 k1 k2 k3
      have hlen : a.length = Q.length + t.2.length + (prT (some t) r).length := by rw [hQ]; simp; omega
      have hpos := ht.1
      obtain ⟨g, rfl⟩ : ∃ g', g = g' + 1 := ⟨g - 1, by omega⟩
      have hz : kl a Q.length ≠ 0 := fun e => kl0.1 e (by omega)
      have hJ : tokJ a Q.length = Q.length + t.2.length := by rw [tok_same k2, k1]
      rw [runM_tok (by rw [k0]; exact ht.2.2.1) (by rw [k0]; exact ht.2.2.2.1) (by rw [k0]; exact ht.2.1) hz k2, hJ, k1]
      simp only
      rw [k3]
      obtain ⟨f', D', e1, e2⟩ := run_line r (some t) (Q ++ t.2) a g line (D ++ [(t.1, t.2, line, ci a Q.length - ci a 0 + 1)]) hr (by rw [List.append_assoc]; exact hQ) (by rw [List.length_append]; omega)
      rw [List.length_append] at e1
      refine ⟨f', (t.1, t.2, line, ci a Q.length - ci a 0 + 1) :: D', ?_, ?_⟩
      · rw [e1, List.append_assoc]
        rfl
      · unfold kt at e2 ⊢
        rw [List.map_cons, e2]
    have hp : prT p (t :: r) = gapK p t ++ (t.2 ++ prT (some t) r) := rfl
    rw [hp] at ha
    have hgap : gapK p t = [] ∨ gapK p t = [32] := by
      unfold gapK
      split
      · split
        · exact .inl rfl
        · exact .inr rfl
      · exact .inl rfl
    rcases hgap with e | e
    · rw [e, List.nil_append] at ha
      exact step P f ha hf
    · rw [e] at ha
      have hlen : a.length = P.length + 1 + t.2.length + (prT (some t) r).length := by rw [ha]; simp; omega
      have hk : kl a P.length = 2 := by
        have e0 : a[P.length]? = some 32 := by rw [ha, List.getElem?_append_right (Nat.le_refl _), Nat.sub_self]; rfl
        rw [kl_bt (by omega), bt_of e0]
        rfl
      obtain ⟨g, rfl⟩ : ∃ g, f = g + 1 := ⟨f - 1, by omega⟩
      rw [runM_blank hk]
      have := step (P ++ [32]) g (by rw [List.append_assoc]; exact ha) (by rw [List.length_append, List.length_singleton]; omega)
      rw [List.length_append, List.length_singleton] at this
      exact this
theorem ended_kt {D : List Tok} (hD : ended D) (line col : Nat) : endT D line col = D := endT_shut (fun ⟨t, h1, h2⟩ => h2 (hD t h1)) line col
theorem line_text {ln : List KT} (hg : goodL ln) (hne : ln ≠ []) (line : Nat) (D : List Tok) : ∃ E, textM (prT none ln) line D = (D ++ E, 0, 0, 0) ∧ kt E = ln ++ [(1, [10])] := by
  obtain ⟨f', D', e1, e2⟩ := run_line ln none [] (prT none ln) ((prT none ln).length + 1) line D hg rfl (by simp)
  have hz : kl (prT none ln) (prT none ln).length = 0 := kl0.2 (by omega)
  rcases List.eq_nil_or_concat D' with rfl | ⟨D0, t, rfl⟩
  · exact absurd e2.symm hne
  rw [List.concat_eq_append] at e1 e2
  have ht : t.1 ≠ 1 := by
    refine goodT_kind (hg (t.1, t.2.1) ?_)
    rw [← e2, kt_snoc]
    simp
  refine ⟨D0 ++ [t] ++ [(1, [10], line, ci (prT none ln) (prT none ln).length - ci (prT none ln) 0 + 1)], ?_, ?_⟩
  · have e1' : textM (prT none ln) line D = runM (f' + 1) (prT none ln) (prT none ln).length line 0 (D ++ (D0 ++ [t])) := e1
    rw [e1', runM_end (.inr hz)]
    unfold lendM
    rw [if_pos hz, endT_open ⟨t, by simp, ht⟩, List.append_assoc]
  · rw [kt_snoc, e2]
theorem goodT_nonl {K : Nat} {X : List UInt8} (h : goodT K X) : ∀ c ∈ X, c ≠ 10 := fun c hc e => by
  obtain ⟨h0, h1, h2, h8, hC, hE⟩ := h
  obtain ⟨m, hm, rfl⟩ := List.mem_iff_getElem.1 hc
  have hJ : tokJ X 0 = X.length := by rw [tok_same hE, hC]
  exact tok_nonl h0 h1 hE m (Nat.zero_le _) (by omega) (by rw [bt_of (List.getElem?_eq_getElem hm), e]; rfl)
theorem prT_nonl : ∀ (r : List KT) (p : Option KT), goodL r → ∀ c ∈ prT p r, c ≠ 10
  | [], _, _, c, hc => by cases hc
  | t :: r, p, hg, c, hc => by
    have hp : prT p (t :: r) = gapK p t ++ (t.2 ++ prT (some t) r) := rfl
    rw [hp] at hc
    rcases List.mem_append.1 hc with h | h
    · unfold gapK at h
      intro e
      subst e
      split at h
      · split at h <;> simp at h
      · simp at h
    · rcases List.mem_append.1 h with h | h
      · exact goodT_nonl (hg t (by simp)) c h
      · exact prT_nonl r (some t) (fun u hu => hg u (by simp [hu])) c h
theorem prT_end : ∀ (ln : List KT) (p : Option KT) (rest : List KT), prT p (ln ++ (1, [10]) :: rest) = prT p ln ++ 10 :: prT none rest
  | [], p, rest => by
    have h1 : gapK p (1, [10]) = [] := by
      unfold gapK
      split
      · rw [if_pos (joinK_end _)]
      · rfl
    have h2 : prT (some (1, [10])) rest = prT none rest := by
      cases rest with
      | nil => rfl
      | cons u r =>
        have e : gapK (some (1, [10])) u = gapK none u := by
          unfold gapK
          simp only
          rw [if_pos (joinK_end' u)]
        show gapK (some (1, [10])) u ++ _ = gapK none u ++ _
        rw [e]
    show gapK p (1, [10]) ++ ([10] ++ prT (some (1, [10])) rest) = _
    rw [h1, h2]
    rfl
  | t :: ln, p, rest => by
    show gapK p t ++ (t.2 ++ prT (some t) (ln ++ (1, [10]) :: rest)) = (gapK p t ++ (t.2 ++ prT (some t) ln)) ++ 10 :: prT none rest
    rw [prT_end ln (some t) rest]
    simp
theorem text_done' (a : List UInt8) (line : Nat) (X : List Tok) : ((textM a line X).2.1 = 0 → ended (textM a line X).1 ∧ (textM a line X).2 = (0, 0, 0)) ∧ ((textM a line X).2.1 ≠ 0 → (textM a line X).1 = []) := run_done a (a.length + 1) 0 line 0 X (by omega)
/-- what is written of lines of tokens is read as them -/
theorem text_print : ∀ (Ls : List (List KT)) (line : Nat) (D : List Tok), goodLs Ls → ended D → ∃ E, textM (prT none (flat Ls)) line D = (D ++ E, 0, 0, 0) ∧ kt E = flat Ls
  | [], line, D, _, hD => by
    refine ⟨[], ?_, rfl⟩
    have hz : kl ([] : List UInt8) 0 = 0 := kl0.2 (by simp)
    show runM 1 [] 0 line 0 D = _
    rw [runM_end (.inr hz)]
    unfold lendM
    rw [if_pos hz, ended_kt hD, List.append_nil]
  | ln :: Ls, line, D, hg, hD => by
    obtain ⟨hne, hgl⟩ := hg ln (by simp)
    obtain ⟨E1, e1, e2⟩ := line_text hgl hne line D
    have hf : flat (ln :: Ls) = ln ++ (1, [10]) :: flat Ls := by
      unfold flat
      simp
    have hend : ended (D ++ E1) := by
      have := (text_done' (prT none ln) line D).1 (by rw [e1])
      rw [e1] at this
      exact this.1
    obtain ⟨E2, f1, f2⟩ := text_print Ls (line + 1) (D ++ E1) (fun x hx => hg x (by simp [hx])) hend
    refine ⟨E1 ++ E2, ?_, ?_⟩
    · rw [hf, prT_end, text_cons (prT_nonl ln none hgl), e1]
      simp only
      rw [if_neg (fun h => h rfl), f1, List.append_assoc]
    · have : kt (E1 ++ E2) = kt E1 ++ kt E2 := by unfold kt; simp
      rw [this, e2, f2, hf]
      simp
theorem scan_print (Ls : List (List KT)) (hg : goodLs Ls) (h : (prT none (flat Ls)).length ≤ 16384) : (scanM (prT none (flat Ls))).2 = (0, 0, 0) ∧ kt (scanM (prT none (flat Ls))).1 = flat Ls := by
  obtain ⟨E, e1, e2⟩ := text_print Ls 1 [] hg (fun t h => by cases h)
  have e : scanM (prT none (flat Ls)) = textM (prT none (flat Ls)) 1 [] := by
    unfold scanM
    rw [if_neg (by omega)]
    rfl
  rw [e, e1]
  exact ⟨rfl, e2⟩
end Go.Proofs.YtggifkdgkjmljaaGreatDoor
