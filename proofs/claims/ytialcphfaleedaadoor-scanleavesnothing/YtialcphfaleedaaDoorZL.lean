import Derived.Test.YtialcphfaleedaaDoorZ22
import Derived.Test.YtialcphfaleedaaDoorZ34
import Derived.Test.YtialcphfaleedaaDoorZ10
import Derived.Test.YtialcphfaleedaaDoorZ19
import Derived.Test.YtialcphfaleedaaDoorZ21
import Derived.Test.YtialcphfaleedaaDoorZ23
namespace Go.Proofs.YtialcphfaleedaaDoor
open Go.RowKit Go.Shelf
theorem RE.at {l : List UInt8} {j : Nat} (h : RE l j) : AT l (ci l j) j := by
  obtain ⟨k, hk⟩ := h
  rw [← hk.ci]
  exact hk
theorem RE.step {l : List UInt8} {p q : Nat} (h1 : RE l p) (h2 : RE l q) (h : p < q) (hq : q ≤ l.length) : p + (dc l p).2 ≤ q ∧ ci l (p + (dc l p).2) = ci l p + 1 ∧ RE l (p + (dc l p).2) := by
  have a1 := h1.at
  have a2 := h2.at
  have a3 := a1.next (show p < l.length by omega)
  have hle := dc_le l p (by omega)
  have hlt := at_mono a1 a2 h hq
  refine ⟨Classical.byContradiction (fun hc => ?_), a3.ci.symm, ⟨_, a3⟩⟩
  have := at_mono a2 a3 (by omega) hle
  omega
theorem sub_get {l : List UInt8} {i j k : Nat} {c : UInt8} (h : (subL l i j)[k]? = some c) : l[i + k]? = some c ∧ i + k < j := by
  unfold subL at h
  rw [List.getElem?_take] at h
  split at h
  · rw [List.getElem?_drop] at h
    exact ⟨h, by omega⟩
  · cases h
theorem tok_same {l : List UInt8} {j : Nat} (he : tokE l j = 0) : tokJ l j = (tokC l j).2 := by
  by_cases h7 : kl l j = 7 ∧ quoE l j ≠ 0
  · unfold tokE at he
    rw [if_pos h7] at he
    exact absurd he h7.2
  · unfold tokE at he
    rw [if_neg h7] at he
    unfold tokJ
    rw [if_neg h7, if_pos he]
theorem cls_high (r : Int) (h2 : r ≠ -2) (h : ¬ (0 ≤ r ∧ r < 128)) : cls r = 9 := by
  unfold cls
  rw [if_neg (by omega), if_neg (by omega), if_neg (by omega), if_neg (by omega), if_neg (by omega), if_neg (by omega), if_neg (by omega), if_neg (by omega), if_neg (by omega), if_neg (by omega), if_neg (by omega)]
/-- a byte's class is its character's -/
theorem kl_bt {l : List UInt8} {i : Nat} (h : i < l.length) : kl l i = cls (bt l i : Int) := by
  unfold kl
  by_cases hb : bt l i < 128
  · rw [(chr_asc l i (bt l i) hb).2 ⟨h, rfl⟩]
  · have hn : ∀ x : Nat, x < 128 → chr l i ≠ (x : Int) := fun x hx e => hb (by rw [((chr_asc l i x hx).1 e).2]; exact hx)
    have h2 : chr l i ≠ -2 := by unfold chr; rw [if_pos h]; split <;> omega
    rw [cls_high _ h2 (fun hh => hn (chr l i).toNat (by omega) (by omega)), cls_high _ (by omega) (by omega)]
def letX (x : Nat) : Bool := decide ((65 ≤ x ∧ x ≤ 90) ∨ (97 ≤ x ∧ x ≤ 122) ∨ x = 95)
def digX (x : Nat) : Bool := decide (48 ≤ x ∧ x ≤ 57)
def blaX (x : Nat) : Bool := decide (x = 32 ∨ x = 9 ∨ x = 13)
theorem cls_tab : ∀ x : Fin 256, letX x.val = decide (cls (x.val : Int) = 3) ∧ digX x.val = decide (cls (x.val : Int) = 4) ∧ blaX x.val = decide (cls (x.val : Int) = 2) ∧ (cls (x.val : Int) = 8 → x.val = 35) := by decide +kernel
theorem letX_cls {x : Nat} (h : x < 256) : letX x = decide (cls (x : Int) = 3) := (cls_tab ⟨x, h⟩).1
theorem digX_cls {x : Nat} (h : x < 256) : digX x = decide (cls (x : Int) = 4) := (cls_tab ⟨x, h⟩).2.1
theorem blaX_cls {x : Nat} (h : x < 256) : blaX x = decide (cls (x : Int) = 2) := (cls_tab ⟨x, h⟩).2.2.1
theorem hashX_cls {x : Nat} (h : x < 256) : cls (x : Int) = 8 → x = 35 := (cls_tab ⟨x, h⟩).2.2.2
theorem blank_bt {l : List UInt8} {j : Nat} (h : kl l j = 2) : bt l j = 32 ∨ bt l j = 9 ∨ bt l j = 13 := by
  have hj := (kl_asc (l := l) (j := j) (by omega) (by omega)).1
  rw [kl_bt hj] at h
  have h2 := blaX_cls (bt_lt l j)
  rw [decide_eq_true h] at h2
  exact of_decide_eq_true h2
theorem hash_bt {l : List UInt8} {j : Nat} (h : kl l j = 8) : j < l.length ∧ bt l j = 35 := by
  have hj := (kl_asc (l := l) (j := j) (by omega) (by omega)).1
  rw [kl_bt hj] at h
  exact ⟨hj, hashX_cls (bt_lt l j) h⟩
end Go.Proofs.YtialcphfaleedaaDoor
namespace Go.Proofs.YtialcphfaleedaaDoor
open Go.RowKit Go.Shelf
/-- the next spot: its byte, line and column -/
def nxt (l : List UInt8) (s : Nat × Nat × Nat) : Nat × Nat × Nat := (s.1 + (dc l s.1).2, if kl l s.1 = 1 then (s.2.1 + 1, 1) else (s.2.1, s.2.2 + 1))
def stN (l : List UInt8) : Nat → Nat × Nat × Nat → Nat × Nat × Nat → Prop
  | 0, s, t => s = t
  | n + 1, s, t => s.1 < l.length ∧ stN l n (nxt l s) t
theorem stN_trans {l : List UInt8} : ∀ (n m : Nat) (s t u : Nat × Nat × Nat), stN l n s t → stN l m t u → stN l (n + m) s u
  | 0, m, s, t, u, h1, h2 => by
    rw [Nat.zero_add, show s = t from h1]
    exact h2
  | n + 1, m, s, t, u, h1, h2 => by
    rw [show n + 1 + m = (n + m) + 1 by omega]
    exact ⟨h1.1, stN_trans n m _ t u h1.2 h2⟩
theorem nxt_lt (l : List UInt8) (s : Nat × Nat × Nat) : s.2.1 < (nxt l s).2.1 ∨ (s.2.1 = (nxt l s).2.1 ∧ s.2.2 < (nxt l s).2.2) := by
  unfold nxt
  by_cases h : kl l s.1 = 1
  · rw [if_pos h]; exact .inl (Nat.lt_succ_self _)
  · rw [if_neg h]; exact .inr ⟨rfl, Nat.lt_succ_self _⟩
theorem stN_lt {l : List UInt8} : ∀ (n : Nat) (s t : Nat × Nat × Nat), stN l (n + 1) s t → s.2.1 < t.2.1 ∨ (s.2.1 = t.2.1 ∧ s.2.2 < t.2.2)
  | 0, s, t, h => by
    have := nxt_lt l s
    rw [show nxt l s = t from h.2] at this
    exact this
  | n + 1, s, t, h => by
    have h1 := nxt_lt l s
    have h2 := stN_lt n _ t h.2
    omega
theorem stN_ne {l : List UInt8} {n : Nat} {s t : Nat × Nat × Nat} (h : stN l n s t) (he : s.2 = t.2) : n = 0 ∧ s = t := by
  match n, h with
  | 0, h => exact ⟨rfl, h⟩
  | n + 1, h =>
    have := stN_lt n s t h
    rw [he] at this
    omega
/-- along a line -/
theorem stN_walk {l : List UInt8} : ∀ (m p q : Nat), q - p ≤ m → p ≤ q → q ≤ l.length → RE l p → RE l q → (∀ r, p ≤ r → r < q → bt l r ≠ 10) → ∀ line col, ci l p ≤ ci l q ∧ stN l (ci l q - ci l p) (p, line, col) (q, line, col + (ci l q - ci l p))
  | m, p, q, hm, hpq, hq, h1, h2, hb, line, col => by
    rcases Nat.lt_or_ge p q with h | h
    · match m, hm with
      | 0, hm => omega
      | m + 1, hm =>
        have hp := dc_pos l p
        have a1 := h1.at
        have a2 := h2.at
        have a3 := a1.next (show p < l.length by omega)
        have hle := dc_le l p (by omega)
        have hlt := at_mono a1 a2 h hq
        have hstep : p + (dc l p).2 ≤ q := Classical.byContradiction (fun hc => by
          have := at_mono a2 a3 (by omega) hle
          omega)
        have h3 : RE l (p + (dc l p).2) := ⟨_, a3⟩
        have ih := stN_walk m (p + (dc l p).2) q (by omega) hstep hq h3 h2 (fun r hr1 hr2 => hb r (by omega) hr2) line (col + 1)
        have e3 := a3.ci
        rw [← e3] at ih
        refine ⟨by omega, ?_⟩
        rw [show ci l q - ci l p = (ci l q - (ci l p + 1)) + 1 by omega]
        refine ⟨by show p < l.length; omega, ?_⟩
        have hk : kl l p ≠ 1 := fun e => hb p (Nat.le_refl _) h (kl_one e)
        unfold nxt
        rw [if_neg hk, show col + (ci l q - (ci l p + 1) + 1) = col + 1 + (ci l q - (ci l p + 1)) by omega]
        exact ih.2
    · have e : p = q := by omega
      subst e
      refine ⟨Nat.le_refl _, ?_⟩
      rw [Nat.sub_self]
      rfl
/-- blanks, comments and ends of lines: is a comment open behind them -/
def idF : List UInt8 → Bool → Option Bool
  | [], c => some c
  | b :: r, c => if b = 10 then idF r false else if b = 35 then idF r true else if c = false ∧ b ≠ 32 ∧ b ≠ 9 ∧ b ≠ 13 then none else idF r c
theorem idF_app : ∀ (x y : List UInt8) (c : Bool), idF (x ++ y) c = (idF x c).bind (idF y)
  | [], y, c => rfl
  | b :: x, y, c => by
    rw [List.cons_append, idF, idF]
    split
    · exact idF_app x y _
    · split
      · exact idF_app x y _
      · split
        · rfl
        · exact idF_app x y _
theorem idF_open : ∀ x : List UInt8, (∀ c ∈ x, c ≠ 10) → idF x true = some true
  | [], _ => rfl
  | b :: x, h => by
    rw [idF, if_neg (h b (by simp))]
    split
    · exact idF_open x (fun c hc => h c (by simp [hc]))
    · rw [if_neg (by simp)]
      exact idF_open x (fun c hc => h c (by simp [hc]))
theorem sub_self (l : List UInt8) (i : Nat) : subL l i i = [] := by unfold subL; simp
theorem sub_app {l : List UInt8} {i j k : Nat} (h1 : i ≤ j) (h2 : j ≤ k) : subL l i k = subL l i j ++ subL l j k := by
  unfold subL
  rw [show k - i = (j - i) + (k - j) by omega, List.take_add, List.drop_drop, show i + (j - i) = j by omega]
theorem sub_one {l : List UInt8} {i : Nat} (h : i < l.length) : subL l i (i + 1) = [l[i]] := by
  unfold subL
  rw [Nat.add_sub_cancel_left, List.drop_eq_getElem_cons h]
  rfl
theorem sub_end (l : List UInt8) (i : Nat) : subL l i l.length = l.drop i := by
  unfold subL
  exact List.take_of_length_le (by simp)
theorem bt_at' {l : List UInt8} {i : Nat} (h : i < l.length) : bt l i = l[i].toNat := bt_of (List.getElem?_eq_getElem h)
/-- what lies from a byte on -/
def PLc (l : List UInt8) : Nat → Nat × Nat × Nat → Nat → List Tok → Prop
  | fr, _, _, [] => fr ≤ l.length ∧ ∃ c, idF (l.drop fr) false = some c
  | fr, s, pl, t :: r => ∃ n a, stN l n s (a, t.2.2.1, t.2.2.2) ∧ fr ≤ a ∧ a ≤ l.length ∧
      (t.1 ≠ 1 → idF (subL l fr a) false = some false ∧ subL l a (a + t.2.1.length) = t.2.1 ∧ a + t.2.1.length ≤ l.length ∧ PLc l (a + t.2.1.length) (a, t.2.2.1, t.2.2.2) t.2.2.1 r) ∧
      (t.1 = 1 → (∃ c, idF (subL l fr a) false = some c) ∧ pl = t.2.2.1 ∧ t.2.1 = [10] ∧ ((a = l.length ∧ PLc l a (a, t.2.2.1, t.2.2.2) t.2.2.1 r) ∨ (a < l.length ∧ bt l a = 10 ∧ PLc l (a + 1) (a, t.2.2.1, t.2.2.2) t.2.2.1 r)))
/-- is a line begun -/
def opn (D : List Tok) : Prop := ∃ t, D.getLast? = some t ∧ t.1 ≠ 1
theorem endT_open {D : List Tok} (h : opn D) (line col : Nat) : endT D line col = D ++ [(1, [10], line, col)] := by
  obtain ⟨t, h1, h2⟩ := h
  unfold endT
  rw [h1]
  exact if_neg h2
theorem endT_shut {D : List Tok} (h : ¬ opn D) (line col : Nat) : endT D line col = D := by
  unfold endT
  cases hd : D.getLast? with
  | none => rfl
  | some t =>
    simp only
    by_cases h1 : t.1 = 1
    · rw [if_pos h1]
    · exact absurd ⟨t, hd, h1⟩ h
theorem not_opn_end (D : List Tok) (line col : Nat) : ¬ opn (endT D line col) := by
  rintro ⟨t, h1, h2⟩
  exact h2 (endT_ended D line col t h1)
/-- a text from a byte on: its line there -/
theorem cut_at (l : List UInt8) {j : Nat} (hj : j ≤ l.length) : ∃ P a S, l = P ++ (a ++ S) ∧ P.length = j ∧ stopL S ∧ ∀ c ∈ a, c ≠ 10 := by
  obtain ⟨a, S, e, hS, ha⟩ := cut (l.drop j)
  exact ⟨l.take j, a, S, by rw [← e, List.take_append_drop], by simp; omega, hS, ha⟩
theorem line_bt {P a S : List UInt8} (ha : ∀ c ∈ a, c ≠ 10) {r : Nat} (h1 : P.length ≤ r) (h2 : r < P.length + a.length) : bt (P ++ (a ++ S)) r ≠ 10 := by
  obtain ⟨k, rfl⟩ : ∃ k, r = P.length + k := ⟨r - P.length, by omega⟩
  have hk : k < a.length := by omega
  rw [btL hk, bt_at' hk]
  intro e
  exact ha _ (List.getElem_mem hk) (UInt8.toNat_inj.1 e)
/-- no token goes over a newline -/
theorem tok_nonl {l : List UInt8} {j : Nat} (hj : j < l.length) (h1 : kl l j ≠ 1) (he : tokE l j = 0) : ∀ r, j ≤ r → r < tokJ l j → bt l r ≠ 10 := by
  obtain ⟨P, a, S, rfl, rfl, hS, ha⟩ := cut_at l (Nat.le_of_lt hj)
  have h0 : 0 < a.length := by
    refine Nat.pos_of_ne_zero (fun e => ?_)
    rcases klE (P := P) (a := a) hS with h | h
    · rw [e] at h
      exact (kl0.1 h) hj
    · rw [e] at h
      exact h1 h
  have ht := tokEL (P := P) (S := S) hS h0
  rw [Nat.add_zero] at ht
  rw [ht.1] at he
  have hk : kl a 0 ≠ 1 := noNL_of ha 0 h0
  have h2 := tok_adv h0 hk he
  intro r hr1 hr2
  rw [ht.2] at hr2
  exact line_bt ha hr1 (by omega)
/-- a comment ends with its line -/
theorem cend_nonl {l : List UInt8} {j : Nat} (hj : j ≤ l.length) : j ≤ cend l j ∧ cend l j ≤ l.length ∧ (∀ r, j ≤ r → r < cend l j → bt l r ≠ 10) ∧ (kl l (cend l j) = 0 ∨ kl l (cend l j) = 1) := by
  obtain ⟨P, a, S, rfl, rfl, hS, ha⟩ := cut_at l hj
  have h := cendL (P := P) hS (noNL_of ha) _ 0 (Nat.le_refl _) (Nat.zero_le _)
  rw [Nat.add_zero] at h
  rw [h]
  exact ⟨by omega, by simp, fun r h1 h2 => line_bt ha h1 h2, klE hS⟩
theorem tokC_kind (l : List UInt8) (j : Nat) : (tokC l j).1 ≠ 1 := by
  unfold tokC endF
  repeat' split
  all_goals first | decide | (intro h; simp at h)
theorem idF_more {l : List UInt8} {fr j e : Nat} {c : Bool} (h1 : fr ≤ j) (h2 : j ≤ e) (h : idF (subL l fr j) false = some c) : idF (subL l fr e) false = idF (subL l j e) c := by
  rw [sub_app h1 h2, idF_app, h]
  rfl
theorem idF_nl {l : List UInt8} {j : Nat} (hj : j < l.length) (hb : bt l j = 10) (c : Bool) : idF (subL l j (j + 1)) c = some false := by
  rw [sub_one hj, idF, if_pos (UInt8.toNat_inj.1 (by rw [← bt_at' hj, hb]; rfl))]
  rfl
/-- where the tokens lie that come from a byte on -/
def PLR (l : List UInt8) (j line hb : Nat) (D R : List Tok) : Prop := ∀ fr s pl n, fr ≤ j → idF (subL l fr j) false = some false → stN l n s (j, line, ci l j - ci l hb + 1) → (opn D → pl = line) → PLc l fr s pl R
theorem RE_nl {l : List UInt8} {e : Nat} (h : RE l e) (hb : bt l e = 10) (he : e < l.length) : RE l (e + 1) := h.asc he (by omega)
theorem lend_placed {l : List UInt8} {f e line hb : Nat} {D : List Tok} (he : e ≤ l.length) (hk : kl l e = 0 ∨ kl l e = 1)
    (ih : ∀ D' : List Tok, e < l.length → (runM f l (e + 1) (line + 1) (e + 1) D').2.1 = 0 → ∃ R, (runM f l (e + 1) (line + 1) (e + 1) D').1 = D' ++ R ∧ PLR l (e + 1) (line + 1) (e + 1) D' R)
    (h0 : (lendM f l e line hb D).2.1 = 0) :
    ∃ R, (lendM f l e line hb D).1 = D ++ R ∧ ∀ fr s pl n c, fr ≤ e → idF (subL l fr e) false = some c → stN l n s (e, line, ci l e - ci l hb + 1) → (opn D → pl = line) → PLc l fr s pl R := by
  unfold lendM at h0 ⊢
  by_cases hz : kl l e = 0
  · have hel : e = l.length := by
      have := kl0.1 hz
      omega
    rw [if_pos hz]
    by_cases ho : opn D
    · refine ⟨_, endT_open ho _ _, fun fr s pl n c hfr hi hst hpl => ?_⟩
      refine ⟨n, e, hst, hfr, he, fun h => absurd rfl h, fun _ => ⟨⟨c, hi⟩, hpl ho, rfl, .inl ⟨hel, he, false, ?_⟩⟩⟩
      rw [hel, List.drop_length]
      rfl
    · refine ⟨[], by rw [endT_shut ho, List.append_nil], fun fr s pl n c hfr hi hst hpl => ?_⟩
      refine ⟨by omega, c, ?_⟩
      rw [← sub_end, ← hel]
      exact hi
  · have h1 : kl l e = 1 := hk.resolve_left hz
    have hel : e < l.length := Classical.byContradiction (fun h => hz (kl0.2 h))
    have hb10 := kl_one h1
    rw [if_neg hz] at h0 ⊢
    obtain ⟨R, hR, hP⟩ := ih _ hel h0
    have hstep : ∀ col, stN l 1 (e, line, col) (e + 1, line + 1, ci l (e + 1) - ci l (e + 1) + 1) := fun col => by
      have hd : dc l e = (10, 1) := by rw [dc_asc (by omega), hb10]
      refine ⟨hel, ?_⟩
      show nxt l (e, line, col) = _
      unfold nxt
      simp only
      rw [if_pos h1, hd, Nat.sub_self]
    by_cases ho : opn D
    · refine ⟨(1, [10], line, ci l e - ci l hb + 1) :: R, by rw [hR, endT_open ho, List.append_assoc]; rfl, fun fr s pl n c hfr hi hst hpl => ?_⟩
      refine ⟨n, e, hst, hfr, he, fun h => absurd rfl h, fun _ => ⟨⟨c, hi⟩, hpl ho, rfl, .inr ⟨hel, hb10, ?_⟩⟩⟩
      exact hP (e + 1) _ _ 1 (Nat.le_refl _) (by rw [sub_self]; rfl) (hstep _) (fun h => absurd h (not_opn_end _ _ _))
    · refine ⟨R, by rw [hR, endT_shut ho], fun fr s pl n c hfr hi hst hpl => ?_⟩
      refine hP fr s pl (n + 1) (by omega) ?_ (stN_trans n 1 _ _ _ hst (hstep _)) (fun h => absurd h (not_opn_end _ _ _))
      rw [idF_more hfr (Nat.le_succ _) hi]
      exact idF_nl hel hb10 c
set_option maxHeartbeats 1000000 in
theorem run_placed (l : List UInt8) : ∀ (f j line hb : Nat) (D : List Tok), l.length - j < f → hb ≤ j → j ≤ l.length → RE l j → RE l hb → (∀ r, hb ≤ r → r < j → bt l r ≠ 10) → (runM f l j line hb D).2.1 = 0 → ∃ R, (runM f l j line hb D).1 = D ++ R ∧ PLR l j line hb D R
  | 0, j, line, hb, D, hf, _, _, _, _, _, _ => by omega
  | f + 1, j, line, hb, D, hf, hbj, hj, hr, hrb, hnl, h0 => by
    have hcb : ci l hb ≤ ci l j := (stN_walk _ hb j (Nat.le_refl _) hbj hj hrb hr hnl 0 0).1
    have IH : ∀ e, j ≤ e → ∀ D' : List Tok, RE l e → bt l e = 10 → e < l.length → (runM f l (e + 1) (line + 1) (e + 1) D').2.1 = 0 → ∃ R, (runM f l (e + 1) (line + 1) (e + 1) D').1 = D' ++ R ∧ PLR l (e + 1) (line + 1) (e + 1) D' R := fun e hje D' hre hbe hel h =>
      run_placed l f (e + 1) (line + 1) (e + 1) D' (by omega) (Nat.le_refl _) hel (RE_nl hre hbe hel) (RE_nl hre hbe hel) (fun r h1 h2 => by omega) h
    by_cases h10 : kl l j = 1 ∨ kl l j = 0
    · rw [runM_end h10] at h0 ⊢
      obtain ⟨R, hR, hP⟩ := lend_placed hj h10.symm (fun D' hel h => by
        rcases h10 with h1 | h1
        · exact IH j (Nat.le_refl _) D' hr (kl_one h1) hel h
        · exact absurd hel (kl0.1 h1)) h0
      exact ⟨R, hR, fun fr s pl n hfr hi hst hpl => hP fr s pl n false hfr hi hst hpl⟩
    have h1 : kl l j ≠ 1 := fun e => h10 (.inl e)
    have hz : kl l j ≠ 0 := fun e => h10 (.inr e)
    have hlt : j < l.length := Classical.byContradiction (fun e => hz (kl0.2 e))
    have hb10 : bt l j ≠ 10 := fun e => h1 (by rw [kl, (chr_asc l j 10 (by decide)).2 ⟨hlt, e⟩]; rfl)
    by_cases h2 : kl l j = 2
    · have hasc := (kl_asc (l := l) (j := j) (by omega) (by omega)).2
      have hr2 := hr.asc hlt hasc
      have hn2 : ∀ r, hb ≤ r → r < j + 1 → bt l r ≠ 10 := fun r a1 a2 => by
        rcases Nat.lt_or_ge r j with h | h
        · exact hnl r a1 h
        · rw [show r = j by omega]; exact hb10
      rw [runM_blank h2] at h0 ⊢
      obtain ⟨R, hR, hP⟩ := run_placed l f (j + 1) line hb D (by omega) (by omega) hlt hr2 hrb hn2 h0
      refine ⟨R, hR, fun fr s pl n hfr hi hst hpl => ?_⟩
      obtain ⟨c1, c2⟩ := stN_walk 1 j (j + 1) (by omega) (by omega) hlt hr hr2 (fun r a1 a2 => hn2 r (by omega) a2) line (ci l j - ci l hb + 1)
      refine hP fr s pl _ (by omega) ?_ (stN_trans n _ _ _ _ hst (by rw [show ci l j - ci l hb + 1 + (ci l (j + 1) - ci l j) = ci l (j + 1) - ci l hb + 1 by omega] at c2; exact c2)) hpl
      rw [idF_more hfr (Nat.le_succ _) hi, sub_one hlt]
      have hbl := blank_bt h2
      rw [bt_at' hlt] at hbl
      have hl : l[j] = 32 ∨ l[j] = 9 ∨ l[j] = 13 := by
        rcases hbl with h | h | h
        · exact .inl (UInt8.toNat_inj.1 h)
        · exact .inr (.inl (UInt8.toNat_inj.1 h))
        · exact .inr (.inr (UInt8.toNat_inj.1 h))
      rcases hl with h | h | h <;> rw [h] <;> rfl
    by_cases h8 : kl l j = 8
    · have hb35 := (hash_bt h8).2
      have hr2 := hr.asc hlt (by omega)
      obtain ⟨k1, k2, k3, k4⟩ := cend_nonl (l := l) (j := j + 1) hlt
      have hre := RE.cend (l := l) _ (j + 1) (Nat.le_refl _) hr2
      rw [runM_hash h8] at h0 ⊢
      have hne : ∀ r, j ≤ r → r < cend l (j + 1) → bt l r ≠ 10 := fun r a1 a2 => by
        rcases Nat.lt_or_ge j r with h | h
        · exact k3 r h a2
        · rw [show r = j by omega]; exact hb10
      obtain ⟨R, hR, hP⟩ := lend_placed k2 k4 (fun D' hel h => by
        rcases k4 with h1 | h1
        · exact absurd hel (kl0.1 h1)
        · exact IH _ (by omega) D' hre (kl_one h1) hel h) h0
      refine ⟨R, hR, fun fr s pl n hfr hi hst hpl => ?_⟩
      obtain ⟨c1, c2⟩ := stN_walk _ j (cend l (j + 1)) (Nat.le_refl _) (by omega) k2 hr hre hne line (ci l j - ci l hb + 1)
      refine hP fr s pl _ true (by omega) ?_ (stN_trans n _ _ _ _ hst (by rw [show ci l j - ci l hb + 1 + (ci l (cend l (j + 1)) - ci l j) = ci l (cend l (j + 1)) - ci l hb + 1 by omega] at c2; exact c2)) hpl
      rw [idF_more hfr (by omega) hi, sub_app (Nat.le_succ j) k1, sub_one hlt, idF_app]
      have e35 : l[j] = 35 := UInt8.toNat_inj.1 (by rw [← bt_at' hlt, hb35]; rfl)
      rw [e35]
      refine idF_open _ (fun c hc e => ?_)
      obtain ⟨m, hm, rfl⟩ := List.mem_iff_getElem.1 hc
      obtain ⟨g1, g2⟩ := sub_get (List.getElem?_eq_getElem hm)
      exact k3 (j + 1 + m) (by omega) g2 (by rw [bt_of g1, e]; rfl)
    by_cases he : tokE l j = 0
    · obtain ⟨a1, a2⟩ := tok_adv hlt h1 he
      have a3 := tok_nonl hlt h1 he
      have hrt := RE.tok hr hlt
      have hsm := tok_same he
      rw [runM_tok h2 h8 h1 hz he] at h0 ⊢
      obtain ⟨R, hR, hP⟩ := run_placed l f (tokJ l j) line hb _ (by omega) (by omega) a2 hrt hrb (fun r b1 b2 => by
        rcases Nat.lt_or_ge r j with h | h
        · exact hnl r b1 h
        · exact a3 r h b2) h0
      refine ⟨((tokC l j).1, subL l j (tokC l j).2, line, ci l j - ci l hb + 1) :: R, by rw [hR, List.append_assoc]; rfl, fun fr s pl n hfr hi hst hpl => ?_⟩
      have hlen : j + (subL l j (tokC l j).2).length = tokJ l j := by
        rw [← hsm]
        unfold subL
        simp
        omega
      refine ⟨n, j, hst, hfr, hj, fun _ => ⟨hi, ?_, ?_, ?_⟩, fun h => absurd h (tokC_kind l j)⟩
      · show subL l j (j + (subL l j (tokC l j).2).length) = subL l j (tokC l j).2
        rw [hlen, hsm]
      · show j + (subL l j (tokC l j).2).length ≤ l.length
        rw [hlen]; exact a2
      · show PLc l (j + (subL l j (tokC l j).2).length) _ _ R
        rw [hlen]
        obtain ⟨c1, c2⟩ := stN_walk _ j (tokJ l j) (Nat.le_refl _) (by omega) a2 hr hrt a3 line (ci l j - ci l hb + 1)
        rw [show ci l j - ci l hb + 1 + (ci l (tokJ l j) - ci l j) = ci l (tokJ l j) - ci l hb + 1 by omega] at c2
        exact hP _ _ _ (ci l (tokJ l j) - ci l j) (Nat.le_refl _) (by rw [sub_self]; rfl) c2 (fun _ => rfl)
    · rw [runM_err h2 h8 h1 hz he] at h0
      exact absurd h0 he
theorem scan_placed (l : List UInt8) (h : l.length ≤ 16384) (he : (scanM l).2.1 = 0) : PLc l 0 (0, 1, 1) 0 (scanM l).1 := by
  unfold scanM at he ⊢
  rw [if_neg (by omega)] at he ⊢
  obtain ⟨R, hR, hP⟩ := run_placed l (l.length + 1) 0 1 0 [] (by omega) (Nat.le_refl _) (Nat.zero_le _) (RE.zero l) (RE.zero l) (fun r h1 h2 => by omega) he
  rw [hR]
  refine hP 0 (0, 1, 1) 0 0 (Nat.le_refl _) (by rw [sub_self]; rfl) ?_ (fun ⟨t, h1, _⟩ => by cases h1)
  rw [Nat.sub_self]
  rfl
end Go.Proofs.YtialcphfaleedaaDoor
namespace Go.Proofs.YtialcphfaleedaaDoor
open Go.RowKit Go.Shelf
theorem idF_at {l : List UInt8} {k : Nat} {b : UInt8} (h : l[k]? = some b) (c : Bool) : idF (l.drop k) c = if b = 10 then idF (l.drop (k + 1)) false else if b = 35 then idF (l.drop (k + 1)) true else if c = false ∧ b ≠ 32 ∧ b ≠ 9 ∧ b ≠ 13 then none else idF (l.drop (k + 1)) c := by
  obtain ⟨hk, e⟩ := List.getElem?_eq_some_iff.1 h
  rw [List.drop_eq_getElem_cons hk, e, idF]
set_option maxRecDepth 100000 in
set_option maxHeartbeats 1000000 in
theorem idle_any (l : List UInt8) (f c : Bool) (w : World) (hs : l.length ≤ 16384) (h : idF l false = some c) (hf : f = true → c = false) :
    Calls Tryd.prog 20 #[.string ⟨l.toArray⟩, .bool f] w fun e w' => e = .returned (.bool true) ∧ w' = w := by
  have H0 : Hid (idF (l.drop 0) false = some c) := h
  have HF : Hid (f = true → c = false) := hf
  clear h hf
  go_enter Tryd.func20, Tryd.ntmps20
  go_wp2_with fail
  go_loopw [5, 6] (fun vc vi wr => ∃ (k : Nat) (cm : Bool), k ≤ l.length ∧ vi = .int .i64 k ∧ vc = .bool cm ∧ Hid (idF (l.drop k) cm = some c) ∧ wr = w) (fun _ vi _ => l.length - (intOf vi).toNat)
  case atStart => exact ⟨0, false, Nat.zero_le _, rfl, rfl, H0, rfl⟩
  case round =>
    clear H0
    obtain ⟨k, cm, hk, rfl, rfl, hi, rfl⟩ := hrel
    by_cases hlt : k < l.length
    · have j0 : (0 : Int) ≤ (k : Int) := by omega
      have j1 : (k : Int) < (l.length : Int) := by omega
      obtain ⟨b, hb, hlb⟩ := byte_get l k hlt
      have hst := idF_at hlb cm
      rw [hi.out] at hst
      clear hi
      by_cases b10 : b = 10
      · rw [if_pos b10] at hst
        subst b10
        have HI : Hid (idF (l.drop (k + 1)) false = some c) := hst.symm
        clear hst
        go_wp2_with fail
        go_roundw
        case rel => exact ⟨k + 1, false, by omega, by go_num, rfl, HI, trivial⟩
        case measure => simp [intOf]; omega
      · have n10 : ((b.toNat : Int) == 10) = false := u8_ne (d := 10) b10
        rw [if_neg b10] at hst
        by_cases b35 : b = 35
        · rw [if_pos b35] at hst
          subst b35
          have HI : Hid (idF (l.drop (k + 1)) true = some c) := hst.symm
          clear hst
          go_wp2_with fail
          go_roundw
          case rel => exact ⟨k + 1, true, by omega, by go_num, rfl, HI, trivial⟩
          case measure => simp [intOf]; omega
        · have n35 : ((b.toNat : Int) == 35) = false := u8_ne (d := 35) b35
          rw [if_neg b35] at hst
          cases cm with
          | true =>
            rw [if_neg (fun h => by cases h.1)] at hst
            have HI : Hid (idF (l.drop (k + 1)) true = some c) := hst.symm
            clear hst
            go_wp2_with fail
            go_roundw
            case rel => exact ⟨k + 1, true, by omega, by go_num, rfl, HI, trivial⟩
            case measure => simp [intOf]; omega
          | false =>
            have hbl : b = 32 ∨ b = 9 ∨ b = 13 := by
              by_cases e1 : b = 32
              · exact .inl e1
              by_cases e2 : b = 9
              · exact .inr (.inl e2)
              by_cases e3 : b = 13
              · exact .inr (.inr e3)
              rw [if_pos ⟨rfl, e1, e2, e3⟩] at hst
              cases hst
            rw [if_neg (fun h => by rcases hbl with e | e | e <;> simp [e] at h)] at hst
            have HI : Hid (idF (l.drop (k + 1)) false = some c) := hst.symm
            clear hst
            rcases hbl with rfl | rfl | rfl
            all_goals
              go_wp2_with fail
              go_roundw
              case rel => exact ⟨k + 1, false, by omega, by go_num, rfl, HI, trivial⟩
              case measure => simp [intOf]; omega
    · have j1 : ¬ (k : Int) < (l.length : Int) := by omega
      have hcm : cm = c := by
        have := hi.out
        rw [List.drop_eq_nil_of_le (by omega)] at this
        exact Option.some.inj this
      subst hcm
      clear hi
      cases f with
      | true =>
        obtain rfl : cm = false := HF.out rfl
        go_wp2_with fail
        go_ret
        exact ⟨rfl, rfl⟩
      | false =>
        go_wp2_with fail
        go_ret
        exact ⟨rfl, rfl⟩
end Go.Proofs.YtialcphfaleedaaDoor
namespace Go.Proofs.YtialcphfaleedaaDoor
open Go.RowKit Go.Shelf
theorem bt_drop (l : List UInt8) (p j : Nat) : bt (l.drop p) j = bt l (p + j) := by
  unfold bt
  simp [List.getD, List.getElem?_drop]
theorem dc_drop (l : List UInt8) (p i : Nat) : dc (l.drop p) i = dc l (p + i) := by
  unfold dc
  rw [bt_drop, bt_drop, bt_drop, bt_drop, List.length_drop, Nat.sub_sub, show p + (i + 1) = p + i + 1 by omega, show p + (i + 2) = p + i + 2 by omega, show p + (i + 3) = p + i + 3 by omega]
theorem kl_dc {l : List UInt8} {q : Nat} (h : q < l.length) : kl l q = 1 ↔ (dc l q).1 = 10 := by
  constructor
  · intro h1
    have := kl_one h1
    rw [dc_asc (by omega), this]
  · intro h1
    have hlo : lo1 l q = false := decide_eq_false (fun e => by rw [e] at h1; cases h1)
    have hc : chr l q = 10 := by
      unfold chr
      rw [if_pos h, hlo, h1]
      rfl
    unfold kl
    rw [hc]
    rfl
theorem stN_line {l : List UInt8} {n : Nat} {s t : Nat × Nat × Nat} (h : stN l n s t) : s.2.1 ≤ t.2.1 := by
  match n, h with
  | 0, h => rw [show s = t from h]; exact Nat.le_refl _
  | n + 1, h =>
    have := stN_lt n s t h
    omega
theorem results_sk (tmps : Array Value) (W : World) (g : Nat) (x y z : Value) (h : tmps.getD 8 undef = .pointer (some ⟨g, 0, none⟩)) (hk : W.heap[g]? = some (.cells #[x, y, z] 48)) : (results Tryd.f19 tmps).run Tryd.prog W = .ok (.agg #[x, y, z]) W := by
  have h' : tmps[8]?.getD undef = .pointer (some ⟨g, 0, none⟩) := by simpa using h
  have c0 : W.cell? ⟨g, 0, none⟩ = some x := cell_of_row W g 0 _ _ _ hk
  have c1 : W.cell? ⟨g, 1, none⟩ = some y := cell_of_row W g 1 _ _ _ hk
  have c2 : W.cell? ⟨g, 2, none⟩ = some z := cell_of_row W g 2 _ _ _ hk
  simp [results, h', go_sem, c0, c1, c2]
theorem seek_meas {w1 w2 : World} {b : Nat} {s : ByteArray} {i j n : Nat} (h1 : w1.heap[b]? = some (.stringIter s i)) (h2 : w2.heap[b]? = some (.stringIter s j)) (hij : i < j) (hj : j ≤ n) : n - w2.iterPos b < n - w1.iterPos b := by
  unfold World.iterPos
  rw [h1, h2]
  simp only
  omega
set_option maxRecDepth 100000 in
set_option maxHeartbeats 4000000 in
theorem seek_any (l : List UInt8) (p ln cl n q tl tc : Nat) (w : World) (hs : l.length ≤ 16384) (hp : p ≤ l.length) (h : stN l n (p, ln, cl) (q, tl, tc)) (hcl : cl ≤ 20000) (htl : tl ≤ 20000) :
    Calls Tryd.prog 19 #[.string ⟨l.toArray⟩, .agg #[.int .i64 (p : Int), .int .i64 (ln : Int), .int .i64 (cl : Int)], .int .i64 (tl : Int), .int .i64 (tc : Int)] w fun e w' => e = .returned (.agg #[.int .i64 (q : Int), .int .i64 (tl : Int), .int .i64 (tc : Int)]) ∧ Below w.heap.size w w' := by
  have j0 : (0 : Int) ≤ (p : Int) := by omega
  have j1 : (p : Int) ≤ (l.length : Int) := by omega
  have hE := ext_drop l p
  obtain ⟨X, hX⟩ : ∃ X, l.drop p = X := ⟨_, rfl⟩
  have hXl : X.length = l.length - p := by rw [← hX, List.length_drop]
  have hXd : Hid (∀ i, dc X i = dc l (p + i)) := fun i => by rw [← hX]; exact dc_drop l p i
  rw [hX] at hE
  have H0 : Hid (stN l n (p + 0, ln, cl) (q, tl, tc)) := h
  clear h hX
  obtain ⟨S, hS⟩ : ∃ S, w.heap.size = S := ⟨_, rfl⟩
  obtain ⟨V, hV⟩ : ∃ V : World, ((w.alloc (Obj.cells #[.int .i64 (p : Int), .int .i64 (ln : Int), .int .i64 (cl : Int)] 48)).alloc (Obj.cells #[.int .i64 0, .int .i64 0, .int .i64 0] 48)).iter ⟨X.toArray⟩ 0 = V := ⟨_, rfl⟩
  have v0 : V.heap[S]? = some (.cells #[.int .i64 (p : Int), .int .i64 (ln : Int), .int .i64 (cl : Int)] 48) := by
    rw [← hV, ← hS]
    exact allocblk (allocblk (alloc_get _ _) _) _
  have v1 : V.heap[S + 1]? = some (.cells #[.int .i64 0, .int .i64 0, .int .i64 0] 48) := by
    rw [← hV, ← hS]
    refine allocblk ?_ _
    have := alloc_get (w.alloc (Obj.cells #[.int .i64 (p : Int), .int .i64 (ln : Int), .int .i64 (cl : Int)] 48)) (Obj.cells #[.int .i64 0, .int .i64 0, .int .i64 0] 48)
    simpa using this
  have v2 : V.heap[S + 1 + 1]? = some (.stringIter ⟨X.toArray⟩ 0) := by
    rw [← hV, ← hS]
    have := World.iter_heap ((w.alloc (Obj.cells #[.int .i64 (p : Int), .int .i64 (ln : Int), .int .i64 (cl : Int)] 48)).alloc (Obj.cells #[.int .i64 0, .int .i64 0, .int .i64 0] 48)) ⟨X.toArray⟩ 0
    simpa using this
  have vB : Below w.heap.size w V := by
    rw [← hV]
    exact (((Below.refl _ _).alloc (Nat.le_refl _) _).alloc (by simp) _).alloc (by simp; omega) _
  go_enter Tryd.func19, Tryd.ntmps19
  go_wp2_with fail

  clear hV
  go_loopw [10] (fun _ wr => ∃ (i line col m : Nat), i ≤ X.length ∧ wr.heap[S]? = some (.cells #[.int .i64 (p : Int), .int .i64 (line : Int), .int .i64 (col : Int)] 48) ∧ wr.heap[S + 1]? = some (.cells #[.int .i64 0, .int .i64 0, .int .i64 0] 48) ∧ wr.heap[S + 1 + 1]? = some (.stringIter ⟨X.toArray⟩ i) ∧ Below w.heap.size w wr ∧ Hid (stN l m (p + i, line, col) (q, tl, tc)) ∧ col ≤ cl + i) (fun _ wr => X.length - wr.iterPos (S + 1 + 1))
  case atStart => exact ⟨0, ln, cl, n, Nat.zero_le _, v0, v1, v2, vB, H0, by omega⟩
  case round =>
    clear v0 v1 v2 vB H0
    obtain ⟨i, line, col, m, hi, h0, h1, h2, hB, hst, hcol⟩ := hrel
    have hline := stN_line hst.out
    simp only at hline
    by_cases hlt : i < X.length
    · have hnx0 := fun ty => Lib.run_next_any_at (P := Tryd.prog) wr (S + 1 + 1) ⟨X.toArray⟩ i ty h2 (by simpa [ByteArray.size] using hlt)
      rw [dc_decode] at hnx0
      have hpq : p + i < l.length := by omega
      have hpos := dc_pos X i
      have hle := dc_le X i hlt
      have hkl : Hid (kl l (p + i) = 1 ↔ (dc X i).1 = 10) := by
        unfold Hid
        rw [hXd.out]
        exact kl_dc hpq
      have hnxt : Hid (∀ m, stN l (m + 1) (p + i, line, col) (q, tl, tc) → stN l m (p + (i + (dc X i).2), if kl l (p + i) = 1 then (line + 1, 1) else (line, col + 1)) (q, tl, tc)) := fun m h => by
        have := h.2
        unfold nxt at this
        simp only at this
        rw [← hXd.out, Nat.add_assoc] at this
        exact this
      have k2 := Lib.iterAt_heap wr (S + 1 + 1) ⟨X.toArray⟩ i (i + (dc X i).2) h2
      have kB := Lib.below_iterAt hB (show w.heap.size ≤ S + 1 + 1 by omega) ⟨X.toArray⟩ (i + (dc X i).2)
      have k0 := (Lib.iterAt_other wr (S + 1 + 1) S ⟨X.toArray⟩ (i + (dc X i).2) (by omega)).trans h0
      have k1 := (Lib.iterAt_other wr (S + 1 + 1) (S + 1) ⟨X.toArray⟩ (i + (dc X i).2) (by omega)).trans h1
      obtain ⟨W2, hW2⟩ : ∃ W2, wr.iterAt (S + 1 + 1) ⟨X.toArray⟩ (i + (dc X i).2) = W2 := ⟨_, rfl⟩
      rw [hW2] at k0 k1 k2 kB
      have hnx : ∀ ty, (Instr.next (.pointer (some ⟨S + 1 + 1, 0, none⟩)) true ty).run Tryd.prog wr = .ok (.tuple #[.bool true, .int .i64 (i : Int), .int .i32 ((dc X i).1 : Int)]) W2 := fun ty => by rw [← hW2]; exact hnx0 ty
      have h2i := h2
      clear hnx0 hW2 h0 h1 h2 hB
      obtain ⟨R, hR⟩ : ∃ R, (dc X i).1 = R := ⟨_, rfl⟩
      obtain ⟨K, hK⟩ : ∃ K, (dc X i).2 = K := ⟨_, rfl⟩
      rw [hR] at hnx hkl
      rw [hK] at k2 hpos hle hnxt
      clear hR hK
      have c0 : W2.cell? ⟨S, 0, none⟩ = some (.int .i64 (p : Int)) := cell_of_row W2 S 0 _ _ _ k0
      have c1 : W2.cell? ⟨S, 1, none⟩ = some (.int .i64 (line : Int)) := cell_of_row W2 S 1 _ _ _ k0
      have c2 : W2.cell? ⟨S, 2, none⟩ = some (.int .i64 (col : Int)) := cell_of_row W2 S 2 _ _ _ k0
      have f0 : W2.frozen? ⟨S, 0, none⟩ = false := by simp [World.frozen?, k0]
      have f1 : W2.frozen? ⟨S, 1, none⟩ = false := by simp [World.frozen?, k0]
      have f2 : W2.frozen? ⟨S, 2, none⟩ = false := by simp [World.frozen?, k0]
      have d0 : W2.cell? ⟨S + 1, 0, none⟩ = some (.int .i64 0) := cell_of_row W2 (S + 1) 0 _ _ _ k1
      have d1 : W2.cell? ⟨S + 1, 1, none⟩ = some (.int .i64 0) := cell_of_row W2 (S + 1) 1 _ _ _ k1
      have d2 : W2.cell? ⟨S + 1, 2, none⟩ = some (.int .i64 0) := cell_of_row W2 (S + 1) 2 _ _ _ k1
      have g0 : W2.frozen? ⟨S + 1, 0, none⟩ = false := by simp [World.frozen?, k1]
      have g1 : W2.frozen? ⟨S + 1, 1, none⟩ = false := by simp [World.frozen?, k1]
      have g2 : W2.frozen? ⟨S + 1, 2, none⟩ = false := by simp [World.frozen?, k1]
      by_cases heq : line = tl ∧ col = tc
      · obtain ⟨rfl, rfl⟩ := heq
        have hq := (stN_ne hst.out rfl).2
        obtain rfl : p + i = q := (Prod.mk.inj hq).1
        have e1 : Hid (IntKind.i64.wrap ((p : Int) + (i : Int)) = ((p + i : Nat) : Int)) := by unfold Hid; rw [IntKind.wrap_i64]; omega
        clear hst hnxt hkl hq
        go_wp2_with fail
        refine bodyPost_ret (results_sk _ _ (S + 1) _ _ _ rfl (heap_setCell_same _ (S + 1) 2 _ _ _ (heap_setCell_same _ (S + 1) 1 _ _ _ (heap_setCell_same _ (S + 1) 0 _ _ _ ((heap_setCell_other _ _ _ _ (by simp)).trans k1))))) rfl ?_
        exact ⟨rfl, ((((kB.setCell (p := ⟨S, 0, none⟩) (by simp; omega) _).setCell (p := ⟨S + 1, 0, none⟩) (by simp; omega) _).setCell (p := ⟨S + 1, 1, none⟩) (by simp; omega) _).setCell (p := ⟨S + 1, 2, none⟩) (by simp; omega) _)⟩
      · obtain ⟨m', rfl⟩ : ∃ m', m = m' + 1 := by
          match m, hst with
          | 0, hst =>
            have := Prod.mk.inj (Prod.mk.inj (show (p + i, line, col) = (q, tl, tc) from hst.out)).2
            exact absurd this heq
          | m + 1, _ => exact ⟨m, rfl⟩
        by_cases hl : line = tl
        · have hc2 : col ≠ tc := fun e => heq ⟨hl, e⟩
          by_cases hR : R = 10
          · subst hl
            have n1 : ((col : Int) == (tc : Int)) = false := by rw [beq_eq_false_iff_ne]; omega
            subst hR
            have hn2 : Hid (stN l m' (p + (i + K), line + 1, 1) (q, line, tc)) := by
              have := hnxt.out m' hst.out
              rw [if_pos (hkl.out.2 rfl)] at this
              exact this
            clear hst hnxt hkl
            go_wp2_with fail
            go_roundw
            case rel =>
              refine ⟨i + K, line + 1, 1, m', hle, ?_, ?_, ?_, (kB.setCell (p := ⟨S, 1, none⟩) (by simp; omega) _).setCell (p := ⟨S, 2, none⟩) (by simp; omega) _, hn2, by omega⟩
              · rw [heap_setCell_same _ S 2 _ _ _ (heap_setCell_same W2 S 1 _ _ _ k0)]; rfl
              · rw [heap_setCell_other _ _ _ _ (by simp), heap_setCell_other _ _ _ _ (by simp)]; exact k1
              · rw [heap_setCell_other _ _ _ _ (by simp; omega), heap_setCell_other _ _ _ _ (by simp; omega)]; exact k2
            case measure => exact seek_meas h2i (by rw [heap_setCell_other _ _ _ _ (by simp; omega), heap_setCell_other _ _ _ _ (by simp; omega)]; exact k2) (by omega) hle
          · subst hl
            have n1 : ((col : Int) == (tc : Int)) = false := by rw [beq_eq_false_iff_ne]; omega
            have n10 : ((R : Int) == 10) = false := by rw [beq_eq_false_iff_ne]; omega
            have hn2 : Hid (stN l m' (p + (i + K), line, col + 1) (q, line, tc)) := by
              have := hnxt.out m' hst.out
              rw [if_neg (fun h => hR (hkl.out.1 h))] at this
              exact this
            clear hst hnxt hkl
            go_wp2_with fail
            go_roundw
            case rel =>
              refine ⟨i + K, line, col + 1, m', hle, ?_, ?_, ?_, kB.setCell (p := ⟨S, 2, none⟩) (by simp; omega) _, hn2, by omega⟩
              · rw [heap_setCell_same W2 S 2 _ _ _ k0]; rfl
              · rw [heap_setCell_other _ _ _ _ (by simp)]; exact k1
              · rw [heap_setCell_other _ _ _ _ (by simp; omega)]; exact k2
            case measure => exact seek_meas h2i (by rw [heap_setCell_other _ _ _ _ (by simp; omega)]; exact k2) (by omega) hle
        · by_cases hR : R = 10
          · have n1 : ((line : Int) == (tl : Int)) = false := by rw [beq_eq_false_iff_ne]; omega
            subst hR
            have hn2 : Hid (stN l m' (p + (i + K), line + 1, 1) (q, tl, tc)) := by
              have := hnxt.out m' hst.out
              rw [if_pos (hkl.out.2 rfl)] at this
              exact this
            clear hst hnxt hkl
            go_wp2_with fail
            go_roundw
            case rel =>
              refine ⟨i + K, line + 1, 1, m', hle, ?_, ?_, ?_, (kB.setCell (p := ⟨S, 1, none⟩) (by simp; omega) _).setCell (p := ⟨S, 2, none⟩) (by simp; omega) _, hn2, by omega⟩
              · rw [heap_setCell_same _ S 2 _ _ _ (heap_setCell_same W2 S 1 _ _ _ k0)]; rfl
              · rw [heap_setCell_other _ _ _ _ (by simp), heap_setCell_other _ _ _ _ (by simp)]; exact k1
              · rw [heap_setCell_other _ _ _ _ (by simp; omega), heap_setCell_other _ _ _ _ (by simp; omega)]; exact k2
            case measure => exact seek_meas h2i (by rw [heap_setCell_other _ _ _ _ (by simp; omega), heap_setCell_other _ _ _ _ (by simp; omega)]; exact k2) (by omega) hle
          · have n1 : ((line : Int) == (tl : Int)) = false := by rw [beq_eq_false_iff_ne]; omega
            have n10 : ((R : Int) == 10) = false := by rw [beq_eq_false_iff_ne]; omega
            have hn2 : Hid (stN l m' (p + (i + K), line, col + 1) (q, tl, tc)) := by
              have := hnxt.out m' hst.out
              rw [if_neg (fun h => hR (hkl.out.1 h))] at this
              exact this
            clear hst hnxt hkl
            go_wp2_with fail
            go_roundw
            case rel =>
              refine ⟨i + K, line, col + 1, m', hle, ?_, ?_, ?_, kB.setCell (p := ⟨S, 2, none⟩) (by simp; omega) _, hn2, by omega⟩
              · rw [heap_setCell_same W2 S 2 _ _ _ k0]; rfl
              · rw [heap_setCell_other _ _ _ _ (by simp)]; exact k1
              · rw [heap_setCell_other _ _ _ _ (by simp; omega)]; exact k2
            case measure => exact seek_meas h2i (by rw [heap_setCell_other _ _ _ _ (by simp; omega)]; exact k2) (by omega) hle
    · obtain rfl : i = X.length := by omega
      have hq : p + X.length = l.length := by omega
      obtain ⟨e1, e2, e3⟩ : p + X.length = q ∧ line = tl ∧ col = tc := by
        match m, hst with
        | 0, hst =>
          have h9 := Prod.mk.inj (show (p + X.length, line, col) = (q, tl, tc) from hst.out)
          exact ⟨h9.1, (Prod.mk.inj h9.2).1, (Prod.mk.inj h9.2).2⟩
        | m + 1, hst => exact absurd (show p + X.length < l.length from hst.out.1) (by omega)
      subst e2 e3
      obtain rfl : q = l.length := by omega
      have hnx := fun ty => Lib.run_next_end_at (P := Tryd.prog) wr (S + 1 + 1) ⟨X.toArray⟩ X.length ty h2 (by simp [ByteArray.size])
      have c0 : wr.cell? ⟨S, 0, none⟩ = some (.int .i64 (p : Int)) := cell_of_row wr S 0 _ _ _ h0
      have c1 : wr.cell? ⟨S, 1, none⟩ = some (.int .i64 (line : Int)) := cell_of_row wr S 1 _ _ _ h0
      have c2 : wr.cell? ⟨S, 2, none⟩ = some (.int .i64 (col : Int)) := cell_of_row wr S 2 _ _ _ h0
      have f0 : wr.frozen? ⟨S, 0, none⟩ = false := by simp [World.frozen?, h0]
      have d0 : wr.cell? ⟨S + 1, 0, none⟩ = some (.int .i64 0) := cell_of_row wr (S + 1) 0 _ _ _ h1
      have d1 : wr.cell? ⟨S + 1, 1, none⟩ = some (.int .i64 0) := cell_of_row wr (S + 1) 1 _ _ _ h1
      have d2 : wr.cell? ⟨S + 1, 2, none⟩ = some (.int .i64 0) := cell_of_row wr (S + 1) 2 _ _ _ h1
      have g0 : wr.frozen? ⟨S + 1, 0, none⟩ = false := by simp [World.frozen?, h1]
      have g1 : wr.frozen? ⟨S + 1, 1, none⟩ = false := by simp [World.frozen?, h1]
      have g2 : wr.frozen? ⟨S + 1, 2, none⟩ = false := by simp [World.frozen?, h1]
      clear hst hq hXl e1
      go_wp2_with fail
      refine bodyPost_ret (results_sk _ _ (S + 1) _ _ _ rfl (heap_setCell_same _ (S + 1) 2 _ _ _ (heap_setCell_same _ (S + 1) 1 _ _ _ (heap_setCell_same _ (S + 1) 0 _ _ _ ((heap_setCell_other _ _ _ _ (by simp)).trans h1))))) rfl ?_
      exact ⟨rfl, ((((hB.setCell (p := ⟨S, 0, none⟩) (by simp; omega) _).setCell (p := ⟨S + 1, 0, none⟩) (by simp; omega) _).setCell (p := ⟨S + 1, 1, none⟩) (by simp; omega) _).setCell (p := ⟨S + 1, 2, none⟩) (by simp; omega) _)⟩
end Go.Proofs.YtialcphfaleedaaDoor
namespace Go.Proofs.YtialcphfaleedaaDoor
open Go.RowKit Go.Shelf
end Go.Proofs.YtialcphfaleedaaDoor
namespace Go.Proofs.YtialcphfaleedaaDoor
open Go.RowKit Go.Shelf
/-- what stands while placed runs -/
def CP (w : World) (S a ln cl : Nat) (W : World) : Prop := Below w.heap.size w W ∧ w.heap.size ≤ S ∧ W.heap[S]? = some (.cells #[.int .i64 (a : Int), .int .i64 (ln : Int), .int .i64 (cl : Int)] 48)
/-- the line of the token ahead -/
def prevL (D : List Tok) (k pl : Nat) : Prop := (k = 0 ∧ pl = 0) ∨ ∃ k' t, k = k' + 1 ∧ D[k']? = some t ∧ t.2.2.1 = pl
section
variable {w W : World} {S a ln cl : Nat}
theorem CP.drew (h : CP w S a ln cl W) : CP w S a ln cl W.drew := ⟨h.1.drew, h.2.1, h.2.2⟩
theorem CP.later {W' : World} (h : CP w S a ln cl W) (hb : Below W.heap.size W W') : CP w S a ln cl W' := ⟨bel0 h.1 hb, h.2.1, keepblk hb h.2.2⟩
theorem CP.cells (h : CP w S a ln cl W) : W.cell? ⟨S, 0, none⟩ = some (.int .i64 (a : Int)) ∧ W.cell? ⟨S, 1, none⟩ = some (.int .i64 (ln : Int)) ∧ W.cell? ⟨S, 2, none⟩ = some (.int .i64 (cl : Int)) ∧ W.heap[S]? = some (.cells #[.int .i64 (a : Int), .int .i64 (ln : Int), .int .i64 (cl : Int)] 48) :=
  ⟨cell_of_row W S 0 _ _ _ h.2.2, cell_of_row W S 1 _ _ _ h.2.2, cell_of_row W S 2 _ _ _ h.2.2, h.2.2⟩
theorem CP.put (h : CP w S a ln cl W) (q tl tc : Nat) : CP w S q tl tc (((W.setCell ⟨S, 0, none⟩ (.int .i64 (q : Int))).setCell ⟨S, 1, none⟩ (.int .i64 (tl : Int))).setCell ⟨S, 2, none⟩ (.int .i64 (tc : Int))) :=
  ⟨((h.1.setCell (p := ⟨S, 0, none⟩) h.2.1 _).setCell (p := ⟨S, 1, none⟩) h.2.1 _).setCell (p := ⟨S, 2, none⟩) h.2.1 _, h.2.1, by
    rw [heap_setCell_same _ S 2 _ _ _ (heap_setCell_same _ S 1 _ _ _ (heap_setCell_same _ S 0 _ _ _ h.2.2))]
    rfl⟩
end
theorem stN_small {l : List UInt8} : ∀ (n : Nat) (s t : Nat × Nat × Nat), s.2.1 ≤ s.1 + 1 → s.2.2 ≤ s.1 + 1 → stN l n s t → t.2.1 ≤ t.1 + 1 ∧ t.2.2 ≤ t.1 + 1
  | 0, s, t, h1, h2, h => by rw [← show s = t from h]; exact ⟨h1, h2⟩
  | n + 1, s, t, h1, h2, h => by
    have hp := dc_pos l s.1
    refine stN_small n _ t ?_ ?_ h.2
    · unfold nxt
      by_cases hk : kl l s.1 = 1
      · rw [if_pos hk]; simp only; omega
      · rw [if_neg hk]; simp only; omega
    · unfold nxt
      by_cases hk : kl l s.1 = 1
      · rw [if_pos hk]; simp only; omega
      · rw [if_neg hk]; simp only; omega
set_option maxRecDepth 100000 in
set_option maxHeartbeats 4000000 in
theorem placed_any (l : List UInt8) (D : List Tok) (o : Option Addr) (c B : Nat) (w : World) (hs : l.length ≤ 16384) (hrow : w.ownsRow B 29 4 (.slice o D.length c) D.length (tcels D)) (hP : PLc l 0 (0, 1, 1) 0 D) :
    Calls Tryd.prog 10 #[.string ⟨l.toArray⟩, .slice o D.length c] w fun e w' => e = .returned (.bool true) ∧ Below w.heap.size w w' := by
  have hm : D.length ≤ maxLen := own_le hrow
  unfold maxLen at hm
  have HRow : Hid (w.ownsRow B 29 4 (.slice o D.length c) D.length (tcels D)) := hrow
  have HP0 : Hid (PLc l 0 (0, 1, 1) 0 (D.drop 0)) := hP
  have HL0 : Hid (prevL D 0 0) := .inl ⟨rfl, rfl⟩
  clear hrow hP
  obtain ⟨S, hS⟩ : ∃ S, w.heap.size = S := ⟨_, rfl⟩
  have hC0 : CP w S 0 1 1 (w.alloc (Obj.cells #[.int .i64 0, .int .i64 1, .int .i64 1] 48)) := ⟨(Below.refl _ _).alloc (Nat.le_refl _) _, by omega, by rw [← hS]; exact alloc_get _ _⟩
  go_enter Tryd.func10, Tryd.ntmps10
  go_wp2_with fail
  go_loopw [5, 7] (fun vf vi wr => ∃ (k fr a ln cl pl : Nat), vi = .int .i64 k ∧ vf = .int .i64 fr ∧ k ≤ D.length ∧ fr ≤ l.length ∧ a ≤ l.length ∧ ln ≤ a + 1 ∧ cl ≤ a + 1 ∧ 1 ≤ ln ∧ Hid (PLc l fr (a, ln, cl) pl (D.drop k)) ∧ Hid (prevL D k pl) ∧ CP w S a ln cl wr) (fun _ vi _ => D.length - (intOf vi).toNat)
  case atStart => exact ⟨0, 0, 0, 1, 1, 0, rfl, rfl, Nat.zero_le _, Nat.zero_le _, Nat.zero_le _, by omega, by omega, Nat.le_refl _, HP0, HL0, hC0⟩
  case round =>
    clear HP0 HL0 hC0
    obtain ⟨k, fr, a, ln, cl, pl, rfl, rfl, hk, hfr, hal, hln, hcl, hln1, hPL, hpl, hC⟩ := hrel
    by_cases hlt : k < D.length
    · obtain ⟨G, rfl⟩ := own_at HRow.out (by omega)
      have hdr : D.drop k = D[k] :: D.drop (k + 1) := List.drop_eq_getElem_cons hlt
      have ht : D[k]? = some D[k] := List.getElem?_eq_getElem hlt
      have hP2 := hPL.out
      rw [hdr] at hP2
      obtain ⟨t, hte⟩ : ∃ t, D[k] = t := ⟨_, rfl⟩
      rw [hte] at hP2 ht
      obtain ⟨K, X, tl, tc⟩ := t
      obtain ⟨n, q, hst, hfq, hql, hN, hE⟩ := hP2
      simp only at hst hN hE
      clear hdr hte hPL
      obtain ⟨b1, b2⟩ := stN_small n _ _ (show ln ≤ a + 1 from hln) (show cl ≤ a + 1 from hcl) hst
      have b3 : ln ≤ tl := stN_line hst
      simp only at b1 b2
      have HSK : Hid (∀ W : World, Calls Tryd.prog 19 #[.string ⟨l.toArray⟩, .agg #[.int .i64 (a : Int), .int .i64 (ln : Int), .int .i64 (cl : Int)], .int .i64 (tl : Int), .int .i64 (tc : Int)] W fun e w' => e = .returned (.agg #[.int .i64 (q : Int), .int .i64 (tl : Int), .int .i64 (tc : Int)]) ∧ Below W.heap.size W w') := fun W => seek_any l a ln cl n q tl tc W hs hal hst (by omega) (by omega)
      clear hst
      have j1 : (k : Int) < (D.length : Int) := by omega
      have j0 : (0 : Int) ≤ (k : Int) := by omega
      obtain ⟨Y, hY⟩ : ∃ Y, subL l fr q = Y := ⟨_, rfl⟩
      have hEx : (ByteArray.mk l.toArray).extract fr q = ⟨Y.toArray⟩ := by rw [← hY]; exact ext_sub l fr q
      have hYl : Y.length ≤ 16384 := by rw [← hY]; have := subL_len l fr q; omega
      rw [hY] at hN hE
      clear hY
      have j5 : (fr : Int) ≤ (q : Int) := by omega
      have j6 : (q : Int) ≤ (l.length : Int) := by omega
      by_cases hK : K = 1
      · subst hK
        obtain ⟨⟨ci, hid⟩, hpt, rfl, hnx⟩ := hE rfl
        subst hpt
        clear hN hE
        obtain ⟨k, rfl, hpk⟩ : ∃ k', k = k' + 1 ∧ ∃ t, D[k']? = some t ∧ t.2.2.1 = pl := by
          rcases hpl.out with h | ⟨k', t, h1, h2, h3⟩
          · exact absurd h.2 (by omega)
          · exact ⟨k', h1, t, h2, h3⟩
        obtain ⟨⟨K0, X9, tl0, tc0⟩, hpt, hpl0⟩ := hpk
        simp only at hpl0
        subst hpl0
        have X0 : Hid (∀ W : World, Below w.heap.size w W → W.cell? ⟨G, k * 4, none⟩ = some (.int .i64 (K0 : Int)) ∧ W.cell? ⟨G, k * 4 + 1, none⟩ = some (.string ⟨X9.toArray⟩) ∧ W.cell? ⟨G, k * 4 + 2, none⟩ = some (.int .i64 (tl0 : Int)) ∧ W.cell? ⟨G, k * 4 + 3, none⟩ = some (.int .i64 (tc0 : Int))) := fun W hW => tok_cell (owns_below HRow.out hW) hpt
        have X1 : Hid (∀ W : World, Below w.heap.size w W → W.cell? ⟨G, (k + 1) * 4, none⟩ = some (.int .i64 1) ∧ W.cell? ⟨G, (k + 1) * 4 + 1, none⟩ = some (.string ⟨#[10]⟩) ∧ W.cell? ⟨G, (k + 1) * 4 + 2, none⟩ = some (.int .i64 (tl0 : Int)) ∧ W.cell? ⟨G, (k + 1) * 4 + 3, none⟩ = some (.int .i64 (tc : Int))) := fun W hW => tok_cell (owns_below HRow.out hW) ht
        have HID : Hid (∀ W : World, Calls Tryd.prog 20 #[.string ⟨Y.toArray⟩, .bool false] W fun e w' => e = .returned (.bool true) ∧ w' = W) := fun W => idle_any Y false ci W hYl hid (fun h => by cases h)
        have HL2 : Hid (prevL D (k + 1 + 1) tl0) := .inr ⟨k + 1, _, rfl, ht, rfl⟩
        have jk : (k : Int) < (D.length : Int) := by omega
        have HWK : Hid (IntKind.i64.wrap (k : Int) = (k : Int)) := by unfold Hid; rw [IntKind.wrap_i64]; omega
        have jk0 : (0 : Int) ≤ (k : Int) := by omega
        have jk1 : (0 : Int) ≤ (k : Int) + 1 := by omega
        have jk2 : (k : Int) + 1 < (D.length : Int) := by omega
        have jk3 : ¬ (k : Int) + 1 = 0 := by omega
        have jk4 : ((k : Int) + 1 == 0) = false := by rw [beq_eq_false_iff_ne]; omega
        clear hpl hpt ht hid
        rcases hnx with ⟨rfl, hnx⟩ | ⟨hq, hb10, hnx⟩
        · have HPL2 : Hid (PLc l l.length (l.length, tl0, tc) tl0 (D.drop (k + 1 + 1))) := hnx
          clear hnx
          go_wp2_with fail
          refine quiet_last (C := CP w S a ln cl) (by kernel_rfl) (by kernel_rfl) (by kernel_rfl) (by kernel_rfl) (CP.drew hC) ?_
          simp only [List.dropLast_cons_cons, List.dropLast_singleton]
          go_big_quiet_want
          go_big_quiet_op
          go_big_quiet_on
          go_big_quiet_want
          refine ⟨.agg #[.int .i64 (a : Int), .int .i64 (ln : Int), .int .i64 (cl : Int)], fun W hW => ?_, ?_⟩
          · obtain ⟨z0, z1, z2, -⟩ := hW.cells
            go_simp
          go_big_quiet_on
          simp only [Act.put, List.setIfInBounds_toArray, List.set_cons_zero, List.set_cons_succ]
          go_big_quiet_want
          go_big_quiet_op
          go_big_quiet_on
          go_big_quiet_want
          go_big_quiet_op
          go_big_quiet_on
          go_big_quiet_want
          refine ⟨.pointer (some ⟨G, (k + 1) * 4, none⟩), fun W hW => ?_, ?_⟩
          · go_simp
          go_big_quiet_on
          simp only [Act.put, List.setIfInBounds_toArray, List.set_cons_zero, List.set_cons_succ]
          go_big_quiet_want
          refine ⟨.pointer (some ⟨G, (k + 1) * 4 + 2, none⟩), fun W hW => ?_, ?_⟩
          · go_simp
          go_big_quiet_on
          simp only [Act.put, List.setIfInBounds_toArray, List.set_cons_zero, List.set_cons_succ]
          go_big_quiet_want
          refine ⟨.int .i64 (tl0 : Int), fun W hW => ?_, ?_⟩
          · obtain ⟨y0, y1, y2, y3⟩ := X1.out W hW.1
            go_simp
          go_big_quiet_on
          simp only [Act.put, List.setIfInBounds_toArray, List.set_cons_zero, List.set_cons_succ]
          go_big_quiet_want
          go_big_quiet_op
          go_big_quiet_on
          go_big_quiet_want
          go_big_quiet_op
          go_big_quiet_on
          go_big_quiet_want
          refine ⟨.pointer (some ⟨G, (k + 1) * 4, none⟩), fun W hW => ?_, ?_⟩
          · go_simp
          go_big_quiet_on
          simp only [Act.put, List.setIfInBounds_toArray, List.set_cons_zero, List.set_cons_succ]
          go_big_quiet_want
          refine ⟨.pointer (some ⟨G, (k + 1) * 4 + 3, none⟩), fun W hW => ?_, ?_⟩
          · go_simp
          go_big_quiet_on
          simp only [Act.put, List.setIfInBounds_toArray, List.set_cons_zero, List.set_cons_succ]
          go_big_quiet_want
          refine ⟨.int .i64 (tc : Int), fun W hW => ?_, ?_⟩
          · obtain ⟨y0, y1, y2, y3⟩ := X1.out W hW.1
            go_simp
          go_big_quiet_on
          simp only [Act.put, List.setIfInBounds_toArray, List.set_cons_zero, List.set_cons_succ]
          go_big_quiet_want
          refine ⟨.agg #[.int .i64 (l.length : Int), .int .i64 (tl0 : Int), .int .i64 (tc : Int)], fun W hW => ?_, ?_⟩
          · go_simp
            refine (HSK.out W).mono ?_
            rintro e w7 ⟨rfl, hb⟩
            exact ⟨rfl, hW.later hb⟩
          go_big_quiet_on
          simp only [Act.put, List.setIfInBounds_toArray, List.set_cons_zero, List.set_cons_succ]
          refine wpQuiet_nil ?_
          intro W hW
          obtain ⟨z0, z1, z2, hk0⟩ := hW.cells
          have f0 : W.frozen? ⟨S, 0, none⟩ = false := by simp [World.frozen?, hk0]
          have f1 : W.frozen? ⟨S, 1, none⟩ = false := by simp [World.frozen?, hk0]
          have f2 : W.frozen? ⟨S, 2, none⟩ = false := by simp [World.frozen?, hk0]
          have hc3 := hW.put l.length tl0 tc
          refine wpOp_go rfl rfl ?_
          go_simp
          generalize ((W.setCell ⟨S, 0, none⟩ (.int .i64 (l.length : Int))).setCell ⟨S, 1, none⟩ (.int .i64 (tl0 : Int))).setCell ⟨S, 2, none⟩ (.int .i64 (tc : Int)) = W3 at hc3 ⊢
          obtain ⟨x0, x1, x2, -⟩ := hc3.cells
          clear z0 z1 z2 hk0 f0 f1 f2 hW hC HSK W
          go_wp2_with fail
          clear x0 x1 x2
          refine quiet_lit3 (C := CP w S l.length tl0 tc) (by kernel_rfl) (by kernel_rfl) (CP.drew hc3) ?_
          go_big_quiet_want
          go_big_quiet_op
          go_big_quiet_on
          go_big_quiet_want
          go_big_quiet_op
          go_big_quiet_on
          go_big_quiet_want
          refine ⟨.bool false, fun W hW => ?_, ?_⟩
          · have e9 : ¬ (l.length : Int) < (fr : Int) := by omega
            go_simp
          go_big_quiet_on
          simp only [Act.put, List.setIfInBounds_toArray, List.set_cons_zero, List.set_cons_succ]
          go_big_quiet_want
          go_big_quiet_op
          go_big_quiet_on
          go_big_quiet_want
          go_big_quiet_op
          go_big_quiet_on
          go_big_quiet_want
          go_big_quiet_op
          go_big_quiet_on
          go_big_quiet_want
          go_big_quiet_op
          go_big_quiet_on
          go_big_quiet_want
          refine ⟨.string ⟨Y.toArray⟩, fun W hW => ?_, ?_⟩
          · go_simp
          go_big_quiet_on
          simp only [Act.put, List.setIfInBounds_toArray, List.set_cons_zero, List.set_cons_succ]
          go_big_quiet_want
          go_big_quiet_op
          go_big_quiet_on
          go_big_quiet_want
          go_big_quiet_op
          go_big_quiet_on
          go_big_quiet_want
          refine ⟨.pointer (some ⟨G, (k + 1) * 4, none⟩), fun W hW => ?_, ?_⟩
          · go_simp
          go_big_quiet_on
          simp only [Act.put, List.setIfInBounds_toArray, List.set_cons_zero, List.set_cons_succ]
          go_big_quiet_want
          refine ⟨.pointer (some ⟨G, (k + 1) * 4, none⟩), fun W hW => ?_, ?_⟩
          · go_simp
          go_big_quiet_on
          simp only [Act.put, List.setIfInBounds_toArray, List.set_cons_zero, List.set_cons_succ]
          go_big_quiet_want
          refine ⟨.int .i64 1, fun W hW => ?_, ?_⟩
          · obtain ⟨y0, y1, y2, y3⟩ := X1.out W hW.1
            go_simp
          go_big_quiet_on
          simp only [Act.put, List.setIfInBounds_toArray, List.set_cons_zero, List.set_cons_succ]
          go_big_quiet_want
          refine ⟨.bool false, fun W hW => ?_, ?_⟩
          · go_simp
          go_big_quiet_on
          simp only [Act.put, List.setIfInBounds_toArray, List.set_cons_zero, List.set_cons_succ]
          go_big_quiet_want
          refine ⟨.bool true, fun W hW => ?_, ?_⟩
          · go_simp
            refine (HID.out W).mono ?_
            rintro e w7 ⟨rfl, rfl⟩
            exact ⟨rfl, hW⟩
          go_big_quiet_on
          simp only [Act.put, List.setIfInBounds_toArray, List.set_cons_zero, List.set_cons_succ]
          go_big_quiet_want
          refine ⟨.bool false, fun W hW => ?_, ?_⟩
          · go_simp
          go_big_quiet_on
          simp only [Act.put, List.setIfInBounds_toArray, List.set_cons_zero, List.set_cons_succ]
          go_big_quiet_want
          refine ⟨.bool false, fun W hW => ?_, ?_⟩
          · go_simp
          go_big_quiet_on
          simp only [Act.put, List.setIfInBounds_toArray, List.set_cons_zero, List.set_cons_succ]
          refine wpQuiet_nil ?_
          intro W4 hC4
          obtain ⟨y0, y1, y2, y3⟩ := X1.out _ hC4.1
          go_wp2_with fail
          refine quiet_lit3 (C := CP w S l.length tl0 tc) (by kernel_rfl) (by kernel_rfl) (CP.drew hC4) ?_
          go_big_quiet_want
          go_big_quiet_op
          go_big_quiet_on
          go_big_quiet_want
          refine ⟨.bool false, fun W hW => ?_, ?_⟩
          · go_simp
          go_big_quiet_on
          simp only [Act.put, List.setIfInBounds_toArray, List.set_cons_zero, List.set_cons_succ]
          go_big_quiet_want
          go_big_quiet_op
          go_big_quiet_on
          go_big_quiet_want
          go_big_quiet_op
          go_big_quiet_on
          go_big_quiet_want
          go_big_quiet_op
          go_big_quiet_on
          go_big_quiet_want
          refine ⟨.int .i64 (k : Int), fun W hW => ?_, ?_⟩
          · go_simp
            exact HWK.out
          go_big_quiet_on
          simp only [Act.put, List.setIfInBounds_toArray, List.set_cons_zero, List.set_cons_succ]
          go_big_quiet_want
          refine ⟨.pointer (some ⟨G, k * 4, none⟩), fun W hW => ?_, ?_⟩
          · go_simp
          go_big_quiet_on
          simp only [Act.put, List.setIfInBounds_toArray, List.set_cons_zero, List.set_cons_succ]
          go_big_quiet_want
          refine ⟨.pointer (some ⟨G, k * 4 + 2, none⟩), fun W hW => ?_, ?_⟩
          · go_simp
          go_big_quiet_on
          simp only [Act.put, List.setIfInBounds_toArray, List.set_cons_zero, List.set_cons_succ]
          go_big_quiet_want
          refine ⟨.int .i64 (tl0 : Int), fun W hW => ?_, ?_⟩
          · obtain ⟨y0, y1, y2, y3⟩ := X0.out W hW.1
            go_simp
          go_big_quiet_on
          simp only [Act.put, List.setIfInBounds_toArray, List.set_cons_zero, List.set_cons_succ]
          go_big_quiet_want
          go_big_quiet_op
          go_big_quiet_on
          go_big_quiet_want
          go_big_quiet_op
          go_big_quiet_on
          go_big_quiet_want
          refine ⟨.pointer (some ⟨G, (k + 1) * 4, none⟩), fun W hW => ?_, ?_⟩
          · go_simp
          go_big_quiet_on
          simp only [Act.put, List.setIfInBounds_toArray, List.set_cons_zero, List.set_cons_succ]
          go_big_quiet_want
          refine ⟨.pointer (some ⟨G, (k + 1) * 4 + 2, none⟩), fun W hW => ?_, ?_⟩
          · go_simp
          go_big_quiet_on
          simp only [Act.put, List.setIfInBounds_toArray, List.set_cons_zero, List.set_cons_succ]
          go_big_quiet_want
          refine ⟨.int .i64 (tl0 : Int), fun W hW => ?_, ?_⟩
          · obtain ⟨y0, y1, y2, y3⟩ := X1.out W hW.1
            go_simp
          go_big_quiet_on
          simp only [Act.put, List.setIfInBounds_toArray, List.set_cons_zero, List.set_cons_succ]
          go_big_quiet_want
          refine ⟨.bool false, fun W hW => ?_, ?_⟩
          · go_simp
          go_big_quiet_on
          simp only [Act.put, List.setIfInBounds_toArray, List.set_cons_zero, List.set_cons_succ]
          go_big_quiet_want
          refine ⟨.bool false, fun W hW => ?_, ?_⟩
          · go_simp
          go_big_quiet_on
          simp only [Act.put, List.setIfInBounds_toArray, List.set_cons_zero, List.set_cons_succ]
          go_big_quiet_want
          go_big_quiet_op
          go_big_quiet_on
          go_big_quiet_want
          go_big_quiet_op
          go_big_quiet_on
          go_big_quiet_want
          go_big_quiet_op
          go_big_quiet_on
          go_big_quiet_want
          refine ⟨.pointer (some ⟨G, (k + 1) * 4, none⟩), fun W hW => ?_, ?_⟩
          · go_simp
          go_big_quiet_on
          simp only [Act.put, List.setIfInBounds_toArray, List.set_cons_zero, List.set_cons_succ]
          go_big_quiet_want
          refine ⟨.pointer (some ⟨G, (k + 1) * 4 + 1, none⟩), fun W hW => ?_, ?_⟩
          · go_simp
          go_big_quiet_on
          simp only [Act.put, List.setIfInBounds_toArray, List.set_cons_zero, List.set_cons_succ]
          go_big_quiet_want
          refine ⟨.string ⟨#[10]⟩, fun W hW => ?_, ?_⟩
          · obtain ⟨y0, y1, y2, y3⟩ := X1.out W hW.1
            go_simp
          go_big_quiet_on
          simp only [Act.put, List.setIfInBounds_toArray, List.set_cons_zero, List.set_cons_succ]
          go_big_quiet_want
          refine ⟨.bool false, fun W hW => ?_, ?_⟩
          · go_simp
          go_big_quiet_on
          simp only [Act.put, List.setIfInBounds_toArray, List.set_cons_zero, List.set_cons_succ]
          go_big_quiet_want
          refine ⟨.bool false, fun W hW => ?_, ?_⟩
          · go_simp
          go_big_quiet_on
          simp only [Act.put, List.setIfInBounds_toArray, List.set_cons_zero, List.set_cons_succ]
          refine wpQuiet_nil ?_
          intro W5 hC5
          clear y0 y1 y2 y3
          go_wp2_with fail
          refine quiet_lit3 (C := CP w S l.length tl0 tc) (by kernel_rfl) (by kernel_rfl) (CP.drew hC5) ?_
          go_big_quiet_want
          go_big_quiet_op
          go_big_quiet_on
          go_big_quiet_want
          go_big_quiet_op
          go_big_quiet_on
          go_big_quiet_want
          refine ⟨.int .i64 (l.length : Int), fun W hW => ?_, ?_⟩
          · go_simp
          go_big_quiet_on
          simp only [Act.put, List.setIfInBounds_toArray, List.set_cons_zero, List.set_cons_succ]
          go_big_quiet_want
          refine ⟨.bool false, fun W hW => ?_, ?_⟩
          · go_simp
          go_big_quiet_on
          simp only [Act.put, List.setIfInBounds_toArray, List.set_cons_zero, List.set_cons_succ]
          go_big_quiet_want
          go_big_quiet_op
          go_big_quiet_on
          go_big_quiet_want
          go_big_quiet_op
          go_big_quiet_on
          go_big_quiet_want
          go_big_quiet_op
          go_big_quiet_on
          go_big_quiet_want
          go_big_quiet_op
          go_big_quiet_on
          go_big_quiet_want
          refine ⟨.string ⟨#[]⟩, fun W hW => ?_, ?_⟩
          · go_simp
            rfl
          go_big_quiet_on
          simp only [Act.put, List.setIfInBounds_toArray, List.set_cons_zero, List.set_cons_succ]
          go_big_quiet_want
          go_big_quiet_op
          go_big_quiet_on
          go_big_quiet_want
          go_big_quiet_op
          go_big_quiet_on
          go_big_quiet_want
          refine ⟨.pointer (some ⟨G, (k + 1) * 4, none⟩), fun W hW => ?_, ?_⟩
          · go_simp
          go_big_quiet_on
          simp only [Act.put, List.setIfInBounds_toArray, List.set_cons_zero, List.set_cons_succ]
          go_big_quiet_want
          refine ⟨.pointer (some ⟨G, (k + 1) * 4 + 1, none⟩), fun W hW => ?_, ?_⟩
          · go_simp
          go_big_quiet_on
          simp only [Act.put, List.setIfInBounds_toArray, List.set_cons_zero, List.set_cons_succ]
          go_big_quiet_want
          refine ⟨.string ⟨#[10]⟩, fun W hW => ?_, ?_⟩
          · obtain ⟨y0, y1, y2, y3⟩ := X1.out W hW.1
            go_simp
          go_big_quiet_on
          simp only [Act.put, List.setIfInBounds_toArray, List.set_cons_zero, List.set_cons_succ]
          go_big_quiet_want
          refine ⟨.bool true, fun W hW => ?_, ?_⟩
          · go_simp
          go_big_quiet_on
          simp only [Act.put, List.setIfInBounds_toArray, List.set_cons_zero, List.set_cons_succ]
          go_big_quiet_want
          go_big_quiet_op
          go_big_quiet_on
          go_big_quiet_want
          go_big_quiet_op
          go_big_quiet_on
          go_big_quiet_want
          go_big_quiet_op
          go_big_quiet_on
          go_big_quiet_want
          refine ⟨.int .i64 (l.length : Int), fun W hW => ?_, ?_⟩
          · go_simp
          go_big_quiet_on
          simp only [Act.put, List.setIfInBounds_toArray, List.set_cons_zero, List.set_cons_succ]
          go_big_quiet_want
          refine ⟨.bool false, fun W hW => ?_, ?_⟩
          · go_simp
          go_big_quiet_on
          simp only [Act.put, List.setIfInBounds_toArray, List.set_cons_zero, List.set_cons_succ]
          go_big_quiet_want
          refine ⟨.bool false, fun W hW => ?_, ?_⟩
          · go_simp
          go_big_quiet_on
          simp only [Act.put, List.setIfInBounds_toArray, List.set_cons_zero, List.set_cons_succ]
          go_big_quiet_want
          refine ⟨.bool false, fun W hW => ?_, ?_⟩
          · go_simp
          go_big_quiet_on
          simp only [Act.put, List.setIfInBounds_toArray, List.set_cons_zero, List.set_cons_succ]
          refine wpQuiet_nil ?_
          intro W6 hC6
          go_wp2_with fail
          go_roundw
          case rel => exact ⟨k + 1 + 1, l.length, l.length, tl0, tc, tl0, by go_num, by go_num, by omega, Nat.le_refl _, Nat.le_refl _, b1, b2, by omega, HPL2, HL2, hC6⟩
          case measure => simp [intOf]; omega
        · have HPL2 : Hid (PLc l (q + 1) (q, tl0, tc) tl0 (D.drop (k + 1 + 1))) := hnx
          have hE2 : ∀ W : World, Sem.run Tryd.prog (Instr.slice 9 (.string ⟨l.toArray⟩) (some (.int .i64 (q : Int))) (some (.int .i64 ((q : Int) + 1))) none) W = .ok (.string ⟨#[10]⟩) W := fun W => by
            have h9 := slice_str l q 1 hq W
            have e9 : (l.drop q).take 1 = [10] := by
              rw [List.drop_eq_getElem_cons hq]
              show [l[q]] = [10]
              rw [show l[q] = 10 from UInt8.toNat_inj.1 (by rw [← bt_at' hq, hb10]; rfl)]
            rw [e9] at h9
            exact h9
          have jq : (q : Int) < (l.length : Int) := by omega
          have jq2 : ((q : Int) == (l.length : Int)) = false := by rw [beq_eq_false_iff_ne]; omega
          have jq3 : ¬ (l.length : Int) < (q : Int) + 1 := by omega
          clear hnx hb10
          go_wp2_with fail
          refine quiet_last (C := CP w S a ln cl) (by kernel_rfl) (by kernel_rfl) (by kernel_rfl) (by kernel_rfl) (CP.drew hC) ?_
          simp only [List.dropLast_cons_cons, List.dropLast_singleton]
          go_big_quiet_want
          go_big_quiet_op
          go_big_quiet_on
          go_big_quiet_want
          refine ⟨.agg #[.int .i64 (a : Int), .int .i64 (ln : Int), .int .i64 (cl : Int)], fun W hW => ?_, ?_⟩
          · obtain ⟨z0, z1, z2, -⟩ := hW.cells
            go_simp
          go_big_quiet_on
          simp only [Act.put, List.setIfInBounds_toArray, List.set_cons_zero, List.set_cons_succ]
          go_big_quiet_want
          go_big_quiet_op
          go_big_quiet_on
          go_big_quiet_want
          go_big_quiet_op
          go_big_quiet_on
          go_big_quiet_want
          refine ⟨.pointer (some ⟨G, (k + 1) * 4, none⟩), fun W hW => ?_, ?_⟩
          · go_simp
          go_big_quiet_on
          simp only [Act.put, List.setIfInBounds_toArray, List.set_cons_zero, List.set_cons_succ]
          go_big_quiet_want
          refine ⟨.pointer (some ⟨G, (k + 1) * 4 + 2, none⟩), fun W hW => ?_, ?_⟩
          · go_simp
          go_big_quiet_on
          simp only [Act.put, List.setIfInBounds_toArray, List.set_cons_zero, List.set_cons_succ]
          go_big_quiet_want
          refine ⟨.int .i64 (tl0 : Int), fun W hW => ?_, ?_⟩
          · obtain ⟨y0, y1, y2, y3⟩ := X1.out W hW.1
            go_simp
          go_big_quiet_on
          simp only [Act.put, List.setIfInBounds_toArray, List.set_cons_zero, List.set_cons_succ]
          go_big_quiet_want
          go_big_quiet_op
          go_big_quiet_on
          go_big_quiet_want
          go_big_quiet_op
          go_big_quiet_on
          go_big_quiet_want
          refine ⟨.pointer (some ⟨G, (k + 1) * 4, none⟩), fun W hW => ?_, ?_⟩
          · go_simp
          go_big_quiet_on
          simp only [Act.put, List.setIfInBounds_toArray, List.set_cons_zero, List.set_cons_succ]
          go_big_quiet_want
          refine ⟨.pointer (some ⟨G, (k + 1) * 4 + 3, none⟩), fun W hW => ?_, ?_⟩
          · go_simp
          go_big_quiet_on
          simp only [Act.put, List.setIfInBounds_toArray, List.set_cons_zero, List.set_cons_succ]
          go_big_quiet_want
          refine ⟨.int .i64 (tc : Int), fun W hW => ?_, ?_⟩
          · obtain ⟨y0, y1, y2, y3⟩ := X1.out W hW.1
            go_simp
          go_big_quiet_on
          simp only [Act.put, List.setIfInBounds_toArray, List.set_cons_zero, List.set_cons_succ]
          go_big_quiet_want
          refine ⟨.agg #[.int .i64 (q : Int), .int .i64 (tl0 : Int), .int .i64 (tc : Int)], fun W hW => ?_, ?_⟩
          · go_simp
            refine (HSK.out W).mono ?_
            rintro e w7 ⟨rfl, hb⟩
            exact ⟨rfl, hW.later hb⟩
          go_big_quiet_on
          simp only [Act.put, List.setIfInBounds_toArray, List.set_cons_zero, List.set_cons_succ]
          refine wpQuiet_nil ?_
          intro W hW
          obtain ⟨z0, z1, z2, hk0⟩ := hW.cells
          have f0 : W.frozen? ⟨S, 0, none⟩ = false := by simp [World.frozen?, hk0]
          have f1 : W.frozen? ⟨S, 1, none⟩ = false := by simp [World.frozen?, hk0]
          have f2 : W.frozen? ⟨S, 2, none⟩ = false := by simp [World.frozen?, hk0]
          have hc3 := hW.put q tl0 tc
          refine wpOp_go rfl rfl ?_
          go_simp
          generalize ((W.setCell ⟨S, 0, none⟩ (.int .i64 (q : Int))).setCell ⟨S, 1, none⟩ (.int .i64 (tl0 : Int))).setCell ⟨S, 2, none⟩ (.int .i64 (tc : Int)) = W3 at hc3 ⊢
          obtain ⟨x0, x1, x2, -⟩ := hc3.cells
          clear z0 z1 z2 hk0 f0 f1 f2 hW hC HSK W
          go_wp2_with fail
          clear x0 x1 x2
          refine quiet_lit3 (C := CP w S q tl0 tc) (by kernel_rfl) (by kernel_rfl) (CP.drew hc3) ?_
          go_big_quiet_want
          go_big_quiet_op
          go_big_quiet_on
          go_big_quiet_want
          go_big_quiet_op
          go_big_quiet_on
          go_big_quiet_want
          refine ⟨.bool false, fun W hW => ?_, ?_⟩
          · have e9 : ¬ (q : Int) < (fr : Int) := by omega
            go_simp
          go_big_quiet_on
          simp only [Act.put, List.setIfInBounds_toArray, List.set_cons_zero, List.set_cons_succ]
          go_big_quiet_want
          go_big_quiet_op
          go_big_quiet_on
          go_big_quiet_want
          go_big_quiet_op
          go_big_quiet_on
          go_big_quiet_want
          go_big_quiet_op
          go_big_quiet_on
          go_big_quiet_want
          go_big_quiet_op
          go_big_quiet_on
          go_big_quiet_want
          refine ⟨.string ⟨Y.toArray⟩, fun W hW => ?_, ?_⟩
          · go_simp
          go_big_quiet_on
          simp only [Act.put, List.setIfInBounds_toArray, List.set_cons_zero, List.set_cons_succ]
          go_big_quiet_want
          go_big_quiet_op
          go_big_quiet_on
          go_big_quiet_want
          go_big_quiet_op
          go_big_quiet_on
          go_big_quiet_want
          refine ⟨.pointer (some ⟨G, (k + 1) * 4, none⟩), fun W hW => ?_, ?_⟩
          · go_simp
          go_big_quiet_on
          simp only [Act.put, List.setIfInBounds_toArray, List.set_cons_zero, List.set_cons_succ]
          go_big_quiet_want
          refine ⟨.pointer (some ⟨G, (k + 1) * 4, none⟩), fun W hW => ?_, ?_⟩
          · go_simp
          go_big_quiet_on
          simp only [Act.put, List.setIfInBounds_toArray, List.set_cons_zero, List.set_cons_succ]
          go_big_quiet_want
          refine ⟨.int .i64 1, fun W hW => ?_, ?_⟩
          · obtain ⟨y0, y1, y2, y3⟩ := X1.out W hW.1
            go_simp
          go_big_quiet_on
          simp only [Act.put, List.setIfInBounds_toArray, List.set_cons_zero, List.set_cons_succ]
          go_big_quiet_want
          refine ⟨.bool false, fun W hW => ?_, ?_⟩
          · go_simp
          go_big_quiet_on
          simp only [Act.put, List.setIfInBounds_toArray, List.set_cons_zero, List.set_cons_succ]
          go_big_quiet_want
          refine ⟨.bool true, fun W hW => ?_, ?_⟩
          · go_simp
            refine (HID.out W).mono ?_
            rintro e w7 ⟨rfl, rfl⟩
            exact ⟨rfl, hW⟩
          go_big_quiet_on
          simp only [Act.put, List.setIfInBounds_toArray, List.set_cons_zero, List.set_cons_succ]
          go_big_quiet_want
          refine ⟨.bool false, fun W hW => ?_, ?_⟩
          · go_simp
          go_big_quiet_on
          simp only [Act.put, List.setIfInBounds_toArray, List.set_cons_zero, List.set_cons_succ]
          go_big_quiet_want
          refine ⟨.bool false, fun W hW => ?_, ?_⟩
          · go_simp
          go_big_quiet_on
          simp only [Act.put, List.setIfInBounds_toArray, List.set_cons_zero, List.set_cons_succ]
          refine wpQuiet_nil ?_
          intro W4 hC4
          obtain ⟨y0, y1, y2, y3⟩ := X1.out _ hC4.1
          go_wp2_with fail
          refine quiet_lit3 (C := CP w S q tl0 tc) (by kernel_rfl) (by kernel_rfl) (CP.drew hC4) ?_
          go_big_quiet_want
          go_big_quiet_op
          go_big_quiet_on
          go_big_quiet_want
          refine ⟨.bool false, fun W hW => ?_, ?_⟩
          · go_simp
          go_big_quiet_on
          simp only [Act.put, List.setIfInBounds_toArray, List.set_cons_zero, List.set_cons_succ]
          go_big_quiet_want
          go_big_quiet_op
          go_big_quiet_on
          go_big_quiet_want
          go_big_quiet_op
          go_big_quiet_on
          go_big_quiet_want
          go_big_quiet_op
          go_big_quiet_on
          go_big_quiet_want
          refine ⟨.int .i64 (k : Int), fun W hW => ?_, ?_⟩
          · go_simp
            exact HWK.out
          go_big_quiet_on
          simp only [Act.put, List.setIfInBounds_toArray, List.set_cons_zero, List.set_cons_succ]
          go_big_quiet_want
          refine ⟨.pointer (some ⟨G, k * 4, none⟩), fun W hW => ?_, ?_⟩
          · go_simp
          go_big_quiet_on
          simp only [Act.put, List.setIfInBounds_toArray, List.set_cons_zero, List.set_cons_succ]
          go_big_quiet_want
          refine ⟨.pointer (some ⟨G, k * 4 + 2, none⟩), fun W hW => ?_, ?_⟩
          · go_simp
          go_big_quiet_on
          simp only [Act.put, List.setIfInBounds_toArray, List.set_cons_zero, List.set_cons_succ]
          go_big_quiet_want
          refine ⟨.int .i64 (tl0 : Int), fun W hW => ?_, ?_⟩
          · obtain ⟨y0, y1, y2, y3⟩ := X0.out W hW.1
            go_simp
          go_big_quiet_on
          simp only [Act.put, List.setIfInBounds_toArray, List.set_cons_zero, List.set_cons_succ]
          go_big_quiet_want
          go_big_quiet_op
          go_big_quiet_on
          go_big_quiet_want
          go_big_quiet_op
          go_big_quiet_on
          go_big_quiet_want
          refine ⟨.pointer (some ⟨G, (k + 1) * 4, none⟩), fun W hW => ?_, ?_⟩
          · go_simp
          go_big_quiet_on
          simp only [Act.put, List.setIfInBounds_toArray, List.set_cons_zero, List.set_cons_succ]
          go_big_quiet_want
          refine ⟨.pointer (some ⟨G, (k + 1) * 4 + 2, none⟩), fun W hW => ?_, ?_⟩
          · go_simp
          go_big_quiet_on
          simp only [Act.put, List.setIfInBounds_toArray, List.set_cons_zero, List.set_cons_succ]
          go_big_quiet_want
          refine ⟨.int .i64 (tl0 : Int), fun W hW => ?_, ?_⟩
          · obtain ⟨y0, y1, y2, y3⟩ := X1.out W hW.1
            go_simp
          go_big_quiet_on
          simp only [Act.put, List.setIfInBounds_toArray, List.set_cons_zero, List.set_cons_succ]
          go_big_quiet_want
          refine ⟨.bool false, fun W hW => ?_, ?_⟩
          · go_simp
          go_big_quiet_on
          simp only [Act.put, List.setIfInBounds_toArray, List.set_cons_zero, List.set_cons_succ]
          go_big_quiet_want
          refine ⟨.bool false, fun W hW => ?_, ?_⟩
          · go_simp
          go_big_quiet_on
          simp only [Act.put, List.setIfInBounds_toArray, List.set_cons_zero, List.set_cons_succ]
          go_big_quiet_want
          go_big_quiet_op
          go_big_quiet_on
          go_big_quiet_want
          go_big_quiet_op
          go_big_quiet_on
          go_big_quiet_want
          go_big_quiet_op
          go_big_quiet_on
          go_big_quiet_want
          refine ⟨.pointer (some ⟨G, (k + 1) * 4, none⟩), fun W hW => ?_, ?_⟩
          · go_simp
          go_big_quiet_on
          simp only [Act.put, List.setIfInBounds_toArray, List.set_cons_zero, List.set_cons_succ]
          go_big_quiet_want
          refine ⟨.pointer (some ⟨G, (k + 1) * 4 + 1, none⟩), fun W hW => ?_, ?_⟩
          · go_simp
          go_big_quiet_on
          simp only [Act.put, List.setIfInBounds_toArray, List.set_cons_zero, List.set_cons_succ]
          go_big_quiet_want
          refine ⟨.string ⟨#[10]⟩, fun W hW => ?_, ?_⟩
          · obtain ⟨y0, y1, y2, y3⟩ := X1.out W hW.1
            go_simp
          go_big_quiet_on
          simp only [Act.put, List.setIfInBounds_toArray, List.set_cons_zero, List.set_cons_succ]
          go_big_quiet_want
          refine ⟨.bool false, fun W hW => ?_, ?_⟩
          · go_simp
          go_big_quiet_on
          simp only [Act.put, List.setIfInBounds_toArray, List.set_cons_zero, List.set_cons_succ]
          go_big_quiet_want
          refine ⟨.bool false, fun W hW => ?_, ?_⟩
          · go_simp
          go_big_quiet_on
          simp only [Act.put, List.setIfInBounds_toArray, List.set_cons_zero, List.set_cons_succ]
          refine wpQuiet_nil ?_
          intro W5 hC5
          clear y0 y1 y2 y3
          go_wp2_with fail
          refine quiet_lit3 (C := CP w S q tl0 tc) (by kernel_rfl) (by kernel_rfl) (CP.drew hC5) ?_
          go_big_quiet_want
          go_big_quiet_op
          go_big_quiet_on
          go_big_quiet_want
          go_big_quiet_op
          go_big_quiet_on
          go_big_quiet_want
          refine ⟨.int .i64 (l.length : Int), fun W hW => ?_, ?_⟩
          · go_simp
          go_big_quiet_on
          simp only [Act.put, List.setIfInBounds_toArray, List.set_cons_zero, List.set_cons_succ]
          go_big_quiet_want
          refine ⟨.bool false, fun W hW => ?_, ?_⟩
          · go_simp
          go_big_quiet_on
          simp only [Act.put, List.setIfInBounds_toArray, List.set_cons_zero, List.set_cons_succ]
          go_big_quiet_want
          go_big_quiet_op
          go_big_quiet_on
          go_big_quiet_want
          go_big_quiet_op
          go_big_quiet_on
          go_big_quiet_want
          go_big_quiet_op
          go_big_quiet_on
          go_big_quiet_want
          go_big_quiet_op
          go_big_quiet_on
          go_big_quiet_want
          refine ⟨.string ⟨#[10]⟩, fun W hW => ?_, ?_⟩
          · go_simp
          go_big_quiet_on
          simp only [Act.put, List.setIfInBounds_toArray, List.set_cons_zero, List.set_cons_succ]
          go_big_quiet_want
          go_big_quiet_op
          go_big_quiet_on
          go_big_quiet_want
          go_big_quiet_op
          go_big_quiet_on
          go_big_quiet_want
          refine ⟨.pointer (some ⟨G, (k + 1) * 4, none⟩), fun W hW => ?_, ?_⟩
          · go_simp
          go_big_quiet_on
          simp only [Act.put, List.setIfInBounds_toArray, List.set_cons_zero, List.set_cons_succ]
          go_big_quiet_want
          refine ⟨.pointer (some ⟨G, (k + 1) * 4 + 1, none⟩), fun W hW => ?_, ?_⟩
          · go_simp
          go_big_quiet_on
          simp only [Act.put, List.setIfInBounds_toArray, List.set_cons_zero, List.set_cons_succ]
          go_big_quiet_want
          refine ⟨.string ⟨#[10]⟩, fun W hW => ?_, ?_⟩
          · obtain ⟨y0, y1, y2, y3⟩ := X1.out W hW.1
            go_simp
          go_big_quiet_on
          simp only [Act.put, List.setIfInBounds_toArray, List.set_cons_zero, List.set_cons_succ]
          go_big_quiet_want
          refine ⟨.bool false, fun W hW => ?_, ?_⟩
          · go_simp
          go_big_quiet_on
          simp only [Act.put, List.setIfInBounds_toArray, List.set_cons_zero, List.set_cons_succ]
          go_big_quiet_want
          go_big_quiet_op
          go_big_quiet_on
          go_big_quiet_skip
          go_big_quiet_skip
          go_big_quiet_skip
          go_big_quiet_skip
          go_big_quiet_want
          refine ⟨.bool false, fun W hW => ?_, ?_⟩
          · go_simp
          go_big_quiet_on
          simp only [Act.put, List.setIfInBounds_toArray, List.set_cons_zero, List.set_cons_succ]
          go_big_quiet_want
          refine ⟨.bool false, fun W hW => ?_, ?_⟩
          · go_simp
          go_big_quiet_on
          simp only [Act.put, List.setIfInBounds_toArray, List.set_cons_zero, List.set_cons_succ]
          refine wpQuiet_nil ?_
          intro W6 hC6
          go_wp2_with fail
          go_roundw
          case rel => exact ⟨k + 1 + 1, q + 1, q, tl0, tc, tl0, by go_num, by go_num, by omega, hq, hql, b1, b2, by omega, HPL2, HL2, hC6⟩
          case measure => simp [intOf]; omega
      · obtain ⟨hid, hsub, hle, hnx⟩ := hN hK
        have hn1 : ((K : Int) == 1) = false := by rw [beq_eq_false_iff_ne]; omega
        have hn2 : ((K : Int) != 1) = true := by rw [bne, hn1]; rfl
        have X1 : Hid (∀ W : World, Below w.heap.size w W → W.cell? ⟨G, k * 4, none⟩ = some (.int .i64 (K : Int)) ∧ W.cell? ⟨G, k * 4 + 1, none⟩ = some (.string ⟨X.toArray⟩) ∧ W.cell? ⟨G, k * 4 + 2, none⟩ = some (.int .i64 (tl : Int)) ∧ W.cell? ⟨G, k * 4 + 3, none⟩ = some (.int .i64 (tc : Int))) := fun W hW => tok_cell (owns_below HRow.out hW) ht
        have HID : Hid (∀ W : World, Calls Tryd.prog 20 #[.string ⟨Y.toArray⟩, .bool true] W fun e w' => e = .returned (.bool true) ∧ w' = W) := fun W => idle_any Y true false W hYl hid (fun _ => rfl)
        have HL2 : Hid (prevL D (k + 1) tl) := .inr ⟨k, _, rfl, ht, rfl⟩
        have HPL2 : Hid (PLc l (q + X.length) (q, tl, tc) tl (D.drop (k + 1))) := hnx
        have hE2 : ∀ W : World, Sem.run Tryd.prog (Instr.slice 9 (.string ⟨l.toArray⟩) (some (.int .i64 (q : Int))) (some (.int .i64 ((q : Int) + (X.length : Int)))) none) W = .ok (.string ⟨X.toArray⟩) W := fun W => by
          have h9 := slice_str l q X.length hle W
          have e9 : (l.drop q).take X.length = X := by
            have := hsub
            unfold subL at this
            rw [Nat.add_sub_cancel_left] at this
            exact this
          rw [e9] at h9
          exact h9
        have jq3 : ¬ (l.length : Int) < (q : Int) + (X.length : Int) := by omega
        clear hpl ht hid hN hE hnx hsub hK
        go_wp2_with fail
        refine quiet_last (C := CP w S a ln cl) (by kernel_rfl) (by kernel_rfl) (by kernel_rfl) (by kernel_rfl) (CP.drew hC) ?_
        simp only [List.dropLast_cons_cons, List.dropLast_singleton]
        go_big_quiet_want
        go_big_quiet_op
        go_big_quiet_on
        go_big_quiet_want
        refine ⟨.agg #[.int .i64 (a : Int), .int .i64 (ln : Int), .int .i64 (cl : Int)], fun W hW => ?_, ?_⟩
        · obtain ⟨z0, z1, z2, -⟩ := hW.cells
          go_simp
        go_big_quiet_on
        simp only [Act.put, List.setIfInBounds_toArray, List.set_cons_zero, List.set_cons_succ]
        go_big_quiet_want
        go_big_quiet_op
        go_big_quiet_on
        go_big_quiet_want
        go_big_quiet_op
        go_big_quiet_on
        go_big_quiet_want
        refine ⟨.pointer (some ⟨G, k * 4, none⟩), fun W hW => ?_, ?_⟩
        · go_simp
        go_big_quiet_on
        simp only [Act.put, List.setIfInBounds_toArray, List.set_cons_zero, List.set_cons_succ]
        go_big_quiet_want
        refine ⟨.pointer (some ⟨G, k * 4 + 2, none⟩), fun W hW => ?_, ?_⟩
        · go_simp
        go_big_quiet_on
        simp only [Act.put, List.setIfInBounds_toArray, List.set_cons_zero, List.set_cons_succ]
        go_big_quiet_want
        refine ⟨.int .i64 (tl : Int), fun W hW => ?_, ?_⟩
        · obtain ⟨y0, y1, y2, y3⟩ := X1.out W hW.1
          go_simp
        go_big_quiet_on
        simp only [Act.put, List.setIfInBounds_toArray, List.set_cons_zero, List.set_cons_succ]
        go_big_quiet_want
        go_big_quiet_op
        go_big_quiet_on
        go_big_quiet_want
        go_big_quiet_op
        go_big_quiet_on
        go_big_quiet_want
        refine ⟨.pointer (some ⟨G, k * 4, none⟩), fun W hW => ?_, ?_⟩
        · go_simp
        go_big_quiet_on
        simp only [Act.put, List.setIfInBounds_toArray, List.set_cons_zero, List.set_cons_succ]
        go_big_quiet_want
        refine ⟨.pointer (some ⟨G, k * 4 + 3, none⟩), fun W hW => ?_, ?_⟩
        · go_simp
        go_big_quiet_on
        simp only [Act.put, List.setIfInBounds_toArray, List.set_cons_zero, List.set_cons_succ]
        go_big_quiet_want
        refine ⟨.int .i64 (tc : Int), fun W hW => ?_, ?_⟩
        · obtain ⟨y0, y1, y2, y3⟩ := X1.out W hW.1
          go_simp
        go_big_quiet_on
        simp only [Act.put, List.setIfInBounds_toArray, List.set_cons_zero, List.set_cons_succ]
        go_big_quiet_want
        refine ⟨.agg #[.int .i64 (q : Int), .int .i64 (tl : Int), .int .i64 (tc : Int)], fun W hW => ?_, ?_⟩
        · go_simp
          refine (HSK.out W).mono ?_
          rintro e w7 ⟨rfl, hb⟩
          exact ⟨rfl, hW.later hb⟩
        go_big_quiet_on
        simp only [Act.put, List.setIfInBounds_toArray, List.set_cons_zero, List.set_cons_succ]
        refine wpQuiet_nil ?_
        intro W hW
        obtain ⟨z0, z1, z2, hk0⟩ := hW.cells
        have f0 : W.frozen? ⟨S, 0, none⟩ = false := by simp [World.frozen?, hk0]
        have f1 : W.frozen? ⟨S, 1, none⟩ = false := by simp [World.frozen?, hk0]
        have f2 : W.frozen? ⟨S, 2, none⟩ = false := by simp [World.frozen?, hk0]
        have hc3 := hW.put q tl tc
        refine wpOp_go rfl rfl ?_
        go_simp
        generalize ((W.setCell ⟨S, 0, none⟩ (.int .i64 (q : Int))).setCell ⟨S, 1, none⟩ (.int .i64 (tl : Int))).setCell ⟨S, 2, none⟩ (.int .i64 (tc : Int)) = W3 at hc3 ⊢
        obtain ⟨x0, x1, x2, -⟩ := hc3.cells
        clear z0 z1 z2 hk0 f0 f1 f2 hW hC HSK W
        go_wp2_with fail
        clear x0 x1 x2
        refine quiet_lit3 (C := CP w S q tl tc) (by kernel_rfl) (by kernel_rfl) (CP.drew hc3) ?_
        go_big_quiet_want
        go_big_quiet_op
        go_big_quiet_on
        go_big_quiet_want
        go_big_quiet_op
        go_big_quiet_on
        go_big_quiet_want
        refine ⟨.bool false, fun W hW => ?_, ?_⟩
        · have e9 : ¬ (q : Int) < (fr : Int) := by omega
          go_simp
        go_big_quiet_on
        simp only [Act.put, List.setIfInBounds_toArray, List.set_cons_zero, List.set_cons_succ]
        go_big_quiet_want
        go_big_quiet_op
        go_big_quiet_on
        go_big_quiet_want
        go_big_quiet_op
        go_big_quiet_on
        go_big_quiet_want
        go_big_quiet_op
        go_big_quiet_on
        go_big_quiet_want
        go_big_quiet_op
        go_big_quiet_on
        go_big_quiet_want
        refine ⟨.string ⟨Y.toArray⟩, fun W hW => ?_, ?_⟩
        · go_simp
        go_big_quiet_on
        simp only [Act.put, List.setIfInBounds_toArray, List.set_cons_zero, List.set_cons_succ]
        go_big_quiet_want
        go_big_quiet_op
        go_big_quiet_on
        go_big_quiet_want
        go_big_quiet_op
        go_big_quiet_on
        go_big_quiet_want
        refine ⟨.pointer (some ⟨G, k * 4, none⟩), fun W hW => ?_, ?_⟩
        · go_simp
        go_big_quiet_on
        simp only [Act.put, List.setIfInBounds_toArray, List.set_cons_zero, List.set_cons_succ]
        go_big_quiet_want
        refine ⟨.pointer (some ⟨G, k * 4, none⟩), fun W hW => ?_, ?_⟩
        · go_simp
        go_big_quiet_on
        simp only [Act.put, List.setIfInBounds_toArray, List.set_cons_zero, List.set_cons_succ]
        go_big_quiet_want
        refine ⟨.int .i64 (K : Int), fun W hW => ?_, ?_⟩
        · obtain ⟨y0, y1, y2, y3⟩ := X1.out W hW.1
          go_simp
        go_big_quiet_on
        simp only [Act.put, List.setIfInBounds_toArray, List.set_cons_zero, List.set_cons_succ]
        go_big_quiet_want
        refine ⟨.bool true, fun W hW => ?_, ?_⟩
        · go_simp
        go_big_quiet_on
        simp only [Act.put, List.setIfInBounds_toArray, List.set_cons_zero, List.set_cons_succ]
        go_big_quiet_want
        refine ⟨.bool true, fun W hW => ?_, ?_⟩
        · go_simp
          refine (HID.out W).mono ?_
          rintro e w7 ⟨rfl, rfl⟩
          exact ⟨rfl, hW⟩
        go_big_quiet_on
        simp only [Act.put, List.setIfInBounds_toArray, List.set_cons_zero, List.set_cons_succ]
        go_big_quiet_want
        refine ⟨.bool false, fun W hW => ?_, ?_⟩
        · go_simp
        go_big_quiet_on
        simp only [Act.put, List.setIfInBounds_toArray, List.set_cons_zero, List.set_cons_succ]
        go_big_quiet_want
        refine ⟨.bool false, fun W hW => ?_, ?_⟩
        · go_simp
        go_big_quiet_on
        simp only [Act.put, List.setIfInBounds_toArray, List.set_cons_zero, List.set_cons_succ]
        refine wpQuiet_nil ?_
        intro W4 hC4
        obtain ⟨y0, y1, y2, y3⟩ := X1.out _ hC4.1
        go_wp2_with fail
        have hC5 := hC4
        clear y0 y1 y2 y3 hC4 hc3 HID
        refine quiet_lit3 (C := CP w S q tl tc) (by kernel_rfl) (by kernel_rfl) (CP.drew hC5) ?_
        go_big_quiet_want
        go_big_quiet_op
        go_big_quiet_on
        go_big_quiet_want
        go_big_quiet_op
        go_big_quiet_on
        go_big_quiet_want
        refine ⟨.int .i64 (l.length : Int), fun W hW => ?_, ?_⟩
        · go_simp
        go_big_quiet_on
        simp only [Act.put, List.setIfInBounds_toArray, List.set_cons_zero, List.set_cons_succ]
        go_big_quiet_want
        refine ⟨.bool false, fun W hW => ?_, ?_⟩
        · go_simp
        go_big_quiet_on
        simp only [Act.put, List.setIfInBounds_toArray, List.set_cons_zero, List.set_cons_succ]
        go_big_quiet_want
        go_big_quiet_op
        go_big_quiet_on
        go_big_quiet_want
        go_big_quiet_op
        go_big_quiet_on
        go_big_quiet_want
        go_big_quiet_op
        go_big_quiet_on
        go_big_quiet_want
        go_big_quiet_op
        go_big_quiet_on
        go_big_quiet_want
        refine ⟨.string ⟨X.toArray⟩, fun W hW => ?_, ?_⟩
        · go_simp
        go_big_quiet_on
        simp only [Act.put, List.setIfInBounds_toArray, List.set_cons_zero, List.set_cons_succ]
        go_big_quiet_want
        go_big_quiet_op
        go_big_quiet_on
        go_big_quiet_want
        go_big_quiet_op
        go_big_quiet_on
        go_big_quiet_want
        refine ⟨.pointer (some ⟨G, k * 4, none⟩), fun W hW => ?_, ?_⟩
        · go_simp
        go_big_quiet_on
        simp only [Act.put, List.setIfInBounds_toArray, List.set_cons_zero, List.set_cons_succ]
        go_big_quiet_want
        refine ⟨.pointer (some ⟨G, k * 4 + 1, none⟩), fun W hW => ?_, ?_⟩
        · go_simp
        go_big_quiet_on
        simp only [Act.put, List.setIfInBounds_toArray, List.set_cons_zero, List.set_cons_succ]
        go_big_quiet_want
        refine ⟨.string ⟨X.toArray⟩, fun W hW => ?_, ?_⟩
        · obtain ⟨y0, y1, y2, y3⟩ := X1.out W hW.1
          go_simp
        go_big_quiet_on
        simp only [Act.put, List.setIfInBounds_toArray, List.set_cons_zero, List.set_cons_succ]
        go_big_quiet_want
        refine ⟨.bool false, fun W hW => ?_, ?_⟩
        · go_simp
        go_big_quiet_on
        simp only [Act.put, List.setIfInBounds_toArray, List.set_cons_zero, List.set_cons_succ]
        go_big_quiet_want
        go_big_quiet_op
        go_big_quiet_on
        go_big_quiet_skip
        go_big_quiet_skip
        go_big_quiet_skip
        go_big_quiet_skip
        go_big_quiet_want
        refine ⟨.bool false, fun W hW => ?_, ?_⟩
        · go_simp
        go_big_quiet_on
        simp only [Act.put, List.setIfInBounds_toArray, List.set_cons_zero, List.set_cons_succ]
        go_big_quiet_want
        refine ⟨.bool false, fun W hW => ?_, ?_⟩
        · go_simp
        go_big_quiet_on
        simp only [Act.put, List.setIfInBounds_toArray, List.set_cons_zero, List.set_cons_succ]
        refine wpQuiet_nil ?_
        intro W6 hC6
        go_wp2_with fail
        go_roundw
        case rel => exact ⟨k + 1, q + X.length, q, tl, tc, tl, by go_num, by go_num, by omega, hle, hql, b1, b2, by omega, HPL2, HL2, hC6⟩
        case measure => simp [intOf]; omega
    · have j1 : ¬ (k : Int) < (D.length : Int) := by omega
      have hP2 := hPL.out
      rw [List.drop_eq_nil_of_le (by omega)] at hP2
      obtain ⟨-, ci, hid⟩ := hP2
      have hEx : (ByteArray.mk l.toArray).extract fr l.length = ⟨(l.drop fr).toArray⟩ := ext_drop l fr
      have HID := fun W : World => idle_any (l.drop fr) false ci W (by simp; omega) hid (fun h => by cases h)
      obtain ⟨Y, hY⟩ : ∃ Y, l.drop fr = Y := ⟨_, rfl⟩
      rw [hY] at hEx
      simp only [hY] at HID
      have j5 : (fr : Int) ≤ (l.length : Int) := by omega
      have hBB := hC.1
      clear hPL hpl hid hY hC
      go_wp2_with fail
      refine (HID _).mono ?_
      rintro e wr ⟨rfl, rfl⟩
      go_wp2_with fail
      go_ret
      exact ⟨rfl, hBB⟩
end Go.Proofs.YtialcphfaleedaaDoor
namespace Go.Proofs.YtialcphfaleedaaDoor
open Go.RowKit Go.Shelf
theorem wrun_in {l : List UInt8} : ∀ (m j : Nat), l.length - j ≤ m → ∀ k, j ≤ k → k < wrun l j → inW l k = true
  | m, j, hm, k, h1, h2 => by
    cases h : inW l j with
    | false => rw [wrun_no h] at h2; omega
    | true =>
      have hj := (inW_asc h).1
      rw [wrun_yes h] at h2
      rcases Nat.lt_or_ge j k with hk | hk
      · match m, hm with
        | 0, hm => omega
        | m + 1, hm => exact wrun_in m (j + 1) (by omega) k hk h2
      · rw [show k = j by omega]; exact h
theorem inW_46 {l : List UInt8} {k : Nat} (h : inW l k = true) : bt l k ≠ 46 := fun e => by
  have hk := (inW_asc h).1
  have h5 : kl l k = 5 := by rw [kl_bt hk, e]; rfl
  unfold inW at h
  rw [h5] at h
  cases h
theorem sub_dot {l : List UInt8} {i j : Nat} (h : ∀ k, i ≤ k → k < j → bt l k ≠ 46) : Lib.indexByte (subL l i j) 46 < 0 := by
  rw [idx_no (fun k hk e => ?_)]
  · decide
  · obtain ⟨h1, h2⟩ := sub_get e
    exact h (i + k) (by omega) h2 (by rw [bt_of h1]; rfl)
theorem sub_len {l : List UInt8} {i j : Nat} (h : j ≤ l.length) : (subL l i j).length = j - i := by
  unfold subL
  simp
  omega
/-- one name -/
theorem parts_one {l : List UInt8} {i j : Nat} (h : ∀ k, i ≤ k → k < j → bt l k ≠ 46) : parts (subL l i j) = [subL l i j] := parts_neg (sub_dot h)
theorem sub_take {l : List UInt8} {i j k : Nat} (h1 : i ≤ j) (h2 : j ≤ k) : (subL l i k).take (j - i) = subL l i j := by
  unfold subL
  rw [List.take_take, Nat.min_eq_left (by omega)]
theorem sub_drop {l : List UInt8} {i j k : Nat} (h1 : i ≤ j) (h2 : j < k) : (subL l i k).drop (j - i + 1) = subL l (j + 1) k := by
  unfold subL
  rw [List.drop_take, List.drop_drop, show i + (j - i + 1) = j + 1 by omega, show k - i - (j - i + 1) = k - (j + 1) by omega]
/-- two names -/
theorem parts_two {l : List UInt8} {i j k : Nat} (h1 : i ≤ j) (h2 : j < k) (hk : k ≤ l.length) (hd : bt l j = 46) (ha : ∀ m, i ≤ m → m < j → bt l m ≠ 46) (hb : ∀ m, j + 1 ≤ m → m < k → bt l m ≠ 46) : parts (subL l i k) = [subL l i j, subL l (j + 1) k] := by
  have hj : j < l.length := by omega
  have h46 : l[j]? = some 46 := by
    rw [List.getElem?_eq_getElem hj]
    have := bt_of (List.getElem?_eq_getElem hj)
    rw [hd] at this
    exact congrArg some (UInt8.toNat_inj.1 this.symm)
  have hi : Lib.indexByte (subL l i k) 46 = ((j - i : Nat) : Int) := by
    refine idx_eq ?_ (fun m hm e => ?_)
    · unfold subL
      rw [List.getElem?_take, if_pos (by omega), List.getElem?_drop, show i + (j - i) = j by omega]
      exact h46
    · obtain ⟨e1, e2⟩ := sub_get e
      exact ha (i + m) (by omega) (by omega) (by rw [bt_of e1]; rfl)
  rw [parts_pos hi, sub_take h1 (by omega), sub_drop h1 h2, parts_one hb]
/-- the kinds of tokens of a line -/
theorem tok_name {l : List UInt8} {i j : Nat} (hi : i < l.length) (h3 : kl l i = 3) (hj : wrun l i = j) (hd : dotA l j 3 = false) :
    i < j ∧ j ≤ l.length ∧ tokE l i = (if 24 < j - i then 36 else 0) ∧ tokJ l i = (if 24 < j - i then i else j) ∧ tokC l i = (2, j) := by
  have hw : inW l i = true := by unfold inW; rw [h3]; rfl
  have hj' : wrun l (i + 1) = j := by rw [← hj, wrun_yes hw]
  have hg := wrun_ge l _ (i + 1) (Nat.le_refl _)
  rw [hj'] at hg
  have hle := hg.2 hi
  have hC : tokC l i = (2, j) := by unfold tokC endF; rw [if_pos h3, if_pos rfl, hj', hd, if_neg (by decide)]
  have hp := parts_one (l := l) (i := i) (j := j) (fun k h1 h2 => inW_46 (wrun_in _ i (Nat.le_refl _) k h1 (by rw [hj]; exact h2)))
  have hF : faultE 2 (subL l i j) = if 24 < j - i then 36 else 0 := by
    unfold faultE
    rw [if_pos (.inl rfl), hp, List.any_cons, List.any_nil, Bool.or_false, sub_len hle]
    simp
  refine ⟨by omega, hle, ?_, ?_, hC⟩
  · unfold tokE
    rw [hC, if_neg (by omega)]
    exact hF
  · unfold tokJ
    rw [hC, if_neg (by omega), hF]
    by_cases h : 24 < j - i
    · rw [if_pos h, if_pos h, if_neg (by decide)]
    · rw [if_neg h, if_neg h, if_pos rfl]
theorem tok_port {l : List UInt8} {i j k : Nat} (hi : i < l.length) (h3 : kl l i = 3) (hj : wrun l i = j) (hd : dotA l j 3 = true) (hk : wrun l (j + 1) = k) :
    i < j ∧ j + 1 < l.length ∧ j + 1 < k ∧ k ≤ l.length ∧ tokE l i = (if 24 < j - i ∨ 24 < k - j - 1 then 36 else 0) ∧ tokJ l i = (if 24 < j - i ∨ 24 < k - j - 1 then i else k) ∧ tokC l i = (3, k) := by
  have hw : inW l i = true := by unfold inW; rw [h3]; rfl
  have hj' : wrun l (i + 1) = j := by rw [← hj, wrun_yes hw]
  have hg := wrun_ge l _ (i + 1) (Nat.le_refl _)
  rw [hj'] at hg
  have hle := hg.2 hi
  obtain ⟨d1, d2⟩ : kl l j = 5 ∧ kl l (j + 1) = 3 := by unfold dotA at hd; simpa using hd
  obtain ⟨e1, e2⟩ := kl5 d1
  have e3 : j + 1 < l.length := Classical.byContradiction (fun h => by rw [kl0.2 h] at d2; cases d2)
  have hw2 : inW l (j + 1) = true := by unfold inW; rw [d2]; rfl
  have hg2 := wrun_ge l _ (j + 1 + 1) (Nat.le_refl _)
  rw [← wrun_yes hw2, hk] at hg2
  have hle2 := hg2.2 (by omega)
  have hC : tokC l i = (3, k) := by unfold tokC endF; rw [if_pos h3, if_pos rfl, hj', hd, if_pos rfl, hk]
  have hp := parts_two (l := l) (i := i) (j := j) (k := k) (by omega) (by omega) hle2 e2 (fun m h1 h2 => inW_46 (wrun_in _ i (Nat.le_refl _) m h1 (by rw [hj]; exact h2))) (fun m h1 h2 => inW_46 (wrun_in _ (j + 1) (Nat.le_refl _) m h1 (by rw [hk]; exact h2)))
  have hF : faultE 3 (subL l i k) = if 24 < j - i ∨ 24 < k - j - 1 then 36 else 0 := by
    unfold faultE
    rw [if_pos (.inr rfl), hp, List.any_cons, List.any_cons, List.any_nil, Bool.or_false, sub_len (by omega), sub_len hle2, show k - (j + 1) = k - j - 1 by omega]
    simp
  refine ⟨by omega, e3, by omega, hle2, ?_, ?_, hC⟩
  · unfold tokE
    rw [hC, if_neg (by omega)]
    exact hF
  · unfold tokJ
    rw [hC, if_neg (by omega), hF]
    by_cases h : 24 < j - i ∨ 24 < k - j - 1
    · rw [if_pos h, if_pos h, if_neg (by decide)]
    · rw [if_neg h, if_neg h, if_pos rfl]
theorem tok_num {l : List UInt8} {i : Nat} (hi : i < l.length) (hs : l.length ≤ 16384) (h4 : kl l i = 4) :
    i < nrun l i ∧ nrun l i ≤ l.length ∧ tokC l i = (4, nrun l i) ∧ tokE l i = (if numN (subL l i (nrun l i)) = none then 31 else 0) ∧ tokJ l i = (if numN (subL l i (nrun l i)) = none then i else nrun l i) := by
  have hw : (inW l i || dotA l i 4) = true := by unfold inW; rw [h4]; rfl
  have hy := nrun_yes hw
  have hg := nrun_ge l _ (i + 1) (Nat.le_refl _)
  rw [← hy] at hg
  have hle := hg.2 hi
  have hC : tokC l i = (4, nrun l i) := by
    unfold tokC endF
    rw [if_neg (by omega), if_pos h4, if_neg (by decide), if_neg (by decide), if_pos rfl, hy]
  have hF : faultE 4 (subL l i (nrun l i)) = if numN (subL l i (nrun l i)) = none then 31 else 0 := by
    have hl := subL_len l i (nrun l i)
    unfold faultE valE
    rw [if_neg (by decide), if_pos rfl, if_neg (by omega)]
    cases numN (subL l i (nrun l i)) <;> simp
  refine ⟨by omega, hle, hC, ?_, ?_⟩
  · unfold tokE
    rw [hC, if_neg (by omega)]
    exact hF
  · unfold tokJ
    rw [hC, if_neg (by omega), hF]
    cases numN (subL l i (nrun l i)) <;> simp
/-- is it a pattern -/
def patX (t : List UInt8) : Bool := decide (2 ≤ t.length) && (decide (t.length ≤ 33) && (t.drop 1).all is01x)
theorem tok_pat {l : List UInt8} {i : Nat} (hi : i < l.length) (h6 : kl l i = 6) :
    i < wrun l (i + 1) ∧ wrun l (i + 1) ≤ l.length ∧ tokC l i = (5, wrun l (i + 1)) ∧ tokE l i = (if patX (subL l i (wrun l (i + 1))) = true then 0 else 44) ∧ tokJ l i = (if patX (subL l i (wrun l (i + 1))) = true then wrun l (i + 1) else i) := by
  have hg := wrun_ge l _ (i + 1) (Nat.le_refl _)
  have hle := hg.2 hi
  have hC : tokC l i = (5, wrun l (i + 1)) := by
    unfold tokC endF
    rw [if_neg (by omega), if_neg (by omega), if_pos h6, if_neg (by decide), if_neg (by decide), if_neg (by decide), if_pos rfl]
  have hF : faultE 5 (subL l i (wrun l (i + 1))) = if patX (subL l i (wrun l (i + 1))) = true then 0 else 44 := by
    obtain ⟨t, ht⟩ : ∃ t, subL l i (wrun l (i + 1)) = t := ⟨_, rfl⟩
    rw [ht]
    unfold faultE patX
    rw [if_neg (by decide), if_neg (by decide), if_pos rfl]
    have e0 : (t.drop 1 = []) ↔ t.length ≤ 1 := by rw [← List.length_eq_zero_iff, List.length_drop]; omega
    rw [List.length_drop]
    by_cases ha : (t.drop 1).all is01x = true
    · by_cases hb : 2 ≤ t.length ∧ t.length ≤ 33
      · rw [if_neg (fun h => by rcases h with h | h | h <;> first | (rw [e0] at h; omega) | omega | (rw [ha] at h; cases h)), if_pos (by rw [ha]; simp [hb.1, hb.2])]
      · rw [if_pos (by rw [e0]; omega), if_neg (by simp only [Bool.and_eq_true, decide_eq_true_eq]; exact fun h => hb ⟨h.1, h.2.1⟩)]
    · rw [if_pos (.inr (.inr (Bool.eq_false_iff.2 ha))), if_neg (by simp only [Bool.and_eq_true]; exact fun h => ha h.2.2)]
  refine ⟨by omega, hle, hC, ?_, ?_⟩
  · unfold tokE
    rw [hC, if_neg (by omega)]
    exact hF
  · unfold tokJ
    rw [hC, if_neg (by omega), hF]
    cases patX (subL l i (wrun l (i + 1))) <;> simp
theorem tok_quo {l : List UInt8} {i : Nat} (hi : i < l.length) (hn : ∀ j, j < l.length → kl l j ≠ 1) (h7 : kl l i = 7) :
    ((insS l (i + 1) []).2.2 ≠ 0 → tokE l i = (insS l (i + 1) []).2.2 ∧ tokJ l i = (insS l (i + 1) []).2.1) ∧
    ((insS l (i + 1) []).2.2 = 0 → 256 < (insS l (i + 1) []).1.length → tokE l i = 37 ∧ tokJ l i = i) ∧
    ((insS l (i + 1) []).2.2 = 0 → ¬ 256 < (insS l (i + 1) []).1.length → tokE l i = 0 ∧ tokJ l i = (insS l (i + 1) []).2.1 ∧ tokC l i = (6, (insS l (i + 1) []).2.1)) := by
  have hC : tokC l i = (6, quoJ l i) := by
    unfold tokC endF
    rw [if_neg (by omega), if_neg (by omega), if_neg (by omega), if_pos h7, if_neg (by decide), if_neg (by decide), if_neg (by decide), if_neg (by decide)]
  have hf : ∀ t, faultE 6 t = 0 := fun t => by
    unfold faultE
    rw [if_neg (by decide), if_neg (by decide), if_neg (by decide), if_neg (by decide)]
  have h33 : ¬ ((insS l (i + 1) []).2.2 = 33 ∧ kl l (insS l (i + 1) []).2.1 = 1) := fun ⟨h1, h2⟩ => hn _ ((insS_at l _ (i + 1) [] (Nat.le_refl _) hi).2 h1) h2
  have hq : quoE l i = if (insS l (i + 1) []).2.2 = 0 ∧ 256 < (insS l (i + 1) []).1.length then 37 else (insS l (i + 1) []).2.2 := by unfold quoE; rw [if_neg h33]
  refine ⟨fun h => ?_, fun h1 h2 => ?_, fun h1 h2 => ?_⟩
  · have hc : ¬ ((insS l (i + 1) []).2.2 = 0 ∧ 256 < (insS l (i + 1) []).1.length) := fun hh => h hh.1
    have hq1 : quoE l i = (insS l (i + 1) []).2.2 := hq.trans (if_neg hc)
    have hj1 : quoJ l i = (insS l (i + 1) []).2.1 := by unfold quoJ; exact if_neg hc
    have h7' : kl l i = 7 ∧ quoE l i ≠ 0 := ⟨h7, by rw [hq1]; exact h⟩
    exact ⟨by unfold tokE; rw [if_pos h7', hq1], by unfold tokJ; rw [if_pos h7', hj1]⟩
  · have hq1 : quoE l i = 37 := hq.trans (if_pos ⟨h1, h2⟩)
    have hj1 : quoJ l i = i := by unfold quoJ; exact if_pos ⟨h1, h2⟩
    have h7' : kl l i = 7 ∧ quoE l i ≠ 0 := ⟨h7, by rw [hq1]; decide⟩
    exact ⟨by unfold tokE; rw [if_pos h7', hq1], by unfold tokJ; rw [if_pos h7', hj1]⟩
  · have hq1 : quoE l i = 0 := (hq.trans (if_neg (fun hh => h2 hh.2))).trans h1
    have hj1 : quoJ l i = (insS l (i + 1) []).2.1 := by unfold quoJ; exact if_neg (fun hh => h2 hh.2)
    have h7' : ¬ (kl l i = 7 ∧ quoE l i ≠ 0) := fun hh => hh.2 hq1
    exact ⟨by unfold tokE; rw [if_neg h7', hC, hf], by unfold tokJ; rw [if_neg h7', hC, hf, if_pos rfl, hj1], by rw [hC, hj1]⟩
theorem find_eq (a : List UInt8) : ∀ L : List (List UInt8), L.find? (fun s => s == a) = if a ∈ L then some a else none
  | [] => rfl
  | b :: L => by
    rw [List.find?_cons, find_eq a L]
    by_cases h : b = a
    · subst h
      simp
    · have : (b == a) = false := beq_eq_false_iff_ne.2 h
      rw [this]
      simp only [List.mem_cons]
      by_cases h2 : a ∈ L
      · rw [if_pos h2, if_pos (.inr h2)]
      · rw [if_neg h2, if_neg (fun hh => hh.elim (fun e => h e.symm) h2)]
theorem find_cong {α : Type} {p q : α → Bool} : ∀ L : List α, (∀ x ∈ L, p x = q x) → L.find? p = L.find? q := findc
abbrev signs2 : List (List UInt8) := [[33, 61], [60, 61], [62, 61], [46, 46], [45, 62]]
abbrev signs1 : List (List UInt8) := [[40], [41], [33], [61], [60], [62], [38], [124], [44], [58], [47]]
theorem pre_two (x y : UInt8) (r : List UInt8) : ∀ s ∈ signs2, Lib.hasPrefix (x :: y :: r) s = (s == [x, y]) := by
  intro s hs
  have h2 : ∀ s ∈ signs2, s.length = 2 := by decide
  obtain ⟨a, b, rfl⟩ : ∃ a b, s = [a, b] := by
    have := h2 s hs
    match s, this with
    | [a, b], _ => exact ⟨a, b, rfl⟩
  unfold Lib.hasPrefix
  simp [List.isPrefixOf]
theorem pre_one (x : UInt8) (r : List UInt8) : ∀ s ∈ signs1, Lib.hasPrefix (x :: r) s = (s == [x]) := by
  intro s hs
  have h2 : ∀ s ∈ signs1, s.length = 1 := by decide
  obtain ⟨a, rfl⟩ : ∃ a, s = [a] := by
    have := h2 s hs
    match s, this with
    | [a], _ => exact ⟨a, rfl⟩
  unfold Lib.hasPrefix
  simp [List.isPrefixOf]
theorem sgn_two (x y : UInt8) (r : List UInt8) : sgn (x :: y :: r) = if [x, y] ∈ signs2 then 2 else if [x] ∈ signs1 then 1 else 0 := by
  unfold sgn
  rw [show signsL = signs2 ++ signs1 from rfl, List.find?_append, find_cong signs2 (pre_two x y r), find_cong signs1 (pre_one x (y :: r)), find_eq, find_eq]
  by_cases h : [x, y] ∈ signs2
  · rw [if_pos h, if_pos h]; rfl
  · rw [if_neg h, if_neg h]
    by_cases h1 : [x] ∈ signs1
    · rw [if_pos h1, if_pos h1]; rfl
    · rw [if_neg h1, if_neg h1]; rfl
theorem sgn_one (x : UInt8) : sgn [x] = if [x] ∈ signs1 then 1 else 0 := by
  unfold sgn
  have hn : signs2.find? (fun s => Lib.hasPrefix [x] s) = none := by
    rw [List.find?_eq_none]
    intro s hs
    have h2 : ∀ s ∈ signs2, s.length = 2 := by decide
    have := h2 s hs
    match s, this with
    | [a, b], _ => simp [Lib.hasPrefix, List.isPrefixOf]
  rw [show signsL = signs2 ++ signs1 from rfl, List.find?_append, hn, find_cong signs1 (pre_one x []), find_eq]
  by_cases h1 : [x] ∈ signs1
  · rw [if_pos h1, if_pos h1]; rfl
  · rw [if_neg h1, if_neg h1]; rfl
theorem tok_sign {l : List UInt8} {i : Nat} (h3 : kl l i ≠ 3) (h4 : kl l i ≠ 4) (h6 : kl l i ≠ 6) (h7 : kl l i ≠ 7) :
    tokC l i = (7, i + sgn (l.drop i)) ∧ tokE l i = (if sgn (l.drop i) = 0 then 30 else 0) ∧ tokJ l i = i + sgn (l.drop i) := by
  have hC : tokC l i = (7, i + sgn (l.drop i)) := by
    unfold tokC
    rw [if_neg h3, if_neg h4, if_neg h6, if_neg h7]
  have hl := (sgn_pre (l.drop i)).1
  have hF : faultE 7 (subL l i (i + sgn (l.drop i))) = if sgn (l.drop i) = 0 then 30 else 0 := by
    unfold faultE
    rw [if_neg (by decide), if_neg (by decide), if_neg (by decide), if_pos rfl]
    have e : subL l i (i + sgn (l.drop i)) = [] ↔ sgn (l.drop i) = 0 := by
      unfold subL
      rw [← List.length_eq_zero_iff, List.length_take, Nat.add_sub_cancel_left]
      omega
    by_cases h : sgn (l.drop i) = 0
    · rw [if_pos (e.2 h), if_pos h]
    · rw [if_neg (fun hh => h (e.1 hh)), if_neg h]
  refine ⟨hC, ?_, ?_⟩
  · unfold tokE
    rw [hC, if_neg (fun h => h7 h.1)]
    exact hF
  · unfold tokJ
    rw [hC, if_neg (fun h => h7 h.1), hF]
    by_cases h : sgn (l.drop i) = 0
    · rw [if_pos h, if_neg (by decide), h]; rfl
    · rw [if_neg h, if_pos rfl]
end Go.Proofs.YtialcphfaleedaaDoor
namespace Go.Proofs.YtialcphfaleedaaDoor
open Go.RowKit Go.Shelf
abbrev hdT : List UInt8 := [97, 32, 61, 32, 49, 32, 35, 32, 98]
theorem scan_hd : ∃ D : List Tok, scanM hdT = (D, 0, 0, 0) ∧ D.length = 4 := by
  have k0 : kl hdT 0 = 3 := by decide
  have k1 : kl hdT 1 = 2 := by decide
  have k2 : kl hdT 2 = 9 := by decide
  have k3 : kl hdT 3 = 2 := by decide
  have k4 : kl hdT 4 = 4 := by decide
  have k5 : kl hdT 5 = 2 := by decide
  have k6 : kl hdT 6 = 8 := by decide
  have w1 : wrun hdT 0 = 1 := by
    rw [wrun_yes (show inW hdT 0 = true by unfold inW; rw [k0]; rfl)]
    exact wrun_no (by unfold inW; rw [k1]; rfl)
  obtain ⟨-, -, e0, j0, c0⟩ := tok_name (l := hdT) (i := 0) (by decide) k0 w1 (by unfold dotA; rw [k1]; rfl)
  rw [if_neg (by decide)] at e0 j0
  have s2 : sgn (hdT.drop 2) = 1 := by decide
  obtain ⟨c2, e2, j2⟩ := tok_sign (l := hdT) (i := 2) (by omega) (by omega) (by omega) (by omega)
  rw [s2] at c2 e2 j2
  rw [if_neg (by decide)] at e2
  have n4 : nrun hdT 4 = 5 := by
    rw [nrun_yes (show (inW hdT 4 || dotA hdT 4 4) = true by unfold inW; rw [k4]; rfl)]
    exact nrun_no (by unfold inW dotA; rw [k5]; rfl)
  obtain ⟨-, -, c4, e4, j4⟩ := tok_num (l := hdT) (i := 4) (by decide) (by decide) k4
  rw [n4] at c4 e4 j4
  have hv : numN (subL hdT 4 5) ≠ none := by decide
  rw [if_neg hv] at e4 j4
  have hc : cend hdT 7 = 9 := cend_noNL (noNL_of (by decide)) _ 7 (Nat.le_refl _) (by decide)
  have k9 : kl hdT 9 = 0 := kl0.2 (by decide)
  unfold scanM
  rw [if_neg (by decide)]
  show ∃ D : List Tok, runM 10 hdT 0 1 0 [] = (D, 0, 0, 0) ∧ D.length = 4
  rw [runM_tok (by omega) (by omega) (by omega) (by omega) e0, j0, runM_blank k1, runM_tok (by omega) (by omega) (by omega) (by omega) e2, j2, runM_blank k3, runM_tok (by omega) (by omega) (by omega) (by omega) e4, j4, runM_blank k5, runM_hash k6, hc]
  unfold lendM
  rw [if_pos k9]
  refine ⟨_, rfl, ?_⟩
  rw [c4]
  rfl
set_option maxRecDepth 100000 in
set_option maxHeartbeats 2000000 in
theorem leaves_all (l : List UInt8) (w : World) (hl : l.length ≤ 281474976710656) (hv1 : SH w) (hv4 : SG w) (hv5 : VW w) :
    Calls Tryd.prog 4 #[.string ⟨l.toArray⟩] w fun e w' => e = .returned (.bool true) ∧ Below w.heap.size w w' := by
  obtain ⟨DH, hDH, hDl⟩ := scan_hd
  have S1 := scan_any l w hl hv1 hv4 (FOK_of hv5)
  have S2 := sa1 hv1 hv4 hv5 hdT (by decide)
  rw [hDH] at S2
  have PH : Hid (∀ (o : Option Addr) (c B : Nat) (W : World), W.ownsRow B 29 4 (.slice o 4 c) 4 (tcels DH) → Calls Tryd.prog 10 #[.string ⟨#[97, 32, 61, 32, 49, 32, 35, 32, 98]⟩, .slice o 4 c] W fun e w' => e = .returned (.bool true) ∧ Below W.heap.size W w') := fun o c B W hr => by
    have hp := scan_placed hdT (by decide) (by rw [hDH])
    rw [hDH] at hp
    have h := placed_any hdT DH o c B W (by decide) (by rw [hDl]; exact hr) hp
    rw [hDl] at h
    exact h
  replace S2 : Hid (SA1 w ⟨#[97, 32, 61, 32, 49, 32, 35, 32, 98]⟩ (DH, 0, 0, 0)) := S2
  clear hDH hv1 hv4 hv5
  unfold scR at S1
  by_cases he : (scanM l).2.1 = 0
  · have hs : l.length ≤ 16384 := by
      refine Classical.byContradiction (fun h => ?_)
      unfold scanM at he
      rw [if_pos (by omega)] at he
      cases he
    have hd := (scan_done l hs).1 he
    have hp := scan_placed l hs he
    obtain ⟨r, hr⟩ : ∃ r, scanM l = r := ⟨_, rfl⟩
    rw [hr] at S1 hd hp
    clear hr he
    obtain ⟨D, e0⟩ := r
    simp only at hd hp
    subst hd
    have P1 : Hid (∀ (o : Option Addr) (c B : Nat) (W : World), W.ownsRow B 29 4 (.slice o D.length c) D.length (tcels D) → Calls Tryd.prog 10 #[.string ⟨l.toArray⟩, .slice o D.length c] W fun e w' => e = .returned (.bool true) ∧ Below W.heap.size W w') := fun o c B W hr => placed_any l D o c B W hs hr hp
    clear hp
    go_enter Tryd.func4, Tryd.ntmps4
    go_wp2_with fail
    refine S1.mono ?_
    rintro e W1 ⟨v1, rfl, h1, hb1⟩
    obtain ⟨o1, c1, rfl⟩ := shapeP h1
    have HC := P1.out o1 c1 _ W1 h1
    clear h1 P1
    go_wp2_with fail
    refine HC.mono ?_
    rintro e W2 ⟨rfl, hb2⟩
    go_wp2_with fail
    refine (S2.out _ (bel0 hb1 hb2)).mono ?_
    rintro e W3 ⟨o3, c3, rfl, h3, -, hb3⟩
    simp only [hDl] at h3
    have HC3 := PH.out o3 c3 _ W3 h3
    clear h3 PH HC
    go_wp2_with fail
    refine HC3.mono ?_
    rintro e W4 ⟨rfl, hb4⟩
    go_wp2_with fail
    go_ret
    exact ⟨rfl, bel0 hb3 hb4⟩
  · have hn : (scanM l).1 = [] := by
      by_cases hs : l.length ≤ 16384
      · exact (scan_done l hs).2 he
      · unfold scanM
        rw [if_pos (by omega)]
    obtain ⟨r, hr⟩ : ∃ r, scanM l = r := ⟨_, rfl⟩
    rw [hr] at S1 he hn
    clear hr
    obtain ⟨D, e0, ln, cl⟩ := r
    simp only at hn he
    subst hn
    have q0 : ((e0 : Int) == 0) = false := by rw [beq_eq_false_iff_ne]; omega
    have q1 : ((e0 : Int) != 0) = true := by rw [bne, q0]; rfl
    go_enter Tryd.func4, Tryd.ntmps4
    go_wp2_with fail
    refine S1.mono ?_
    rintro e W1 ⟨v1, rfl, h1, hb1⟩
    obtain ⟨o1, c1, rfl⟩ := shapeP h1
    clear h1
    go_wp2_with fail
    refine (S2.out _ hb1).mono ?_
    rintro e W3 ⟨o3, c3, rfl, h3, -, hb3⟩
    simp only [hDl] at h3
    have HC3 := PH.out o3 c3 _ W3 h3
    clear h3 PH
    go_wp2_with fail
    refine HC3.mono ?_
    rintro e W4 ⟨rfl, hb4⟩
    go_wp2_with fail
    go_ret
    exact ⟨rfl, bel0 hb3 hb4⟩
theorem scanLeavesNothing_walk (s : ByteArray) (w : World) (hs : s.size ≤ 281474976710656) (hv1 : SH w) (hv4 : SG w) (hv5 : VW w) :
    Calls Tryd.prog 4 #[.string s] w fun e w' => e = .returned (.bool true) ∧ Below w.heap.size w w' := by
  obtain ⟨l, rfl⟩ : ∃ l : List UInt8, s = ⟨l.toArray⟩ := ⟨s.data.toList, by simp⟩
  have hl : l.length ≤ 281474976710656 := by
    have e : (ByteArray.mk l.toArray).size = l.length := by simp [ByteArray.size]
    omega
  exact leaves_all l w hl hv1 hv4 hv5
end Go.Proofs.YtialcphfaleedaaDoor
