import Derived.Test.YtialcphfaleedaaGreatDoorZ27
import Derived.Test.YtialcphfaleedaaGreatDoorZ28
import Derived.Test.YtialcphfaleedaaGreatDoorZ22
namespace Go.Proofs.YtialcphfaleedaaGreatDoor
open Go.RowKit Go.Shelf
/-- what the document's token answers -/
def tokR3 (l : List UInt8) (i : Nat) : Nat × Nat × Nat := if tokE l i = 0 then ((tokC l i).1, tokJ l i, 0) else (0, tokJ l i, tokE l i)
theorem tokR3_ok {l : List UInt8} {i k j : Nat} (he : tokE l i = 0) (hk : (tokC l i).1 = k) (hj : tokJ l i = j) : tokR3 l i = (k, j, 0) := by
  unfold tokR3
  rw [if_pos he, hk, hj]
theorem tokR3_no {l : List UInt8} {i e j : Nat} (h0 : e ≠ 0) (he : tokE l i = e) (hj : tokJ l i = j) : tokR3 l i = (0, j, e) := by
  unfold tokR3
  rw [he, if_neg h0, hj]
theorem refToken_any (l : List UInt8) (i : Nat) (w : World) (hi : i < l.length) (hs : l.length ≤ 16384) (hn : ∀ j, j < l.length → kl l j ≠ 1) (hg : SR w) :
    Calls Tryz.prog 38 #[.string ⟨l.toArray⟩, .int .i64 (i : Int)] w fun e w' => e = .returned (.tuple #[.int .i64 ((tokR3 l i).1 : Int), .int .i64 ((tokR3 l i).2.1 : Int), .int .i64 ((tokR3 l i).2.2 : Int)]) ∧ Below w.heap.size w w' := by
  have hiI : (i : Int) < (l.length : Int) := by omega
  obtain ⟨c, hc, hlc⟩ := byte_get l i hi
  have hb := bt_of hlc
  have hk : kl l i = cls (c.toNat : Int) := by rw [← hb]; exact kl_bt hi
  have hx := c.toNat_lt
  have HLet : ∀ W : World, Calls Tryz.prog 42 #[.int .u8 (c.toNat : Int)] W fun e w' => e = .returned (.bool (decide (kl l i = 3))) ∧ w' = W := fun W => by
    have := refLetter_any c.toNat W
    rw [letX_cls hx, ← hk] at this
    exact this
  have HDig : ∀ W : World, Calls Tryz.prog 44 #[.int .u8 (c.toNat : Int)] W fun e w' => e = .returned (.bool (decide (kl l i = 4))) ∧ w' = W := fun W => by
    have := refDigit_any c.toNat W
    rw [digX_cls hx, ← hk] at this
    exact this
  by_cases h3 : kl l i = 3
  · rw [decide_eq_true h3] at HLet
    obtain ⟨j, hj⟩ : ∃ j, wrun l i = j := ⟨_, rfl⟩
    have HR : ∀ W : World, Calls Tryz.prog 43 #[.string ⟨l.toArray⟩, .int .i64 (i : Int)] W fun e w' => e = .returned (.int .i64 (j : Int)) ∧ w' = W := fun W => by
      have := refRun_any l i W (Nat.le_of_lt hi) hs i rfl
      rw [hj] at this
      exact this
    cases hd : dotA l j 3 with
    | false =>
      obtain ⟨b1, b2, b3, b4, b5⟩ := tok_name hi h3 hj hd
      by_cases h24 : 24 < j - i
      · rw [if_pos h24] at b3 b4
        rw [tokR3_no (by decide) b3 b4]
        exact tk_A l i c w hiI hs hc j b1 b2 HLet HR (by omega)
      · rw [if_neg h24] at b3 b4
        rw [tokR3_ok b3 (by rw [b5]) b4]
        by_cases hl2 : j + 1 < l.length
        · obtain ⟨d, hdd, hld⟩ := byte_get l j (by omega)
          by_cases h46 : d = 46
          · subst h46
            obtain ⟨d2, hd2, hld2⟩ := byte_get l (j + 1) hl2
            have hb2 := bt_of hld2
            have h5 : kl l j = 5 := by rw [kl_bt (by omega), bt_of hld]; rfl
            have hk2 : ¬ kl l (j + 1) = 3 := fun e => by
              unfold dotA at hd
              rw [h5, e] at hd
              cases hd
            refine tk_B3 l i c w hiI hs hc j b1 b2 HLet HR (by omega) d2 hdd hd2 (by omega) (fun W => ?_)
            have := refLetter_any d2.toNat W
            rw [letX_cls d2.toNat_lt, ← hb2, ← kl_bt hl2, decide_eq_false hk2, hb2] at this
            exact this
          · exact tk_B2 l i c w hiI hs hc j b1 b2 HLet HR (by omega) (by omega) d hdd (u8_ne (d := 46) h46)
        · exact tk_B1 l i c w hiI hs hc j b1 b2 HLet HR (by omega) (by omega)
    | true =>
      obtain ⟨k, hk'⟩ : ∃ k, wrun l (j + 1) = k := ⟨_, rfl⟩
      obtain ⟨b1, b2, b3, b4, b5, b6, b7⟩ := tok_port hi h3 hj hd hk'
      obtain ⟨d1, d2⟩ : kl l j = 5 ∧ kl l (j + 1) = 3 := by unfold dotA at hd; simpa using hd
      obtain ⟨x, hxx, hlx⟩ := byte_get l j (by omega)
      obtain rfl : x = 46 := UInt8.toNat_inj.1 (by rw [← bt_of hlx, (kl5 d1).2]; rfl)
      obtain ⟨y, hy, hly⟩ := byte_get l (j + 1) b2
      have hby := bt_of hly
      have HL2 : ∀ W : World, Calls Tryz.prog 42 #[.int .u8 (y.toNat : Int)] W fun e w' => e = .returned (.bool true) ∧ w' = W := fun W => by
        have := refLetter_any y.toNat W
        rw [letX_cls y.toNat_lt, ← hby, ← kl_bt b2, decide_eq_true d2, hby] at this
        exact this
      have HR2 : ∀ W : World, Calls Tryz.prog 43 #[.string ⟨l.toArray⟩, .int .i64 ((j : Int) + 1)] W fun e w' => e = .returned (.int .i64 (k : Int)) ∧ w' = W := fun W => by
        have := refRun_any l (j + 1) W (by omega) hs ((j : Int) + 1) rfl
        rw [hk'] at this
        exact this
      by_cases h24 : 24 < j - i
      · rw [if_pos (.inl h24)] at b5 b6
        rw [tokR3_no (by decide) b5 b6]
        exact tk_A l i c w hiI hs hc j b1 (by omega) HLet HR (by omega)
      · by_cases g24 : 24 < k - j - 1
        · rw [if_pos (.inr g24)] at b5 b6
          rw [tokR3_no (by decide) b5 b6]
          exact tk_C1 l i c w hiI hs hc j b1 (by omega) HLet HR (by omega) y hxx hy (by omega) HL2 k b3 b4 HR2 (by omega)
        · have hno : ¬ (24 < j - i ∨ 24 < k - j - 1) := by omega
          rw [if_neg hno] at b5 b6
          rw [tokR3_ok b5 (by rw [b7]) b6]
          exact tk_C2 l i c w hiI hs hc j b1 (by omega) HLet HR (by omega) y hxx hy (by omega) HL2 k b3 b4 HR2 (by omega)
  rw [decide_eq_false h3] at HLet
  by_cases h4 : kl l i = 4
  · rw [decide_eq_true h4] at HDig
    obtain ⟨b1, b2, b3, b4, b5⟩ := tok_num hi hs h4
    have := tk_num l i c w hiI hs hc HLet HDig hi (numN (subL l i (nrun l i))) rfl (by omega) b2
    cases hv : numN (subL l i (nrun l i)) with
    | none =>
      rw [hv] at this b4 b5
      rw [tokR3_no (by decide) b4 b5]
      exact this
    | some v =>
      rw [hv] at this b4 b5
      rw [tokR3_ok b4 (by rw [b3]) b5]
      exact this
  rw [decide_eq_false h4] at HDig
  by_cases h6 : kl l i = 6
  · have c37 : c = 37 := by
      have ht : ∀ x : Fin 256, cls (x.val : Int) = 6 → x.val = 37 := by decide +kernel
      rw [hk] at h6
      exact UInt8.toNat_inj.1 (ht ⟨c.toNat, hx⟩ h6)
    subst c37
    obtain ⟨b1, b2, b3, b4, b5⟩ := tok_pat hi h6
    obtain ⟨j, hj⟩ : ∃ j, wrun l (i + 1) = j := ⟨_, rfl⟩
    rw [hj] at b1 b2 b3 b4 b5
    have HR : ∀ W : World, Calls Tryz.prog 43 #[.string ⟨l.toArray⟩, .int .i64 ((i : Int) + 1)] W fun e w' => e = .returned (.int .i64 (j : Int)) ∧ w' = W := fun W => by
      have := refRun_any l (i + 1) W hi hs ((i : Int) + 1) rfl
      rw [hj] at this
      exact this
    have hsl := subL_len l i j
    have h0 : (subL l i j)[0]? = some 37 := by
      unfold subL
      rw [List.getElem?_take, if_pos (by omega), List.getElem?_drop]
      exact hlc
    have := tk_pat l i w hiI hs hc HLet HDig j (by omega) b2 HR (patX (subL l i j)) (subL l i j) (ext_sub l i j) (fun W => refPattern_any (subL l i j) W h0 (by omega))
    cases hq : patX (subL l i j) with
    | true =>
      rw [hq] at this b4 b5
      rw [tokR3_ok b4 (by rw [b3]) b5]
      exact this
    | false =>
      rw [hq] at this b4 b5
      rw [tokR3_no (by decide) b4 b5]
      exact this
  by_cases h7 : kl l i = 7
  · have c34 : c = 34 := by
      have ht : ∀ x : Fin 256, cls (x.val : Int) = 7 → x.val = 34 := by decide +kernel
      rw [hk] at h7
      exact UInt8.toNat_inj.1 (ht ⟨c.toNat, hx⟩ h7)
    subst c34
    obtain ⟨b1, b2, b3⟩ := tok_quo hi hn h7
    have HI := fun W : World => refInside_at l i W hi hs (fun k W' hk' => refEscape_any l k W' hs hk')
    obtain ⟨r, hr⟩ : ∃ r, insS l (i + 1) [] = r := ⟨_, rfl⟩
    simp only [hr] at HI
    rw [hr] at b1 b2 b3
    obtain ⟨said, a, e0⟩ := r
    by_cases he : e0 = 0
    · subst he
      by_cases h256 : 256 < said.length
      · obtain ⟨q1, q2⟩ := b2 rfl h256
        rw [tokR3_no (by decide) q1 q2]
        exact tk_q2 l i w hiI hs hc HLet HDig said a HI (by omega)
      · obtain ⟨q1, q2, q3⟩ := b3 rfl h256
        rw [tokR3_ok q1 (by rw [q3]) q2]
        exact tk_q3 l i w hiI hs hc HLet HDig said a HI (by omega)
    · obtain ⟨q1, q2⟩ := b1 he
      rw [tokR3_no he q1 q2]
      exact tk_q1 l i w hiI hs hc HLet HDig said a e0 HI (by rw [beq_eq_false_iff_ne]; omega)
  · have n37 : ((c.toNat : Int) == 37) = false := u8_ne (d := 37) (fun e => h6 (by rw [hk, e]; rfl))
    have n34 : ((c.toNat : Int) == 34) = false := u8_ne (d := 34) (fun e => h7 (by rw [hk, e]; rfl))
    obtain ⟨b1, b2, b3⟩ := tok_sign h3 h4 h6 h7
    have := tk_sg l i c w hiI hs hc HLet HDig n37 n34 hi hg
    by_cases hz : sgn (l.drop i) = 0
    · rw [if_pos hz] at b2
      rw [tokR3_no (by decide) b2 b3]
      simp only [if_pos hz] at this
      exact this
    · rw [if_neg hz] at b2
      rw [tokR3_ok b2 (by rw [b1]) b3]
      simp only [if_neg hz] at this
      exact this
end Go.Proofs.YtialcphfaleedaaGreatDoor
namespace Go.Proofs.YtialcphfaleedaaGreatDoor
open Go.RowKit Go.Shelf
/-- how many lines end in a text -/
def nls (a : List UInt8) : Nat := a.count 10
theorem nls_no {a : List UInt8} (h : ∀ c ∈ a, c ≠ 10) : nls a = 0 := List.count_eq_zero.2 (fun hm => h 10 hm rfl)
/-- two texts, one behind the other -/
theorem text_app : ∀ (m : Nat) (a b : List UInt8) (line : Nat) (D : List Tok), a.length ≤ m → textM (a ++ 10 :: b) line D = if (textM a line D).2.1 ≠ 0 then textM a line D else textM b (line + nls a + 1) (textM a line D).1
  | m, a, b, line, D, hm => by
    obtain ⟨c, S, e, hS, hc⟩ := cut a
    subst e
    rcases hS with rfl | ⟨S', rfl⟩
    · rw [List.append_nil, text_cons hc, nls_no hc]
    · have hlen : (c ++ 10 :: S').length = c.length + S'.length + 1 := by simp; omega
      have en : nls (c ++ 10 :: S') = nls S' + 1 := by
        have := nls_no hc
        unfold nls at this ⊢
        simp [List.count_append, this]
      rw [List.append_assoc, List.cons_append, text_cons hc, text_cons hc]
      by_cases hr : (textM c line D).2.1 ≠ 0
      · simp only [if_pos hr]
      · simp only [if_neg hr]
        match m, hm with
        | 0, hm => omega
        | m + 1, hm =>
          rw [text_app m S' b (line + 1) (textM c line D).1 (by omega), en, show line + 1 + nls S' + 1 = line + (nls S' + 1) + 1 by omega]
/-- tokens, further down -/
def shT (k : Nat) (D : List Tok) : List Tok := D.map fun t => (t.1, t.2.1, t.2.2.1 + k, t.2.2.2)
/-- no line is begun -/
def ended (X : List Tok) : Prop := ∀ t, X.getLast? = some t → t.1 = 1
theorem endT_ended (D : List Tok) (line col : Nat) : ended (endT D line col) := by
  unfold endT ended
  intro t ht
  cases h : D.getLast? with
  | none =>
    rw [h] at ht
    simp only [h] at ht
    cases ht
  | some u =>
    rw [h] at ht
    by_cases hu : u.1 = 1
    · simp only [if_pos hu, h] at ht
      rw [← Option.some.inj ht]
      exact hu
    · simp only [if_neg hu, List.getLast?_concat] at ht
      rw [← Option.some.inj ht]
theorem endT_shift {X : List Tok} (hX : ended X) (D : List Tok) (line col k : Nat) : endT (X ++ shT k D) (line + k) col = X ++ shT k (endT D line col) := by
  rcases List.eq_nil_or_concat D with rfl | ⟨D0, t, rfl⟩
  · show endT (X ++ []) (line + k) col = X ++ []
    rw [List.append_nil]
    unfold endT
    cases h : X.getLast? with
    | none => rfl
    | some u => exact if_pos (hX u h)
  · have e1 : (X ++ shT k (D0 ++ [t])).getLast? = some (t.1, t.2.1, t.2.2.1 + k, t.2.2.2) := by
      unfold shT
      rw [List.map_append, ← List.append_assoc]
      exact List.getLast?_concat ..
    have e2 : (D0 ++ [t]).getLast? = some t := List.getLast?_concat ..
    simp only [List.concat_eq_append]
    unfold endT
    rw [e1, e2]
    by_cases ht : t.1 = 1
    · simp only [if_pos ht]
    · simp only [if_neg ht]
      rw [show shT k (D0 ++ [t] ++ [(1, [10], line, col)]) = shT k (D0 ++ [t]) ++ [(1, [10], line + k, col)] by unfold shT; simp, List.append_assoc]
/-- an answer, further down and behind other tokens -/
def shR (X : List Tok) (k : Nat) (r : Res) : Res := if r.2.1 ≠ 0 then (r.1, r.2.1, r.2.2.1 + k, r.2.2.2) else (X ++ shT k r.1, r.2)
theorem run_shift {X : List Tok} (hX : ended X) (l : List UInt8) (k : Nat) : ∀ (f j line hb : Nat) (D : List Tok), runM f l j (line + k) hb (X ++ shT k D) = shR X k (runM f l j line hb D)
  | 0, j, line, hb, D => by
    show (X ++ shT k D, 0, 0, 0) = shR X k (D, 0, 0, 0)
    unfold shR
    exact (if_neg (fun h => h rfl)).symm
  | f + 1, j, line, hb, D => by
    have hend : ∀ e, lendM f l e (line + k) hb (X ++ shT k D) = shR X k (lendM f l e line hb D) := fun e => by
      unfold lendM
      rw [endT_shift hX]
      by_cases h0 : kl l e = 0
      · rw [if_pos h0, if_pos h0]
        unfold shR
        exact (if_neg (fun h => h rfl)).symm
      · rw [if_neg h0, if_neg h0, show line + k + 1 = line + 1 + k by omega]
        exact run_shift hX l k f _ _ _ _
    by_cases h10 : kl l j = 1 ∨ kl l j = 0
    · rw [runM_end h10, runM_end h10]
      exact hend j
    have h1 : kl l j ≠ 1 := fun e => h10 (.inl e)
    have h0 : kl l j ≠ 0 := fun e => h10 (.inr e)
    by_cases h2 : kl l j = 2
    · rw [runM_blank h2, runM_blank h2]
      exact run_shift hX l k f _ _ _ _
    by_cases h8 : kl l j = 8
    · rw [runM_hash h8, runM_hash h8]
      exact hend _
    by_cases he : tokE l j = 0
    · rw [runM_tok h2 h8 h1 h0 he, runM_tok h2 h8 h1 h0 he, ← run_shift hX l k f]
      rw [show shT k (D ++ [((tokC l j).1, subL l j (tokC l j).2, line, ci l j - ci l hb + 1)]) = shT k D ++ [((tokC l j).1, subL l j (tokC l j).2, line + k, ci l j - ci l hb + 1)] by unfold shT; simp, List.append_assoc]
    · rw [runM_err h2 h8 h1 h0 he, runM_err h2 h8 h1 h0 he]
      unfold shR
      exact (if_pos he).symm
theorem run_done (l : List UInt8) : ∀ (f j line hb : Nat) (D : List Tok), l.length - j < f → ((runM f l j line hb D).2.1 = 0 → ended (runM f l j line hb D).1 ∧ (runM f l j line hb D).2 = (0, 0, 0)) ∧ ((runM f l j line hb D).2.1 ≠ 0 → (runM f l j line hb D).1 = [])
  | 0, j, line, hb, D, hf => by omega
  | f + 1, j, line, hb, D, hf => by
    have hend : ∀ e, j ≤ e → ((lendM f l e line hb D).2.1 = 0 → ended (lendM f l e line hb D).1 ∧ (lendM f l e line hb D).2 = (0, 0, 0)) ∧ ((lendM f l e line hb D).2.1 ≠ 0 → (lendM f l e line hb D).1 = []) := fun e he => by
      unfold lendM
      by_cases h0 : kl l e = 0
      · rw [if_pos h0]
        exact ⟨fun _ => ⟨endT_ended _ _ _, rfl⟩, fun h => absurd rfl h⟩
      · have hlt : e < l.length := Classical.byContradiction (fun h => h0 (kl0.2 h))
        rw [if_neg h0]
        exact run_done l f _ _ _ _ (by omega)
    by_cases h10 : kl l j = 1 ∨ kl l j = 0
    · rw [runM_end h10]
      exact hend j (Nat.le_refl _)
    have h1 : kl l j ≠ 1 := fun e => h10 (.inl e)
    have h0 : kl l j ≠ 0 := fun e => h10 (.inr e)
    have hj : j < l.length := Classical.byContradiction (fun e => h0 (kl0.2 e))
    by_cases h2 : kl l j = 2
    · rw [runM_blank h2]
      exact run_done l f _ _ _ _ (by omega)
    by_cases h8 : kl l j = 8
    · rw [runM_hash h8]
      have := cend_ge (l := l) _ (j + 1) (Nat.le_refl _)
      exact hend _ (by omega)
    by_cases he : tokE l j = 0
    · obtain ⟨a1, a2⟩ := tok_adv hj h1 he
      rw [runM_tok h2 h8 h1 h0 he]
      exact run_done l f _ _ _ _ (by omega)
    · rw [runM_err h2 h8 h1 h0 he]
      exact ⟨fun h => absurd h he, fun _ => rfl⟩
/-- what Scan answers of two texts, one behind the other -/
theorem text_joins (a b : List UInt8) : textM (a ++ 10 :: b) 1 [] = if (textM a 1 []).2.1 ≠ 0 then textM a 1 [] else shR (textM a 1 []).1 (nls a + 1) (textM b 1 []) := by
  rw [text_app _ a b 1 [] (Nat.le_refl _)]
  by_cases hr : (textM a 1 []).2.1 ≠ 0
  · rw [if_pos hr, if_pos hr]
  · rw [if_neg hr, if_neg hr]
    have hX : ended (textM a 1 []).1 := ((run_done a (a.length + 1) 0 1 0 [] (by omega)).1 (Classical.not_not.1 hr)).1
    have := run_shift hX b (nls a + 1) (b.length + 1) 0 1 0 []
    rw [show (textM a 1 []).1 ++ shT (nls a + 1) [] = (textM a 1 []).1 from List.append_nil _] at this
    rw [Nat.add_assoc]
    exact this
end Go.Proofs.YtialcphfaleedaaGreatDoor
