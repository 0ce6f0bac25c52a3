import Derived.Test.YtclgjdhobdncjaaDoorG1
namespace Go.Proofs.YtclgjdhobdncjaaDoor
open Go.RowKit
/-- one escape is read -/
theorem ins_esc (P X said : List UInt8) (n : Nat) (b : List UInt8) (hX : 0 < X.length) (h92 : bt X 0 = 92) (he : escS X 0 = (n, b)) (hn : 0 < n) : insS (P ++ X) P.length said = insS (P ++ X) (P.length + n) (said ++ b) := by
  have h0 := bt_shift P X 0
  rw [Nat.add_zero] at h0
  rw [insS, if_pos (by rw [List.length_append]; omega), h0, if_neg (by omega), if_pos h92, escS_shift, he, if_neg (by simp only; omega)]
theorem esc_loo (x : Nat) (hx2 : x < 256) (rest : List UInt8) : escS (looS x ++ rest) 0 = (4, [UInt8.ofNat x]) := by
  have h1 := hexD_hx (x / 16) (by omega)
  have h2 := hexD_hx (x % 16) (by omega)
  show escS (92 :: 120 :: hx (x / 16) :: hx (x % 16) :: rest) 0 = _
  unfold escS
  have b1 : bt (92 :: 120 :: hx (x / 16) :: hx (x % 16) :: rest) (0 + 1) = 120 := rfl
  have g2 : (92 :: 120 :: hx (x / 16) :: hx (x % 16) :: rest).getD (0 + 2) 0 = hx (x / 16) := rfl
  have g3 : (92 :: 120 :: hx (x / 16) :: hx (x % 16) :: rest).getD (0 + 3) 0 = hx (x % 16) := rfl
  rw [b1, g2, g3, h1, h2, if_neg (by simp), if_neg (by decide), if_neg (by decide), if_neg (by decide), if_neg (by decide), if_neg (by decide), if_pos rfl, if_pos (by simp)]
  exact congrArg (fun y => (4, [UInt8.ofNat y])) (by omega)
theorem esc_sh2 (c y : UInt8) (rest : List UInt8) (h : (c = 34 ∧ y = 34) ∨ (c = 92 ∧ y = 92) ∨ (c = 110 ∧ y = 10) ∨ (c = 114 ∧ y = 13) ∨ (c = 116 ∧ y = 9)) : escS ([92, c] ++ rest) 0 = (2, [y]) := by
  show escS (92 :: c :: rest) 0 = _
  unfold escS
  have b1 : bt (92 :: c :: rest) (0 + 1) = c.toNat := rfl
  rw [b1, if_neg (by simp)]
  rcases h with ⟨rfl, rfl⟩ | ⟨rfl, rfl⟩ | ⟨rfl, rfl⟩ | ⟨rfl, rfl⟩ | ⟨rfl, rfl⟩
  · rw [if_pos (by decide)]
  · rw [if_neg (by decide), if_pos (by decide)]
  · rw [if_neg (by decide), if_neg (by decide), if_pos (by decide)]
  · rw [if_neg (by decide), if_neg (by decide), if_neg (by decide), if_pos (by decide)]
  · rw [if_neg (by decide), if_neg (by decide), if_neg (by decide), if_neg (by decide), if_pos (by decide)]
theorem esc_uni (r : Nat) (hr : r ≤ 1114111) (hs : ¬ (55296 ≤ r ∧ r ≤ 57343)) (h6 : (hexN r).length ≤ 6) (rest : List UInt8) : escS ([92, 117, 123] ++ hexN r ++ [125] ++ rest) 0 = (4 + (hexN r).length, utfL r) := by
  obtain ⟨X, hX⟩ : ∃ X, [92, 117, 123] ++ hexN r ++ [125] ++ rest = X := ⟨_, rfl⟩
  have hX2 : X = 92 :: 117 :: 123 :: (hexN r ++ 125 :: rest) := by rw [← hX]; simp
  have hl1 : 1 ≤ (hexN r).length := by rw [hexN]; split <;> simp
  have hlen : X.length = 3 + (hexN r).length + 1 + rest.length := by rw [← hX]; simp; omega
  rw [hX]
  have hd : X.drop (0 + 3) = hexN r ++ 125 :: rest := by rw [hX2]; rfl
  have hrun : hexRun 6 (X.drop (0 + 3)) 0 = ((hexN r).length, r) := by
    rw [hd, hexRun_hexN r 6 0 _ h6, hexRun_brace]
    simp
  have hb : bt X (0 + 3 + (hexN r).length) = 125 := by
    have h := bt_shift ([92, 117, 123] ++ hexN r) ([125] ++ rest) 0
    rw [← List.append_assoc, hX] at h
    have e : 0 + 3 + (hexN r).length = ([92, 117, 123] ++ hexN r : List UInt8).length + 0 := by simp; omega
    rw [e, h]
    rfl
  have hbr : brS X 0 = (4 + (hexN r).length, r) := by
    unfold brS
    rw [hrun, if_neg (by rw [show bt X (0 + 2) = 123 by rw [hX2]; rfl]; simp; omega)]
    simp only
    rw [hb, if_neg (by omega)]
  unfold escS
  have b1 : bt X (0 + 1) = 117 := by rw [hX2]; rfl
  rw [b1, if_neg (by omega), if_neg (by decide), if_neg (by decide), if_neg (by decide), if_neg (by decide), if_neg (by decide), if_neg (by decide), if_pos rfl, hbr, if_pos (by simp only; omega)]
theorem uns_bounds {r : Nat} (h : unsN r = true) : 128 ≤ r ∧ r ≤ 65279 ∧ ¬ (55296 ≤ r ∧ r ≤ 57343) := by
  have := of_decide_eq_true h
  omega
theorem hexN_4 (r : Nat) (h : r < 65536) : (hexN r).length ≤ 4 := by
  have step : ∀ k m, m < 16 ^ (k + 1) → (hexN m).length ≤ k + 1 := by
    intro k
    induction k with
    | zero => intro m hm; rw [hexN, if_pos (by omega)]; simp
    | succ k ih =>
      intro m hm
      rw [hexN]
      split
      · simp
      · have := ih (m / 16) (by rw [Nat.pow_succ] at hm; omega)
        rw [List.length_append, List.length_singleton]
        omega
  exact step 3 r (by omega)
theorem own_byte (l : List UInt8) (i : Nat) (h : i < l.length) (h1 : (dc l i).2 = 1) : own l i = [UInt8.ofNat (bt l i)] := by
  unfold own bt
  rw [h1, getD_drop h]
  simp
/-- how a character is told is read as the character -/
theorem ins_piece (s : List UInt8) (i : Nat) (h : i < s.length) (P rest said : List UInt8) : insS (P ++ (pcS s i ++ rest)) P.length said = insS (P ++ (pcS s i ++ rest)) (P.length + (pcS s i).length) (said ++ own s i) := by
  have hap := pcS_ap s i h
  by_cases hlo : lo1 s i = true
  · have hd : dc s i = (65533, 1) := of_decide_eq_true hlo
    have hp : pcS s i = looS (bt s i) := by unfold pcS; rw [if_pos hlo]
    rw [hp, own_byte s i h (by rw [hd])]
    exact ins_esc P _ said 4 _ (by simp [looS]) rfl (esc_loo _ (bt_lt s i) rest) (by decide)
  · have hlo : lo1 s i = false := by simpa using hlo
    have hc : chr s i = ((dc s i).1 : Int) := by unfold chr; rw [if_pos h, if_neg (by rw [hlo]; decide)]
    have key : ∀ k : Nat, k < 128 → chr s i = (k : Int) → own s i = [UInt8.ofNat k] := fun k hk e => by
      have := (chr_asc s i k hk).1 e
      rw [own_byte s i h (by rw [dc_asc (by omega)]), this.2]
    unfold apT shL at hap
    by_cases g34 : chr s i = 34
    · rw [if_pos g34] at hap
      rw [hap, key 34 (by decide) g34]
      exact ins_esc P _ said 2 _ (by simp) rfl (esc_sh2 34 34 rest (.inl ⟨rfl, rfl⟩)) (by decide)
    rw [if_neg g34] at hap
    by_cases g92 : chr s i = 92
    · rw [if_pos g92] at hap
      rw [hap, key 92 (by decide) g92]
      exact ins_esc P _ said 2 _ (by simp) rfl (esc_sh2 92 92 rest (.inr (.inl ⟨rfl, rfl⟩))) (by decide)
    rw [if_neg g92] at hap
    by_cases g10 : chr s i = 10
    · rw [if_pos g10] at hap
      rw [hap, key 10 (by decide) g10]
      exact ins_esc P _ said 2 _ (by simp) rfl (esc_sh2 110 10 rest (.inr (.inr (.inl ⟨rfl, rfl⟩)))) (by decide)
    rw [if_neg g10] at hap
    by_cases g13 : chr s i = 13
    · rw [if_pos g13] at hap
      rw [hap, key 13 (by decide) g13]
      exact ins_esc P _ said 2 _ (by simp) rfl (esc_sh2 114 13 rest (.inr (.inr (.inr (.inl ⟨rfl, rfl⟩))))) (by decide)
    rw [if_neg g13] at hap
    by_cases g9 : chr s i = 9
    · rw [if_pos g9] at hap
      rw [hap, key 9 (by decide) g9]
      exact ins_esc P _ said 2 _ (by simp) rfl (esc_sh2 116 9 rest (.inr (.inr (.inr (.inr ⟨rfl, rfl⟩))))) (by decide)
    rw [if_neg g9] at hap
    simp only at hap
    by_cases gb : chr s i < 32 ∨ chr s i = 127
    · rw [if_pos gb] at hap
      have hb : bt s i < 128 := Classical.byContradiction (fun hn => by have := dc_big hn; omega)
      rw [hap, own_byte s i h (by rw [dc_asc hb])]
      exact ins_esc P _ said 4 _ (by simp [looS]) rfl (esc_loo _ (bt_lt s i) rest) (by decide)
    rw [if_neg gb, hc, Int.toNat_natCast] at hap
    have ht := take_own s i h hlo
    by_cases gu : unsN (dc s i).1 = true
    · rw [if_pos gu] at hap
      obtain ⟨u1, u2, u3⟩ := uns_bounds gu
      have h4 := hexN_4 (dc s i).1 (by omega)
      have hutf : utfL (dc s i).1 = own s i := byteCells_inj (by rw [← utf_cells _ (by omega) u3, ht]; rfl)
      have he := esc_uni (dc s i).1 (by omega) u3 (by omega) rest
      rw [hutf] at he
      have hl : (pcS s i).length = 4 + (hexN (dc s i).1).length := by rw [hap]; simp; omega
      rw [hl]
      rw [hap]
      exact ins_esc P _ said _ _ (by simp) rfl he (by omega)
    · rw [if_neg gu] at hap
      have henc : Lib.encodeRune ((dc s i).1 : Int) = own s i := byteCells_inj (by rw [Lib.byteCells_encodeRune, ht]; rfl)
      rw [henc] at hap
      have hol := own_len s i h
      have hp := dc_pos s i
      rw [hap, hol]
      have hdc := dc_same s i P rest h hlo
      have hb0 := bt_own s i rest h 0 (by omega)
      have hb1 := bt_shift P (own s i ++ rest) 0
      rw [Nat.add_zero] at hb1
      rw [hb0, Nat.add_zero] at hb1
      have hlo2 : lo1 (P ++ (own s i ++ rest)) P.length = false := by
        unfold lo1 at hlo ⊢
        rw [hdc]
        exact hlo
      have n34 : bt s i ≠ 34 := fun e => g34 ((chr_asc s i 34 (by decide)).2 ⟨h, e⟩)
      have n92 : bt s i ≠ 92 := fun e => g92 ((chr_asc s i 92 (by decide)).2 ⟨h, e⟩)
      have nb : ¬ (lo1 (P ++ (own s i ++ rest)) P.length = true ∨ bt s i < 32 ∨ bt s i = 127) := by
        rintro (e | e | e)
        · rw [hlo2] at e; cases e
        · exact gb (.inl (by have := (chr_asc s i (bt s i) (by omega)).2 ⟨h, rfl⟩; omega))
        · exact gb (.inr ((chr_asc s i 127 (by decide)).2 ⟨h, e⟩))
      rw [insS, if_pos (by rw [List.length_append, List.length_append]; omega), hb1, if_neg n34, if_neg n92, if_neg nb, hdc]
      have hd0 := drop_shift P (own s i ++ rest) 0
      rw [Nat.add_zero, List.drop_zero] at hd0
      rw [hd0, ← hol, List.take_left]
end Go.Proofs.YtclgjdhobdncjaaDoor
