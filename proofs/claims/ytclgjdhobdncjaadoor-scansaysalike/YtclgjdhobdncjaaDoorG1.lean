import Derived.Test.YtclgjdhobdncjaaDoorF5
import Derived.Test.YtclgjdhobdncjaaDoorU8
namespace Go.Proofs.YtclgjdhobdncjaaDoor
open Go.RowKit
theorem bt_shift (P X : List UInt8) (j : Nat) : bt (P ++ X) (P.length + j) = bt X j := by
  unfold bt
  simp [List.getD, List.getElem?_append_right]
theorem drop_shift (P X : List UInt8) (j : Nat) : (P ++ X).drop (P.length + j) = X.drop j := by
  rw [← List.drop_drop, List.drop_left]
theorem getD_shift (P X : List UInt8) (j : Nat) : (P ++ X).getD (P.length + j) 0 = X.getD j 0 := by
  simp [List.getD, List.getElem?_append_right]
theorem dc_shift (P X : List UInt8) : dc (P ++ X) P.length = Lib.decodeN X.length (bt X 0) (bt X 1) (bt X 2) (bt X 3) := by
  unfold dc
  have h0 := bt_shift P X 0
  rw [Nat.add_zero] at h0
  rw [h0, bt_shift, bt_shift, bt_shift, List.length_append, Nat.add_sub_cancel_left]
theorem brS_shift (P X : List UInt8) : brS (P ++ X) P.length = brS X 0 := by
  unfold brS
  rw [drop_shift, bt_shift, Nat.add_assoc, bt_shift, List.length_append]
  simp only [Nat.zero_add]
  have e1 : (P.length + X.length < P.length + 3 ∨ bt X 2 ≠ 123) = (X.length < 3 ∨ bt X 2 ≠ 123) := by rw [Nat.add_lt_add_iff_left]
  have e2 : ∀ k, (P.length + X.length ≤ P.length + (3 + k)) = (X.length ≤ 3 + k) := fun k => by rw [Nat.add_le_add_iff_left]
  simp only [e1, e2]
theorem escS_shift (P X : List UInt8) : escS (P ++ X) P.length = escS X 0 := by
  unfold escS
  rw [bt_shift, getD_shift, getD_shift, brS_shift, List.length_append]
  simp only [Nat.zero_add]
  have e1 : (P.length + X.length ≤ P.length + 1) = (X.length ≤ 1) := by rw [Nat.add_le_add_iff_left]
  have e2 : (P.length + 3 < P.length + X.length) = (3 < X.length) := by rw [Nat.add_lt_add_iff_left]
  simp only [e1, e2]
theorem bt_own (l : List UInt8) (i : Nat) (rest : List UInt8) (h : i < l.length) (j : Nat) (hj : j < (dc l i).2) : bt (own l i ++ rest) j = bt l (i + j) := by
  have h1 := own_get l i j hj
  unfold bt
  rw [← h1]
  have hl := own_len l i h
  simp [List.getD, List.getElem?_append_left (show j < (own l i).length by omega)]
/-- a character that stands by itself is read as itself, whatever is behind it -/
theorem dc_same (l : List UInt8) (i : Nat) (P rest : List UInt8) (h : i < l.length) (hlo : lo1 l i = false) : dc (P ++ (own l i ++ rest)) P.length = dc l i := by
  rw [dc_shift]
  have hne : ¬ (dc l i = (65533, 1)) := of_decide_eq_false hlo
  have hb := bt_own l i rest h
  have hl : (own l i ++ rest).length = (dc l i).2 + rest.length := by rw [List.length_append, own_len l i h]
  have hd : dc l i = Lib.decodeN (l.length - i) (bt l i) (bt l (i + 1)) (bt l (i + 2)) (bt l (i + 3)) := rfl
  rcases Lib.decodeN_shape (l.length - i) (bt l i) (bt l (i + 1)) (bt l (i + 2)) (bt l (i + 3)) with ⟨a1, e⟩ | ⟨a1, a2, a3, a4, e⟩ | ⟨a1, a2, a3, a4, a5, a6, e⟩ | ⟨a1, a2, a3, a4, a5, a6, a7, e⟩ | e
  all_goals rw [e] at hd
  all_goals rw [hd] at hb hl ⊢
  all_goals simp only at hb hl
  · have h0 := hb 0 (by omega)
    simp only [Nat.add_zero] at h0
    rw [h0]
    unfold Lib.decodeN
    rw [if_pos a1]
  · have h0 := hb 0 (by omega)
    have h1 := hb 1 (by omega)
    simp only [Nat.add_zero] at h0
    rw [h0, h1]
    unfold Lib.decodeN
    rw [if_neg (by omega), if_pos ⟨a1, by omega, a3⟩, if_pos (by omega)]
  · have h0 := hb 0 (by omega)
    have h1 := hb 1 (by omega)
    have h2 := hb 2 (by omega)
    simp only [Nat.add_zero] at h0
    rw [h0, h1, h2]
    unfold Lib.decodeN
    rw [if_neg (by omega), if_neg (by omega), if_pos ⟨a1, ⟨by omega, a3⟩, by omega, a4⟩, if_pos (by omega)]
  · have h0 := hb 0 (by omega)
    have h1 := hb 1 (by omega)
    have h2 := hb 2 (by omega)
    have h3 := hb 3 (by omega)
    simp only [Nat.add_zero] at h0
    rw [h0, h1, h2, h3]
    unfold Lib.decodeN
    rw [if_neg (by omega), if_neg (by omega), if_neg (by omega), if_pos ⟨a1, ⟨by omega, a3⟩, ⟨by omega, a4⟩, by omega, a5⟩, if_pos (by omega)]
  · exact absurd hd hne
theorem hexD_hx (d : Nat) (hd : d < 16) : hexD (hx d) = some d := by
  have h : ∀ d : Fin 16, hexD (hx d.val) = some d.val := by decide
  exact h ⟨d, hd⟩
theorem hexRun_hexN (r : Nat) : ∀ (f m : Nat) (B : List UInt8), (hexN r).length ≤ f → hexRun f (hexN r ++ B) m = ((hexRun (f - (hexN r).length) B (m * 16 ^ (hexN r).length + r)).1 + (hexN r).length, (hexRun (f - (hexN r).length) B (m * 16 ^ (hexN r).length + r)).2) := by
  induction r using Nat.strongRecOn with
  | ind r ih =>
  intro f m B hf
  by_cases h : r < 16
  · have e : hexN r = [hx r] := by rw [hexN, if_pos h]
    rw [e] at hf ⊢
    obtain ⟨f', rfl⟩ : ∃ f', f = f' + 1 := ⟨f - 1, by simp at hf; omega⟩
    show hexRun (f' + 1) (hx r :: B) m = _
    rw [hexRun, hexD_hx r h]
    simp [Nat.mul_comm]
  · have e : hexN r = hexN (r / 16) ++ [hx (r % 16)] := by rw [hexN, if_neg h]
    have hl : (hexN r).length = (hexN (r / 16)).length + 1 := by rw [e]; simp
    rw [hl] at hf ⊢
    rw [e, List.append_assoc, ih (r / 16) (by omega) f m _ (by omega)]
    obtain ⟨g, hg⟩ : ∃ g, f - (hexN (r / 16)).length = g + 1 := ⟨f - (hexN (r / 16)).length - 1, by omega⟩
    have hg2 : f - ((hexN (r / 16)).length + 1) = g := by omega
    rw [hg, hg2]
    show ((hexRun (g + 1) (hx (r % 16) :: B) _).1 + _, (hexRun (g + 1) (hx (r % 16) :: B) _).2) = _
    rw [hexRun, hexD_hx _ (by omega)]
    have hv : 16 * (m * 16 ^ (hexN (r / 16)).length + r / 16) + r % 16 = m * 16 ^ ((hexN (r / 16)).length + 1) + r := by
      rw [Nat.pow_succ, ← Nat.mul_assoc]
      omega
    simp only [hv]
    exact Prod.ext (by simp only; omega) rfl
theorem hexRun_brace (f m : Nat) (rest : List UInt8) : hexRun f (125 :: rest) m = (0, m) := by
  cases f with
  | zero => rfl
  | succ f => rw [hexRun, show hexD 125 = none by decide]
end Go.Proofs.YtclgjdhobdncjaaDoor
