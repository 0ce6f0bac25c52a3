import Derived.Test.YtclgjdhobdncjaaDoorC3
import Derived.Test.YtclgjdhobdncjaaDoorE0
namespace Go.Proofs.YtclgjdhobdncjaaDoor
open Go.RowKit
theorem dc_asc {l : List UInt8} {i : Nat} (h : bt l i < 128) : dc l i = (bt l i, 1) := by
  unfold dc Lib.decodeN
  rw [if_pos h]
theorem dc_big {l : List UInt8} {i : Nat} (h : ¬ bt l i < 128) : 128 ≤ (dc l i).1 ∧ (dc l i).1 ≤ 1114111 := by
  unfold dc
  have := bt_lt l i
  have := bt_lt l (i + 1)
  have := bt_lt l (i + 2)
  have := bt_lt l (i + 3)
  rcases Lib.decodeN_shape (l.length - i) (bt l i) (bt l (i + 1)) (bt l (i + 2)) (bt l (i + 3)) with ⟨a1, e⟩ | ⟨a1, a2, a3, a4, e⟩ | ⟨a1, a2, a3, a4, a5, a6, e⟩ | ⟨a1, a2, a3, a4, a5, a6, a7, e⟩ | e
  all_goals rw [e]
  all_goals simp only
  all_goals omega
theorem lo1_asc {l : List UInt8} {i : Nat} (h : bt l i < 128) : lo1 l i = false := by
  unfold lo1
  rw [dc_asc h]
  refine decide_eq_false (fun e => ?_)
  injection e with e1 _
  omega
/-- the number of the character at a place; -2 behind the end -/
def chr (l : List UInt8) (i : Nat) : Int := if i < l.length then (if lo1 l i then -1 else ((dc l i).1 : Int)) else -2
theorem chars_head (l : List UInt8) (i : Nat) : ∃ r, chars l i = (chr l i, (if i < l.length then i else l.length)) :: r := by
  unfold chr
  by_cases h : i < l.length
  · rw [chars_lt h, if_pos h, if_pos h]; exact ⟨_, rfl⟩
  · rw [chars_end h, if_neg h, if_neg h]; exact ⟨_, rfl⟩
theorem chars_asc {l : List UInt8} {i : Nat} (h : i < l.length) (hb : bt l i < 128) : chars l i = ((bt l i : Int), i) :: chars l (i + 1) := by
  rw [chars_lt h, lo1_asc hb, dc_asc hb]
  rfl
/-- a character below 128 is the byte that stands there -/
theorem chr_asc (l : List UInt8) (i k : Nat) (hk : k < 128) : chr l i = (k : Int) ↔ i < l.length ∧ bt l i = k := by
  unfold chr
  by_cases h : i < l.length
  · rw [if_pos h]
    by_cases hb : bt l i < 128
    · rw [lo1_asc hb, dc_asc hb]
      simp only [Bool.false_eq_true, if_false]
      omega
    · have := dc_big hb
      split <;> omega
  · rw [if_neg h]
    omega
theorem chr_range (l : List UInt8) (i : Nat) : -2 ≤ chr l i ∧ chr l i ≤ 1114111 := by
  unfold chr
  split
  · split
    · omega
    · by_cases hb : bt l i < 128
      · rw [dc_asc hb]; simp only; omega
      · have := dc_big hb; omega
  · omega
/-- the hexadecimal digits, as characters and as bytes -/
theorem hexI_chr (l : List UInt8) (i : Nat) (h : i < l.length) : (hexD (l.getD i 0) = none ∧ ¬ 0 ≤ hexI (chr l i)) ∨ ∃ d : Nat, hexD (l.getD i 0) = some d ∧ hexI (chr l i) = d ∧ bt l i < 128 := by
  have hc : bt l i = (l.getD i 0).toNat := rfl
  by_cases hb : bt l i < 128
  · have he : chr l i = (bt l i : Int) := (chr_asc l i (bt l i) hb).2 ⟨h, rfl⟩
    rw [he]
    unfold hexD hexI
    rw [← hc]
    by_cases a1 : 48 ≤ bt l i ∧ bt l i ≤ 57
    · exact .inr ⟨bt l i - 48, by rw [if_pos a1], by rw [if_pos (by omega)]; omega, hb⟩
    · by_cases a2 : 97 ≤ bt l i ∧ bt l i ≤ 102
      · exact .inr ⟨bt l i - 87, by rw [if_neg a1, if_pos a2], by rw [if_neg (by omega), if_pos (by omega)]; omega, hb⟩
      · by_cases a3 : 65 ≤ bt l i ∧ bt l i ≤ 70
        · exact .inr ⟨bt l i - 55, by rw [if_neg a1, if_neg a2, if_pos a3], by rw [if_neg (by omega), if_neg (by omega), if_pos (by omega)]; omega, hb⟩
        · exact .inl ⟨by rw [if_neg a1, if_neg a2, if_neg a3], by rw [if_neg (by omega), if_neg (by omega), if_neg (by omega)]; omega⟩
  · refine .inl ⟨?_, ?_⟩
    · unfold hexD
      rw [← hc, if_neg (by omega), if_neg (by omega), if_neg (by omega)]
    · have hr : chr l i = -1 ∨ 128 ≤ chr l i := by
        unfold chr
        rw [if_pos h]
        have := dc_big hb
        split
        · exact .inl rfl
        · exact .inr (by omega)
      unfold hexI
      repeat' split
      all_goals omega
theorem getD_drop {l : List UInt8} {i : Nat} (h : i < l.length) : l.drop i = l.getD i 0 :: l.drop (i + 1) := by
  rw [List.drop_eq_getElem_cons h]
  simp [List.getD, List.getElem?_eq_getElem h]
/-- a run of digits, as characters and as bytes -/
theorem hexC_chars (f : Nat) : ∀ (l : List UInt8) (i n : Nat), hexC f (chars l i) n = hexRun f (l.drop i) n := by
  induction f with
  | zero => intro l i n; rfl
  | succ f ih =>
    intro l i n
    by_cases h : i < l.length
    · rw [getD_drop h]
      rcases hexI_chr l i h with ⟨h1, h2⟩ | ⟨d, h1, h2, h3⟩
      · obtain ⟨r, hr⟩ := chars_head l i
        rw [hr, hexC, if_neg h2, hexRun, h1]
      · rw [chars_asc h h3, hexC]
        have he : chr l i = (bt l i : Int) := (chr_asc l i (bt l i) h3).2 ⟨h, rfl⟩
        rw [he] at h2
        simp only [h2]
        rw [if_pos (by omega), hexRun, h1, show ((d : Int)).toNat = d from Int.toNat_natCast d, ih]
    · rw [chars_end h, List.drop_eq_nil_of_le (by omega), hexRun, hexC, if_neg (show ¬ 0 ≤ hexI (-2) by decide)]
end Go.Proofs.YtclgjdhobdncjaaDoor
