import Derived.Test.YtclgjdhobdncjaaDoorQ2
import Derived.Test.YtclgjdhobdncjaaDoorU7
namespace Go.Proofs.YtclgjdhobdncjaaDoor
open Go.RowKit
/-- the bytes of the character at a place -/
def own (l : List UInt8) (i : Nat) : List UInt8 := (l.drop i).take (dc l i).2
theorem own_len (l : List UInt8) (i : Nat) (h : i < l.length) : (own l i).length = (dc l i).2 := by
  have := dc_le l i h
  unfold own
  simp
  omega
theorem own_get (l : List UInt8) (i j : Nat) (h : j < (dc l i).2) : (own l i).getD j 0 = l.getD (i + j) 0 := by
  unfold own
  simp [List.getD, h, List.getElem?_drop]
theorem dc_wid (l : List UInt8) (i : Nat) : (dc l i).2 ≤ 4 := by
  unfold dc
  rcases Lib.decodeN_shape (l.length - i) (bt l i) (bt l (i + 1)) (bt l (i + 2)) (bt l (i + 3)) with ⟨a1, e⟩ | ⟨a1, a2, a3, a4, e⟩ | ⟨a1, a2, a3, a4, a5, a6, e⟩ | ⟨a1, a2, a3, a4, a5, a6, a7, e⟩ | e
  all_goals rw [e]
  all_goals simp
/-- the number by the bytes is the character's -/
theorem cod_dc (l : List UInt8) (i : Nat) (h : i < l.length) (hlo : lo1 l i = false) : codI (own l i) ((own l i).length - 1) = ((dc l i).1 : Int) := by
  have hne : ¬ (dc l i = (65533, 1)) := of_decide_eq_false hlo
  have hol := own_len l i h
  rw [hol]
  have hg := own_get l i
  have hb : ∀ j, ((l.getD (i + j) 0).toNat : Int) = (bt l (i + j) : Int) := fun j => rfl
  have hd : dc l i = Lib.decodeN (l.length - i) (bt l i) (bt l (i + 1)) (bt l (i + 2)) (bt l (i + 3)) := rfl
  rcases Lib.decodeN_shape (l.length - i) (bt l i) (bt l (i + 1)) (bt l (i + 2)) (bt l (i + 3)) with ⟨a1, e⟩ | ⟨a1, a2, a3, a4, e⟩ | ⟨a1, a2, a3, a4, a5, a6, e⟩ | ⟨a1, a2, a3, a4, a5, a6, a7, e⟩ | e
  all_goals rw [e] at hd
  all_goals rw [hd] at hg hol
  all_goals simp only at hg hol
  · rw [hd]
    show codI (own l i) 0 = _
    rw [codI, hol, hg 0 (by omega), hb]
    simp
  · rw [hd]
    simp only [codI, hol]
    rw [hg 0 (by omega), hg 1 (by omega), hb, hb]
    simp only [Nat.add_zero, if_true]
    omega
  · rw [hd]
    simp only [codI, hol]
    rw [hg 0 (by omega), hg 1 (by omega), hg 2 (by omega), hb, hb, hb]
    simp only [Nat.add_zero, if_true, Nat.reduceEqDiff, if_false]
    omega
  · rw [hd]
    simp only [codI, hol]
    rw [hg 0 (by omega), hg 1 (by omega), hg 2 (by omega), hg 3 (by omega), hb, hb, hb, hb]
    simp only [Nat.add_zero, if_true, Nat.reduceEqDiff, if_false]
    omega
  · exact absurd hd hne
/-- how a character is told in a quoted text -/
def saiS (s : List UInt8) (n : Nat) : List UInt8 :=
  if s = [34] then [92, 34] else if s = [92] then [92, 92] else if s = [10] then [92, 110] else if s = [13] then [92, 114] else if s = [9] then [92, 116]
  else if n < 32 ∨ n = 127 then looS n
  else if unsN n = true then [92, 117, 123] ++ hexN n ++ [125] else s
theorem codI_small (s : List UInt8) (n : Nat) (h : codI s (s.length - 1) = (n : Int)) (h1 : 1 ≤ s.length) (h4 : s.length ≤ 4) : n ≤ 1000000000 := by
  have := codI_le s (s.length - 1) (by omega)
  omega
end Go.Proofs.YtclgjdhobdncjaaDoor
