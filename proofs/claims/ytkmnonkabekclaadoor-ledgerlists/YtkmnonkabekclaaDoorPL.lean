import Derived.Test.YtkmnonkabekclaaDoorPK
import Derived.Lib.IndexMore
import Derived.Lib.Index
namespace Go.Proofs.YtkmnonkabekclaaDoor
open Go Go.Lib
/-- what stands ahead of the first ':' -/
def pre58 (l : List UInt8) : List UInt8 := l.takeWhile (fun c => c != 58)
theorem pre_le (l : List UInt8) : (pre58 l).length ≤ l.length := by
  unfold pre58
  exact (List.takeWhile_sublist _).length_le
theorem pre_take (l : List UInt8) : l.take (pre58 l).length = pre58 l := by
  induction l with
  | nil => rfl
  | cons b l ih =>
    unfold pre58 at ih ⊢
    by_cases h : b = 58
    · subst h; simp
    · rw [List.takeWhile_cons_of_pos (by simpa using h)]
      simp only [List.length_cons, List.take_succ_cons, ih]
theorem pre_at (l : List UInt8) (h : (pre58 l).length < l.length) : l[(pre58 l).length]? = some 58 := by
  induction l with
  | nil => simp at h
  | cons b l ih =>
    unfold pre58 at ih h ⊢
    by_cases hb : b = 58
    · subst hb; simp
    · rw [List.takeWhile_cons_of_pos (by simpa using hb)] at h ⊢
      simp only [List.length_cons] at h ⊢
      rw [List.getElem?_cons_succ]
      exact ih (by omega)
theorem pre_ne (l : List UInt8) : ∀ c ∈ pre58 l, c ≠ 58 := by
  induction l with
  | nil => intro c hc; simp [pre58] at hc
  | cons b l ih =>
    intro c hc
    unfold pre58 at ih hc
    by_cases hb : b = 58
    · subst hb; simp at hc
    · rw [List.takeWhile_cons_of_pos (by simpa using hb)] at hc
      rcases List.mem_cons.1 hc with rfl | hc
      · exact hb
      · exact ih c hc
theorem index58 (l : List UInt8) : index l [58] = if (pre58 l).length < l.length then ((pre58 l).length : Int) else -1 := by
  induction l with
  | nil => rfl
  | cons b l ih =>
    unfold index
    by_cases hb : b = 58
    · subst hb
      simp [pre58]
    · have hp : ([58] : List UInt8).isPrefixOf (b :: l) = false := by
        simp only [List.isPrefixOf, Bool.and_true]
        simpa using fun h => hb h.symm
      rw [if_neg (by rw [hp]; simp), ih]
      have e : (pre58 (b :: l)).length = (pre58 l).length + 1 := by
        unfold pre58
        rw [List.takeWhile_cons_of_pos (by simpa using hb)]
        rfl
      rw [e, List.length_cons]
      by_cases h : (pre58 l).length < l.length
      · have h1 : (((pre58 l).length : Int) == -1) = false := by rw [beq_eq_false_iff_ne]; omega
        have h2 : (pre58 l).length + 1 < l.length + 1 := by omega
        simp only [if_pos h, h1, if_pos h2, Bool.false_eq_true, if_false]
        omega
      · have h2 : ¬ (pre58 l).length + 1 < l.length + 1 := by omega
        simp only [if_neg h, if_neg h2]
        rfl
theorem cut58 (l : List UInt8) : cut l [58] = if (pre58 l).length < l.length then (pre58 l, l.drop ((pre58 l).length + 1), true) else (l, [], false) := by
  unfold cut
  rw [index58]
  by_cases h : (pre58 l).length < l.length
  · rw [if_pos h, if_pos (by omega), if_pos h, Int.toNat_natCast, pre_take]
    rfl
  · rw [if_neg h, if_neg (by omega), if_neg h]
/-- one line, unpacked: the line and what stands behind it -/
def un1 (l : List UInt8) : Option (List UInt8 × List UInt8) :=
  if (pre58 l).length < l.length ∧ 0 ≤ valD (pre58 l) ∧ itoa (valD (pre58 l)) = pre58 l ∧ (pre58 l).length + 1 + (valD (pre58 l)).toNat ≤ l.length then
    some ((l.drop ((pre58 l).length + 1)).take (valD (pre58 l)).toNat, (l.drop ((pre58 l).length + 1)).drop (valD (pre58 l)).toNat)
  else none
/-- a text that a number's own is: the number that is read is the number that is counted -/
theorem atoi_val {d : List UInt8} {v : Int} (h : atoiAll d = .ok v) (h0 : 0 ≤ v) (hi : itoa v = d) : valD d = v := by
  obtain ⟨u, rfl⟩ : ∃ u : Nat, v = u := ⟨v.toNat, by omega⟩
  rw [← hi, itoa_dec, valD_dec]
theorem val_atoi {d : List UInt8} (h0 : 0 ≤ valD d) (hi : itoa (valD d) = d) (hb : valD d < 9223372036854775808) : atoiAll d = .ok (valD d) := by
  obtain ⟨u, hu⟩ : ∃ u : Nat, valD d = u := ⟨(valD d).toNat, by omega⟩
  rw [hu] at hi hb ⊢
  rw [← hi, itoa_dec]
  exact atoi_dec u (by omega)
/-- six signs and more: no line -/
theorem un1_long {l : List UInt8} (hl : l.length ≤ 16384) (h : 6 ≤ (pre58 l).length) : un1 l = none := by
  unfold un1
  rw [if_neg]
  rintro ⟨_, h0, hi, hb⟩
  obtain ⟨u, hu⟩ : ∃ u : Nat, valD (pre58 l) = u := ⟨(valD (pre58 l)).toNat, by omega⟩
  rw [hu, itoa_dec] at hi
  rw [hu, Int.toNat_natCast] at hb
  have := dec_short (u := u) (k := 4) (by omega)
  rw [hi] at this
  omega
theorem un1_less {l x y : List UInt8} (h : un1 l = some (x, y)) : y.length < l.length ∧ x.length ≤ l.length := by
  unfold un1 at h
  split at h
  · rename_i hc
    injection h with h
    injection h with h1 h2
    subst h1 h2
    simp only [List.length_take, List.length_drop]
    omega
  · cases h
end Go.Proofs.YtkmnonkabekclaaDoor
