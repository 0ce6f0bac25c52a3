import Derived.Test.YtjbfkknpkldhjaaLV
namespace Go.Proofs.Ytjbfkknpkldhjaa
open Go.RowKit
/-- one byte that is another one -/
theorem OB.spoil {W : World} {B g n c i : Nat} {l : List UInt8} (h : OB W B (.slice (some ⟨g, 0, none⟩) n c) l) (y : UInt8) : OB (W.setCell ⟨g, i, none⟩ (.int .u8 (y.toNat : Int))) B (.slice (some ⟨g, 0, none⟩) n c) (l.set i y) ∧ W.grownBy (W.setCell ⟨g, i, none⟩ (.int .u8 (y.toNat : Int))) (some g) := by
  have hl : l.length = n := by
    obtain ⟨p', c', e, -⟩ := h.shape
    injection e with _ e _
    exact e.symm
  have hh : W.ownsRow B 5 1 (.slice (some ⟨g, 0, none⟩) n c) n (Lib.byteCells l) := by
    have := h
    unfold OB at this
    rw [hl] at this
    exact this
  obtain ⟨s1, s2⟩ := World.ownsRow.stored hh i (.int .u8 (y.toNat : Int))
  refine ⟨?_, s2⟩
  unfold OB
  rw [List.length_set, hl, show Lib.byteCells (l.set i y) = (Lib.byteCells l).set i (.int .u8 (y.toNat : Int)) by simp [Lib.byteCells, List.map_set]]
  exact s1
theorem set_split {l : List UInt8} {i : Nat} {x : UInt8} (h : l[i]? = some x) (y : UInt8) : l = l.take i ++ x :: l.drop (i + 1) ∧ l.set i y = l.take i ++ y :: l.drop (i + 1) := by
  have hi := (List.getElem?_eq_some_iff.1 h).1
  have hx := (List.getElem?_eq_some_iff.1 h).2
  constructor
  · rw [← hx, ← List.drop_eq_getElem_cons hi, List.take_append_drop]
  · exact List.set_eq_take_append_cons_drop.trans (by rw [if_pos hi])
theorem xor8 (x t : UInt8) : bits .xor .u8 (x.toNat : Int) (t.toNat : Int) = ((x ^^^ t).toNat : Int) := by
  rw [u8_xor_nat _ _ x.toNat_lt t.toNat_lt, UInt8.toNat_xor]
theorem xor_ne {x t : UInt8} (h : t ≠ 0) : x ≠ x ^^^ t := by
  intro e
  apply h
  have h2 : x ^^^ x = x ^^^ (x ^^^ t) := congrArg (x ^^^ ·) e
  rw [UInt8.xor_self, ← UInt8.xor_assoc, UInt8.xor_self, UInt8.zero_xor] at h2
  exact h2.symm
end Go.Proofs.Ytjbfkknpkldhjaa
