import Derived.Test.YtbdnpbiimbeflaaW12
namespace Go.Proofs.Ytbdnpbiimbeflaa
open Go.RowKit

theorem keepblk {W w' : World} {b : Nat} {o : Obj} (hb : Below W.heap.size W w') (h : W.heap[b]? = some o) : w'.heap[b]? = some o := (hb.block b (lt_of_get h)).trans h
theorem allocblk {W : World} {b : Nat} {o : Obj} (h : W.heap[b]? = some o) (O : Obj) : (W.alloc O).heap[b]? = some o := (Below.heap_alloc _ _ _ (lt_of_get h)).trans h

/-- the text is one of a cube -/
def cubB (t : List UInt8) : Bool := t.all tri && (decide (0 < t.length) && decide (t.length ≤ 256))
theorem cubB_iff (t : List UInt8) : cubB t = true ↔ (t ≠ [] ∧ good t = true) := by
  unfold cubB good
  simp only [Bool.and_eq_true, decide_eq_true_eq]
  constructor
  · rintro ⟨h1, h2, h3⟩
    exact ⟨fun e => by subst e; simp at h2, h3, h1⟩
  · rintro ⟨h1, h2, h3⟩
    exact ⟨h3, List.length_pos_iff.2 h1, h2⟩

theorem nat_ne {b : UInt8} {n : Nat} (h : b ≠ UInt8.ofNat n) : (b.toNat : Int) ≠ (n : Int) := by
  intro e
  have e2 : b.toNat = n := by omega
  apply h
  rw [← e2]
  simp

theorem not_all (s : ByteArray) (k : Nat) (hlt : k < s.size) (c48 : ¬ s[k] = 48) (c49 : ¬ s[k] = 49) (c120 : ¬ s[k] = 120) : s.data.toList.all tri = false := by
  rw [Bool.eq_false_iff]
  intro h
  rw [List.all_eq_true] at h
  have := h s[k] (by rw [← byte_at s k hlt]; exact List.getElem_mem _)
  simp [tri, c48, c49, c120] at this
theorem yes_all (s : ByteArray) (h : ∀ j (h : j < s.data.toList.length), tri s.data.toList[j] = true) : s.data.toList.all tri = true := by
  rw [List.all_eq_true]
  intro x hx
  obtain ⟨j, hj, rfl⟩ := List.getElem_of_mem hx
  exact h j hj

end Go.Proofs.Ytbdnpbiimbeflaa
