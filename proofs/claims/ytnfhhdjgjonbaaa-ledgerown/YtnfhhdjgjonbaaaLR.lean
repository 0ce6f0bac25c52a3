import Derived.Test.YtnfhhdjgjonbaaaLQ
namespace Go.Proofs.Ytnfhhdjgjonbaaa
open Go.RowKit Go.Shelf
theorem alw1 (w : World) (a b : Obj) : ((w.alloc a).alloc b).heap[w.heap.size]? = some a := by
  show ((w.heap.push a).push b)[w.heap.size]? = _
  simp [Array.getElem?_push]
theorem XW_start (w : World) (S : Nat) (D : List UInt8) (p : Option Addr) (n c : Nat) (R : Loop) (hS : w.heap.size = S) :
    XW w S D p n c R 0 (((((w.alloc (.cells #[.slice none 0 0] 25 (0, 0))).alloc (.cells #[.int .i64 0] 3 (0, 0))).alloc (.cells #[.slice p n c] 30 (0, 0))).alloc (.deferred (some []))).alloc (.loop R)) := by
  subst hS
  obtain ⟨w1, e1⟩ : ∃ w1, w.alloc (.cells #[.slice none 0 0] 25 (0, 0)) = w1 := ⟨_, rfl⟩
  have z1 : w1.heap.size = w.heap.size + 1 := by rw [← e1]; simp
  have g1 : w1.heap[w.heap.size]? = some (.cells #[.slice none 0 0] 25 (0, 0)) := by rw [← e1]; exact alloc_getZ _ _
  have b1 : Below w.heap.size w w1 := by rw [← e1]; exact belAZ (Below.refl _ _) _
  obtain ⟨w2, e2⟩ : ∃ w2, w1.alloc (.cells #[.int .i64 0] 3 (0, 0)) = w2 := ⟨_, rfl⟩
  have z2 : w2.heap.size = w.heap.size + 2 := by rw [← e2]; simp [z1]
  have g2 : w2.heap[w.heap.size + 1]? = some (.cells #[.int .i64 0] 3 (0, 0)) := by rw [← e2, ← z1]; exact alloc_getZ _ _
  have c2 : Below w1.heap.size w1 w2 := by rw [← e2]; exact belAZ (Below.refl _ _) _
  obtain ⟨w3, e3⟩ : ∃ w3, w2.alloc (.cells #[.slice p n c] 30 (0, 0)) = w3 := ⟨_, rfl⟩
  have z3 : w3.heap.size = w.heap.size + 3 := by rw [← e3]; simp [z2]
  have g3 : w3.heap[w.heap.size + 2]? = some (.cells #[.slice p n c] 30 (0, 0)) := by rw [← e3, ← z2]; exact alloc_getZ _ _
  have c3 : Below w2.heap.size w2 w3 := by rw [← e3]; exact belAZ (Below.refl _ _) _
  obtain ⟨w4, e4⟩ : ∃ w4, w3.alloc (.deferred (some [])) = w4 := ⟨_, rfl⟩
  have z4 : w4.heap.size = w.heap.size + 4 := by rw [← e4]; simp [z3]
  have g4 : w4.heap[w.heap.size + 3]? = some (.deferred (some [])) := by rw [← e4, ← z3]; exact alloc_getZ _ _
  have c4 : Below w3.heap.size w3 w4 := by rw [← e4]; exact belAZ (Below.refl _ _) _
  obtain ⟨w5, e5⟩ : ∃ w5, w4.alloc (.loop R) = w5 := ⟨_, rfl⟩
  have g5 : w5.heap[w.heap.size + 4]? = some (.loop R) := by rw [← e5, ← z4]; exact alloc_getZ _ _
  have c5 : Below w4.heap.size w4 w5 := by rw [← e5]; exact belAZ (Below.refl _ _) _
  rw [e1, e2, e3, e4, e5]
  refine ⟨⟨_, keepZ c5 (keepZ c4 (keepZ c3 (keepZ c2 g1))), World.ownsRow_nil _ _ _ _⟩, keepZ c5 (keepZ c4 (keepZ c3 g2)), keepZ c5 (keepZ c4 g3), keepZ c5 g4, g5, bel0Z (bel0Z (bel0Z (bel0Z b1 c2) c3) c4) c5, rfl⟩
theorem done_beZ {w W : World} {S : Nat} (hS : w.heap.size = S) (h : Below S w W) (k : Nat) (hk : S ≤ k) : Below w.heap.size w (W.putObj k (.deferred none)) := by
  subst hS
  exact h.grown (grownBy_putObj' W k _) h.size (fun x e => by cases e; exact hk)
/-- what Whole answers -/
def WHQ (D : List UInt8) (w : World) (e : Ending) (w' : World) : Prop :=
  ∃ v, e = .returned (.tuple #[v, .int .i64 (plc D (whL 1 D).length : Int), .int .i64 (whE 1 D : Int)]) ∧ OR w' w.heap.size v (whL 1 D) ∧ Below w.heap.size w w'
end Go.Proofs.Ytnfhhdjgjonbaaa
