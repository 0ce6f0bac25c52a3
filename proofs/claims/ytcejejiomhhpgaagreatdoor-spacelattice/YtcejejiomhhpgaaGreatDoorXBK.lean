import Derived.Test.YtcejejiomhhpgaaGreatDoorXBJ
namespace Go.Proofs.YtcejejiomhhpgaaGreatDoor
open Go.RowKit Go.Shelf
theorem put3_get {W : World} {b : Nat} {x0 x1 x2 : Value} {T : TypeId} {m : Nat × Nat} (v0 v1 v2 : Value) (h : W.heap[b]? = some (.cells #[x0, x1, x2] T m)) : (((W.setCell ⟨b, 0, none⟩ v0).setCell ⟨b, 1, none⟩ v1).setCell ⟨b, 2, none⟩ v2).heap[b]? = some (.cells #[v0, v1, v2] T m) := by
  have h0 := set_get (j := 0) v0 h
  have h1 := set_get (j := 1) v1 h0
  have h2 := set_get (j := 2) v2 h1
  rw [h2]
  simp
theorem SPL_put {W : World} {B b : Nat} {V x0 x1 x2 : Value} {y : Int} {X : List (List UInt8 × List (List UInt8))} (h : W.heap[b]? = some (.cells #[x0, x1, x2] 26 (0, 0))) (hs : SPL W B V X) (hb : b < B) : (((W.setCell ⟨b, 0, none⟩ (.int .i64 y)).setCell ⟨b, 1, none⟩ V).setCell ⟨b, 2, none⟩ (.bool false)).heap[b]? = some (.cells #[.int .i64 y, V, .bool false] 26 (0, 0)) ∧ SPL (((W.setCell ⟨b, 0, none⟩ (.int .i64 y)).setCell ⟨b, 1, none⟩ V).setCell ⟨b, 2, none⟩ (.bool false)) 0 V X :=
  ⟨put3_get _ _ _ h, (hs.kept (gr3 _ _ _ _ _) hb).base (Nat.zero_le _)⟩
theorem num_le (b : Int) (l : List UInt8) (h : prE b l = 0) : (prB b l == 0) = false ∧ prB b l = b := by
  have h1 := prE_zero h
  have e : prB b l = b := by unfold prB; rw [if_pos h]
  refine ⟨?_, e⟩
  rw [e]
  simp
  omega
end Go.Proofs.YtcejejiomhhpgaaGreatDoor
