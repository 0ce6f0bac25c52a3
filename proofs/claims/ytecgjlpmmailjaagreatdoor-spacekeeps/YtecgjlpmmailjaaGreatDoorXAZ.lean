import Derived.Test.YtecgjlpmmailjaaGreatDoorXAY
namespace Go.Proofs.YtecgjlpmmailjaaGreatDoor
open Go.RowKit Go.Shelf
def RDS (w w' : World) (b : Int) (l : List UInt8) (e : Ending) : Prop := ∃ V V2, e = .returned (.tuple #[.agg #[.int .i64 (prB b l), V, .bool false], .agg #[.int .i64 (prB b l), V2], .bool true]) ∧ SPL w' w.heap.size V (prT b l) ∧ RSR w' V2 (prT b l) ∧ Below w.heap.size w w'
theorem put5_get {W : World} {a c : Nat} {x0 x1 x2 y0 y1 : Value} {T U : TypeId} {m m2 : Nat × Nat} (v0 v1 v2 u0 u1 : Value) (hne : a ≠ c) (h : W.heap[a]? = some (.cells #[x0, x1, x2] T m)) (h2 : W.heap[c]? = some (.cells #[y0, y1] U m2)) :
    (((((W.setCell ⟨a, 0, none⟩ v0).setCell ⟨a, 1, none⟩ v1).setCell ⟨a, 2, none⟩ v2).setCell ⟨c, 0, none⟩ u0).setCell ⟨c, 1, none⟩ u1).heap[a]? = some (.cells #[v0, v1, v2] T m) ∧ (((((W.setCell ⟨a, 0, none⟩ v0).setCell ⟨a, 1, none⟩ v1).setCell ⟨a, 2, none⟩ v2).setCell ⟨c, 0, none⟩ u0).setCell ⟨c, 1, none⟩ u1).heap[c]? = some (.cells #[u0, u1] U m2) := by
  constructor
  · rw [heap_setCell_other _ _ _ _ (fun e => hne e), heap_setCell_other _ _ _ _ (fun e => hne e)]
    have h0 := set_get (j := 0) v0 h
    have h1 := set_get (j := 1) v1 h0
    have h2 := set_get (j := 2) v2 h1
    rw [h2]
    simp
  · have k : (((W.setCell ⟨a, 0, none⟩ v0).setCell ⟨a, 1, none⟩ v1).setCell ⟨a, 2, none⟩ v2).heap[c]? = some (.cells #[y0, y1] U m2) := by
      rw [heap_setCell_other _ _ _ _ (fun e => hne e.symm), heap_setCell_other _ _ _ _ (fun e => hne e.symm), heap_setCell_other _ _ _ _ (fun e => hne e.symm)]
      exact h2
    have h0 := set_get (j := 0) u0 k
    have h1 := set_get (j := 1) u1 h0
    rw [h1]
    simp
theorem gr3 (X : World) (b : Nat) (u0 u1 u2 : Value) : X.grownBy (((X.setCell ⟨b, 0, none⟩ u0).setCell ⟨b, 1, none⟩ u1).setCell ⟨b, 2, none⟩ u2) (some b) := ⟨rfl, rfl, rfl, by simp, fun j _ hj => by
  rw [heap_setCell_other _ _ _ _ (fun e => hj (by rw [e])), heap_setCell_other _ _ _ _ (fun e => hj (by rw [e])), heap_setCell_other _ _ _ _ (fun e => hj (by rw [e]))]⟩
theorem gr2 (X : World) (b : Nat) (u0 u1 : Value) : X.grownBy ((X.setCell ⟨b, 0, none⟩ u0).setCell ⟨b, 1, none⟩ u1) (some b) := ⟨rfl, rfl, rfl, by simp, fun j _ hj => by
  rw [heap_setCell_other _ _ _ _ (fun e => hj (by rw [e])), heap_setCell_other _ _ _ _ (fun e => hj (by rw [e]))]⟩
theorem far3h {W : World} {a b : Nat} (v0 v1 v2 : Value) (hne : a ≠ b) : (((W.setCell ⟨b, 0, none⟩ v0).setCell ⟨b, 1, none⟩ v1).setCell ⟨b, 2, none⟩ v2).heap[a]? = W.heap[a]? := by
  rw [heap_setCell_other _ _ _ _ (fun e => hne e), heap_setCell_other _ _ _ _ (fun e => hne e), heap_setCell_other _ _ _ _ (fun e => hne e)]
theorem far3c {W : World} {a b : Nat} {cs : Array Value} (v0 v1 v2 : Value) (hne : a ≠ b) (h : ∀ j, W.cell? ⟨a, j, none⟩ = cs[j]?) : ∀ j, (((W.setCell ⟨b, 0, none⟩ v0).setCell ⟨b, 1, none⟩ v1).setCell ⟨b, 2, none⟩ v2).cell? ⟨a, j, none⟩ = cs[j]? := fun j => by
  rw [World.cell?_of_block (a := ⟨a, j, none⟩) (far3h v0 v1 v2 hne)]
  exact h j
theorem far2c {W : World} {a b : Nat} {cs : Array Value} (v0 v1 : Value) (hne : a ≠ b) (h : ∀ j, W.cell? ⟨a, j, none⟩ = cs[j]?) : ∀ j, ((W.setCell ⟨b, 0, none⟩ v0).setCell ⟨b, 1, none⟩ v1).cell? ⟨a, j, none⟩ = cs[j]? := fun j => by
  rw [World.cell?_of_block (a := ⟨a, j, none⟩) (show _ = W.heap[a]? by rw [heap_setCell_other _ _ _ _ (fun e => hne e), heap_setCell_other _ _ _ _ (fun e => hne e)])]
  exact h j
end Go.Proofs.YtecgjlpmmailjaaGreatDoor
