import Derived.Test.YtbplhianpelmfaaGreatDoorYAR
namespace Go.Proofs.YtbplhianpelmfaaGreatDoor.Nt
open Go.RowKit Go.Shelf
theorem far1 (W:World) (B a b:Nat) (v:Value) (h:b≠B):(W.setCell ⟨B,a,none⟩ v).heap[b]?=W.heap[b]?:=heap_setCell_other _ ⟨B,a,none⟩ b v (fun e=>h (by simpa using e))
end Go.Proofs.YtbplhianpelmfaaGreatDoor.Nt
