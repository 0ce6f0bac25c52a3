import Derived.Test.YtfhghplplkkpmaaGreatDoorXAV
import Derived.Maps.AppendAt
import Derived.BigQuiet
namespace Go.Proofs.YtfhghplplkkpmaaGreatDoor
open Go.RowKit Go.Shelf
theorem app_keep {X w8 : World} {v : Value} {b : Nat} {o O : Obj} (hblk : X.heap[b]? = some o) (hne : v.ownBlock ≠ some b) (g8 : (X.alloc O).grownBy w8 v.ownBlock) : w8.heap[b]? = some o := (g8.block b (by have := lt_of_get3 hblk; simp; omega) (fun e => hne e.symm)).trans (allocblk3 hblk _)
theorem app_ne {X : World} {v v8 : Value} {b : Nat} {o : Obj} (hblk : X.heap[b]? = some o) (hne : v.ownBlock ≠ some b) (hob : v8.ownBlock = v.ownBlock ∨ v8.ownBlock = some (X.heap.size + 1)) : v8.ownBlock ≠ some b := by
  rcases hob with e | e
  · rw [e]; exact hne
  · rw [e]
    intro e2
    have e3 := Option.some.inj e2
    have := lt_of_get3 hblk
    omega
end Go.Proofs.YtfhghplplkkpmaaGreatDoor
