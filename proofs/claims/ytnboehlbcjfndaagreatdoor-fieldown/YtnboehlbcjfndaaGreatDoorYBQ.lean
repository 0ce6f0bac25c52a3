import Derived.Test.YtnboehlbcjfndaaGreatDoorYBP
import Derived.Test.YtnboehlbcjfndaaGreatDoorYBG
namespace Go.Proofs.YtnboehlbcjfndaaGreatDoor
open Go.RowKit Go.Shelf
def hasT : List UInt8 → List UInt8 → Bool
  | [], [] => true
  | c :: C, d :: D => (c == 120 || c == d) && hasT C D
  | [], _ :: _ => false
  | _ :: _, [] => false
def cnt (L : List (Nat × Nat)) (v : Nat) : Nat := (L.filter (fun p => decide (p.1 ≤ v ∧ v < p.1 + 2 ^ p.2))).length
end Go.Proofs.YtnboehlbcjfndaaGreatDoor
namespace Go.Proofs.YtnboehlbcjfndaaGreatDoor
open Go.RowKit Go.Shelf
end Go.Proofs.YtnboehlbcjfndaaGreatDoor
namespace Go.Proofs.YtnboehlbcjfndaaGreatDoor
open Go.RowKit Go.Shelf
def isM (b : Nat) (t : TS) (v : Nat) : Bool := if t.form = 1 then decide ((v : Int) = t.lo) else if t.form = 2 then decide (v / 2 ^ (b - t.len.toNat) = t.lo.toNat / 2 ^ (b - t.len.toNat)) else if t.form = 3 then decide (t.lo ≤ (v : Int) ∧ (v : Int) ≤ t.hi) else hasT t.pat (digL b v 0)
def holdsM (b : Nat) (t : TS) (v : Nat) : Bool := if t.op = 1 then isM b t v else if t.op = 2 then !isM b t v else if t.op = 3 then decide ((v : Int) < t.lo) else if t.op = 4 then decide ((v : Int) ≤ t.lo) else if t.op = 5 then decide (t.lo < (v : Int)) else decide (t.lo ≤ (v : Int))
end Go.Proofs.YtnboehlbcjfndaaGreatDoor
