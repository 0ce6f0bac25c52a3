/-
  No cell of these rows narrows 'for every input' (looked for: loops, veiled, ifaces, maps, wideKeys, modest, calm, conditions, laid).
  DERIVED. THE GIVEN ROWS OF THIS SEAT. 6 by the template 'for every input the law returns true; each argument reads behind the call as it read before'; 0 by the template 'total and deterministic' (their statements: YtmblloddhpcdeabTotals.lean).
  GIVEN WITH THE SEED: the statements are not yours to turn. If you find one false, say at which input.
  Laid BY PROGRAM, IN A SANDBOX (cutbox-rows.mjs): the forced cells as the released guide's own fill.sh prints them over the translation 8985dcb3a9e69849… (all of the seat's roots in one cut). By AI agents, Wed Nov 11 2026. No macro, syntax, notation, axiom, sorry.
-/
import Derived.Test.YtmblloddhpcdeabChecked
import GoSem.Claim
import GoSem.ClaimJoined
import GoSem.ClaimMapViews
import Derived.JoinedTies
import Derived.KernelRfl
namespace Go.Proofs.Ytmblloddhpcdeab
/- THE CELL 'sum', in the pinned program and in every row, IS THE sha256 OF THE DUMP (.gsa) THAT YtmblloddhpcdeabProg.lean LOADS. Nothing in Lean hashes anything: it is a label: what it is worth is what the hold of that sum in a sandbox is worth. -/
noncomputable def Try.pinned : Pinned := { name := "ytmblloddhpcdeab", sum := "8985dcb3a9e6984953c9a406bf3bc4d798a14fe1428c8d780072d81bcaee946b", checked := Try.checked }
namespace Rows
def none {H : Type} : Left H := { results := [], args := [] }

/-- 'reachlaw1.TernParts': WHATEVER THE INPUT: true; the input reads as it did. -/
def ternPartsSpec : ChangeSpec := { name := "ternParts", fn := fun _ => fun
  | [d1, d2, d3] => { results := [.lit (.bool true)], args := [d1, d2, d3] }
  | _ => none }
def ternPartsRow : OpenClaim := { program := "ytmblloddhpcdeab", sum := "8985dcb3a9e6984953c9a406bf3bc4d798a14fe1428c8d780072d81bcaee946b", func := "reach/reachlaw1.TernParts", spec := "ternParts", apart := false }
def TernPartsSaid : Prop := ternPartsRow.holds Try.pinned (OpenSpec.ofChange ternPartsSpec)

/-- ITS FALSE NEIGHBOUR: 'it returns false'. Refute it at one input. -/
def ternPartsWrong : ChangeSpec := { name := "ternParts", fn := fun _ => fun
  | [d1, d2, d3] => { results := [.lit (.bool false)], args := [d1, d2, d3] }
  | _ => none }
def TernPartsWrongFalsely : Prop := ternPartsRow.holds Try.pinned (OpenSpec.ofChange ternPartsWrong)

/-- 'reachlaw1.TernMeets': WHATEVER THE INPUT: true; the input reads as it did. -/
def ternMeetsSpec : ChangeSpec := { name := "ternMeets", fn := fun _ => fun
  | [d1, d2] => { results := [.lit (.bool true)], args := [d1, d2] }
  | _ => none }
def ternMeetsRow : OpenClaim := { program := "ytmblloddhpcdeab", sum := "8985dcb3a9e6984953c9a406bf3bc4d798a14fe1428c8d780072d81bcaee946b", func := "reach/reachlaw1.TernMeets", spec := "ternMeets", apart := false }
def TernMeetsSaid : Prop := ternMeetsRow.holds Try.pinned (OpenSpec.ofChange ternMeetsSpec)

/-- ITS FALSE NEIGHBOUR: 'it returns false'. Refute it at one input. -/
def ternMeetsWrong : ChangeSpec := { name := "ternMeets", fn := fun _ => fun
  | [d1, d2] => { results := [.lit (.bool false)], args := [d1, d2] }
  | _ => none }
def TernMeetsWrongFalsely : Prop := ternMeetsRow.holds Try.pinned (OpenSpec.ofChange ternMeetsWrong)

/-- 'reachlaw1.TernWrites': WHATEVER THE INPUT: true; the input reads as it did. -/
def ternWritesSpec : ChangeSpec := { name := "ternWrites", fn := fun _ => fun
  | [d1, d2] => { results := [.lit (.bool true)], args := [d1, d2] }
  | _ => none }
def ternWritesRow : OpenClaim := { program := "ytmblloddhpcdeab", sum := "8985dcb3a9e6984953c9a406bf3bc4d798a14fe1428c8d780072d81bcaee946b", func := "reach/reachlaw1.TernWrites", spec := "ternWrites", apart := false }
def TernWritesSaid : Prop := ternWritesRow.holds Try.pinned (OpenSpec.ofChange ternWritesSpec)

/-- ITS FALSE NEIGHBOUR: 'it returns false'. Refute it at one input. -/
def ternWritesWrong : ChangeSpec := { name := "ternWrites", fn := fun _ => fun
  | [d1, d2] => { results := [.lit (.bool false)], args := [d1, d2] }
  | _ => none }
def TernWritesWrongFalsely : Prop := ternWritesRow.holds Try.pinned (OpenSpec.ofChange ternWritesWrong)

/-- 'reachlaw1.TernRising': WHATEVER THE INPUT: true; the input reads as it did. -/
def ternRisingSpec : ChangeSpec := { name := "ternRising", fn := fun _ => fun
  | [d1, d2, d3] => { results := [.lit (.bool true)], args := [d1, d2, d3] }
  | _ => none }
def ternRisingRow : OpenClaim := { program := "ytmblloddhpcdeab", sum := "8985dcb3a9e6984953c9a406bf3bc4d798a14fe1428c8d780072d81bcaee946b", func := "reach/reachlaw1.TernRising", spec := "ternRising", unfollowed := true, recurses := true, apart := false }
def TernRisingSaid : Prop := ternRisingRow.holds Try.pinned (OpenSpec.ofChange ternRisingSpec)

/-- ITS FALSE NEIGHBOUR: 'it returns false'. Refute it at one input. -/
def ternRisingWrong : ChangeSpec := { name := "ternRising", fn := fun _ => fun
  | [d1, d2, d3] => { results := [.lit (.bool false)], args := [d1, d2, d3] }
  | _ => none }
def TernRisingWrongFalsely : Prop := ternRisingRow.holds Try.pinned (OpenSpec.ofChange ternRisingWrong)

/-- 'reachlaw1.TernWithin': WHATEVER THE INPUT: true; the input reads as it did. -/
def ternWithinSpec : ChangeSpec := { name := "ternWithin", fn := fun _ => fun
  | [d1, d2] => { results := [.lit (.bool true)], args := [d1, d2] }
  | _ => none }
def ternWithinRow : OpenClaim := { program := "ytmblloddhpcdeab", sum := "8985dcb3a9e6984953c9a406bf3bc4d798a14fe1428c8d780072d81bcaee946b", func := "reach/reachlaw1.TernWithin", spec := "ternWithin", apart := false }
def TernWithinSaid : Prop := ternWithinRow.holds Try.pinned (OpenSpec.ofChange ternWithinSpec)

/-- ITS FALSE NEIGHBOUR: 'it returns false'. Refute it at one input. -/
def ternWithinWrong : ChangeSpec := { name := "ternWithin", fn := fun _ => fun
  | [d1, d2] => { results := [.lit (.bool false)], args := [d1, d2] }
  | _ => none }
def TernWithinWrongFalsely : Prop := ternWithinRow.holds Try.pinned (OpenSpec.ofChange ternWithinWrong)

/-- 'reachlaw1.TernBefores': WHATEVER THE INPUT: true; the input reads as it did. -/
def ternBeforesSpec : ChangeSpec := { name := "ternBefores", fn := fun _ => fun
  | [d1, d2] => { results := [.lit (.bool true)], args := [d1, d2] }
  | _ => none }
def ternBeforesRow : OpenClaim := { program := "ytmblloddhpcdeab", sum := "8985dcb3a9e6984953c9a406bf3bc4d798a14fe1428c8d780072d81bcaee946b", func := "reach/reachlaw1.TernBefores", spec := "ternBefores", apart := false }
def TernBeforesSaid : Prop := ternBeforesRow.holds Try.pinned (OpenSpec.ofChange ternBeforesSpec)

/-- ITS FALSE NEIGHBOUR: 'it returns false'. Refute it at one input. -/
def ternBeforesWrong : ChangeSpec := { name := "ternBefores", fn := fun _ => fun
  | [d1, d2] => { results := [.lit (.bool false)], args := [d1, d2] }
  | _ => none }
def TernBeforesWrongFalsely : Prop := ternBeforesRow.holds Try.pinned (OpenSpec.ofChange ternBeforesWrong)

/- THE SECOND FORM. 'bulk': how many values and letters a reading holds, each counted each time it is reached (what is shared counts as often as it is met; a slice's spare places count too). A statement '..UptoSaid' is the law's where the arguments, and the package variables that the reading takes, are together of bulk at most 1048576: NARROWER than '..Said'. Prove '..Said' where nothing that the law and all that it calls make is longer than what came in: it says more and counts as full. Else prove '..UptoSaid'. A law counts once. -/
mutual
def uptoBulk {H : Type} : DataW H → Nat
  | .lit (.string bytes) => bytes.length + 1
  | .lit _ => 1
  | .nil => 1
  | .ptr d => uptoBulk d + 1
  | .slice elems spare => uptoBulkAll elems + uptoBulkAll spare + 1
  | .agg parts => uptoBulkAll parts + 1
  | .iface _ d => uptoBulk d + 1
  | .map entries => uptoBulkEntries entries + 1
  | .held _ => 1
def uptoBulkAll {H : Type} : List (DataW H) → Nat
  | [] => 0
  | d :: r => uptoBulk d + uptoBulkAll r
def uptoBulkEntries {H : Type} : List (Lit × DataW H) → Nat
  | [] => 0
  | x :: r => uptoBulkEntry x + uptoBulkEntries r
def uptoBulkEntry {H : Type} : Lit × DataW H → Nat
  | (.string bytes, d) => bytes.length + uptoBulk d + 1
  | (_, d) => uptoBulk d + 1
 end
def uptoSmall : (H : Type) → List (DataW H) → Bool := fun _ ds => decide (uptoBulkAll ds ≤ 1048576)
def OpenSpec.upto (s : _root_.Go.ChangeSpec) : _root_.Go.OpenSpec := { _root_.Go.OpenSpec.ofChange s with cond := some uptoSmall }

/-- 'reachlaw1.TernParts', WHERE WHAT IT READS IS OF BULK AT MOST 1048576: true; the input reads as it did. -/
def ternPartsUptoRow : OpenClaim := { program := "ytmblloddhpcdeab", sum := "8985dcb3a9e6984953c9a406bf3bc4d798a14fe1428c8d780072d81bcaee946b", func := "reach/reachlaw1.TernParts", spec := "ternParts", apart := false, narrowed := true }
def TernPartsUptoSaid : Prop := ternPartsUptoRow.holds Try.pinned (OpenSpec.upto ternPartsSpec)

/-- 'reachlaw1.TernMeets', WHERE WHAT IT READS IS OF BULK AT MOST 1048576: true; the input reads as it did. -/
def ternMeetsUptoRow : OpenClaim := { program := "ytmblloddhpcdeab", sum := "8985dcb3a9e6984953c9a406bf3bc4d798a14fe1428c8d780072d81bcaee946b", func := "reach/reachlaw1.TernMeets", spec := "ternMeets", apart := false, narrowed := true }
def TernMeetsUptoSaid : Prop := ternMeetsUptoRow.holds Try.pinned (OpenSpec.upto ternMeetsSpec)

/-- 'reachlaw1.TernWrites', WHERE WHAT IT READS IS OF BULK AT MOST 1048576: true; the input reads as it did. -/
def ternWritesUptoRow : OpenClaim := { program := "ytmblloddhpcdeab", sum := "8985dcb3a9e6984953c9a406bf3bc4d798a14fe1428c8d780072d81bcaee946b", func := "reach/reachlaw1.TernWrites", spec := "ternWrites", apart := false, narrowed := true }
def TernWritesUptoSaid : Prop := ternWritesUptoRow.holds Try.pinned (OpenSpec.upto ternWritesSpec)

/-- 'reachlaw1.TernRising', WHERE WHAT IT READS IS OF BULK AT MOST 1048576: true; the input reads as it did. -/
def ternRisingUptoRow : OpenClaim := { program := "ytmblloddhpcdeab", sum := "8985dcb3a9e6984953c9a406bf3bc4d798a14fe1428c8d780072d81bcaee946b", func := "reach/reachlaw1.TernRising", spec := "ternRising", unfollowed := true, recurses := true, apart := false, narrowed := true }
def TernRisingUptoSaid : Prop := ternRisingUptoRow.holds Try.pinned (OpenSpec.upto ternRisingSpec)

/-- 'reachlaw1.TernWithin', WHERE WHAT IT READS IS OF BULK AT MOST 1048576: true; the input reads as it did. -/
def ternWithinUptoRow : OpenClaim := { program := "ytmblloddhpcdeab", sum := "8985dcb3a9e6984953c9a406bf3bc4d798a14fe1428c8d780072d81bcaee946b", func := "reach/reachlaw1.TernWithin", spec := "ternWithin", apart := false, narrowed := true }
def TernWithinUptoSaid : Prop := ternWithinUptoRow.holds Try.pinned (OpenSpec.upto ternWithinSpec)

/-- 'reachlaw1.TernBefores', WHERE WHAT IT READS IS OF BULK AT MOST 1048576: true; the input reads as it did. -/
def ternBeforesUptoRow : OpenClaim := { program := "ytmblloddhpcdeab", sum := "8985dcb3a9e6984953c9a406bf3bc4d798a14fe1428c8d780072d81bcaee946b", func := "reach/reachlaw1.TernBefores", spec := "ternBefores", apart := false, narrowed := true }
def TernBeforesUptoSaid : Prop := ternBeforesUptoRow.holds Try.pinned (OpenSpec.upto ternBeforesSpec)

end Rows
end Go.Proofs.Ytmblloddhpcdeab
