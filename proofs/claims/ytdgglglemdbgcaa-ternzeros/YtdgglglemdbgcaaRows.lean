/-
  No cell of these rows narrows 'for every input' (looked for: loops, veiled, ifaces, maps, wideKeys, modest, calm, conditions, laid).
  DERIVED. THE GIVEN ROWS OF THIS SEAT. 4 by the template 'for every input the law returns true; each argument reads behind the call as it read before'; 0 by the template 'total and deterministic' (their statements: YtdgglglemdbgcaaTotals.lean).
  GIVEN WITH THE SEED: the statements are not yours to turn. If you find one false, say at which input.
  Laid BY PROGRAM, IN A SANDBOX (cutbox-rows.mjs): the forced cells as the released guide's own fill.sh prints them over the translation 8d279a3ab687299e… (all of the seat's roots in one cut). By AI agents, Wed Nov 11 2026. No macro, syntax, notation, axiom, sorry.
-/
import Derived.Test.YtdgglglemdbgcaaChecked
import GoSem.Claim
import GoSem.ClaimJoined
import GoSem.ClaimMapViews
import Derived.JoinedTies
import Derived.KernelRfl
namespace Go.Proofs.Ytdgglglemdbgcaa
/- THE CELL 'sum', in the pinned program and in every row, IS THE sha256 OF THE DUMP (.gsa) THAT YtdgglglemdbgcaaProg.lean LOADS. Nothing in Lean hashes anything: it is a label: what it is worth is what the hold of that sum in a sandbox is worth. -/
noncomputable def Try.pinned : Pinned := { name := "ytdgglglemdbgcaa", sum := "8d279a3ab687299e26cdf1f1c3f438f0d6f8974c5b6233761499ab7faedec6f0", checked := Try.checked }
namespace Rows
def none {H : Type} : Left H := { results := [], args := [] }

/-- 'reachlaw1.TernWithin': WHATEVER THE INPUT: true; the input reads as it did. -/
def ternWithinSpec : ChangeSpec := { name := "ternWithin", fn := fun _ => fun
  | [d1, d2] => { results := [.lit (.bool true)], args := [d1, d2] }
  | _ => none }
def ternWithinRow : OpenClaim := { program := "ytdgglglemdbgcaa", sum := "8d279a3ab687299e26cdf1f1c3f438f0d6f8974c5b6233761499ab7faedec6f0", func := "reach/reachlaw1.TernWithin", spec := "ternWithin", apart := false }
def TernWithinSaid : Prop := ternWithinRow.holds Try.pinned (OpenSpec.ofChange ternWithinSpec)

/-- ITS FALSE NEIGHBOUR: 'it returns false'. Refute it at one input. -/
def ternWithinWrong : ChangeSpec := { name := "ternWithin", fn := fun _ => fun
  | [d1, d2] => { results := [.lit (.bool false)], args := [d1, d2] }
  | _ => none }
def TernWithinWrongFalsely : Prop := ternWithinRow.holds Try.pinned (OpenSpec.ofChange ternWithinWrong)

/-- 'reachlaw1.TernZeros': WHATEVER THE INPUT: true; the input reads as it did. -/
def ternZerosSpec : ChangeSpec := { name := "ternZeros", fn := fun _ => fun
  | [d1, d2] => { results := [.lit (.bool true)], args := [d1, d2] }
  | _ => none }
def ternZerosRow : OpenClaim := { program := "ytdgglglemdbgcaa", sum := "8d279a3ab687299e26cdf1f1c3f438f0d6f8974c5b6233761499ab7faedec6f0", func := "reach/reachlaw1.TernZeros", spec := "ternZeros", unfollowed := true, recurses := true, apart := false }
def TernZerosSaid : Prop := ternZerosRow.holds Try.pinned (OpenSpec.ofChange ternZerosSpec)

/-- ITS FALSE NEIGHBOUR: 'it returns false'. Refute it at one input. -/
def ternZerosWrong : ChangeSpec := { name := "ternZeros", fn := fun _ => fun
  | [d1, d2] => { results := [.lit (.bool false)], args := [d1, d2] }
  | _ => none }
def TernZerosWrongFalsely : Prop := ternZerosRow.holds Try.pinned (OpenSpec.ofChange ternZerosWrong)

/-- 'reachlaw1.TernOrder': WHATEVER THE INPUT: true; the input reads as it did. -/
def ternOrderSpec : ChangeSpec := { name := "ternOrder", fn := fun _ => fun
  | [d1, d2, d3] => { results := [.lit (.bool true)], args := [d1, d2, d3] }
  | _ => none }
def ternOrderRow : OpenClaim := { program := "ytdgglglemdbgcaa", sum := "8d279a3ab687299e26cdf1f1c3f438f0d6f8974c5b6233761499ab7faedec6f0", func := "reach/reachlaw1.TernOrder", spec := "ternOrder", apart := false }
def TernOrderSaid : Prop := ternOrderRow.holds Try.pinned (OpenSpec.ofChange ternOrderSpec)

/-- ITS FALSE NEIGHBOUR: 'it returns false'. Refute it at one input. -/
def ternOrderWrong : ChangeSpec := { name := "ternOrder", fn := fun _ => fun
  | [d1, d2, d3] => { results := [.lit (.bool false)], args := [d1, d2, d3] }
  | _ => none }
def TernOrderWrongFalsely : Prop := ternOrderRow.holds Try.pinned (OpenSpec.ofChange ternOrderWrong)

/-- 'reachlaw1.TernLeastHull': WHATEVER THE INPUT: true; the input reads as it did. -/
def ternLeastHullSpec : ChangeSpec := { name := "ternLeastHull", fn := fun _ => fun
  | [d1, d2, d3] => { results := [.lit (.bool true)], args := [d1, d2, d3] }
  | _ => none }
def ternLeastHullRow : OpenClaim := { program := "ytdgglglemdbgcaa", sum := "8d279a3ab687299e26cdf1f1c3f438f0d6f8974c5b6233761499ab7faedec6f0", func := "reach/reachlaw1.TernLeastHull", spec := "ternLeastHull", apart := false }
def TernLeastHullSaid : Prop := ternLeastHullRow.holds Try.pinned (OpenSpec.ofChange ternLeastHullSpec)

/-- ITS FALSE NEIGHBOUR: 'it returns false'. Refute it at one input. -/
def ternLeastHullWrong : ChangeSpec := { name := "ternLeastHull", fn := fun _ => fun
  | [d1, d2, d3] => { results := [.lit (.bool false)], args := [d1, d2, d3] }
  | _ => none }
def TernLeastHullWrongFalsely : Prop := ternLeastHullRow.holds Try.pinned (OpenSpec.ofChange ternLeastHullWrong)

/- THE SECOND FORM. 'bulk': how many values and letters a reading holds, each counted each time it is reached (what is shared counts as often as it is met; a slice's spare places count too). A statement '..UptoSaid' is the law's where the arguments, and the package variables that the reading takes, are together of bulk at most 1048576: NARROWER than '..Said'. Prove '..Said' where nothing that the law and all that it calls make is longer than what came in: it says more and counts as full. Else prove '..UptoSaid'. A law counts once. -/
mutual
def uptoBulk {H : Type} : DataW H → Nat
  | .lit (.string bytes) => bytes.length + 1
  | .lit _ => 1
  | .nil => 1
  | .ptr d => uptoBulk d + 1
  | .slice elems spare => uptoBulkAll elems + uptoBulkAll spare + 1
  | .agg parts => uptoBulkAll parts + 1
  | .iface _ d => uptoBulk d + 1
  | .map entries => uptoBulkEntries entries + 1
  | .held _ => 1
def uptoBulkAll {H : Type} : List (DataW H) → Nat
  | [] => 0
  | d :: r => uptoBulk d + uptoBulkAll r
def uptoBulkEntries {H : Type} : List (Lit × DataW H) → Nat
  | [] => 0
  | x :: r => uptoBulkEntry x + uptoBulkEntries r
def uptoBulkEntry {H : Type} : Lit × DataW H → Nat
  | (.string bytes, d) => bytes.length + uptoBulk d + 1
  | (_, d) => uptoBulk d + 1
 end
def uptoSmall : (H : Type) → List (DataW H) → Bool := fun _ ds => decide (uptoBulkAll ds ≤ 1048576)
def OpenSpec.upto (s : _root_.Go.ChangeSpec) : _root_.Go.OpenSpec := { _root_.Go.OpenSpec.ofChange s with cond := some uptoSmall }

/-- 'reachlaw1.TernWithin', WHERE WHAT IT READS IS OF BULK AT MOST 1048576: true; the input reads as it did. -/
def ternWithinUptoRow : OpenClaim := { program := "ytdgglglemdbgcaa", sum := "8d279a3ab687299e26cdf1f1c3f438f0d6f8974c5b6233761499ab7faedec6f0", func := "reach/reachlaw1.TernWithin", spec := "ternWithin", apart := false, narrowed := true }
def TernWithinUptoSaid : Prop := ternWithinUptoRow.holds Try.pinned (OpenSpec.upto ternWithinSpec)

/-- 'reachlaw1.TernZeros', WHERE WHAT IT READS IS OF BULK AT MOST 1048576: true; the input reads as it did. -/
def ternZerosUptoRow : OpenClaim := { program := "ytdgglglemdbgcaa", sum := "8d279a3ab687299e26cdf1f1c3f438f0d6f8974c5b6233761499ab7faedec6f0", func := "reach/reachlaw1.TernZeros", spec := "ternZeros", unfollowed := true, recurses := true, apart := false, narrowed := true }
def TernZerosUptoSaid : Prop := ternZerosUptoRow.holds Try.pinned (OpenSpec.upto ternZerosSpec)

/-- 'reachlaw1.TernOrder', WHERE WHAT IT READS IS OF BULK AT MOST 1048576: true; the input reads as it did. -/
def ternOrderUptoRow : OpenClaim := { program := "ytdgglglemdbgcaa", sum := "8d279a3ab687299e26cdf1f1c3f438f0d6f8974c5b6233761499ab7faedec6f0", func := "reach/reachlaw1.TernOrder", spec := "ternOrder", apart := false, narrowed := true }
def TernOrderUptoSaid : Prop := ternOrderUptoRow.holds Try.pinned (OpenSpec.upto ternOrderSpec)

/-- 'reachlaw1.TernLeastHull', WHERE WHAT IT READS IS OF BULK AT MOST 1048576: true; the input reads as it did. -/
def ternLeastHullUptoRow : OpenClaim := { program := "ytdgglglemdbgcaa", sum := "8d279a3ab687299e26cdf1f1c3f438f0d6f8974c5b6233761499ab7faedec6f0", func := "reach/reachlaw1.TernLeastHull", spec := "ternLeastHull", apart := false, narrowed := true }
def TernLeastHullUptoSaid : Prop := ternLeastHullUptoRow.holds Try.pinned (OpenSpec.upto ternLeastHullSpec)

end Rows
end Go.Proofs.Ytdgglglemdbgcaa
