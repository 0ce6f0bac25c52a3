/-
  No cell of these rows narrows 'for every input' (looked for: loops, veiled, ifaces, maps, wideKeys, modest, calm, conditions, laid).
  DERIVED. THE GIVEN ROWS OF THIS SEAT. 4 by the template 'for every input the law returns true; each argument reads behind the call as it read before'; 0 by the template 'total and deterministic' (their statements: YtjbfkknpkldhjabTotals.lean).
  GIVEN WITH THE SEED: the statements are not yours to turn. If you find one false, say at which input.
  Laid BY PROGRAM, IN A SANDBOX (cutbox-rows.mjs): the forced cells as the released guide's own fill.sh prints them over the translation bfd09634fb6d01d1… (all of the seat's roots in one cut). By AI agents, Wed Nov 11 2026. No macro, syntax, notation, axiom, sorry.
-/
import Derived.Test.YtjbfkknpkldhjabChecked
import GoSem.Claim
import GoSem.ClaimJoined
import GoSem.ClaimMapViews
import Derived.JoinedTies
import Derived.KernelRfl
namespace Go.Proofs.Ytjbfkknpkldhjab
/- THE CELL 'sum', in the pinned program and in every row, IS THE sha256 OF THE DUMP (.gsa) THAT YtjbfkknpkldhjabProg.lean LOADS. Nothing in Lean hashes anything: it is a label: what it is worth is what the hold of that sum in a sandbox is worth. -/
noncomputable def Try.pinned : Pinned := { name := "ytjbfkknpkldhjab", sum := "bfd09634fb6d01d169f05b62c1de43aa70b8d9f83a686d001c38c472dc5e23bd", checked := Try.checked }
namespace Rows
def none {H : Type} : Left H := { results := [], args := [] }

/-- 'reachlaw19.LedgerReads': WHATEVER THE INPUT: true; the input reads as it did. -/
def ledgerReadsSpec : ChangeSpec := { name := "ledgerReads", fn := fun _ => fun
  | [d1, d2, d3] => { results := [.lit (.bool true)], args := [d1, d2, d3] }
  | _ => none }
def ledgerReadsRow : OpenClaim := { program := "ytjbfkknpkldhjab", sum := "bfd09634fb6d01d169f05b62c1de43aa70b8d9f83a686d001c38c472dc5e23bd", func := "reach/reachlaw19.LedgerReads", spec := "ledgerReads", apart := false }
def LedgerReadsSaid : Prop := ledgerReadsRow.holds Try.pinned (OpenSpec.ofChange ledgerReadsSpec)

/-- ITS FALSE NEIGHBOUR: 'it returns false'. Refute it at one input. -/
def ledgerReadsWrong : ChangeSpec := { name := "ledgerReads", fn := fun _ => fun
  | [d1, d2, d3] => { results := [.lit (.bool false)], args := [d1, d2, d3] }
  | _ => none }
def LedgerReadsWrongFalsely : Prop := ledgerReadsRow.holds Try.pinned (OpenSpec.ofChange ledgerReadsWrong)

/-- 'reachlaw19.LedgerWalks': WHATEVER THE INPUT: true; the input reads as it did. -/
def ledgerWalksSpec : ChangeSpec := { name := "ledgerWalks", fn := fun _ => fun
  | [d1, d2] => { results := [.lit (.bool true)], args := [d1, d2] }
  | _ => none }
def ledgerWalksRow : OpenClaim := { program := "ytjbfkknpkldhjab", sum := "bfd09634fb6d01d169f05b62c1de43aa70b8d9f83a686d001c38c472dc5e23bd", func := "reach/reachlaw19.LedgerWalks", spec := "ledgerWalks", unfollowed := true, recurses := true, apart := false }
def LedgerWalksSaid : Prop := ledgerWalksRow.holds Try.pinned (OpenSpec.ofChange ledgerWalksSpec)

/-- ITS FALSE NEIGHBOUR: 'it returns false'. Refute it at one input. -/
def ledgerWalksWrong : ChangeSpec := { name := "ledgerWalks", fn := fun _ => fun
  | [d1, d2] => { results := [.lit (.bool false)], args := [d1, d2] }
  | _ => none }
def LedgerWalksWrongFalsely : Prop := ledgerWalksRow.holds Try.pinned (OpenSpec.ofChange ledgerWalksWrong)

/-- 'reachlaw19.LedgerInside': WHATEVER THE INPUT: true; the input reads as it did. -/
def ledgerInsideSpec : ChangeSpec := { name := "ledgerInside", fn := fun _ => fun
  | [d1, d2, d3] => { results := [.lit (.bool true)], args := [d1, d2, d3] }
  | _ => none }
def ledgerInsideRow : OpenClaim := { program := "ytjbfkknpkldhjab", sum := "bfd09634fb6d01d169f05b62c1de43aa70b8d9f83a686d001c38c472dc5e23bd", func := "reach/reachlaw19.LedgerInside", spec := "ledgerInside", unfollowed := true, recurses := true, apart := false }
def LedgerInsideSaid : Prop := ledgerInsideRow.holds Try.pinned (OpenSpec.ofChange ledgerInsideSpec)

/-- ITS FALSE NEIGHBOUR: 'it returns false'. Refute it at one input. -/
def ledgerInsideWrong : ChangeSpec := { name := "ledgerInside", fn := fun _ => fun
  | [d1, d2, d3] => { results := [.lit (.bool false)], args := [d1, d2, d3] }
  | _ => none }
def LedgerInsideWrongFalsely : Prop := ledgerInsideRow.holds Try.pinned (OpenSpec.ofChange ledgerInsideWrong)

/-- 'reachlaw19.LedgerWholes': WHATEVER THE INPUT: true; the input reads as it did. -/
def ledgerWholesSpec : ChangeSpec := { name := "ledgerWholes", fn := fun _ => fun
  | [d1, d2] => { results := [.lit (.bool true)], args := [d1, d2] }
  | _ => none }
def ledgerWholesRow : OpenClaim := { program := "ytjbfkknpkldhjab", sum := "bfd09634fb6d01d169f05b62c1de43aa70b8d9f83a686d001c38c472dc5e23bd", func := "reach/reachlaw19.LedgerWholes", spec := "ledgerWholes", unfollowed := true, recurses := true, apart := false }
def LedgerWholesSaid : Prop := ledgerWholesRow.holds Try.pinned (OpenSpec.ofChange ledgerWholesSpec)

/-- ITS FALSE NEIGHBOUR: 'it returns false'. Refute it at one input. -/
def ledgerWholesWrong : ChangeSpec := { name := "ledgerWholes", fn := fun _ => fun
  | [d1, d2] => { results := [.lit (.bool false)], args := [d1, d2] }
  | _ => none }
def LedgerWholesWrongFalsely : Prop := ledgerWholesRow.holds Try.pinned (OpenSpec.ofChange ledgerWholesWrong)

/- THE SECOND FORM. 'bulk': how many values and letters a reading holds, each counted each time it is reached (what is shared counts as often as it is met; a slice's spare places count too). A statement '..UptoSaid' is the law's where the arguments, and the package variables that the reading takes, are together of bulk at most 1048576: NARROWER than '..Said'. Prove '..Said' where nothing that the law and all that it calls make is longer than what came in: it says more and counts as full. Else prove '..UptoSaid'. A law counts once. -/
mutual
def uptoBulk {H : Type} : DataW H → Nat
  | .lit (.string bytes) => bytes.length + 1
  | .lit _ => 1
  | .nil => 1
  | .ptr d => uptoBulk d + 1
  | .slice elems spare => uptoBulkAll elems + uptoBulkAll spare + 1
  | .agg parts => uptoBulkAll parts + 1
  | .iface _ d => uptoBulk d + 1
  | .map entries => uptoBulkEntries entries + 1
  | .held _ => 1
def uptoBulkAll {H : Type} : List (DataW H) → Nat
  | [] => 0
  | d :: r => uptoBulk d + uptoBulkAll r
def uptoBulkEntries {H : Type} : List (Lit × DataW H) → Nat
  | [] => 0
  | x :: r => uptoBulkEntry x + uptoBulkEntries r
def uptoBulkEntry {H : Type} : Lit × DataW H → Nat
  | (.string bytes, d) => bytes.length + uptoBulk d + 1
  | (_, d) => uptoBulk d + 1
 end
def uptoSmall : (H : Type) → List (DataW H) → Bool := fun _ ds => decide (uptoBulkAll ds ≤ 1048576)
def OpenSpec.upto (s : _root_.Go.ChangeSpec) : _root_.Go.OpenSpec := { _root_.Go.OpenSpec.ofChange s with cond := some uptoSmall }

/-- 'reachlaw19.LedgerReads', WHERE WHAT IT READS IS OF BULK AT MOST 1048576: true; the input reads as it did. -/
def ledgerReadsUptoRow : OpenClaim := { program := "ytjbfkknpkldhjab", sum := "bfd09634fb6d01d169f05b62c1de43aa70b8d9f83a686d001c38c472dc5e23bd", func := "reach/reachlaw19.LedgerReads", spec := "ledgerReads", apart := false, narrowed := true }
def LedgerReadsUptoSaid : Prop := ledgerReadsUptoRow.holds Try.pinned (OpenSpec.upto ledgerReadsSpec)

/-- 'reachlaw19.LedgerWalks', WHERE WHAT IT READS IS OF BULK AT MOST 1048576: true; the input reads as it did. -/
def ledgerWalksUptoRow : OpenClaim := { program := "ytjbfkknpkldhjab", sum := "bfd09634fb6d01d169f05b62c1de43aa70b8d9f83a686d001c38c472dc5e23bd", func := "reach/reachlaw19.LedgerWalks", spec := "ledgerWalks", unfollowed := true, recurses := true, apart := false, narrowed := true }
def LedgerWalksUptoSaid : Prop := ledgerWalksUptoRow.holds Try.pinned (OpenSpec.upto ledgerWalksSpec)

/-- 'reachlaw19.LedgerInside', WHERE WHAT IT READS IS OF BULK AT MOST 1048576: true; the input reads as it did. -/
def ledgerInsideUptoRow : OpenClaim := { program := "ytjbfkknpkldhjab", sum := "bfd09634fb6d01d169f05b62c1de43aa70b8d9f83a686d001c38c472dc5e23bd", func := "reach/reachlaw19.LedgerInside", spec := "ledgerInside", unfollowed := true, recurses := true, apart := false, narrowed := true }
def LedgerInsideUptoSaid : Prop := ledgerInsideUptoRow.holds Try.pinned (OpenSpec.upto ledgerInsideSpec)

/-- 'reachlaw19.LedgerWholes', WHERE WHAT IT READS IS OF BULK AT MOST 1048576: true; the input reads as it did. -/
def ledgerWholesUptoRow : OpenClaim := { program := "ytjbfkknpkldhjab", sum := "bfd09634fb6d01d169f05b62c1de43aa70b8d9f83a686d001c38c472dc5e23bd", func := "reach/reachlaw19.LedgerWholes", spec := "ledgerWholes", unfollowed := true, recurses := true, apart := false, narrowed := true }
def LedgerWholesUptoSaid : Prop := ledgerWholesUptoRow.holds Try.pinned (OpenSpec.upto ledgerWholesSpec)

end Rows
end Go.Proofs.Ytjbfkknpkldhjab
