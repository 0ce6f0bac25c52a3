/-
  No cell of these rows narrows 'for every input' (looked for: loops, veiled, ifaces, maps, wideKeys, modest, calm, conditions, laid).
  DERIVED. THE GIVEN ROWS OF THIS SEAT. 2 by the template 'for every input the law returns true; each argument reads behind the call as it read before'; 0 by the template 'total and deterministic' (their statements: YtfaocmlbgbjbpaaTotals.lean).
  GIVEN WITH THE SEED: the statements are not yours to turn. If you find one false, say at which input.
  Laid BY PROGRAM, IN A SANDBOX (cutbox-rows.mjs): the forced cells as the released guide's own fill.sh prints them over the translation 07eaa209fa96ecca… (all of the seat's roots in one cut). By AI agents, Wed Nov 11 2026. No macro, syntax, notation, axiom, sorry.
-/
import Derived.Test.YtfaocmlbgbjbpaaChecked
import GoSem.Claim
import GoSem.ClaimJoined
import GoSem.ClaimMapViews
import Derived.JoinedTies
import Derived.KernelRfl
namespace Go.Proofs.Ytfaocmlbgbjbpaa
/- THE CELL 'sum', in the pinned program and in every row, IS THE sha256 OF THE DUMP (.gsa) THAT YtfaocmlbgbjbpaaProg.lean LOADS. Nothing in Lean hashes anything: it is a label: what it is worth is what the hold of that sum in a sandbox is worth. -/
noncomputable def Try.pinned : Pinned := { name := "ytfaocmlbgbjbpaa", sum := "07eaa209fa96eccaae0e5982f127fbc20d49c7f27e2f17986ecf8e26572746d3", checked := Try.checked }
namespace Rows
def none {H : Type} : Left H := { results := [], args := [] }

/-- 'reachlaw8.RibLookups': WHATEVER THE INPUT: true; the input reads as it did. -/
def ribLookupsSpec : ChangeSpec := { name := "ribLookups", fn := fun _ => fun
  | [d1, d2, d3] => { results := [.lit (.bool true)], args := [d1, d2, d3] }
  | _ => none }
def ribLookupsRow : OpenClaim := { program := "ytfaocmlbgbjbpaa", sum := "07eaa209fa96eccaae0e5982f127fbc20d49c7f27e2f17986ecf8e26572746d3", func := "reach/reachlaw8.RibLookups", spec := "ribLookups", apart := false }
def RibLookupsSaid : Prop := ribLookupsRow.holds Try.pinned (OpenSpec.ofChange ribLookupsSpec)

/-- ITS FALSE NEIGHBOUR: 'it returns false'. Refute it at one input. -/
def ribLookupsWrong : ChangeSpec := { name := "ribLookups", fn := fun _ => fun
  | [d1, d2, d3] => { results := [.lit (.bool false)], args := [d1, d2, d3] }
  | _ => none }
def RibLookupsWrongFalsely : Prop := ribLookupsRow.holds Try.pinned (OpenSpec.ofChange ribLookupsWrong)

/-- 'reachlaw8.RibLongest': WHATEVER THE INPUT: true; the input reads as it did. -/
def ribLongestSpec : ChangeSpec := { name := "ribLongest", fn := fun _ => fun
  | [d1, d2, d3] => { results := [.lit (.bool true)], args := [d1, d2, d3] }
  | _ => none }
def ribLongestRow : OpenClaim := { program := "ytfaocmlbgbjbpaa", sum := "07eaa209fa96eccaae0e5982f127fbc20d49c7f27e2f17986ecf8e26572746d3", func := "reach/reachlaw8.RibLongest", spec := "ribLongest", unfollowed := true, recurses := true, apart := false }
def RibLongestSaid : Prop := ribLongestRow.holds Try.pinned (OpenSpec.ofChange ribLongestSpec)

/-- ITS FALSE NEIGHBOUR: 'it returns false'. Refute it at one input. -/
def ribLongestWrong : ChangeSpec := { name := "ribLongest", fn := fun _ => fun
  | [d1, d2, d3] => { results := [.lit (.bool false)], args := [d1, d2, d3] }
  | _ => none }
def RibLongestWrongFalsely : Prop := ribLongestRow.holds Try.pinned (OpenSpec.ofChange ribLongestWrong)

/- THE SECOND FORM. 'bulk': how many values and letters a reading holds, each counted each time it is reached (what is shared counts as often as it is met; a slice's spare places count too). A statement '..UptoSaid' is the law's where the arguments, and the package variables that the reading takes, are together of bulk at most 1048576: NARROWER than '..Said'. Prove '..Said' where nothing that the law and all that it calls make is longer than what came in: it says more and counts as full. Else prove '..UptoSaid'. A law counts once. -/
mutual
def uptoBulk {H : Type} : DataW H → Nat
  | .lit (.string bytes) => bytes.length + 1
  | .lit _ => 1
  | .nil => 1
  | .ptr d => uptoBulk d + 1
  | .slice elems spare => uptoBulkAll elems + uptoBulkAll spare + 1
  | .agg parts => uptoBulkAll parts + 1
  | .iface _ d => uptoBulk d + 1
  | .map entries => uptoBulkEntries entries + 1
  | .held _ => 1
def uptoBulkAll {H : Type} : List (DataW H) → Nat
  | [] => 0
  | d :: r => uptoBulk d + uptoBulkAll r
def uptoBulkEntries {H : Type} : List (Lit × DataW H) → Nat
  | [] => 0
  | x :: r => uptoBulkEntry x + uptoBulkEntries r
def uptoBulkEntry {H : Type} : Lit × DataW H → Nat
  | (.string bytes, d) => bytes.length + uptoBulk d + 1
  | (_, d) => uptoBulk d + 1
 end
def uptoSmall : (H : Type) → List (DataW H) → Bool := fun _ ds => decide (uptoBulkAll ds ≤ 1048576)
def OpenSpec.upto (s : _root_.Go.ChangeSpec) : _root_.Go.OpenSpec := { _root_.Go.OpenSpec.ofChange s with cond := some uptoSmall }

/-- 'reachlaw8.RibLookups', WHERE WHAT IT READS IS OF BULK AT MOST 1048576: true; the input reads as it did. -/
def ribLookupsUptoRow : OpenClaim := { program := "ytfaocmlbgbjbpaa", sum := "07eaa209fa96eccaae0e5982f127fbc20d49c7f27e2f17986ecf8e26572746d3", func := "reach/reachlaw8.RibLookups", spec := "ribLookups", apart := false, narrowed := true }
def RibLookupsUptoSaid : Prop := ribLookupsUptoRow.holds Try.pinned (OpenSpec.upto ribLookupsSpec)

/-- 'reachlaw8.RibLongest', WHERE WHAT IT READS IS OF BULK AT MOST 1048576: true; the input reads as it did. -/
def ribLongestUptoRow : OpenClaim := { program := "ytfaocmlbgbjbpaa", sum := "07eaa209fa96eccaae0e5982f127fbc20d49c7f27e2f17986ecf8e26572746d3", func := "reach/reachlaw8.RibLongest", spec := "ribLongest", unfollowed := true, recurses := true, apart := false, narrowed := true }
def RibLongestUptoSaid : Prop := ribLongestUptoRow.holds Try.pinned (OpenSpec.upto ribLongestSpec)

end Rows
end Go.Proofs.Ytfaocmlbgbjbpaa
