/-
  No cell of these rows narrows 'for every input' (looked for: loops, veiled, ifaces, maps, wideKeys, modest, calm, conditions, laid).
  DERIVED. THE GIVEN ROWS OF THIS SEAT. 6 by the template 'for every input the law returns true; each argument reads behind the call as it read before'; 0 by the template 'total and deterministic' (their statements: YtjbfkknpkldhjaaTotals.lean).
  GIVEN WITH THE SEED: the statements are not yours to turn. If you find one false, say at which input.
  Laid BY PROGRAM, IN A SANDBOX (cutbox-rows.mjs): the forced cells as the released guide's own fill.sh prints them over the translation 1ee0360f133edeb5… (all of the seat's roots in one cut). By AI agents, Wed Nov 11 2026. No macro, syntax, notation, axiom, sorry.
-/
import Derived.Test.YtjbfkknpkldhjaaChecked
import GoSem.Claim
import GoSem.ClaimJoined
import GoSem.ClaimMapViews
import Derived.JoinedTies
import Derived.KernelRfl
namespace Go.Proofs.Ytjbfkknpkldhjaa
/- THE CELL 'sum', in the pinned program and in every row, IS THE sha256 OF THE DUMP (.gsa) THAT YtjbfkknpkldhjaaProg.lean LOADS. Nothing in Lean hashes anything: it is a label: what it is worth is what the hold of that sum in a sandbox is worth. -/
noncomputable def Try.pinned : Pinned := { name := "ytjbfkknpkldhjaa", sum := "1ee0360f133edeb5977e2b2f536a323a84264c4207e8ba5afbdd2002887b572c", checked := Try.checked }
namespace Rows
def none {H : Type} : Left H := { results := [], args := [] }

/-- 'reachlaw19.LedgerSums': WHATEVER THE INPUT: true; the input reads as it did. -/
def ledgerSumsSpec : ChangeSpec := { name := "ledgerSums", fn := fun _ => fun
  | [d] => { results := [.lit (.bool true)], args := [d] }
  | _ => none }
def ledgerSumsRow : OpenClaim := { program := "ytjbfkknpkldhjaa", sum := "1ee0360f133edeb5977e2b2f536a323a84264c4207e8ba5afbdd2002887b572c", func := "reach/reachlaw19.LedgerSums", spec := "ledgerSums", apart := false }
def LedgerSumsSaid : Prop := ledgerSumsRow.holds Try.pinned (OpenSpec.ofChange ledgerSumsSpec)

/-- ITS FALSE NEIGHBOUR: 'it returns false'. Refute it at one input. -/
def ledgerSumsWrong : ChangeSpec := { name := "ledgerSums", fn := fun _ => fun
  | [d] => { results := [.lit (.bool false)], args := [d] }
  | _ => none }
def LedgerSumsWrongFalsely : Prop := ledgerSumsRow.holds Try.pinned (OpenSpec.ofChange ledgerSumsWrong)

/-- 'reachlaw19.LedgerBack': WHATEVER THE INPUT: true; the input reads as it did. -/
def ledgerBackSpec : ChangeSpec := { name := "ledgerBack", fn := fun _ => fun
  | [d1, d2] => { results := [.lit (.bool true)], args := [d1, d2] }
  | _ => none }
def ledgerBackRow : OpenClaim := { program := "ytjbfkknpkldhjaa", sum := "1ee0360f133edeb5977e2b2f536a323a84264c4207e8ba5afbdd2002887b572c", func := "reach/reachlaw19.LedgerBack", spec := "ledgerBack", apart := false }
def LedgerBackSaid : Prop := ledgerBackRow.holds Try.pinned (OpenSpec.ofChange ledgerBackSpec)

/-- ITS FALSE NEIGHBOUR: 'it returns false'. Refute it at one input. -/
def ledgerBackWrong : ChangeSpec := { name := "ledgerBack", fn := fun _ => fun
  | [d1, d2] => { results := [.lit (.bool false)], args := [d1, d2] }
  | _ => none }
def LedgerBackWrongFalsely : Prop := ledgerBackRow.holds Try.pinned (OpenSpec.ofChange ledgerBackWrong)

/-- 'reachlaw19.LedgerEncodes': WHATEVER THE INPUT: true; the input reads as it did. -/
def ledgerEncodesSpec : ChangeSpec := { name := "ledgerEncodes", fn := fun _ => fun
  | [d] => { results := [.lit (.bool true)], args := [d] }
  | _ => none }
def ledgerEncodesRow : OpenClaim := { program := "ytjbfkknpkldhjaa", sum := "1ee0360f133edeb5977e2b2f536a323a84264c4207e8ba5afbdd2002887b572c", func := "reach/reachlaw19.LedgerEncodes", spec := "ledgerEncodes", apart := false }
def LedgerEncodesSaid : Prop := ledgerEncodesRow.holds Try.pinned (OpenSpec.ofChange ledgerEncodesSpec)

/-- ITS FALSE NEIGHBOUR: 'it returns false'. Refute it at one input. -/
def ledgerEncodesWrong : ChangeSpec := { name := "ledgerEncodes", fn := fun _ => fun
  | [d] => { results := [.lit (.bool false)], args := [d] }
  | _ => none }
def LedgerEncodesWrongFalsely : Prop := ledgerEncodesRow.holds Try.pinned (OpenSpec.ofChange ledgerEncodesWrong)

/-- 'reachlaw19.LedgerCuts': WHATEVER THE INPUT: true; the input reads as it did. -/
def ledgerCutsSpec : ChangeSpec := { name := "ledgerCuts", fn := fun _ => fun
  | [d1, d2] => { results := [.lit (.bool true)], args := [d1, d2] }
  | _ => none }
def ledgerCutsRow : OpenClaim := { program := "ytjbfkknpkldhjaa", sum := "1ee0360f133edeb5977e2b2f536a323a84264c4207e8ba5afbdd2002887b572c", func := "reach/reachlaw19.LedgerCuts", spec := "ledgerCuts", unfollowed := true, recurses := true, apart := false }
def LedgerCutsSaid : Prop := ledgerCutsRow.holds Try.pinned (OpenSpec.ofChange ledgerCutsSpec)

/-- ITS FALSE NEIGHBOUR: 'it returns false'. Refute it at one input. -/
def ledgerCutsWrong : ChangeSpec := { name := "ledgerCuts", fn := fun _ => fun
  | [d1, d2] => { results := [.lit (.bool false)], args := [d1, d2] }
  | _ => none }
def LedgerCutsWrongFalsely : Prop := ledgerCutsRow.holds Try.pinned (OpenSpec.ofChange ledgerCutsWrong)

/-- 'reachlaw19.LedgerSpoils': WHATEVER THE INPUT: true; the input reads as it did. -/
def ledgerSpoilsSpec : ChangeSpec := { name := "ledgerSpoils", fn := fun _ => fun
  | [d1, d2, d3] => { results := [.lit (.bool true)], args := [d1, d2, d3] }
  | _ => none }
def ledgerSpoilsRow : OpenClaim := { program := "ytjbfkknpkldhjaa", sum := "1ee0360f133edeb5977e2b2f536a323a84264c4207e8ba5afbdd2002887b572c", func := "reach/reachlaw19.LedgerSpoils", spec := "ledgerSpoils", unfollowed := true, recurses := true, apart := false }
def LedgerSpoilsSaid : Prop := ledgerSpoilsRow.holds Try.pinned (OpenSpec.ofChange ledgerSpoilsSpec)

/-- ITS FALSE NEIGHBOUR: 'it returns false'. Refute it at one input. -/
def ledgerSpoilsWrong : ChangeSpec := { name := "ledgerSpoils", fn := fun _ => fun
  | [d1, d2, d3] => { results := [.lit (.bool false)], args := [d1, d2, d3] }
  | _ => none }
def LedgerSpoilsWrongFalsely : Prop := ledgerSpoilsRow.holds Try.pinned (OpenSpec.ofChange ledgerSpoilsWrong)

/-- 'reachlaw19.LedgerOwn': WHATEVER THE INPUT: true; the input reads as it did. -/
def ledgerOwnSpec : ChangeSpec := { name := "ledgerOwn", fn := fun _ => fun
  | [d] => { results := [.lit (.bool true)], args := [d] }
  | _ => none }
def ledgerOwnRow : OpenClaim := { program := "ytjbfkknpkldhjaa", sum := "1ee0360f133edeb5977e2b2f536a323a84264c4207e8ba5afbdd2002887b572c", func := "reach/reachlaw19.LedgerOwn", spec := "ledgerOwn", apart := false }
def LedgerOwnSaid : Prop := ledgerOwnRow.holds Try.pinned (OpenSpec.ofChange ledgerOwnSpec)

/-- ITS FALSE NEIGHBOUR: 'it returns false'. Refute it at one input. -/
def ledgerOwnWrong : ChangeSpec := { name := "ledgerOwn", fn := fun _ => fun
  | [d] => { results := [.lit (.bool false)], args := [d] }
  | _ => none }
def LedgerOwnWrongFalsely : Prop := ledgerOwnRow.holds Try.pinned (OpenSpec.ofChange ledgerOwnWrong)

/- THE SECOND FORM. 'bulk': how many values and letters a reading holds, each counted each time it is reached (what is shared counts as often as it is met; a slice's spare places count too). A statement '..UptoSaid' is the law's where the arguments, and the package variables that the reading takes, are together of bulk at most 1048576: NARROWER than '..Said'. Prove '..Said' where nothing that the law and all that it calls make is longer than what came in: it says more and counts as full. Else prove '..UptoSaid'. A law counts once. -/
mutual
def uptoBulk {H : Type} : DataW H → Nat
  | .lit (.string bytes) => bytes.length + 1
  | .lit _ => 1
  | .nil => 1
  | .ptr d => uptoBulk d + 1
  | .slice elems spare => uptoBulkAll elems + uptoBulkAll spare + 1
  | .agg parts => uptoBulkAll parts + 1
  | .iface _ d => uptoBulk d + 1
  | .map entries => uptoBulkEntries entries + 1
  | .held _ => 1
def uptoBulkAll {H : Type} : List (DataW H) → Nat
  | [] => 0
  | d :: r => uptoBulk d + uptoBulkAll r
def uptoBulkEntries {H : Type} : List (Lit × DataW H) → Nat
  | [] => 0
  | x :: r => uptoBulkEntry x + uptoBulkEntries r
def uptoBulkEntry {H : Type} : Lit × DataW H → Nat
  | (.string bytes, d) => bytes.length + uptoBulk d + 1
  | (_, d) => uptoBulk d + 1
 end
def uptoSmall : (H : Type) → List (DataW H) → Bool := fun _ ds => decide (uptoBulkAll ds ≤ 1048576)
def OpenSpec.upto (s : _root_.Go.ChangeSpec) : _root_.Go.OpenSpec := { _root_.Go.OpenSpec.ofChange s with cond := some uptoSmall }

/-- 'reachlaw19.LedgerSums', WHERE WHAT IT READS IS OF BULK AT MOST 1048576: true; the input reads as it did. -/
def ledgerSumsUptoRow : OpenClaim := { program := "ytjbfkknpkldhjaa", sum := "1ee0360f133edeb5977e2b2f536a323a84264c4207e8ba5afbdd2002887b572c", func := "reach/reachlaw19.LedgerSums", spec := "ledgerSums", apart := false, narrowed := true }
def LedgerSumsUptoSaid : Prop := ledgerSumsUptoRow.holds Try.pinned (OpenSpec.upto ledgerSumsSpec)

/-- 'reachlaw19.LedgerBack', WHERE WHAT IT READS IS OF BULK AT MOST 1048576: true; the input reads as it did. -/
def ledgerBackUptoRow : OpenClaim := { program := "ytjbfkknpkldhjaa", sum := "1ee0360f133edeb5977e2b2f536a323a84264c4207e8ba5afbdd2002887b572c", func := "reach/reachlaw19.LedgerBack", spec := "ledgerBack", apart := false, narrowed := true }
def LedgerBackUptoSaid : Prop := ledgerBackUptoRow.holds Try.pinned (OpenSpec.upto ledgerBackSpec)

/-- 'reachlaw19.LedgerEncodes', WHERE WHAT IT READS IS OF BULK AT MOST 1048576: true; the input reads as it did. -/
def ledgerEncodesUptoRow : OpenClaim := { program := "ytjbfkknpkldhjaa", sum := "1ee0360f133edeb5977e2b2f536a323a84264c4207e8ba5afbdd2002887b572c", func := "reach/reachlaw19.LedgerEncodes", spec := "ledgerEncodes", apart := false, narrowed := true }
def LedgerEncodesUptoSaid : Prop := ledgerEncodesUptoRow.holds Try.pinned (OpenSpec.upto ledgerEncodesSpec)

/-- 'reachlaw19.LedgerCuts', WHERE WHAT IT READS IS OF BULK AT MOST 1048576: true; the input reads as it did. -/
def ledgerCutsUptoRow : OpenClaim := { program := "ytjbfkknpkldhjaa", sum := "1ee0360f133edeb5977e2b2f536a323a84264c4207e8ba5afbdd2002887b572c", func := "reach/reachlaw19.LedgerCuts", spec := "ledgerCuts", unfollowed := true, recurses := true, apart := false, narrowed := true }
def LedgerCutsUptoSaid : Prop := ledgerCutsUptoRow.holds Try.pinned (OpenSpec.upto ledgerCutsSpec)

/-- 'reachlaw19.LedgerSpoils', WHERE WHAT IT READS IS OF BULK AT MOST 1048576: true; the input reads as it did. -/
def ledgerSpoilsUptoRow : OpenClaim := { program := "ytjbfkknpkldhjaa", sum := "1ee0360f133edeb5977e2b2f536a323a84264c4207e8ba5afbdd2002887b572c", func := "reach/reachlaw19.LedgerSpoils", spec := "ledgerSpoils", unfollowed := true, recurses := true, apart := false, narrowed := true }
def LedgerSpoilsUptoSaid : Prop := ledgerSpoilsUptoRow.holds Try.pinned (OpenSpec.upto ledgerSpoilsSpec)

/-- 'reachlaw19.LedgerOwn', WHERE WHAT IT READS IS OF BULK AT MOST 1048576: true; the input reads as it did. -/
def ledgerOwnUptoRow : OpenClaim := { program := "ytjbfkknpkldhjaa", sum := "1ee0360f133edeb5977e2b2f536a323a84264c4207e8ba5afbdd2002887b572c", func := "reach/reachlaw19.LedgerOwn", spec := "ledgerOwn", apart := false, narrowed := true }
def LedgerOwnUptoSaid : Prop := ledgerOwnUptoRow.holds Try.pinned (OpenSpec.upto ledgerOwnSpec)

end Rows
end Go.Proofs.Ytjbfkknpkldhjaa
