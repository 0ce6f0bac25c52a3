/-
  No cell of these rows narrows 'for every input' (looked for: loops, veiled, ifaces, maps, wideKeys, modest, calm, conditions, laid).
  DERIVED. THE GIVEN ROWS OF THIS SEAT. 6 by the template 'for every input the law returns true; each argument reads behind the call as it read before'; 0 by the template 'total and deterministic' (their statements: YtmblloddhpcdeacTotals.lean).
  GIVEN WITH THE SEED: the statements are not yours to turn. If you find one false, say at which input.
  Laid BY PROGRAM, IN A SANDBOX (cutbox-rows.mjs): the forced cells as the released guide's own fill.sh prints them over the translation 3adf5b3603e1f755… (all of the seat's roots in one cut). By AI agents, Wed Nov 11 2026. No macro, syntax, notation, axiom, sorry.
-/
import Derived.Test.YtmblloddhpcdeacChecked
import GoSem.Claim
import GoSem.ClaimJoined
import GoSem.ClaimMapViews
import Derived.JoinedTies
import Derived.KernelRfl
namespace Go.Proofs.Ytmblloddhpcdeac
/- THE CELL 'sum', in the pinned program and in every row, IS THE sha256 OF THE DUMP (.gsa) THAT YtmblloddhpcdeacProg.lean LOADS. Nothing in Lean hashes anything: it is a label: what it is worth is what the hold of that sum in a sandbox is worth. -/
noncomputable def Try.pinned : Pinned := { name := "ytmblloddhpcdeac", sum := "3adf5b3603e1f7558ac5197d7823b89ab0c49f29625977bce3c5547cedd041ec", checked := Try.checked }
namespace Rows
def none {H : Type} : Left H := { results := [], args := [] }

/-- 'reachlaw1.TernImages': WHATEVER THE INPUT: true; the input reads as it did. -/
def ternImagesSpec : ChangeSpec := { name := "ternImages", fn := fun _ => fun
  | [d1, d2, d3] => { results := [.lit (.bool true)], args := [d1, d2, d3] }
  | _ => none }
def ternImagesRow : OpenClaim := { program := "ytmblloddhpcdeac", sum := "3adf5b3603e1f7558ac5197d7823b89ab0c49f29625977bce3c5547cedd041ec", func := "reach/reachlaw1.TernImages", spec := "ternImages", apart := false }
def TernImagesSaid : Prop := ternImagesRow.holds Try.pinned (OpenSpec.ofChange ternImagesSpec)

/-- ITS FALSE NEIGHBOUR: 'it returns false'. Refute it at one input. -/
def ternImagesWrong : ChangeSpec := { name := "ternImages", fn := fun _ => fun
  | [d1, d2, d3] => { results := [.lit (.bool false)], args := [d1, d2, d3] }
  | _ => none }
def TernImagesWrongFalsely : Prop := ternImagesRow.holds Try.pinned (OpenSpec.ofChange ternImagesWrong)

/-- 'reachlaw1.TernNested': WHATEVER THE INPUT: true; the input reads as it did. -/
def ternNestedSpec : ChangeSpec := { name := "ternNested", fn := fun _ => fun
  | [d1, d2, d3] => { results := [.lit (.bool true)], args := [d1, d2, d3] }
  | _ => none }
def ternNestedRow : OpenClaim := { program := "ytmblloddhpcdeac", sum := "3adf5b3603e1f7558ac5197d7823b89ab0c49f29625977bce3c5547cedd041ec", func := "reach/reachlaw1.TernNested", spec := "ternNested", unfollowed := true, recurses := true, apart := false }
def TernNestedSaid : Prop := ternNestedRow.holds Try.pinned (OpenSpec.ofChange ternNestedSpec)

/-- ITS FALSE NEIGHBOUR: 'it returns false'. Refute it at one input. -/
def ternNestedWrong : ChangeSpec := { name := "ternNested", fn := fun _ => fun
  | [d1, d2, d3] => { results := [.lit (.bool false)], args := [d1, d2, d3] }
  | _ => none }
def TernNestedWrongFalsely : Prop := ternNestedRow.holds Try.pinned (OpenSpec.ofChange ternNestedWrong)

/-- 'reachlaw1.TernSplits': WHATEVER THE INPUT: true; the input reads as it did. -/
def ternSplitsSpec : ChangeSpec := { name := "ternSplits", fn := fun _ => fun
  | [d1, d2] => { results := [.lit (.bool true)], args := [d1, d2] }
  | _ => none }
def ternSplitsRow : OpenClaim := { program := "ytmblloddhpcdeac", sum := "3adf5b3603e1f7558ac5197d7823b89ab0c49f29625977bce3c5547cedd041ec", func := "reach/reachlaw1.TernSplits", spec := "ternSplits", apart := false }
def TernSplitsSaid : Prop := ternSplitsRow.holds Try.pinned (OpenSpec.ofChange ternSplitsSpec)

/-- ITS FALSE NEIGHBOUR: 'it returns false'. Refute it at one input. -/
def ternSplitsWrong : ChangeSpec := { name := "ternSplits", fn := fun _ => fun
  | [d1, d2] => { results := [.lit (.bool false)], args := [d1, d2] }
  | _ => none }
def TernSplitsWrongFalsely : Prop := ternSplitsRow.holds Try.pinned (OpenSpec.ofChange ternSplitsWrong)

/-- 'reachlaw1.TernMembers': WHATEVER THE INPUT: true; the input reads as it did. -/
def ternMembersSpec : ChangeSpec := { name := "ternMembers", fn := fun _ => fun
  | [d1, d2, d3] => { results := [.lit (.bool true)], args := [d1, d2, d3] }
  | _ => none }
def ternMembersRow : OpenClaim := { program := "ytmblloddhpcdeac", sum := "3adf5b3603e1f7558ac5197d7823b89ab0c49f29625977bce3c5547cedd041ec", func := "reach/reachlaw1.TernMembers", spec := "ternMembers", unfollowed := true, recurses := true, apart := false }
def TernMembersSaid : Prop := ternMembersRow.holds Try.pinned (OpenSpec.ofChange ternMembersSpec)

/-- ITS FALSE NEIGHBOUR: 'it returns false'. Refute it at one input. -/
def ternMembersWrong : ChangeSpec := { name := "ternMembers", fn := fun _ => fun
  | [d1, d2, d3] => { results := [.lit (.bool false)], args := [d1, d2, d3] }
  | _ => none }
def TernMembersWrongFalsely : Prop := ternMembersRow.holds Try.pinned (OpenSpec.ofChange ternMembersWrong)

/-- 'reachlaw1.TernZeros': WHATEVER THE INPUT: true; the input reads as it did. -/
def ternZerosSpec : ChangeSpec := { name := "ternZeros", fn := fun _ => fun
  | [d1, d2] => { results := [.lit (.bool true)], args := [d1, d2] }
  | _ => none }
def ternZerosRow : OpenClaim := { program := "ytmblloddhpcdeac", sum := "3adf5b3603e1f7558ac5197d7823b89ab0c49f29625977bce3c5547cedd041ec", func := "reach/reachlaw1.TernZeros", spec := "ternZeros", unfollowed := true, recurses := true, apart := false }
def TernZerosSaid : Prop := ternZerosRow.holds Try.pinned (OpenSpec.ofChange ternZerosSpec)

/-- ITS FALSE NEIGHBOUR: 'it returns false'. Refute it at one input. -/
def ternZerosWrong : ChangeSpec := { name := "ternZeros", fn := fun _ => fun
  | [d1, d2] => { results := [.lit (.bool false)], args := [d1, d2] }
  | _ => none }
def TernZerosWrongFalsely : Prop := ternZerosRow.holds Try.pinned (OpenSpec.ofChange ternZerosWrong)

/-- 'reachlaw1.TernOwn': WHATEVER THE INPUT: true; the input reads as it did. -/
def ternOwnSpec : ChangeSpec := { name := "ternOwn", fn := fun _ => fun
  | [d] => { results := [.lit (.bool true)], args := [d] }
  | _ => none }
def ternOwnRow : OpenClaim := { program := "ytmblloddhpcdeac", sum := "3adf5b3603e1f7558ac5197d7823b89ab0c49f29625977bce3c5547cedd041ec", func := "reach/reachlaw1.TernOwn", spec := "ternOwn", apart := false }
def TernOwnSaid : Prop := ternOwnRow.holds Try.pinned (OpenSpec.ofChange ternOwnSpec)

/-- ITS FALSE NEIGHBOUR: 'it returns false'. Refute it at one input. -/
def ternOwnWrong : ChangeSpec := { name := "ternOwn", fn := fun _ => fun
  | [d] => { results := [.lit (.bool false)], args := [d] }
  | _ => none }
def TernOwnWrongFalsely : Prop := ternOwnRow.holds Try.pinned (OpenSpec.ofChange ternOwnWrong)

/- THE SECOND FORM. 'bulk': how many values and letters a reading holds, each counted each time it is reached (what is shared counts as often as it is met; a slice's spare places count too). A statement '..UptoSaid' is the law's where the arguments, and the package variables that the reading takes, are together of bulk at most 1048576: NARROWER than '..Said'. Prove '..Said' where nothing that the law and all that it calls make is longer than what came in: it says more and counts as full. Else prove '..UptoSaid'. A law counts once. -/
mutual
def uptoBulk {H : Type} : DataW H → Nat
  | .lit (.string bytes) => bytes.length + 1
  | .lit _ => 1
  | .nil => 1
  | .ptr d => uptoBulk d + 1
  | .slice elems spare => uptoBulkAll elems + uptoBulkAll spare + 1
  | .agg parts => uptoBulkAll parts + 1
  | .iface _ d => uptoBulk d + 1
  | .map entries => uptoBulkEntries entries + 1
  | .held _ => 1
def uptoBulkAll {H : Type} : List (DataW H) → Nat
  | [] => 0
  | d :: r => uptoBulk d + uptoBulkAll r
def uptoBulkEntries {H : Type} : List (Lit × DataW H) → Nat
  | [] => 0
  | x :: r => uptoBulkEntry x + uptoBulkEntries r
def uptoBulkEntry {H : Type} : Lit × DataW H → Nat
  | (.string bytes, d) => bytes.length + uptoBulk d + 1
  | (_, d) => uptoBulk d + 1
 end
def uptoSmall : (H : Type) → List (DataW H) → Bool := fun _ ds => decide (uptoBulkAll ds ≤ 1048576)
def OpenSpec.upto (s : _root_.Go.ChangeSpec) : _root_.Go.OpenSpec := { _root_.Go.OpenSpec.ofChange s with cond := some uptoSmall }

/-- 'reachlaw1.TernImages', WHERE WHAT IT READS IS OF BULK AT MOST 1048576: true; the input reads as it did. -/
def ternImagesUptoRow : OpenClaim := { program := "ytmblloddhpcdeac", sum := "3adf5b3603e1f7558ac5197d7823b89ab0c49f29625977bce3c5547cedd041ec", func := "reach/reachlaw1.TernImages", spec := "ternImages", apart := false, narrowed := true }
def TernImagesUptoSaid : Prop := ternImagesUptoRow.holds Try.pinned (OpenSpec.upto ternImagesSpec)

/-- 'reachlaw1.TernNested', WHERE WHAT IT READS IS OF BULK AT MOST 1048576: true; the input reads as it did. -/
def ternNestedUptoRow : OpenClaim := { program := "ytmblloddhpcdeac", sum := "3adf5b3603e1f7558ac5197d7823b89ab0c49f29625977bce3c5547cedd041ec", func := "reach/reachlaw1.TernNested", spec := "ternNested", unfollowed := true, recurses := true, apart := false, narrowed := true }
def TernNestedUptoSaid : Prop := ternNestedUptoRow.holds Try.pinned (OpenSpec.upto ternNestedSpec)

/-- 'reachlaw1.TernSplits', WHERE WHAT IT READS IS OF BULK AT MOST 1048576: true; the input reads as it did. -/
def ternSplitsUptoRow : OpenClaim := { program := "ytmblloddhpcdeac", sum := "3adf5b3603e1f7558ac5197d7823b89ab0c49f29625977bce3c5547cedd041ec", func := "reach/reachlaw1.TernSplits", spec := "ternSplits", apart := false, narrowed := true }
def TernSplitsUptoSaid : Prop := ternSplitsUptoRow.holds Try.pinned (OpenSpec.upto ternSplitsSpec)

/-- 'reachlaw1.TernMembers', WHERE WHAT IT READS IS OF BULK AT MOST 1048576: true; the input reads as it did. -/
def ternMembersUptoRow : OpenClaim := { program := "ytmblloddhpcdeac", sum := "3adf5b3603e1f7558ac5197d7823b89ab0c49f29625977bce3c5547cedd041ec", func := "reach/reachlaw1.TernMembers", spec := "ternMembers", unfollowed := true, recurses := true, apart := false, narrowed := true }
def TernMembersUptoSaid : Prop := ternMembersUptoRow.holds Try.pinned (OpenSpec.upto ternMembersSpec)

/-- 'reachlaw1.TernZeros', WHERE WHAT IT READS IS OF BULK AT MOST 1048576: true; the input reads as it did. -/
def ternZerosUptoRow : OpenClaim := { program := "ytmblloddhpcdeac", sum := "3adf5b3603e1f7558ac5197d7823b89ab0c49f29625977bce3c5547cedd041ec", func := "reach/reachlaw1.TernZeros", spec := "ternZeros", unfollowed := true, recurses := true, apart := false, narrowed := true }
def TernZerosUptoSaid : Prop := ternZerosUptoRow.holds Try.pinned (OpenSpec.upto ternZerosSpec)

/-- 'reachlaw1.TernOwn', WHERE WHAT IT READS IS OF BULK AT MOST 1048576: true; the input reads as it did. -/
def ternOwnUptoRow : OpenClaim := { program := "ytmblloddhpcdeac", sum := "3adf5b3603e1f7558ac5197d7823b89ab0c49f29625977bce3c5547cedd041ec", func := "reach/reachlaw1.TernOwn", spec := "ternOwn", apart := false, narrowed := true }
def TernOwnUptoSaid : Prop := ternOwnUptoRow.holds Try.pinned (OpenSpec.upto ternOwnSpec)

end Rows
end Go.Proofs.Ytmblloddhpcdeac
