/-
  NARROWER THAN 'FOR EVERY INPUT', by the rows' own cells (each row's printed sentence says how): SpaceExpands: laid · SpaceLeasts: laid · SpaceAfters: laid · SpaceWithins: laid.
  DERIVED. THE GIVEN ROWS OF THIS SEAT. 4 by the template 'for every input the law returns true; each argument reads behind the call as it read before'; 0 by the template 'total and deterministic' (their statements: YtccbfaembcefjaaGreatDoorTotals.lean).
  GIVEN WITH THE SEED: the statements are not yours to turn. If you find one false, say at which input.
  Laid BY PROGRAM, IN A SANDBOX (cutbox-rows.mjs): the forced cells as the released guide's own fill.sh prints them over the translation 3689e2b7dbfdb9ad… (all of the seat's roots in one cut). By AI agents, Wed Nov 11 2026. No macro, syntax, notation, axiom, sorry.
-/
import Derived.Test.YtccbfaembcefjaaGreatDoorChecked
import GoSem.PinnedTables
import GoSem.Claim
import GoSem.ClaimJoined
import GoSem.ClaimMapViews
import Derived.JoinedTies
import Derived.KernelRfl
namespace Go.Proofs.YtccbfaembcefjaaGreatDoor
/- THE CELL 'sum', in the pinned program and in every row, IS THE sha256 OF THE DUMP (.gsa) THAT YtccbfaembcefjaaGreatDoorProg.lean LOADS. Nothing in Lean hashes anything: it is a label: what it is worth is what the hold of that sum in a sandbox is worth. -/
noncomputable def Tryz.pinned : Pinned := { name := "ytccbfaembcefjaagreatdoor", sum := "3689e2b7dbfdb9adbdadd4a50658bd9e6fb79c174232c3dd4f2b59a96153b74b", checked := Tryz.checked }
namespace Rows
def none {H : Type} : Left H := { results := [], args := [] }

/- WHAT THE LISTED PACKAGE-LEVEL VARIABLES READ AS WHEN THE CALL BEGINS. Each datum BY PROGRAM (the guide's laid-datum.mjs) off the statement by which the dump's own 'gosem.cut.vars' lays the variable. In a bare row this is a premise. The card (YtccbfaembcefjaaGreatDoorCards.lean) ties it to the program's text. -/
def laid_unicode_utf8_acceptRanges {H : Type} : DataW H := .agg [.agg [.lit (.int .u8 128), .lit (.int .u8 191)], .agg [.lit (.int .u8 160), .lit (.int .u8 191)], .agg [.lit (.int .u8 128), .lit (.int .u8 159)], .agg [.lit (.int .u8 144), .lit (.int .u8 191)], .agg [.lit (.int .u8 128), .lit (.int .u8 143)], .agg [.lit (.int .u8 0), .lit (.int .u8 0)], .agg [.lit (.int .u8 0), .lit (.int .u8 0)], .agg [.lit (.int .u8 0), .lit (.int .u8 0)], .agg [.lit (.int .u8 0), .lit (.int .u8 0)], .agg [.lit (.int .u8 0), .lit (.int .u8 0)], .agg [.lit (.int .u8 0), .lit (.int .u8 0)], .agg [.lit (.int .u8 0), .lit (.int .u8 0)], .agg [.lit (.int .u8 0), .lit (.int .u8 0)], .agg [.lit (.int .u8 0), .lit (.int .u8 0)], .agg [.lit (.int .u8 0), .lit (.int .u8 0)], .agg [.lit (.int .u8 0), .lit (.int .u8 0)]]
/-- One of Go's own tables, pinned by name: the form's constant. -/
def laid_unicode_utf8_first : DataW Unit := Go.Pinned.utf8First

/-- 'reachlaw2.SpaceExpands': WHATEVER THE INPUT: true; the input reads as it did. -/
def spaceExpandsSpec : ChangeSpec := { name := "spaceExpands", fn := fun _ => fun
  | [d1, d2, d3] => { results := [.lit (.bool true)], args := [d1, d2, d3] }
  | _ => none }
def spaceExpandsRow : OpenClaim := { program := "ytccbfaembcefjaagreatdoor", sum := "3689e2b7dbfdb9adbdadd4a50658bd9e6fb79c174232c3dd4f2b59a96153b74b", func := "reach/reachlaw2.SpaceExpands", spec := "spaceExpands", inPlace := ["internal/bytealg.IndexByteString", "internal/bytealg.IndexString", "internal/bytealg.abigen_runtime_cmpstring", "internal/abi.NoEscape"], unfollowed := true, recurses := true, named := ["unicode/utf8.first", "unicode/utf8.acceptRanges", "internal/bytealg.MaxLen"], apart := false, laid := [("unicode/utf8.acceptRanges", laid_unicode_utf8_acceptRanges), ("unicode/utf8.first", laid_unicode_utf8_first)] }
def SpaceExpandsSaid : Prop := spaceExpandsRow.holds Tryz.pinned (OpenSpec.ofChange spaceExpandsSpec)

/-- ITS FALSE NEIGHBOUR: 'it returns false'. Refute it at one input. -/
def spaceExpandsWrong : ChangeSpec := { name := "spaceExpands", fn := fun _ => fun
  | [d1, d2, d3] => { results := [.lit (.bool false)], args := [d1, d2, d3] }
  | _ => none }
def SpaceExpandsWrongFalsely : Prop := spaceExpandsRow.holds Tryz.pinned (OpenSpec.ofChange spaceExpandsWrong)

/-- 'reachlaw2.SpaceLeasts': WHATEVER THE INPUT: true; the input reads as it did. -/
def spaceLeastsSpec : ChangeSpec := { name := "spaceLeasts", fn := fun _ => fun
  | [d1, d2, d3] => { results := [.lit (.bool true)], args := [d1, d2, d3] }
  | _ => none }
def spaceLeastsRow : OpenClaim := { program := "ytccbfaembcefjaagreatdoor", sum := "3689e2b7dbfdb9adbdadd4a50658bd9e6fb79c174232c3dd4f2b59a96153b74b", func := "reach/reachlaw2.SpaceLeasts", spec := "spaceLeasts", inPlace := ["internal/bytealg.IndexByteString", "internal/bytealg.IndexString", "internal/bytealg.abigen_runtime_cmpstring", "internal/abi.NoEscape", "internal/bytealg.MakeNoZero"], unfollowed := true, recurses := true, named := ["unicode/utf8.first", "unicode/utf8.acceptRanges", "internal/bytealg.MaxLen"], apart := false, laid := [("unicode/utf8.acceptRanges", laid_unicode_utf8_acceptRanges), ("unicode/utf8.first", laid_unicode_utf8_first)] }
def SpaceLeastsSaid : Prop := spaceLeastsRow.holds Tryz.pinned (OpenSpec.ofChange spaceLeastsSpec)

/-- ITS FALSE NEIGHBOUR: 'it returns false'. Refute it at one input. -/
def spaceLeastsWrong : ChangeSpec := { name := "spaceLeasts", fn := fun _ => fun
  | [d1, d2, d3] => { results := [.lit (.bool false)], args := [d1, d2, d3] }
  | _ => none }
def SpaceLeastsWrongFalsely : Prop := spaceLeastsRow.holds Tryz.pinned (OpenSpec.ofChange spaceLeastsWrong)

/-- 'reachlaw2.SpaceAfters': WHATEVER THE INPUT: true; the input reads as it did. -/
def spaceAftersSpec : ChangeSpec := { name := "spaceAfters", fn := fun _ => fun
  | [d1, d2, d3, d4] => { results := [.lit (.bool true)], args := [d1, d2, d3, d4] }
  | _ => none }
def spaceAftersRow : OpenClaim := { program := "ytccbfaembcefjaagreatdoor", sum := "3689e2b7dbfdb9adbdadd4a50658bd9e6fb79c174232c3dd4f2b59a96153b74b", func := "reach/reachlaw2.SpaceAfters", spec := "spaceAfters", inPlace := ["internal/bytealg.IndexByteString", "internal/bytealg.IndexString", "internal/bytealg.abigen_runtime_cmpstring", "internal/abi.NoEscape"], unfollowed := true, recurses := true, named := ["unicode/utf8.first", "unicode/utf8.acceptRanges", "internal/bytealg.MaxLen"], apart := false, laid := [("unicode/utf8.acceptRanges", laid_unicode_utf8_acceptRanges), ("unicode/utf8.first", laid_unicode_utf8_first)] }
def SpaceAftersSaid : Prop := spaceAftersRow.holds Tryz.pinned (OpenSpec.ofChange spaceAftersSpec)

/-- ITS FALSE NEIGHBOUR: 'it returns false'. Refute it at one input. -/
def spaceAftersWrong : ChangeSpec := { name := "spaceAfters", fn := fun _ => fun
  | [d1, d2, d3, d4] => { results := [.lit (.bool false)], args := [d1, d2, d3, d4] }
  | _ => none }
def SpaceAftersWrongFalsely : Prop := spaceAftersRow.holds Tryz.pinned (OpenSpec.ofChange spaceAftersWrong)

/-- 'reachlaw2.SpaceWithins': WHATEVER THE INPUT: true; the input reads as it did. -/
def spaceWithinsSpec : ChangeSpec := { name := "spaceWithins", fn := fun _ => fun
  | [d1, d2, d3, d4, d5] => { results := [.lit (.bool true)], args := [d1, d2, d3, d4, d5] }
  | _ => none }
def spaceWithinsRow : OpenClaim := { program := "ytccbfaembcefjaagreatdoor", sum := "3689e2b7dbfdb9adbdadd4a50658bd9e6fb79c174232c3dd4f2b59a96153b74b", func := "reach/reachlaw2.SpaceWithins", spec := "spaceWithins", inPlace := ["internal/bytealg.IndexByteString", "internal/bytealg.IndexString", "internal/bytealg.abigen_runtime_cmpstring", "internal/abi.NoEscape"], unfollowed := true, recurses := true, named := ["unicode/utf8.first", "unicode/utf8.acceptRanges", "internal/bytealg.MaxLen"], apart := false, laid := [("unicode/utf8.acceptRanges", laid_unicode_utf8_acceptRanges), ("unicode/utf8.first", laid_unicode_utf8_first)] }
def SpaceWithinsSaid : Prop := spaceWithinsRow.holds Tryz.pinned (OpenSpec.ofChange spaceWithinsSpec)

/-- ITS FALSE NEIGHBOUR: 'it returns false'. Refute it at one input. -/
def spaceWithinsWrong : ChangeSpec := { name := "spaceWithins", fn := fun _ => fun
  | [d1, d2, d3, d4, d5] => { results := [.lit (.bool false)], args := [d1, d2, d3, d4, d5] }
  | _ => none }
def SpaceWithinsWrongFalsely : Prop := spaceWithinsRow.holds Tryz.pinned (OpenSpec.ofChange spaceWithinsWrong)

/- THE SECOND FORM. 'bulk': how many values and letters a reading holds, each counted each time it is reached (what is shared counts as often as it is met; a slice's spare places count too). A statement '..UptoSaid' is the law's where the arguments, and the package variables that the reading takes, are together of bulk at most 1048576: NARROWER than '..Said'. Prove '..Said' where nothing that the law and all that it calls make is longer than what came in: it says more and counts as full. Else prove '..UptoSaid'. A law counts once. -/
mutual
def uptoBulk {H : Type} : DataW H → Nat
  | .lit (.string bytes) => bytes.length + 1
  | .lit _ => 1
  | .nil => 1
  | .ptr d => uptoBulk d + 1
  | .slice elems spare => uptoBulkAll elems + uptoBulkAll spare + 1
  | .agg parts => uptoBulkAll parts + 1
  | .iface _ d => uptoBulk d + 1
  | .map entries => uptoBulkEntries entries + 1
  | .held _ => 1
def uptoBulkAll {H : Type} : List (DataW H) → Nat
  | [] => 0
  | d :: r => uptoBulk d + uptoBulkAll r
def uptoBulkEntries {H : Type} : List (Lit × DataW H) → Nat
  | [] => 0
  | x :: r => uptoBulkEntry x + uptoBulkEntries r
def uptoBulkEntry {H : Type} : Lit × DataW H → Nat
  | (.string bytes, d) => bytes.length + uptoBulk d + 1
  | (_, d) => uptoBulk d + 1
 end
def uptoSmall : (H : Type) → List (DataW H) → Bool := fun _ ds => decide (uptoBulkAll ds ≤ 1048576)
def OpenSpec.upto (s : _root_.Go.ChangeSpec) : _root_.Go.OpenSpec := { _root_.Go.OpenSpec.ofChange s with cond := some uptoSmall }

/-- 'reachlaw2.SpaceExpands', WHERE WHAT IT READS IS OF BULK AT MOST 1048576: true; the input reads as it did. -/
def spaceExpandsUptoRow : OpenClaim := { program := "ytccbfaembcefjaagreatdoor", sum := "3689e2b7dbfdb9adbdadd4a50658bd9e6fb79c174232c3dd4f2b59a96153b74b", func := "reach/reachlaw2.SpaceExpands", spec := "spaceExpands", inPlace := ["internal/bytealg.IndexByteString", "internal/bytealg.IndexString", "internal/bytealg.abigen_runtime_cmpstring", "internal/abi.NoEscape"], unfollowed := true, recurses := true, named := ["unicode/utf8.first", "unicode/utf8.acceptRanges", "internal/bytealg.MaxLen"], apart := false, laid := [("unicode/utf8.acceptRanges", laid_unicode_utf8_acceptRanges), ("unicode/utf8.first", laid_unicode_utf8_first)], narrowed := true }
def SpaceExpandsUptoSaid : Prop := spaceExpandsUptoRow.holds Tryz.pinned (OpenSpec.upto spaceExpandsSpec)

/-- 'reachlaw2.SpaceLeasts', WHERE WHAT IT READS IS OF BULK AT MOST 1048576: true; the input reads as it did. -/
def spaceLeastsUptoRow : OpenClaim := { program := "ytccbfaembcefjaagreatdoor", sum := "3689e2b7dbfdb9adbdadd4a50658bd9e6fb79c174232c3dd4f2b59a96153b74b", func := "reach/reachlaw2.SpaceLeasts", spec := "spaceLeasts", inPlace := ["internal/bytealg.IndexByteString", "internal/bytealg.IndexString", "internal/bytealg.abigen_runtime_cmpstring", "internal/abi.NoEscape", "internal/bytealg.MakeNoZero"], unfollowed := true, recurses := true, named := ["unicode/utf8.first", "unicode/utf8.acceptRanges", "internal/bytealg.MaxLen"], apart := false, laid := [("unicode/utf8.acceptRanges", laid_unicode_utf8_acceptRanges), ("unicode/utf8.first", laid_unicode_utf8_first)], narrowed := true }
def SpaceLeastsUptoSaid : Prop := spaceLeastsUptoRow.holds Tryz.pinned (OpenSpec.upto spaceLeastsSpec)

/-- 'reachlaw2.SpaceAfters', WHERE WHAT IT READS IS OF BULK AT MOST 1048576: true; the input reads as it did. -/
def spaceAftersUptoRow : OpenClaim := { program := "ytccbfaembcefjaagreatdoor", sum := "3689e2b7dbfdb9adbdadd4a50658bd9e6fb79c174232c3dd4f2b59a96153b74b", func := "reach/reachlaw2.SpaceAfters", spec := "spaceAfters", inPlace := ["internal/bytealg.IndexByteString", "internal/bytealg.IndexString", "internal/bytealg.abigen_runtime_cmpstring", "internal/abi.NoEscape"], unfollowed := true, recurses := true, named := ["unicode/utf8.first", "unicode/utf8.acceptRanges", "internal/bytealg.MaxLen"], apart := false, laid := [("unicode/utf8.acceptRanges", laid_unicode_utf8_acceptRanges), ("unicode/utf8.first", laid_unicode_utf8_first)], narrowed := true }
def SpaceAftersUptoSaid : Prop := spaceAftersUptoRow.holds Tryz.pinned (OpenSpec.upto spaceAftersSpec)

/-- 'reachlaw2.SpaceWithins', WHERE WHAT IT READS IS OF BULK AT MOST 1048576: true; the input reads as it did. -/
def spaceWithinsUptoRow : OpenClaim := { program := "ytccbfaembcefjaagreatdoor", sum := "3689e2b7dbfdb9adbdadd4a50658bd9e6fb79c174232c3dd4f2b59a96153b74b", func := "reach/reachlaw2.SpaceWithins", spec := "spaceWithins", inPlace := ["internal/bytealg.IndexByteString", "internal/bytealg.IndexString", "internal/bytealg.abigen_runtime_cmpstring", "internal/abi.NoEscape"], unfollowed := true, recurses := true, named := ["unicode/utf8.first", "unicode/utf8.acceptRanges", "internal/bytealg.MaxLen"], apart := false, laid := [("unicode/utf8.acceptRanges", laid_unicode_utf8_acceptRanges), ("unicode/utf8.first", laid_unicode_utf8_first)], narrowed := true }
def SpaceWithinsUptoSaid : Prop := spaceWithinsUptoRow.holds Tryz.pinned (OpenSpec.upto spaceWithinsSpec)

end Rows
end Go.Proofs.YtccbfaembcefjaaGreatDoor
