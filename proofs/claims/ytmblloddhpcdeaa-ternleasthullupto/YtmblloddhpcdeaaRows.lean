/-
  No cell of these rows narrows 'for every input' (looked for: loops, veiled, ifaces, maps, wideKeys, modest, calm, conditions, laid).
  DERIVED. THE GIVEN ROWS OF THIS SEAT. 6 by the template 'for every input the law returns true; each argument reads behind the call as it read before'; 0 by the template 'total and deterministic' (their statements: YtmblloddhpcdeaaTotals.lean).
  GIVEN WITH THE SEED: the statements are not yours to turn. If you find one false, say at which input.
  Laid BY PROGRAM, IN A SANDBOX (cutbox-rows.mjs): the forced cells as the released guide's own fill.sh prints them over the translation 7bf3238573bc291d… (all of the seat's roots in one cut). By AI agents, Wed Nov 11 2026. No macro, syntax, notation, axiom, sorry.
-/
import Derived.Test.YtmblloddhpcdeaaChecked
import GoSem.Claim
import GoSem.ClaimJoined
import GoSem.ClaimMapViews
import Derived.JoinedTies
import Derived.KernelRfl
namespace Go.Proofs.Ytmblloddhpcdeaa
/- THE CELL 'sum', in the pinned program and in every row, IS THE sha256 OF THE DUMP (.gsa) THAT YtmblloddhpcdeaaProg.lean LOADS. Nothing in Lean hashes anything: it is a label: what it is worth is what the hold of that sum in a sandbox is worth. -/
noncomputable def Try.pinned : Pinned := { name := "ytmblloddhpcdeaa", sum := "7bf3238573bc291d46341170c3a3176ab6ff4ddd73e909dad10f106c72cdf866", checked := Try.checked }
namespace Rows
def none {H : Type} : Left H := { results := [], args := [] }

/-- 'reachlaw1.TernAlls': WHATEVER THE INPUT: true; the input reads as it did. -/
def ternAllsSpec : ChangeSpec := { name := "ternAlls", fn := fun _ => fun
  | [d] => { results := [.lit (.bool true)], args := [d] }
  | _ => none }
def ternAllsRow : OpenClaim := { program := "ytmblloddhpcdeaa", sum := "7bf3238573bc291d46341170c3a3176ab6ff4ddd73e909dad10f106c72cdf866", func := "reach/reachlaw1.TernAlls", spec := "ternAlls", apart := false }
def TernAllsSaid : Prop := ternAllsRow.holds Try.pinned (OpenSpec.ofChange ternAllsSpec)

/-- ITS FALSE NEIGHBOUR: 'it returns false'. Refute it at one input. -/
def ternAllsWrong : ChangeSpec := { name := "ternAlls", fn := fun _ => fun
  | [d] => { results := [.lit (.bool false)], args := [d] }
  | _ => none }
def TernAllsWrongFalsely : Prop := ternAllsRow.holds Try.pinned (OpenSpec.ofChange ternAllsWrong)

/-- 'reachlaw1.TernParses': WHATEVER THE INPUT: true; the input reads as it did. -/
def ternParsesSpec : ChangeSpec := { name := "ternParses", fn := fun _ => fun
  | [d] => { results := [.lit (.bool true)], args := [d] }
  | _ => none }
def ternParsesRow : OpenClaim := { program := "ytmblloddhpcdeaa", sum := "7bf3238573bc291d46341170c3a3176ab6ff4ddd73e909dad10f106c72cdf866", func := "reach/reachlaw1.TernParses", spec := "ternParses", apart := false }
def TernParsesSaid : Prop := ternParsesRow.holds Try.pinned (OpenSpec.ofChange ternParsesSpec)

/-- ITS FALSE NEIGHBOUR: 'it returns false'. Refute it at one input. -/
def ternParsesWrong : ChangeSpec := { name := "ternParses", fn := fun _ => fun
  | [d] => { results := [.lit (.bool false)], args := [d] }
  | _ => none }
def TernParsesWrongFalsely : Prop := ternParsesRow.holds Try.pinned (OpenSpec.ofChange ternParsesWrong)

/-- 'reachlaw1.TernOrder': WHATEVER THE INPUT: true; the input reads as it did. -/
def ternOrderSpec : ChangeSpec := { name := "ternOrder", fn := fun _ => fun
  | [d1, d2, d3] => { results := [.lit (.bool true)], args := [d1, d2, d3] }
  | _ => none }
def ternOrderRow : OpenClaim := { program := "ytmblloddhpcdeaa", sum := "7bf3238573bc291d46341170c3a3176ab6ff4ddd73e909dad10f106c72cdf866", func := "reach/reachlaw1.TernOrder", spec := "ternOrder", apart := false }
def TernOrderSaid : Prop := ternOrderRow.holds Try.pinned (OpenSpec.ofChange ternOrderSpec)

/-- ITS FALSE NEIGHBOUR: 'it returns false'. Refute it at one input. -/
def ternOrderWrong : ChangeSpec := { name := "ternOrder", fn := fun _ => fun
  | [d1, d2, d3] => { results := [.lit (.bool false)], args := [d1, d2, d3] }
  | _ => none }
def TernOrderWrongFalsely : Prop := ternOrderRow.holds Try.pinned (OpenSpec.ofChange ternOrderWrong)

/-- 'reachlaw1.TernHas': WHATEVER THE INPUT: true; the input reads as it did. -/
def ternHasSpec : ChangeSpec := { name := "ternHas", fn := fun _ => fun
  | [d1, d2] => { results := [.lit (.bool true)], args := [d1, d2] }
  | _ => none }
def ternHasRow : OpenClaim := { program := "ytmblloddhpcdeaa", sum := "7bf3238573bc291d46341170c3a3176ab6ff4ddd73e909dad10f106c72cdf866", func := "reach/reachlaw1.TernHas", spec := "ternHas", apart := false }
def TernHasSaid : Prop := ternHasRow.holds Try.pinned (OpenSpec.ofChange ternHasSpec)

/-- ITS FALSE NEIGHBOUR: 'it returns false'. Refute it at one input. -/
def ternHasWrong : ChangeSpec := { name := "ternHas", fn := fun _ => fun
  | [d1, d2] => { results := [.lit (.bool false)], args := [d1, d2] }
  | _ => none }
def TernHasWrongFalsely : Prop := ternHasRow.holds Try.pinned (OpenSpec.ofChange ternHasWrong)

/-- 'reachlaw1.TernLeastHull': WHATEVER THE INPUT: true; the input reads as it did. -/
def ternLeastHullSpec : ChangeSpec := { name := "ternLeastHull", fn := fun _ => fun
  | [d1, d2, d3] => { results := [.lit (.bool true)], args := [d1, d2, d3] }
  | _ => none }
def ternLeastHullRow : OpenClaim := { program := "ytmblloddhpcdeaa", sum := "7bf3238573bc291d46341170c3a3176ab6ff4ddd73e909dad10f106c72cdf866", func := "reach/reachlaw1.TernLeastHull", spec := "ternLeastHull", apart := false }
def TernLeastHullSaid : Prop := ternLeastHullRow.holds Try.pinned (OpenSpec.ofChange ternLeastHullSpec)

/-- ITS FALSE NEIGHBOUR: 'it returns false'. Refute it at one input. -/
def ternLeastHullWrong : ChangeSpec := { name := "ternLeastHull", fn := fun _ => fun
  | [d1, d2, d3] => { results := [.lit (.bool false)], args := [d1, d2, d3] }
  | _ => none }
def TernLeastHullWrongFalsely : Prop := ternLeastHullRow.holds Try.pinned (OpenSpec.ofChange ternLeastHullWrong)

/-- 'reachlaw1.TernHulls': WHATEVER THE INPUT: true; the input reads as it did. -/
def ternHullsSpec : ChangeSpec := { name := "ternHulls", fn := fun _ => fun
  | [d1, d2] => { results := [.lit (.bool true)], args := [d1, d2] }
  | _ => none }
def ternHullsRow : OpenClaim := { program := "ytmblloddhpcdeaa", sum := "7bf3238573bc291d46341170c3a3176ab6ff4ddd73e909dad10f106c72cdf866", func := "reach/reachlaw1.TernHulls", spec := "ternHulls", apart := false }
def TernHullsSaid : Prop := ternHullsRow.holds Try.pinned (OpenSpec.ofChange ternHullsSpec)

/-- ITS FALSE NEIGHBOUR: 'it returns false'. Refute it at one input. -/
def ternHullsWrong : ChangeSpec := { name := "ternHulls", fn := fun _ => fun
  | [d1, d2] => { results := [.lit (.bool false)], args := [d1, d2] }
  | _ => none }
def TernHullsWrongFalsely : Prop := ternHullsRow.holds Try.pinned (OpenSpec.ofChange ternHullsWrong)

/- THE SECOND FORM. 'bulk': how many values and letters a reading holds, each counted each time it is reached (what is shared counts as often as it is met; a slice's spare places count too). A statement '..UptoSaid' is the law's where the arguments, and the package variables that the reading takes, are together of bulk at most 1048576: NARROWER than '..Said'. Prove '..Said' where nothing that the law and all that it calls make is longer than what came in: it says more and counts as full. Else prove '..UptoSaid'. A law counts once. -/
mutual
def uptoBulk {H : Type} : DataW H → Nat
  | .lit (.string bytes) => bytes.length + 1
  | .lit _ => 1
  | .nil => 1
  | .ptr d => uptoBulk d + 1
  | .slice elems spare => uptoBulkAll elems + uptoBulkAll spare + 1
  | .agg parts => uptoBulkAll parts + 1
  | .iface _ d => uptoBulk d + 1
  | .map entries => uptoBulkEntries entries + 1
  | .held _ => 1
def uptoBulkAll {H : Type} : List (DataW H) → Nat
  | [] => 0
  | d :: r => uptoBulk d + uptoBulkAll r
def uptoBulkEntries {H : Type} : List (Lit × DataW H) → Nat
  | [] => 0
  | x :: r => uptoBulkEntry x + uptoBulkEntries r
def uptoBulkEntry {H : Type} : Lit × DataW H → Nat
  | (.string bytes, d) => bytes.length + uptoBulk d + 1
  | (_, d) => uptoBulk d + 1
 end
def uptoSmall : (H : Type) → List (DataW H) → Bool := fun _ ds => decide (uptoBulkAll ds ≤ 1048576)
def OpenSpec.upto (s : _root_.Go.ChangeSpec) : _root_.Go.OpenSpec := { _root_.Go.OpenSpec.ofChange s with cond := some uptoSmall }

/-- 'reachlaw1.TernAlls', WHERE WHAT IT READS IS OF BULK AT MOST 1048576: true; the input reads as it did. -/
def ternAllsUptoRow : OpenClaim := { program := "ytmblloddhpcdeaa", sum := "7bf3238573bc291d46341170c3a3176ab6ff4ddd73e909dad10f106c72cdf866", func := "reach/reachlaw1.TernAlls", spec := "ternAlls", apart := false, narrowed := true }
def TernAllsUptoSaid : Prop := ternAllsUptoRow.holds Try.pinned (OpenSpec.upto ternAllsSpec)

/-- 'reachlaw1.TernParses', WHERE WHAT IT READS IS OF BULK AT MOST 1048576: true; the input reads as it did. -/
def ternParsesUptoRow : OpenClaim := { program := "ytmblloddhpcdeaa", sum := "7bf3238573bc291d46341170c3a3176ab6ff4ddd73e909dad10f106c72cdf866", func := "reach/reachlaw1.TernParses", spec := "ternParses", apart := false, narrowed := true }
def TernParsesUptoSaid : Prop := ternParsesUptoRow.holds Try.pinned (OpenSpec.upto ternParsesSpec)

/-- 'reachlaw1.TernOrder', WHERE WHAT IT READS IS OF BULK AT MOST 1048576: true; the input reads as it did. -/
def ternOrderUptoRow : OpenClaim := { program := "ytmblloddhpcdeaa", sum := "7bf3238573bc291d46341170c3a3176ab6ff4ddd73e909dad10f106c72cdf866", func := "reach/reachlaw1.TernOrder", spec := "ternOrder", apart := false, narrowed := true }
def TernOrderUptoSaid : Prop := ternOrderUptoRow.holds Try.pinned (OpenSpec.upto ternOrderSpec)

/-- 'reachlaw1.TernHas', WHERE WHAT IT READS IS OF BULK AT MOST 1048576: true; the input reads as it did. -/
def ternHasUptoRow : OpenClaim := { program := "ytmblloddhpcdeaa", sum := "7bf3238573bc291d46341170c3a3176ab6ff4ddd73e909dad10f106c72cdf866", func := "reach/reachlaw1.TernHas", spec := "ternHas", apart := false, narrowed := true }
def TernHasUptoSaid : Prop := ternHasUptoRow.holds Try.pinned (OpenSpec.upto ternHasSpec)

/-- 'reachlaw1.TernLeastHull', WHERE WHAT IT READS IS OF BULK AT MOST 1048576: true; the input reads as it did. -/
def ternLeastHullUptoRow : OpenClaim := { program := "ytmblloddhpcdeaa", sum := "7bf3238573bc291d46341170c3a3176ab6ff4ddd73e909dad10f106c72cdf866", func := "reach/reachlaw1.TernLeastHull", spec := "ternLeastHull", apart := false, narrowed := true }
def TernLeastHullUptoSaid : Prop := ternLeastHullUptoRow.holds Try.pinned (OpenSpec.upto ternLeastHullSpec)

/-- 'reachlaw1.TernHulls', WHERE WHAT IT READS IS OF BULK AT MOST 1048576: true; the input reads as it did. -/
def ternHullsUptoRow : OpenClaim := { program := "ytmblloddhpcdeaa", sum := "7bf3238573bc291d46341170c3a3176ab6ff4ddd73e909dad10f106c72cdf866", func := "reach/reachlaw1.TernHulls", spec := "ternHulls", apart := false, narrowed := true }
def TernHullsUptoSaid : Prop := ternHullsUptoRow.holds Try.pinned (OpenSpec.upto ternHullsSpec)

end Rows
end Go.Proofs.Ytmblloddhpcdeaa
