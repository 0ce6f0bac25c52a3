/-
  DERIVED. GIVEN WITH THE SEED: THE CARDS: each row of YtdkhdkfjadalpaaDoorRows.lean that lists a variable, with what it lists TIED to the program's text (the seventh form; the later family's looks); each row that meets fmt, with fmt's text TOLD by the authors' own Lean function (tested against real Go, not proved from fmt's source: count such statements apart). THE CARD IS WHAT COUNTS. Prove the row's statement (the work); the ties are given (YtdkhdkfjadalpaaDoorTie.lean); close each card by the builder's one call (the guide's Derived/Test/ToyasCard.lean, 'card_holds'). Laid BY PROGRAM, IN A SANDBOX (cutbox-door.mjs). By AI agents, Wed Nov 11 2026. No macro, syntax, notation, axiom, sorry.
-/
import Derived.Test.YtdkhdkfjadalpaaDoorRows
import GoSem.ClaimSeven
namespace Go.Proofs.YtdkhdkfjadalpaaDoor
namespace Rows

/-- THE TIED CARD OF 'reachlaw4.FieldFewest'. -/
def fieldFewestCard : Claim7 := { stood := { row := fieldFewestRow, standIns := [], harness := (true, "a16e712b5cf0c79c1f4766abecf11937d80050d2d2f830642168ecce7f9d9aad"), looks := false }, kinds := [], alts := [], laidByText := true, laidKinds := [.data, .data], laidTests := true, laidLooks := .later }
def FieldFewestCardSaid : Prop := Claim7.holds Tryd.pinned (.plain (OpenSpec.ofChange fieldFewestSpec)) fieldFewestCard

/-- THE SECOND FORM's CARD OF 'reachlaw4.FieldFewest'. -/
def fieldFewestUptoCard : Claim7 := { stood := { row := fieldFewestUptoRow, standIns := [], harness := (true, "a16e712b5cf0c79c1f4766abecf11937d80050d2d2f830642168ecce7f9d9aad"), looks := false }, kinds := [], alts := [], laidByText := true, laidKinds := [.data, .data], laidTests := true, laidLooks := .later }
def FieldFewestUptoCardSaid : Prop := Claim7.holds Tryd.pinned (.plain (OpenSpec.upto fieldFewestSpec)) fieldFewestUptoCard
end Rows
end Go.Proofs.YtdkhdkfjadalpaaDoor
