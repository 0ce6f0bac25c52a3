/-
  DERIVED. GIVEN WITH THE SEED: THE CARDS: each row of YtcjlmkcccgjihaaDoorRows.lean that lists a variable, with what it lists TIED to the program's text (the seventh form; the later family's looks); each row that meets fmt, with fmt's text TOLD by the authors' own Lean function (tested against real Go, not proved from fmt's source: count such statements apart). THE CARD IS WHAT COUNTS. Prove the row's statement (the work); the ties are given (YtcjlmkcccgjihaaDoorTie.lean); close each card by the builder's one call (the guide's Derived/Test/ToyasCard.lean, 'card_holds'). Laid BY PROGRAM, IN A SANDBOX (cutbox-door.mjs). By AI agents, Wed Nov 11 2026. No macro, syntax, notation, axiom, sorry.
-/
import Derived.Test.YtcjlmkcccgjihaaDoorRows
import GoSem.ClaimSeven
namespace Go.Proofs.YtcjlmkcccgjihaaDoor
namespace Rows

/-- THE TIED CARD OF 'reachlaw4.FieldFewest'. -/
def fieldFewestCard : Claim7 := { stood := { row := fieldFewestRow, standIns := [], harness := (true, "62f457a64f3966253f0cfc52ff85d8c5261c267e8bf1ba2707bcd1bd4b86fdd5"), looks := false }, kinds := [], alts := [], laidByText := true, laidKinds := [.data, .data], laidTests := true, laidLooks := .later }
def FieldFewestCardSaid : Prop := Claim7.holds Tryd.pinned (.plain (OpenSpec.ofChange fieldFewestSpec)) fieldFewestCard

/-- THE TIED CARD OF 'reachlaw4.FieldCovers'. -/
def fieldCoversCard : Claim7 := { stood := { row := fieldCoversRow, standIns := [], harness := (true, "62f457a64f3966253f0cfc52ff85d8c5261c267e8bf1ba2707bcd1bd4b86fdd5"), looks := false }, kinds := [], alts := [], laidByText := true, laidKinds := [.data, .data], laidTests := true, laidLooks := .later }
def FieldCoversCardSaid : Prop := Claim7.holds Tryd.pinned (.plain (OpenSpec.ofChange fieldCoversSpec)) fieldCoversCard

/-- THE SECOND FORM's CARD OF 'reachlaw4.FieldFewest'. -/
def fieldFewestUptoCard : Claim7 := { stood := { row := fieldFewestUptoRow, standIns := [], harness := (true, "62f457a64f3966253f0cfc52ff85d8c5261c267e8bf1ba2707bcd1bd4b86fdd5"), looks := false }, kinds := [], alts := [], laidByText := true, laidKinds := [.data, .data], laidTests := true, laidLooks := .later }
def FieldFewestUptoCardSaid : Prop := Claim7.holds Tryd.pinned (.plain (OpenSpec.upto fieldFewestSpec)) fieldFewestUptoCard

/-- THE SECOND FORM's CARD OF 'reachlaw4.FieldCovers'. -/
def fieldCoversUptoCard : Claim7 := { stood := { row := fieldCoversUptoRow, standIns := [], harness := (true, "62f457a64f3966253f0cfc52ff85d8c5261c267e8bf1ba2707bcd1bd4b86fdd5"), looks := false }, kinds := [], alts := [], laidByText := true, laidKinds := [.data, .data], laidTests := true, laidLooks := .later }
def FieldCoversUptoCardSaid : Prop := Claim7.holds Tryd.pinned (.plain (OpenSpec.upto fieldCoversSpec)) fieldCoversUptoCard
end Rows
end Go.Proofs.YtcjlmkcccgjihaaDoor
