/-
  DERIVED. GIVEN WITH THE SEED: THE CARDS: each row of YtfhghplplkkpmaaGreatDoorRows.lean that lists a variable, with what it lists TIED to the program's text (the seventh form; the later family's looks); each row that meets fmt, with fmt's text TOLD by the authors' own Lean function (tested against real Go, not proved from fmt's source: count such statements apart). THE CARD IS WHAT COUNTS. Prove the row's statement (the work); the ties are given (YtfhghplplkkpmaaGreatDoorTie.lean); close each card by the builder's one call (the guide's Derived/Test/ToyasCard.lean, 'card_holds'). Laid BY PROGRAM, IN A SANDBOX (cutbox-door.mjs). By AI agents, Wed Nov 11 2026. No macro, syntax, notation, axiom, sorry.
-/
import Derived.Test.YtfhghplplkkpmaaGreatDoorRows
import GoSem.ClaimSeven
namespace Go.Proofs.YtfhghplplkkpmaaGreatDoor
namespace Rows

/-- THE TIED CARD OF 'reachlaw2.SpaceInside'. -/
def spaceInsideCard : Claim7 := { stood := { row := spaceInsideRow, standIns := [], harness := (true, "0b00dc688e21640d5ed2261d677f4e9eb4e7427a4a2df8c6e7c8b99466b0f10a"), looks := true }, kinds := [], alts := [], laidByText := true, laidKinds := [.data, .pinned], laidTests := true, laidLooks := .later }
def SpaceInsideCardSaid : Prop := Claim7.holds Tryz.pinned (.plain (OpenSpec.ofChange spaceInsideSpec)) spaceInsideCard

/-- THE SECOND FORM's CARD OF 'reachlaw2.SpaceInside'. -/
def spaceInsideUptoCard : Claim7 := { stood := { row := spaceInsideUptoRow, standIns := [], harness := (true, "0b00dc688e21640d5ed2261d677f4e9eb4e7427a4a2df8c6e7c8b99466b0f10a"), looks := true }, kinds := [], alts := [], laidByText := true, laidKinds := [.data, .pinned], laidTests := true, laidLooks := .later }
def SpaceInsideUptoCardSaid : Prop := Claim7.holds Tryz.pinned (.plain (OpenSpec.upto spaceInsideSpec)) spaceInsideUptoCard
end Rows
end Go.Proofs.YtfhghplplkkpmaaGreatDoor
