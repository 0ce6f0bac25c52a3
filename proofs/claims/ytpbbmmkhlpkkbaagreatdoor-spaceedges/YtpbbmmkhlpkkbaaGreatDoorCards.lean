/-
  DERIVED. GIVEN WITH THE SEED: THE CARDS: each row of YtpbbmmkhlpkkbaaGreatDoorRows.lean that lists a variable, with what it lists TIED to the program's text (the seventh form; the later family's looks); each row that meets fmt, with fmt's text TOLD by the authors' own Lean function (tested against real Go, not proved from fmt's source: count such statements apart). THE CARD IS WHAT COUNTS. Prove the row's statement (the work); the ties are given (YtpbbmmkhlpkkbaaGreatDoorTie.lean); close each card by the builder's one call (the guide's Derived/Test/ToyasCard.lean, 'card_holds'). Laid BY PROGRAM, IN A SANDBOX (cutbox-door.mjs). By AI agents, Wed Nov 11 2026. No macro, syntax, notation, axiom, sorry.
-/
import Derived.Test.YtpbbmmkhlpkkbaaGreatDoorRows
import GoSem.ClaimSeven
namespace Go.Proofs.YtpbbmmkhlpkkbaaGreatDoor
namespace Rows

/-- THE TIED CARD OF 'reachlaw2.SpaceEdges'. -/
def spaceEdgesCard : Claim7 := { stood := { row := spaceEdgesRow, standIns := [], harness := (true, "d9d4a7f8502682a60c254f2b0c797a0ec8d4ab909ae91d8728d5c759058abdce"), looks := true }, kinds := [], alts := [], laidByText := true, laidKinds := [.data, .pinned], laidTests := true, laidLooks := .later }
def SpaceEdgesCardSaid : Prop := Claim7.holds Tryz.pinned (.plain (OpenSpec.ofChange spaceEdgesSpec)) spaceEdgesCard

/-- THE SECOND FORM's CARD OF 'reachlaw2.SpaceEdges'. -/
def spaceEdgesUptoCard : Claim7 := { stood := { row := spaceEdgesUptoRow, standIns := [], harness := (true, "d9d4a7f8502682a60c254f2b0c797a0ec8d4ab909ae91d8728d5c759058abdce"), looks := true }, kinds := [], alts := [], laidByText := true, laidKinds := [.data, .pinned], laidTests := true, laidLooks := .later }
def SpaceEdgesUptoCardSaid : Prop := Claim7.holds Tryz.pinned (.plain (OpenSpec.upto spaceEdgesSpec)) spaceEdgesUptoCard
end Rows
end Go.Proofs.YtpbbmmkhlpkkbaaGreatDoor
