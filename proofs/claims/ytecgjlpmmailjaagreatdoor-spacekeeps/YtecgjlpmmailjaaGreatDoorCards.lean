/-
  DERIVED. GIVEN WITH THE SEED: THE CARDS: each row of YtecgjlpmmailjaaGreatDoorRows.lean that lists a variable, with what it lists TIED to the program's text (the seventh form; the later family's looks); each row that meets fmt, with fmt's text TOLD by the authors' own Lean function (tested against real Go, not proved from fmt's source: count such statements apart). THE CARD IS WHAT COUNTS. Prove the row's statement (the work); the ties are given (YtecgjlpmmailjaaGreatDoorTie.lean); close each card by the builder's one call (the guide's Derived/Test/ToyasCard.lean, 'card_holds'). Laid BY PROGRAM, IN A SANDBOX (cutbox-door.mjs). By AI agents, Wed Nov 11 2026. No macro, syntax, notation, axiom, sorry.
-/
import Derived.Test.YtecgjlpmmailjaaGreatDoorRows
import GoSem.ClaimSeven
namespace Go.Proofs.YtecgjlpmmailjaaGreatDoor
namespace Rows

/-- THE TIED CARD OF 'reachlaw2.SpaceKeeps'. -/
def spaceKeepsCard : Claim7 := { stood := { row := spaceKeepsRow, standIns := [], harness := (true, "312828d2b3b2e43375e619bbb2dcb33ec6133a6e115956a4fcd1c107b990079a"), looks := true }, kinds := [], alts := [], laidByText := true, laidKinds := [.data, .pinned], laidTests := true, laidLooks := .later }
def SpaceKeepsCardSaid : Prop := Claim7.holds Tryz.pinned (.plain (OpenSpec.ofChange spaceKeepsSpec)) spaceKeepsCard

/-- THE SECOND FORM's CARD OF 'reachlaw2.SpaceKeeps'. -/
def spaceKeepsUptoCard : Claim7 := { stood := { row := spaceKeepsUptoRow, standIns := [], harness := (true, "312828d2b3b2e43375e619bbb2dcb33ec6133a6e115956a4fcd1c107b990079a"), looks := true }, kinds := [], alts := [], laidByText := true, laidKinds := [.data, .pinned], laidTests := true, laidLooks := .later }
def SpaceKeepsUptoCardSaid : Prop := Claim7.holds Tryz.pinned (.plain (OpenSpec.upto spaceKeepsSpec)) spaceKeepsUptoCard
end Rows
end Go.Proofs.YtecgjlpmmailjaaGreatDoor
