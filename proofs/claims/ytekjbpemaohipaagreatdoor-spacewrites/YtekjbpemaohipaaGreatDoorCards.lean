/-
  DERIVED. GIVEN WITH THE SEED: THE CARDS: each row of YtekjbpemaohipaaGreatDoorRows.lean that lists a variable, with what it lists TIED to the program's text (the seventh form; the later family's looks); each row that meets fmt, with fmt's text TOLD by the authors' own Lean function (tested against real Go, not proved from fmt's source: count such statements apart). THE CARD IS WHAT COUNTS. Prove the row's statement (the work); the ties are given (YtekjbpemaohipaaGreatDoorTie.lean); close each card by the builder's one call (the guide's Derived/Test/ToyasCard.lean, 'card_holds'). Laid BY PROGRAM, IN A SANDBOX (cutbox-door.mjs). By AI agents, Wed Nov 11 2026. No macro, syntax, notation, axiom, sorry.
-/
import Derived.Test.YtekjbpemaohipaaGreatDoorRows
import GoSem.ClaimSeven
namespace Go.Proofs.YtekjbpemaohipaaGreatDoor
namespace Rows

/-- THE TIED CARD OF 'reachlaw2.SpaceWrites'. -/
def spaceWritesCard : Claim7 := { stood := { row := spaceWritesRow, standIns := [], harness := (true, "fe07b8f65a1eb2c5bff86f4b5de0a2ab9428c61ff9d8e23f9d62266ff2149709"), looks := true }, kinds := [], alts := [], laidByText := true, laidKinds := [.data, .pinned], laidTests := true, laidLooks := .later }
def SpaceWritesCardSaid : Prop := Claim7.holds Tryz.pinned (.plain (OpenSpec.ofChange spaceWritesSpec)) spaceWritesCard

/-- THE SECOND FORM's CARD OF 'reachlaw2.SpaceWrites'. -/
def spaceWritesUptoCard : Claim7 := { stood := { row := spaceWritesUptoRow, standIns := [], harness := (true, "fe07b8f65a1eb2c5bff86f4b5de0a2ab9428c61ff9d8e23f9d62266ff2149709"), looks := true }, kinds := [], alts := [], laidByText := true, laidKinds := [.data, .pinned], laidTests := true, laidLooks := .later }
def SpaceWritesUptoCardSaid : Prop := Claim7.holds Tryz.pinned (.plain (OpenSpec.upto spaceWritesSpec)) spaceWritesUptoCard
end Rows
end Go.Proofs.YtekjbpemaohipaaGreatDoor
