/-
  DERIVED. GIVEN WITH THE SEED: THE CARDS: each row of YtmdnapognaddbaaGreatDoorRows.lean that lists a variable, with what it lists TIED to the program's text (the seventh form; the later family's looks); each row that meets fmt, with fmt's text TOLD by the authors' own Lean function (tested against real Go, not proved from fmt's source: count such statements apart). THE CARD IS WHAT COUNTS. Prove the row's statement (the work); the ties are given (YtmdnapognaddbaaGreatDoorTie.lean); close each card by the builder's one call (the guide's Derived/Test/ToyasCard.lean, 'card_holds'). Laid BY PROGRAM, IN A SANDBOX (cutbox-door.mjs). By AI agents, Wed Nov 11 2026. No macro, syntax, notation, axiom, sorry.
-/
import Derived.Test.YtmdnapognaddbaaGreatDoorRows
import GoSem.ClaimSeven
namespace Go.Proofs.YtmdnapognaddbaaGreatDoor
namespace Rows

/-- THE TIED CARD OF 'reachlaw2.SpaceWalks'. -/
def spaceWalksCard : Claim7 := { stood := { row := spaceWalksRow, standIns := [], harness := (true, "b0ae3bc58d160421f835ec29b4c9808339e1e87f03dba0f3fa2e1d092ce6d0aa"), looks := true }, kinds := [], alts := [], laidByText := true, laidKinds := [.data, .pinned], laidTests := true, laidLooks := .later }
def SpaceWalksCardSaid : Prop := Claim7.holds Tryz.pinned (.plain (OpenSpec.ofChange spaceWalksSpec)) spaceWalksCard

/-- THE TIED CARD OF 'reachlaw2.SpaceWrites'. -/
def spaceWritesCard : Claim7 := { stood := { row := spaceWritesRow, standIns := [], harness := (true, "b0ae3bc58d160421f835ec29b4c9808339e1e87f03dba0f3fa2e1d092ce6d0aa"), looks := true }, kinds := [], alts := [], laidByText := true, laidKinds := [.data, .pinned], laidTests := true, laidLooks := .later }
def SpaceWritesCardSaid : Prop := Claim7.holds Tryz.pinned (.plain (OpenSpec.ofChange spaceWritesSpec)) spaceWritesCard

/-- THE SECOND FORM's CARD OF 'reachlaw2.SpaceWalks'. -/
def spaceWalksUptoCard : Claim7 := { stood := { row := spaceWalksUptoRow, standIns := [], harness := (true, "b0ae3bc58d160421f835ec29b4c9808339e1e87f03dba0f3fa2e1d092ce6d0aa"), looks := true }, kinds := [], alts := [], laidByText := true, laidKinds := [.data, .pinned], laidTests := true, laidLooks := .later }
def SpaceWalksUptoCardSaid : Prop := Claim7.holds Tryz.pinned (.plain (OpenSpec.upto spaceWalksSpec)) spaceWalksUptoCard

/-- THE SECOND FORM's CARD OF 'reachlaw2.SpaceWrites'. -/
def spaceWritesUptoCard : Claim7 := { stood := { row := spaceWritesUptoRow, standIns := [], harness := (true, "b0ae3bc58d160421f835ec29b4c9808339e1e87f03dba0f3fa2e1d092ce6d0aa"), looks := true }, kinds := [], alts := [], laidByText := true, laidKinds := [.data, .pinned], laidTests := true, laidLooks := .later }
def SpaceWritesUptoCardSaid : Prop := Claim7.holds Tryz.pinned (.plain (OpenSpec.upto spaceWritesSpec)) spaceWritesUptoCard
end Rows
end Go.Proofs.YtmdnapognaddbaaGreatDoor
