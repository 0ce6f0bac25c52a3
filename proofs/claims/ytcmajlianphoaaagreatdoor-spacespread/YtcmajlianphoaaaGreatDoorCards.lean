/-
  DERIVED. GIVEN WITH THE SEED: THE CARDS: each row of YtcmajlianphoaaaGreatDoorRows.lean that lists a variable, with what it lists TIED to the program's text (the seventh form; the later family's looks); each row that meets fmt, with fmt's text TOLD by the authors' own Lean function (tested against real Go, not proved from fmt's source: count such statements apart). THE CARD IS WHAT COUNTS. Prove the row's statement (the work); the ties are given (YtcmajlianphoaaaGreatDoorTie.lean); close each card by the builder's one call (the guide's Derived/Test/ToyasCard.lean, 'card_holds'). Laid BY PROGRAM, IN A SANDBOX (cutbox-door.mjs). By AI agents, Wed Nov 11 2026. No macro, syntax, notation, axiom, sorry.
-/
import Derived.Test.YtcmajlianphoaaaGreatDoorRows
import GoSem.ClaimSeven
namespace Go.Proofs.YtcmajlianphoaaaGreatDoor
namespace Rows

/-- THE TIED CARD OF 'reachlaw2.SpaceSpread'. -/
def spaceSpreadCard : Claim7 := { stood := { row := spaceSpreadRow, standIns := [], harness := (true, "8c708103b68415d4cac221c015573adf7dba2f6eece354b7bffd20fd4ff253f8"), looks := true }, kinds := [], alts := [], laidByText := true, laidKinds := [.data, .pinned], laidTests := true, laidLooks := .later }
def SpaceSpreadCardSaid : Prop := Claim7.holds Tryz.pinned (.plain (OpenSpec.ofChange spaceSpreadSpec)) spaceSpreadCard

/-- THE TIED CARD OF 'reachlaw2.SpaceWalks'. -/
def spaceWalksCard : Claim7 := { stood := { row := spaceWalksRow, standIns := [], harness := (true, "8c708103b68415d4cac221c015573adf7dba2f6eece354b7bffd20fd4ff253f8"), looks := true }, kinds := [], alts := [], laidByText := true, laidKinds := [.data, .pinned], laidTests := true, laidLooks := .later }
def SpaceWalksCardSaid : Prop := Claim7.holds Tryz.pinned (.plain (OpenSpec.ofChange spaceWalksSpec)) spaceWalksCard

/-- THE SECOND FORM's CARD OF 'reachlaw2.SpaceSpread'. -/
def spaceSpreadUptoCard : Claim7 := { stood := { row := spaceSpreadUptoRow, standIns := [], harness := (true, "8c708103b68415d4cac221c015573adf7dba2f6eece354b7bffd20fd4ff253f8"), looks := true }, kinds := [], alts := [], laidByText := true, laidKinds := [.data, .pinned], laidTests := true, laidLooks := .later }
def SpaceSpreadUptoCardSaid : Prop := Claim7.holds Tryz.pinned (.plain (OpenSpec.upto spaceSpreadSpec)) spaceSpreadUptoCard

/-- THE SECOND FORM's CARD OF 'reachlaw2.SpaceWalks'. -/
def spaceWalksUptoCard : Claim7 := { stood := { row := spaceWalksUptoRow, standIns := [], harness := (true, "8c708103b68415d4cac221c015573adf7dba2f6eece354b7bffd20fd4ff253f8"), looks := true }, kinds := [], alts := [], laidByText := true, laidKinds := [.data, .pinned], laidTests := true, laidLooks := .later }
def SpaceWalksUptoCardSaid : Prop := Claim7.holds Tryz.pinned (.plain (OpenSpec.upto spaceWalksSpec)) spaceWalksUptoCard
end Rows
end Go.Proofs.YtcmajlianphoaaaGreatDoor
