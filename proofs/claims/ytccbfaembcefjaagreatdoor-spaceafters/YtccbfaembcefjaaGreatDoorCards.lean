/-
  DERIVED. GIVEN WITH THE SEED: THE CARDS: each row of YtccbfaembcefjaaGreatDoorRows.lean that lists a variable, with what it lists TIED to the program's text (the seventh form; the later family's looks); each row that meets fmt, with fmt's text TOLD by the authors' own Lean function (tested against real Go, not proved from fmt's source: count such statements apart). THE CARD IS WHAT COUNTS. Prove the row's statement (the work); the ties are given (YtccbfaembcefjaaGreatDoorTie.lean); close each card by the builder's one call (the guide's Derived/Test/ToyasCard.lean, 'card_holds'). Laid BY PROGRAM, IN A SANDBOX (cutbox-door.mjs). By AI agents, Wed Nov 11 2026. No macro, syntax, notation, axiom, sorry.
-/
import Derived.Test.YtccbfaembcefjaaGreatDoorRows
import GoSem.ClaimSeven
namespace Go.Proofs.YtccbfaembcefjaaGreatDoor
namespace Rows

/-- THE TIED CARD OF 'reachlaw2.SpaceExpands'. -/
def spaceExpandsCard : Claim7 := { stood := { row := spaceExpandsRow, standIns := [], harness := (true, "4d871eb124f8e7c81c7d6a3524d34da8f3eae11504a0a3423c4f42544d67dfe5"), looks := true }, kinds := [], alts := [], laidByText := true, laidKinds := [.data, .pinned], laidTests := true, laidLooks := .later }
def SpaceExpandsCardSaid : Prop := Claim7.holds Tryz.pinned (.plain (OpenSpec.ofChange spaceExpandsSpec)) spaceExpandsCard

/-- THE TIED CARD OF 'reachlaw2.SpaceLeasts'. -/
def spaceLeastsCard : Claim7 := { stood := { row := spaceLeastsRow, standIns := [], harness := (true, "4d871eb124f8e7c81c7d6a3524d34da8f3eae11504a0a3423c4f42544d67dfe5"), looks := true }, kinds := [], alts := [], laidByText := true, laidKinds := [.data, .pinned], laidTests := true, laidLooks := .later }
def SpaceLeastsCardSaid : Prop := Claim7.holds Tryz.pinned (.plain (OpenSpec.ofChange spaceLeastsSpec)) spaceLeastsCard

/-- THE TIED CARD OF 'reachlaw2.SpaceAfters'. -/
def spaceAftersCard : Claim7 := { stood := { row := spaceAftersRow, standIns := [], harness := (true, "4d871eb124f8e7c81c7d6a3524d34da8f3eae11504a0a3423c4f42544d67dfe5"), looks := true }, kinds := [], alts := [], laidByText := true, laidKinds := [.data, .pinned], laidTests := true, laidLooks := .later }
def SpaceAftersCardSaid : Prop := Claim7.holds Tryz.pinned (.plain (OpenSpec.ofChange spaceAftersSpec)) spaceAftersCard

/-- THE TIED CARD OF 'reachlaw2.SpaceWithins'. -/
def spaceWithinsCard : Claim7 := { stood := { row := spaceWithinsRow, standIns := [], harness := (true, "4d871eb124f8e7c81c7d6a3524d34da8f3eae11504a0a3423c4f42544d67dfe5"), looks := true }, kinds := [], alts := [], laidByText := true, laidKinds := [.data, .pinned], laidTests := true, laidLooks := .later }
def SpaceWithinsCardSaid : Prop := Claim7.holds Tryz.pinned (.plain (OpenSpec.ofChange spaceWithinsSpec)) spaceWithinsCard

/-- THE SECOND FORM's CARD OF 'reachlaw2.SpaceExpands'. -/
def spaceExpandsUptoCard : Claim7 := { stood := { row := spaceExpandsUptoRow, standIns := [], harness := (true, "4d871eb124f8e7c81c7d6a3524d34da8f3eae11504a0a3423c4f42544d67dfe5"), looks := true }, kinds := [], alts := [], laidByText := true, laidKinds := [.data, .pinned], laidTests := true, laidLooks := .later }
def SpaceExpandsUptoCardSaid : Prop := Claim7.holds Tryz.pinned (.plain (OpenSpec.upto spaceExpandsSpec)) spaceExpandsUptoCard

/-- THE SECOND FORM's CARD OF 'reachlaw2.SpaceLeasts'. -/
def spaceLeastsUptoCard : Claim7 := { stood := { row := spaceLeastsUptoRow, standIns := [], harness := (true, "4d871eb124f8e7c81c7d6a3524d34da8f3eae11504a0a3423c4f42544d67dfe5"), looks := true }, kinds := [], alts := [], laidByText := true, laidKinds := [.data, .pinned], laidTests := true, laidLooks := .later }
def SpaceLeastsUptoCardSaid : Prop := Claim7.holds Tryz.pinned (.plain (OpenSpec.upto spaceLeastsSpec)) spaceLeastsUptoCard

/-- THE SECOND FORM's CARD OF 'reachlaw2.SpaceAfters'. -/
def spaceAftersUptoCard : Claim7 := { stood := { row := spaceAftersUptoRow, standIns := [], harness := (true, "4d871eb124f8e7c81c7d6a3524d34da8f3eae11504a0a3423c4f42544d67dfe5"), looks := true }, kinds := [], alts := [], laidByText := true, laidKinds := [.data, .pinned], laidTests := true, laidLooks := .later }
def SpaceAftersUptoCardSaid : Prop := Claim7.holds Tryz.pinned (.plain (OpenSpec.upto spaceAftersSpec)) spaceAftersUptoCard

/-- THE SECOND FORM's CARD OF 'reachlaw2.SpaceWithins'. -/
def spaceWithinsUptoCard : Claim7 := { stood := { row := spaceWithinsUptoRow, standIns := [], harness := (true, "4d871eb124f8e7c81c7d6a3524d34da8f3eae11504a0a3423c4f42544d67dfe5"), looks := true }, kinds := [], alts := [], laidByText := true, laidKinds := [.data, .pinned], laidTests := true, laidLooks := .later }
def SpaceWithinsUptoCardSaid : Prop := Claim7.holds Tryz.pinned (.plain (OpenSpec.upto spaceWithinsSpec)) spaceWithinsUptoCard
end Rows
end Go.Proofs.YtccbfaembcefjaaGreatDoor
