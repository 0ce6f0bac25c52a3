/-
  DERIVED. GIVEN WITH THE SEED: THE CARDS: each row of YtnejbldociaapaaGreatDoorRows.lean that lists a variable, with what it lists TIED to the program's text (the seventh form; the later family's looks); each row that meets fmt, with fmt's text TOLD by the authors' own Lean function (tested against real Go, not proved from fmt's source: count such statements apart). THE CARD IS WHAT COUNTS. Prove the row's statement (the work); the ties are given (YtnejbldociaapaaGreatDoorTie.lean); close each card by the builder's one call (the guide's Derived/Test/ToyasCard.lean, 'card_holds'). Laid BY PROGRAM, IN A SANDBOX (cutbox-door.mjs). By AI agents, Wed Nov 11 2026. No macro, syntax, notation, axiom, sorry.
-/
import Derived.Test.YtnejbldociaapaaGreatDoorRows
import GoSem.ClaimSeven
namespace Go.Proofs.YtnejbldociaapaaGreatDoor
namespace Rows

/-- THE TIED CARD OF 'reachlaw2.SpaceForms'. -/
def spaceFormsCard : Claim7 := { stood := { row := spaceFormsRow, standIns := [], harness := (true, "33e8c7034beaa69166bb4102e75fb5ea12fd033231cb14e91d691d88980ee5a6"), looks := true }, kinds := [], alts := [], laidByText := true, laidKinds := [.data, .pinned], laidTests := true, laidLooks := .later }
def SpaceFormsCardSaid : Prop := Claim7.holds Tryz.pinned (.plain (OpenSpec.ofChange spaceFormsSpec)) spaceFormsCard

/-- THE TIED CARD OF 'reachlaw2.SpaceHolds'. -/
def spaceHoldsCard : Claim7 := { stood := { row := spaceHoldsRow, standIns := [], harness := (true, "33e8c7034beaa69166bb4102e75fb5ea12fd033231cb14e91d691d88980ee5a6"), looks := true }, kinds := [], alts := [], laidByText := true, laidKinds := [.data, .pinned], laidTests := true, laidLooks := .later }
def SpaceHoldsCardSaid : Prop := Claim7.holds Tryz.pinned (.plain (OpenSpec.ofChange spaceHoldsSpec)) spaceHoldsCard

/-- THE TIED CARD OF 'reachlaw2.SpaceJoins'. -/
def spaceJoinsCard : Claim7 := { stood := { row := spaceJoinsRow, standIns := [], harness := (true, "33e8c7034beaa69166bb4102e75fb5ea12fd033231cb14e91d691d88980ee5a6"), looks := true }, kinds := [], alts := [], laidByText := true, laidKinds := [.data, .pinned], laidTests := true, laidLooks := .later }
def SpaceJoinsCardSaid : Prop := Claim7.holds Tryz.pinned (.plain (OpenSpec.ofChange spaceJoinsSpec)) spaceJoinsCard

/-- THE SECOND FORM's CARD OF 'reachlaw2.SpaceForms'. -/
def spaceFormsUptoCard : Claim7 := { stood := { row := spaceFormsUptoRow, standIns := [], harness := (true, "33e8c7034beaa69166bb4102e75fb5ea12fd033231cb14e91d691d88980ee5a6"), looks := true }, kinds := [], alts := [], laidByText := true, laidKinds := [.data, .pinned], laidTests := true, laidLooks := .later }
def SpaceFormsUptoCardSaid : Prop := Claim7.holds Tryz.pinned (.plain (OpenSpec.upto spaceFormsSpec)) spaceFormsUptoCard

/-- THE SECOND FORM's CARD OF 'reachlaw2.SpaceHolds'. -/
def spaceHoldsUptoCard : Claim7 := { stood := { row := spaceHoldsUptoRow, standIns := [], harness := (true, "33e8c7034beaa69166bb4102e75fb5ea12fd033231cb14e91d691d88980ee5a6"), looks := true }, kinds := [], alts := [], laidByText := true, laidKinds := [.data, .pinned], laidTests := true, laidLooks := .later }
def SpaceHoldsUptoCardSaid : Prop := Claim7.holds Tryz.pinned (.plain (OpenSpec.upto spaceHoldsSpec)) spaceHoldsUptoCard

/-- THE SECOND FORM's CARD OF 'reachlaw2.SpaceJoins'. -/
def spaceJoinsUptoCard : Claim7 := { stood := { row := spaceJoinsUptoRow, standIns := [], harness := (true, "33e8c7034beaa69166bb4102e75fb5ea12fd033231cb14e91d691d88980ee5a6"), looks := true }, kinds := [], alts := [], laidByText := true, laidKinds := [.data, .pinned], laidTests := true, laidLooks := .later }
def SpaceJoinsUptoCardSaid : Prop := Claim7.holds Tryz.pinned (.plain (OpenSpec.upto spaceJoinsSpec)) spaceJoinsUptoCard
end Rows
end Go.Proofs.YtnejbldociaapaaGreatDoor
