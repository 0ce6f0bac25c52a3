/-
  DERIVED. GIVEN WITH THE SEED: THE CARDS: each row of YthodemljgffogaaGreatDoorRows.lean that lists a variable, with what it lists TIED to the program's text (the seventh form; the later family's looks); each row that meets fmt, with fmt's text TOLD by the authors' own Lean function (tested against real Go, not proved from fmt's source: count such statements apart). THE CARD IS WHAT COUNTS. Prove the row's statement (the work); the ties are given (YthodemljgffogaaGreatDoorTie.lean); close each card by the builder's one call (the guide's Derived/Test/ToyasCard.lean, 'card_holds'). Laid BY PROGRAM, IN A SANDBOX (cutbox-door.mjs). By AI agents, Wed Nov 11 2026. No macro, syntax, notation, axiom, sorry.
-/
import Derived.Test.YthodemljgffogaaGreatDoorRows
import GoSem.ClaimSeven
namespace Go.Proofs.YthodemljgffogaaGreatDoor
namespace Rows

/-- THE TIED CARD OF 'reachlaw2.SpaceMeets'. -/
def spaceMeetsCard : Claim7 := { stood := { row := spaceMeetsRow, standIns := [], harness := (true, "3e5c1bb346dd682bbf0aba1f9bcd766ae16c2cb0c5b0db605ca6c55d575f2807"), looks := true }, kinds := [], alts := [], laidByText := true, laidKinds := [.data, .pinned], laidTests := true, laidLooks := .later }
def SpaceMeetsCardSaid : Prop := Claim7.holds Tryz.pinned (.plain (OpenSpec.ofChange spaceMeetsSpec)) spaceMeetsCard

/-- THE TIED CARD OF 'reachlaw2.SpaceTakes'. -/
def spaceTakesCard : Claim7 := { stood := { row := spaceTakesRow, standIns := [], harness := (true, "3e5c1bb346dd682bbf0aba1f9bcd766ae16c2cb0c5b0db605ca6c55d575f2807"), looks := true }, kinds := [], alts := [], laidByText := true, laidKinds := [.data, .pinned], laidTests := true, laidLooks := .later }
def SpaceTakesCardSaid : Prop := Claim7.holds Tryz.pinned (.plain (OpenSpec.ofChange spaceTakesSpec)) spaceTakesCard

/-- THE SECOND FORM's CARD OF 'reachlaw2.SpaceMeets'. -/
def spaceMeetsUptoCard : Claim7 := { stood := { row := spaceMeetsUptoRow, standIns := [], harness := (true, "3e5c1bb346dd682bbf0aba1f9bcd766ae16c2cb0c5b0db605ca6c55d575f2807"), looks := true }, kinds := [], alts := [], laidByText := true, laidKinds := [.data, .pinned], laidTests := true, laidLooks := .later }
def SpaceMeetsUptoCardSaid : Prop := Claim7.holds Tryz.pinned (.plain (OpenSpec.upto spaceMeetsSpec)) spaceMeetsUptoCard

/-- THE SECOND FORM's CARD OF 'reachlaw2.SpaceTakes'. -/
def spaceTakesUptoCard : Claim7 := { stood := { row := spaceTakesUptoRow, standIns := [], harness := (true, "3e5c1bb346dd682bbf0aba1f9bcd766ae16c2cb0c5b0db605ca6c55d575f2807"), looks := true }, kinds := [], alts := [], laidByText := true, laidKinds := [.data, .pinned], laidTests := true, laidLooks := .later }
def SpaceTakesUptoCardSaid : Prop := Claim7.holds Tryz.pinned (.plain (OpenSpec.upto spaceTakesSpec)) spaceTakesUptoCard
end Rows
end Go.Proofs.YthodemljgffogaaGreatDoor
