/-
  DERIVED. GIVEN WITH THE SEED: THE CARDS: each row of YtkcbkeimbpopcaaGreatDoorRows.lean that lists a variable, with what it lists TIED to the program's text (the seventh form; the later family's looks); each row that meets fmt, with fmt's text TOLD by the authors' own Lean function (tested against real Go, not proved from fmt's source: count such statements apart). THE CARD IS WHAT COUNTS. Prove the row's statement (the work); the ties are given (YtkcbkeimbpopcaaGreatDoorTie.lean); close each card by the builder's one call (the guide's Derived/Test/ToyasCard.lean, 'card_holds'). Laid BY PROGRAM, IN A SANDBOX (cutbox-door.mjs). By AI agents, Wed Nov 11 2026. No macro, syntax, notation, axiom, sorry.
-/
import Derived.Test.YtkcbkeimbpopcaaGreatDoorRows
import GoSem.ClaimSeven
namespace Go.Proofs.YtkcbkeimbpopcaaGreatDoor
namespace Rows

/-- THE TIED CARD OF 'reachlaw2.SpaceForms'. -/
def spaceFormsCard : Claim7 := { stood := { row := spaceFormsRow, standIns := [], harness := (true, "144ff9450f4e7f8126b71cc308a0bf353846ed867aa837918834716f2525639b"), looks := true }, kinds := [], alts := [], laidByText := true, laidKinds := [.data, .pinned], laidTests := true, laidLooks := .later }
def SpaceFormsCardSaid : Prop := Claim7.holds Tryz.pinned (.plain (OpenSpec.ofChange spaceFormsSpec)) spaceFormsCard

/-- THE TIED CARD OF 'reachlaw2.SpaceHolds'. -/
def spaceHoldsCard : Claim7 := { stood := { row := spaceHoldsRow, standIns := [], harness := (true, "144ff9450f4e7f8126b71cc308a0bf353846ed867aa837918834716f2525639b"), looks := true }, kinds := [], alts := [], laidByText := true, laidKinds := [.data, .pinned], laidTests := true, laidLooks := .later }
def SpaceHoldsCardSaid : Prop := Claim7.holds Tryz.pinned (.plain (OpenSpec.ofChange spaceHoldsSpec)) spaceHoldsCard

/-- THE TIED CARD OF 'reachlaw2.SpaceJoins'. -/
def spaceJoinsCard : Claim7 := { stood := { row := spaceJoinsRow, standIns := [], harness := (true, "144ff9450f4e7f8126b71cc308a0bf353846ed867aa837918834716f2525639b"), looks := true }, kinds := [], alts := [], laidByText := true, laidKinds := [.data, .pinned], laidTests := true, laidLooks := .later }
def SpaceJoinsCardSaid : Prop := Claim7.holds Tryz.pinned (.plain (OpenSpec.ofChange spaceJoinsSpec)) spaceJoinsCard

/-- THE TIED CARD OF 'reachlaw2.SpaceMeets'. -/
def spaceMeetsCard : Claim7 := { stood := { row := spaceMeetsRow, standIns := [], harness := (true, "144ff9450f4e7f8126b71cc308a0bf353846ed867aa837918834716f2525639b"), looks := true }, kinds := [], alts := [], laidByText := true, laidKinds := [.data, .pinned], laidTests := true, laidLooks := .later }
def SpaceMeetsCardSaid : Prop := Claim7.holds Tryz.pinned (.plain (OpenSpec.ofChange spaceMeetsSpec)) spaceMeetsCard

/-- THE TIED CARD OF 'reachlaw2.SpaceTakes'. -/
def spaceTakesCard : Claim7 := { stood := { row := spaceTakesRow, standIns := [], harness := (true, "144ff9450f4e7f8126b71cc308a0bf353846ed867aa837918834716f2525639b"), looks := true }, kinds := [], alts := [], laidByText := true, laidKinds := [.data, .pinned], laidTests := true, laidLooks := .later }
def SpaceTakesCardSaid : Prop := Claim7.holds Tryz.pinned (.plain (OpenSpec.ofChange spaceTakesSpec)) spaceTakesCard

/-- THE TIED CARD OF 'reachlaw2.SpaceBefores'. -/
def spaceBeforesCard : Claim7 := { stood := { row := spaceBeforesRow, standIns := [], harness := (true, "144ff9450f4e7f8126b71cc308a0bf353846ed867aa837918834716f2525639b"), looks := true }, kinds := [], alts := [], laidByText := true, laidKinds := [.data, .pinned], laidTests := true, laidLooks := .later }
def SpaceBeforesCardSaid : Prop := Claim7.holds Tryz.pinned (.plain (OpenSpec.ofChange spaceBeforesSpec)) spaceBeforesCard

/-- THE SECOND FORM's CARD OF 'reachlaw2.SpaceForms'. -/
def spaceFormsUptoCard : Claim7 := { stood := { row := spaceFormsUptoRow, standIns := [], harness := (true, "144ff9450f4e7f8126b71cc308a0bf353846ed867aa837918834716f2525639b"), looks := true }, kinds := [], alts := [], laidByText := true, laidKinds := [.data, .pinned], laidTests := true, laidLooks := .later }
def SpaceFormsUptoCardSaid : Prop := Claim7.holds Tryz.pinned (.plain (OpenSpec.upto spaceFormsSpec)) spaceFormsUptoCard

/-- THE SECOND FORM's CARD OF 'reachlaw2.SpaceHolds'. -/
def spaceHoldsUptoCard : Claim7 := { stood := { row := spaceHoldsUptoRow, standIns := [], harness := (true, "144ff9450f4e7f8126b71cc308a0bf353846ed867aa837918834716f2525639b"), looks := true }, kinds := [], alts := [], laidByText := true, laidKinds := [.data, .pinned], laidTests := true, laidLooks := .later }
def SpaceHoldsUptoCardSaid : Prop := Claim7.holds Tryz.pinned (.plain (OpenSpec.upto spaceHoldsSpec)) spaceHoldsUptoCard

/-- THE SECOND FORM's CARD OF 'reachlaw2.SpaceJoins'. -/
def spaceJoinsUptoCard : Claim7 := { stood := { row := spaceJoinsUptoRow, standIns := [], harness := (true, "144ff9450f4e7f8126b71cc308a0bf353846ed867aa837918834716f2525639b"), looks := true }, kinds := [], alts := [], laidByText := true, laidKinds := [.data, .pinned], laidTests := true, laidLooks := .later }
def SpaceJoinsUptoCardSaid : Prop := Claim7.holds Tryz.pinned (.plain (OpenSpec.upto spaceJoinsSpec)) spaceJoinsUptoCard

/-- THE SECOND FORM's CARD OF 'reachlaw2.SpaceMeets'. -/
def spaceMeetsUptoCard : Claim7 := { stood := { row := spaceMeetsUptoRow, standIns := [], harness := (true, "144ff9450f4e7f8126b71cc308a0bf353846ed867aa837918834716f2525639b"), looks := true }, kinds := [], alts := [], laidByText := true, laidKinds := [.data, .pinned], laidTests := true, laidLooks := .later }
def SpaceMeetsUptoCardSaid : Prop := Claim7.holds Tryz.pinned (.plain (OpenSpec.upto spaceMeetsSpec)) spaceMeetsUptoCard

/-- THE SECOND FORM's CARD OF 'reachlaw2.SpaceTakes'. -/
def spaceTakesUptoCard : Claim7 := { stood := { row := spaceTakesUptoRow, standIns := [], harness := (true, "144ff9450f4e7f8126b71cc308a0bf353846ed867aa837918834716f2525639b"), looks := true }, kinds := [], alts := [], laidByText := true, laidKinds := [.data, .pinned], laidTests := true, laidLooks := .later }
def SpaceTakesUptoCardSaid : Prop := Claim7.holds Tryz.pinned (.plain (OpenSpec.upto spaceTakesSpec)) spaceTakesUptoCard

/-- THE SECOND FORM's CARD OF 'reachlaw2.SpaceBefores'. -/
def spaceBeforesUptoCard : Claim7 := { stood := { row := spaceBeforesUptoRow, standIns := [], harness := (true, "144ff9450f4e7f8126b71cc308a0bf353846ed867aa837918834716f2525639b"), looks := true }, kinds := [], alts := [], laidByText := true, laidKinds := [.data, .pinned], laidTests := true, laidLooks := .later }
def SpaceBeforesUptoCardSaid : Prop := Claim7.holds Tryz.pinned (.plain (OpenSpec.upto spaceBeforesSpec)) spaceBeforesUptoCard
end Rows
end Go.Proofs.YtkcbkeimbpopcaaGreatDoor
