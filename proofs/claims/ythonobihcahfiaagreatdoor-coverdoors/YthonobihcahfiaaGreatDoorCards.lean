/-
  DERIVED. GIVEN WITH THE SEED: THE CARDS: each row of YthonobihcahfiaaGreatDoorRows.lean that lists a variable, with what it lists TIED to the program's text (the seventh form; the later family's looks); each row that meets fmt, with fmt's text TOLD by the authors' own Lean function (tested against real Go, not proved from fmt's source: count such statements apart). THE CARD IS WHAT COUNTS. Prove the row's statement (the work); the ties are given (YthonobihcahfiaaGreatDoorTie.lean); close each card by the builder's one call (the guide's Derived/Test/ToyasCard.lean, 'card_holds'). Laid BY PROGRAM, IN A SANDBOX (cutbox-door.mjs). By AI agents, Wed Nov 11 2026. No macro, syntax, notation, axiom, sorry.
-/
import Derived.Test.YthonobihcahfiaaGreatDoorRows
import GoSem.ClaimSeven
namespace Go.Proofs.YthonobihcahfiaaGreatDoor
namespace Rows

/-- THE TIED CARD OF 'reachlaw9.LowerValids'. -/
def lowerValidsCard : Claim7 := { stood := { row := lowerValidsRow, standIns := [], harness := (true, "5d65b88751fc143eaca26b1b01834f0be94587adfa5085c7fc199718bc6d5fbf"), looks := true }, kinds := [], alts := [], laidByText := true, laidKinds := [.data, .data, .data, .data, .sentinel, .sentinel, .data, .data, .pinned], laidTests := true, laidLooks := .later }
def LowerValidsCardSaid : Prop := Claim7.holds Tryz.pinned (.plain (OpenSpec.ofChange lowerValidsSpec)) lowerValidsCard

/-- THE TIED CARD OF 'reachlaw15.CoverDoors'. -/
def coverDoorsCard : Claim7 := { stood := { row := coverDoorsRow, standIns := [], harness := (true, "5d65b88751fc143eaca26b1b01834f0be94587adfa5085c7fc199718bc6d5fbf"), looks := true }, kinds := [], alts := [], laidByText := true, laidKinds := [.data, .data, .data, .data, .sentinel, .sentinel, .data, .data, .pinned], laidTests := true, laidLooks := .later }
def CoverDoorsCardSaid : Prop := Claim7.holds Tryz.pinned (.plain (OpenSpec.ofChange coverDoorsSpec)) coverDoorsCard

/-- THE SECOND FORM's CARD OF 'reachlaw9.LowerValids'. -/
def lowerValidsUptoCard : Claim7 := { stood := { row := lowerValidsUptoRow, standIns := [], harness := (true, "5d65b88751fc143eaca26b1b01834f0be94587adfa5085c7fc199718bc6d5fbf"), looks := true }, kinds := [], alts := [], laidByText := true, laidKinds := [.data, .data, .data, .data, .sentinel, .sentinel, .data, .data, .pinned], laidTests := true, laidLooks := .later }
def LowerValidsUptoCardSaid : Prop := Claim7.holds Tryz.pinned (.plain (OpenSpec.upto lowerValidsSpec)) lowerValidsUptoCard

/-- THE SECOND FORM's CARD OF 'reachlaw15.CoverDoors'. -/
def coverDoorsUptoCard : Claim7 := { stood := { row := coverDoorsUptoRow, standIns := [], harness := (true, "5d65b88751fc143eaca26b1b01834f0be94587adfa5085c7fc199718bc6d5fbf"), looks := true }, kinds := [], alts := [], laidByText := true, laidKinds := [.data, .data, .data, .data, .sentinel, .sentinel, .data, .data, .pinned], laidTests := true, laidLooks := .later }
def CoverDoorsUptoCardSaid : Prop := Claim7.holds Tryz.pinned (.plain (OpenSpec.upto coverDoorsSpec)) coverDoorsUptoCard
end Rows
end Go.Proofs.YthonobihcahfiaaGreatDoor
