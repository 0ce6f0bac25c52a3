/-
  DERIVED. GIVEN WITH THE SEED: THE CARDS: each row of YtcejejiomhhpgaaGreatDoorRows.lean that lists a variable, with what it lists TIED to the program's text (the seventh form; the later family's looks); each row that meets fmt, with fmt's text TOLD by the authors' own Lean function (tested against real Go, not proved from fmt's source: count such statements apart). THE CARD IS WHAT COUNTS. Prove the row's statement (the work); the ties are given (YtcejejiomhhpgaaGreatDoorTie.lean); close each card by the builder's one call (the guide's Derived/Test/ToyasCard.lean, 'card_holds'). Laid BY PROGRAM, IN A SANDBOX (cutbox-door.mjs). By AI agents, Wed Nov 11 2026. No macro, syntax, notation, axiom, sorry.
-/
import Derived.Test.YtcejejiomhhpgaaGreatDoorRows
import GoSem.ClaimSeven
namespace Go.Proofs.YtcejejiomhhpgaaGreatDoor
namespace Rows

/-- THE TIED CARD OF 'reachlaw2.SpaceSaid'. -/
def spaceSaidCard : Claim7 := { stood := { row := spaceSaidRow, standIns := [], harness := (true, "920f1dfda11712dd054bf2ac07c025882fcb06f543fd3b84061d89186dc69248"), looks := true }, kinds := [], alts := [], laidByText := true, laidKinds := [.data, .pinned], laidTests := true, laidLooks := .later }
def SpaceSaidCardSaid : Prop := Claim7.holds Tryz.pinned (.plain (OpenSpec.ofChange spaceSaidSpec)) spaceSaidCard

/-- THE TIED CARD OF 'reachlaw2.SpaceMeans'. -/
def spaceMeansCard : Claim7 := { stood := { row := spaceMeansRow, standIns := [], harness := (true, "920f1dfda11712dd054bf2ac07c025882fcb06f543fd3b84061d89186dc69248"), looks := true }, kinds := [], alts := [], laidByText := true, laidKinds := [.data, .pinned], laidTests := true, laidLooks := .later }
def SpaceMeansCardSaid : Prop := Claim7.holds Tryz.pinned (.plain (OpenSpec.ofChange spaceMeansSpec)) spaceMeansCard

/-- THE TIED CARD OF 'reachlaw2.SpaceLattice'. -/
def spaceLatticeCard : Claim7 := { stood := { row := spaceLatticeRow, standIns := [], harness := (true, "920f1dfda11712dd054bf2ac07c025882fcb06f543fd3b84061d89186dc69248"), looks := true }, kinds := [], alts := [], laidByText := true, laidKinds := [.data, .pinned], laidTests := true, laidLooks := .later }
def SpaceLatticeCardSaid : Prop := Claim7.holds Tryz.pinned (.plain (OpenSpec.ofChange spaceLatticeSpec)) spaceLatticeCard

/-- THE SECOND FORM's CARD OF 'reachlaw2.SpaceSaid'. -/
def spaceSaidUptoCard : Claim7 := { stood := { row := spaceSaidUptoRow, standIns := [], harness := (true, "920f1dfda11712dd054bf2ac07c025882fcb06f543fd3b84061d89186dc69248"), looks := true }, kinds := [], alts := [], laidByText := true, laidKinds := [.data, .pinned], laidTests := true, laidLooks := .later }
def SpaceSaidUptoCardSaid : Prop := Claim7.holds Tryz.pinned (.plain (OpenSpec.upto spaceSaidSpec)) spaceSaidUptoCard

/-- THE SECOND FORM's CARD OF 'reachlaw2.SpaceMeans'. -/
def spaceMeansUptoCard : Claim7 := { stood := { row := spaceMeansUptoRow, standIns := [], harness := (true, "920f1dfda11712dd054bf2ac07c025882fcb06f543fd3b84061d89186dc69248"), looks := true }, kinds := [], alts := [], laidByText := true, laidKinds := [.data, .pinned], laidTests := true, laidLooks := .later }
def SpaceMeansUptoCardSaid : Prop := Claim7.holds Tryz.pinned (.plain (OpenSpec.upto spaceMeansSpec)) spaceMeansUptoCard

/-- THE SECOND FORM's CARD OF 'reachlaw2.SpaceLattice'. -/
def spaceLatticeUptoCard : Claim7 := { stood := { row := spaceLatticeUptoRow, standIns := [], harness := (true, "920f1dfda11712dd054bf2ac07c025882fcb06f543fd3b84061d89186dc69248"), looks := true }, kinds := [], alts := [], laidByText := true, laidKinds := [.data, .pinned], laidTests := true, laidLooks := .later }
def SpaceLatticeUptoCardSaid : Prop := Claim7.holds Tryz.pinned (.plain (OpenSpec.upto spaceLatticeSpec)) spaceLatticeUptoCard
end Rows
end Go.Proofs.YtcejejiomhhpgaaGreatDoor
