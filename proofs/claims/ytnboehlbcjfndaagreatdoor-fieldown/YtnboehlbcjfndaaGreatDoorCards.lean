/-
  DERIVED. GIVEN WITH THE SEED: THE CARDS: each row of YtnboehlbcjfndaaGreatDoorRows.lean that lists a variable, with what it lists TIED to the program's text (the seventh form; the later family's looks); each row that meets fmt, with fmt's text TOLD by the authors' own Lean function (tested against real Go, not proved from fmt's source: count such statements apart). THE CARD IS WHAT COUNTS. Prove the row's statement (the work); the ties are given (YtnboehlbcjfndaaGreatDoorTie.lean); close each card by the builder's one call (the guide's Derived/Test/ToyasCard.lean, 'card_holds'). Laid BY PROGRAM, IN A SANDBOX (cutbox-door.mjs). By AI agents, Wed Nov 11 2026. No macro, syntax, notation, axiom, sorry.
-/
import Derived.Test.YtnboehlbcjfndaaGreatDoorRows
import GoSem.ClaimSeven
namespace Go.Proofs.YtnboehlbcjfndaaGreatDoor
namespace Rows

/-- THE TIED CARD OF 'reachlaw4.FieldHolds'. -/
def fieldHoldsCard : Claim7 := { stood := { row := fieldHoldsRow, standIns := [], harness := (true, "6ceccc18df83db1c7b770660c4f0935f3923083b123cd00f673787436714ee19"), looks := true }, kinds := [], alts := [], laidByText := true, laidKinds := [.data, .data, .data, .data, .sentinel, .sentinel, .data, .data, .data, .pinned], laidTests := true, laidLooks := .later }
def FieldHoldsCardSaid : Prop := Claim7.holds Tryz.pinned (.plain (OpenSpec.ofChange fieldHoldsSpec)) fieldHoldsCard

/-- THE TIED CARD OF 'reachlaw4.FieldOwn'. -/
def fieldOwnCard : Claim7 := { stood := { row := fieldOwnRow, standIns := [], harness := (true, "6ceccc18df83db1c7b770660c4f0935f3923083b123cd00f673787436714ee19"), looks := true }, kinds := [], alts := [], laidByText := true, laidKinds := [.data, .data, .data, .data, .sentinel, .sentinel, .data, .data, .data, .pinned], laidTests := true, laidLooks := .later }
def FieldOwnCardSaid : Prop := Claim7.holds Tryz.pinned (.plain (OpenSpec.ofChange fieldOwnSpec)) fieldOwnCard

/-- THE TIED CARD OF 'reachlaw4.FieldTurns'. -/
def fieldTurnsCard : Claim7 := { stood := { row := fieldTurnsRow, standIns := [], harness := (true, "6ceccc18df83db1c7b770660c4f0935f3923083b123cd00f673787436714ee19"), looks := true }, kinds := [], alts := [], laidByText := true, laidKinds := [.data, .data, .data, .data, .sentinel, .sentinel, .data, .data, .data, .pinned], laidTests := true, laidLooks := .later }
def FieldTurnsCardSaid : Prop := Claim7.holds Tryz.pinned (.plain (OpenSpec.ofChange fieldTurnsSpec)) fieldTurnsCard

/-- THE SECOND FORM's CARD OF 'reachlaw4.FieldHolds'. -/
def fieldHoldsUptoCard : Claim7 := { stood := { row := fieldHoldsUptoRow, standIns := [], harness := (true, "6ceccc18df83db1c7b770660c4f0935f3923083b123cd00f673787436714ee19"), looks := true }, kinds := [], alts := [], laidByText := true, laidKinds := [.data, .data, .data, .data, .sentinel, .sentinel, .data, .data, .data, .pinned], laidTests := true, laidLooks := .later }
def FieldHoldsUptoCardSaid : Prop := Claim7.holds Tryz.pinned (.plain (OpenSpec.upto fieldHoldsSpec)) fieldHoldsUptoCard

/-- THE SECOND FORM's CARD OF 'reachlaw4.FieldOwn'. -/
def fieldOwnUptoCard : Claim7 := { stood := { row := fieldOwnUptoRow, standIns := [], harness := (true, "6ceccc18df83db1c7b770660c4f0935f3923083b123cd00f673787436714ee19"), looks := true }, kinds := [], alts := [], laidByText := true, laidKinds := [.data, .data, .data, .data, .sentinel, .sentinel, .data, .data, .data, .pinned], laidTests := true, laidLooks := .later }
def FieldOwnUptoCardSaid : Prop := Claim7.holds Tryz.pinned (.plain (OpenSpec.upto fieldOwnSpec)) fieldOwnUptoCard

/-- THE SECOND FORM's CARD OF 'reachlaw4.FieldTurns'. -/
def fieldTurnsUptoCard : Claim7 := { stood := { row := fieldTurnsUptoRow, standIns := [], harness := (true, "6ceccc18df83db1c7b770660c4f0935f3923083b123cd00f673787436714ee19"), looks := true }, kinds := [], alts := [], laidByText := true, laidKinds := [.data, .data, .data, .data, .sentinel, .sentinel, .data, .data, .data, .pinned], laidTests := true, laidLooks := .later }
def FieldTurnsUptoCardSaid : Prop := Claim7.holds Tryz.pinned (.plain (OpenSpec.upto fieldTurnsSpec)) fieldTurnsUptoCard
end Rows
end Go.Proofs.YtnboehlbcjfndaaGreatDoor
