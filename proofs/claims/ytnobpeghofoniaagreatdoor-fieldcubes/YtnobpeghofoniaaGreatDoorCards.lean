/-
  DERIVED. GIVEN WITH THE SEED: THE CARDS: each row of YtnobpeghofoniaaGreatDoorRows.lean that lists a variable, with what it lists TIED to the program's text (the seventh form; the later family's looks); each row that meets fmt, with fmt's text TOLD by the authors' own Lean function (tested against real Go, not proved from fmt's source: count such statements apart). THE CARD IS WHAT COUNTS. Prove the row's statement (the work); the ties are given (YtnobpeghofoniaaGreatDoorTie.lean); close each card by the builder's one call (the guide's Derived/Test/ToyasCard.lean, 'card_holds'). Laid BY PROGRAM, IN A SANDBOX (cutbox-door.mjs). By AI agents, Wed Nov 11 2026. No macro, syntax, notation, axiom, sorry.
-/
import Derived.Test.YtnobpeghofoniaaGreatDoorRows
import GoSem.ClaimSeven
namespace Go.Proofs.YtnobpeghofoniaaGreatDoor
namespace Rows

/-- THE TIED CARD OF 'reachlaw4.FieldWrites'. -/
def fieldWritesCard : Claim7 := { stood := { row := fieldWritesRow, standIns := [], harness := (true, "fdd28f71628908ff36ea750f1a078f9eb7291d81e6e0440b3beca00569481877"), looks := true }, kinds := [], alts := [], laidByText := true, laidKinds := [.data, .data, .data, .data, .sentinel, .sentinel, .data, .data, .pinned], laidTests := true, laidLooks := .later }
def FieldWritesCardSaid : Prop := Claim7.holds Tryz.pinned (.plain (OpenSpec.ofChange fieldWritesSpec)) fieldWritesCard

/-- THE TIED CARD OF 'reachlaw4.FieldHolds'. -/
def fieldHoldsCard : Claim7 := { stood := { row := fieldHoldsRow, standIns := [], harness := (true, "fdd28f71628908ff36ea750f1a078f9eb7291d81e6e0440b3beca00569481877"), looks := true }, kinds := [], alts := [], laidByText := true, laidKinds := [.data, .data, .data, .data, .sentinel, .sentinel, .data, .data, .data, .pinned], laidTests := true, laidLooks := .later }
def FieldHoldsCardSaid : Prop := Claim7.holds Tryz.pinned (.plain (OpenSpec.ofChange fieldHoldsSpec)) fieldHoldsCard

/-- THE TIED CARD OF 'reachlaw4.FieldCubes'. -/
def fieldCubesCard : Claim7 := { stood := { row := fieldCubesRow, standIns := [], harness := (true, "fdd28f71628908ff36ea750f1a078f9eb7291d81e6e0440b3beca00569481877"), looks := true }, kinds := [], alts := [], laidByText := true, laidKinds := [.data, .data, .data, .data, .sentinel, .sentinel, .data, .data, .data, .pinned], laidTests := true, laidLooks := .later }
def FieldCubesCardSaid : Prop := Claim7.holds Tryz.pinned (.plain (OpenSpec.ofChange fieldCubesSpec)) fieldCubesCard

/-- THE TIED CARD OF 'reachlaw4.FieldShows'. -/
def fieldShowsCard : Claim7 := { stood := { row := fieldShowsRow, standIns := [], harness := (true, "fdd28f71628908ff36ea750f1a078f9eb7291d81e6e0440b3beca00569481877"), looks := true }, kinds := [], alts := [], laidByText := true, laidKinds := [.data, .data, .data, .data, .sentinel, .sentinel, .data, .data, .pinned], laidTests := true, laidLooks := .later }
def FieldShowsCardSaid : Prop := Claim7.holds Tryz.pinned (.plain (OpenSpec.ofChange fieldShowsSpec)) fieldShowsCard

/-- THE SECOND FORM's CARD OF 'reachlaw4.FieldWrites'. -/
def fieldWritesUptoCard : Claim7 := { stood := { row := fieldWritesUptoRow, standIns := [], harness := (true, "fdd28f71628908ff36ea750f1a078f9eb7291d81e6e0440b3beca00569481877"), looks := true }, kinds := [], alts := [], laidByText := true, laidKinds := [.data, .data, .data, .data, .sentinel, .sentinel, .data, .data, .pinned], laidTests := true, laidLooks := .later }
def FieldWritesUptoCardSaid : Prop := Claim7.holds Tryz.pinned (.plain (OpenSpec.upto fieldWritesSpec)) fieldWritesUptoCard

/-- THE SECOND FORM's CARD OF 'reachlaw4.FieldHolds'. -/
def fieldHoldsUptoCard : Claim7 := { stood := { row := fieldHoldsUptoRow, standIns := [], harness := (true, "fdd28f71628908ff36ea750f1a078f9eb7291d81e6e0440b3beca00569481877"), looks := true }, kinds := [], alts := [], laidByText := true, laidKinds := [.data, .data, .data, .data, .sentinel, .sentinel, .data, .data, .data, .pinned], laidTests := true, laidLooks := .later }
def FieldHoldsUptoCardSaid : Prop := Claim7.holds Tryz.pinned (.plain (OpenSpec.upto fieldHoldsSpec)) fieldHoldsUptoCard

/-- THE SECOND FORM's CARD OF 'reachlaw4.FieldCubes'. -/
def fieldCubesUptoCard : Claim7 := { stood := { row := fieldCubesUptoRow, standIns := [], harness := (true, "fdd28f71628908ff36ea750f1a078f9eb7291d81e6e0440b3beca00569481877"), looks := true }, kinds := [], alts := [], laidByText := true, laidKinds := [.data, .data, .data, .data, .sentinel, .sentinel, .data, .data, .data, .pinned], laidTests := true, laidLooks := .later }
def FieldCubesUptoCardSaid : Prop := Claim7.holds Tryz.pinned (.plain (OpenSpec.upto fieldCubesSpec)) fieldCubesUptoCard

/-- THE SECOND FORM's CARD OF 'reachlaw4.FieldShows'. -/
def fieldShowsUptoCard : Claim7 := { stood := { row := fieldShowsUptoRow, standIns := [], harness := (true, "fdd28f71628908ff36ea750f1a078f9eb7291d81e6e0440b3beca00569481877"), looks := true }, kinds := [], alts := [], laidByText := true, laidKinds := [.data, .data, .data, .data, .sentinel, .sentinel, .data, .data, .pinned], laidTests := true, laidLooks := .later }
def FieldShowsUptoCardSaid : Prop := Claim7.holds Tryz.pinned (.plain (OpenSpec.upto fieldShowsSpec)) fieldShowsUptoCard
end Rows
end Go.Proofs.YtnobpeghofoniaaGreatDoor
