/-
  DERIVED. GIVEN WITH THE SEED: THE CARDS: each row of YtodhcnjkiollaaaGreatDoorRows.lean that lists a variable, with what it lists TIED to the program's text (the seventh form; the later family's looks); each row that meets fmt, with fmt's text TOLD by the authors' own Lean function (tested against real Go, not proved from fmt's source: count such statements apart). THE CARD IS WHAT COUNTS. Prove the row's statement (the work); the ties are given (YtodhcnjkiollaaaGreatDoorTie.lean); close each card by the builder's one call (the guide's Derived/Test/ToyasCard.lean, 'card_holds'). Laid BY PROGRAM, IN A SANDBOX (cutbox-door.mjs). By AI agents, Wed Nov 11 2026. No macro, syntax, notation, axiom, sorry.
-/
import Derived.Test.YtodhcnjkiollaaaGreatDoorRows
import GoSem.ClaimSeven
namespace Go.Proofs.YtodhcnjkiollaaaGreatDoor
namespace Rows

/-- THE TIED CARD OF 'reachlaw4.FieldBack'. -/
def fieldBackCard : Claim7 := { stood := { row := fieldBackRow, standIns := [], harness := (true, "3b2c997ee9b2ed8452209f0ac4c4da3285eb9754c4aa36f28e0aa471080783a7"), looks := true }, kinds := [], alts := [], laidByText := true, laidKinds := [.data, .data, .data, .data, .sentinel, .sentinel, .data, .data, .pinned], laidTests := true, laidLooks := .later }
def FieldBackCardSaid : Prop := Claim7.holds Tryz.pinned (.plain (OpenSpec.ofChange fieldBackSpec)) fieldBackCard

/-- THE TIED CARD OF 'reachlaw4.FieldWrites'. -/
def fieldWritesCard : Claim7 := { stood := { row := fieldWritesRow, standIns := [], harness := (true, "3b2c997ee9b2ed8452209f0ac4c4da3285eb9754c4aa36f28e0aa471080783a7"), looks := true }, kinds := [], alts := [], laidByText := true, laidKinds := [.data, .data, .data, .data, .sentinel, .sentinel, .data, .data, .pinned], laidTests := true, laidLooks := .later }
def FieldWritesCardSaid : Prop := Claim7.holds Tryz.pinned (.plain (OpenSpec.ofChange fieldWritesSpec)) fieldWritesCard

/-- THE TIED CARD OF 'reachlaw4.FieldCubes'. -/
def fieldCubesCard : Claim7 := { stood := { row := fieldCubesRow, standIns := [], harness := (true, "3b2c997ee9b2ed8452209f0ac4c4da3285eb9754c4aa36f28e0aa471080783a7"), looks := true }, kinds := [], alts := [], laidByText := true, laidKinds := [.data, .data, .data, .data, .sentinel, .sentinel, .data, .data, .data, .pinned], laidTests := true, laidLooks := .later }
def FieldCubesCardSaid : Prop := Claim7.holds Tryz.pinned (.plain (OpenSpec.ofChange fieldCubesSpec)) fieldCubesCard

/-- THE TIED CARD OF 'reachlaw4.FieldShows'. -/
def fieldShowsCard : Claim7 := { stood := { row := fieldShowsRow, standIns := [], harness := (true, "3b2c997ee9b2ed8452209f0ac4c4da3285eb9754c4aa36f28e0aa471080783a7"), looks := true }, kinds := [], alts := [], laidByText := true, laidKinds := [.data, .data, .data, .data, .sentinel, .sentinel, .data, .data, .pinned], laidTests := true, laidLooks := .later }
def FieldShowsCardSaid : Prop := Claim7.holds Tryz.pinned (.plain (OpenSpec.ofChange fieldShowsSpec)) fieldShowsCard

/-- THE SECOND FORM's CARD OF 'reachlaw4.FieldBack'. -/
def fieldBackUptoCard : Claim7 := { stood := { row := fieldBackUptoRow, standIns := [], harness := (true, "3b2c997ee9b2ed8452209f0ac4c4da3285eb9754c4aa36f28e0aa471080783a7"), looks := true }, kinds := [], alts := [], laidByText := true, laidKinds := [.data, .data, .data, .data, .sentinel, .sentinel, .data, .data, .pinned], laidTests := true, laidLooks := .later }
def FieldBackUptoCardSaid : Prop := Claim7.holds Tryz.pinned (.plain (OpenSpec.upto fieldBackSpec)) fieldBackUptoCard

/-- THE SECOND FORM's CARD OF 'reachlaw4.FieldWrites'. -/
def fieldWritesUptoCard : Claim7 := { stood := { row := fieldWritesUptoRow, standIns := [], harness := (true, "3b2c997ee9b2ed8452209f0ac4c4da3285eb9754c4aa36f28e0aa471080783a7"), looks := true }, kinds := [], alts := [], laidByText := true, laidKinds := [.data, .data, .data, .data, .sentinel, .sentinel, .data, .data, .pinned], laidTests := true, laidLooks := .later }
def FieldWritesUptoCardSaid : Prop := Claim7.holds Tryz.pinned (.plain (OpenSpec.upto fieldWritesSpec)) fieldWritesUptoCard

/-- THE SECOND FORM's CARD OF 'reachlaw4.FieldCubes'. -/
def fieldCubesUptoCard : Claim7 := { stood := { row := fieldCubesUptoRow, standIns := [], harness := (true, "3b2c997ee9b2ed8452209f0ac4c4da3285eb9754c4aa36f28e0aa471080783a7"), looks := true }, kinds := [], alts := [], laidByText := true, laidKinds := [.data, .data, .data, .data, .sentinel, .sentinel, .data, .data, .data, .pinned], laidTests := true, laidLooks := .later }
def FieldCubesUptoCardSaid : Prop := Claim7.holds Tryz.pinned (.plain (OpenSpec.upto fieldCubesSpec)) fieldCubesUptoCard

/-- THE SECOND FORM's CARD OF 'reachlaw4.FieldShows'. -/
def fieldShowsUptoCard : Claim7 := { stood := { row := fieldShowsUptoRow, standIns := [], harness := (true, "3b2c997ee9b2ed8452209f0ac4c4da3285eb9754c4aa36f28e0aa471080783a7"), looks := true }, kinds := [], alts := [], laidByText := true, laidKinds := [.data, .data, .data, .data, .sentinel, .sentinel, .data, .data, .pinned], laidTests := true, laidLooks := .later }
def FieldShowsUptoCardSaid : Prop := Claim7.holds Tryz.pinned (.plain (OpenSpec.upto fieldShowsSpec)) fieldShowsUptoCard
end Rows
end Go.Proofs.YtodhcnjkiollaaaGreatDoor
