/-
  DERIVED. GIVEN WITH THE SEED: THE CARDS: each row of YtmfakcfmkmppfaaGreatDoorRows.lean that lists a variable, with what it lists TIED to the program's text (the seventh form; the later family's looks); each row that meets fmt, with fmt's text TOLD by the authors' own Lean function (tested against real Go, not proved from fmt's source: count such statements apart). THE CARD IS WHAT COUNTS. Prove the row's statement (the work); the ties are given (YtmfakcfmkmppfaaGreatDoorTie.lean); close each card by the builder's one call (the guide's Derived/Test/ToyasCard.lean, 'card_holds'). Laid BY PROGRAM, IN A SANDBOX (cutbox-door.mjs). By AI agents, Wed Nov 11 2026. No macro, syntax, notation, axiom, sorry.
-/
import Derived.Test.YtmfakcfmkmppfaaGreatDoorRows
import GoSem.ClaimSeven
namespace Go.Proofs.YtmfakcfmkmppfaaGreatDoor
namespace Rows

/-- THE TIED CARD OF 'reachlaw10.StepNested'. -/
def stepNestedCard : Claim7 := { stood := { row := stepNestedRow, standIns := [], harness := (true, "53b2f0056fea85ce8bc1177023d732becf23d592865d662073cc1e51bf2dcaac"), looks := true }, kinds := [], alts := [], laidByText := true, laidKinds := [.data, .data, .data, .data, .sentinel, .sentinel, .data, .data, .pinned], laidTests := true, laidLooks := .later }
def StepNestedCardSaid : Prop := Claim7.holds Tryz.pinned (.plain (OpenSpec.ofChange stepNestedSpec)) stepNestedCard

/-- THE TIED CARD OF 'reachlaw10.StepPaths'. -/
def stepPathsCard : Claim7 := { stood := { row := stepPathsRow, standIns := [], harness := (true, "53b2f0056fea85ce8bc1177023d732becf23d592865d662073cc1e51bf2dcaac"), looks := true }, kinds := [], alts := [], laidByText := true, laidKinds := [.data, .data, .data, .data, .sentinel, .sentinel, .data, .data, .pinned], laidTests := true, laidLooks := .later }
def StepPathsCardSaid : Prop := Claim7.holds Tryz.pinned (.plain (OpenSpec.ofChange stepPathsSpec)) stepPathsCard

/-- THE TIED CARD OF 'reachlaw10.StepLoops'. -/
def stepLoopsCard : Claim7 := { stood := { row := stepLoopsRow, standIns := [], harness := (true, "53b2f0056fea85ce8bc1177023d732becf23d592865d662073cc1e51bf2dcaac"), looks := true }, kinds := [], alts := [], laidByText := true, laidKinds := [.data, .data, .data, .data, .sentinel, .sentinel, .data, .data, .pinned], laidTests := true, laidLooks := .later }
def StepLoopsCardSaid : Prop := Claim7.holds Tryz.pinned (.plain (OpenSpec.ofChange stepLoopsSpec)) stepLoopsCard

/-- THE TIED CARD OF 'reachlaw10.StepReaches'. -/
def stepReachesCard : Claim7 := { stood := { row := stepReachesRow, standIns := [], harness := (true, "53b2f0056fea85ce8bc1177023d732becf23d592865d662073cc1e51bf2dcaac"), looks := true }, kinds := [], alts := [], laidByText := true, laidKinds := [.data, .data, .data, .data, .sentinel, .sentinel, .data, .data, .pinned], laidTests := true, laidLooks := .later }
def StepReachesCardSaid : Prop := Claim7.holds Tryz.pinned (.plain (OpenSpec.ofChange stepReachesSpec)) stepReachesCard

/-- THE SECOND FORM's CARD OF 'reachlaw10.StepNested'. -/
def stepNestedUptoCard : Claim7 := { stood := { row := stepNestedUptoRow, standIns := [], harness := (true, "53b2f0056fea85ce8bc1177023d732becf23d592865d662073cc1e51bf2dcaac"), looks := true }, kinds := [], alts := [], laidByText := true, laidKinds := [.data, .data, .data, .data, .sentinel, .sentinel, .data, .data, .pinned], laidTests := true, laidLooks := .later }
def StepNestedUptoCardSaid : Prop := Claim7.holds Tryz.pinned (.plain (OpenSpec.upto stepNestedSpec)) stepNestedUptoCard

/-- THE SECOND FORM's CARD OF 'reachlaw10.StepPaths'. -/
def stepPathsUptoCard : Claim7 := { stood := { row := stepPathsUptoRow, standIns := [], harness := (true, "53b2f0056fea85ce8bc1177023d732becf23d592865d662073cc1e51bf2dcaac"), looks := true }, kinds := [], alts := [], laidByText := true, laidKinds := [.data, .data, .data, .data, .sentinel, .sentinel, .data, .data, .pinned], laidTests := true, laidLooks := .later }
def StepPathsUptoCardSaid : Prop := Claim7.holds Tryz.pinned (.plain (OpenSpec.upto stepPathsSpec)) stepPathsUptoCard

/-- THE SECOND FORM's CARD OF 'reachlaw10.StepLoops'. -/
def stepLoopsUptoCard : Claim7 := { stood := { row := stepLoopsUptoRow, standIns := [], harness := (true, "53b2f0056fea85ce8bc1177023d732becf23d592865d662073cc1e51bf2dcaac"), looks := true }, kinds := [], alts := [], laidByText := true, laidKinds := [.data, .data, .data, .data, .sentinel, .sentinel, .data, .data, .pinned], laidTests := true, laidLooks := .later }
def StepLoopsUptoCardSaid : Prop := Claim7.holds Tryz.pinned (.plain (OpenSpec.upto stepLoopsSpec)) stepLoopsUptoCard

/-- THE SECOND FORM's CARD OF 'reachlaw10.StepReaches'. -/
def stepReachesUptoCard : Claim7 := { stood := { row := stepReachesUptoRow, standIns := [], harness := (true, "53b2f0056fea85ce8bc1177023d732becf23d592865d662073cc1e51bf2dcaac"), looks := true }, kinds := [], alts := [], laidByText := true, laidKinds := [.data, .data, .data, .data, .sentinel, .sentinel, .data, .data, .pinned], laidTests := true, laidLooks := .later }
def StepReachesUptoCardSaid : Prop := Claim7.holds Tryz.pinned (.plain (OpenSpec.upto stepReachesSpec)) stepReachesUptoCard
end Rows
end Go.Proofs.YtmfakcfmkmppfaaGreatDoor
