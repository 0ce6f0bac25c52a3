/-
  DERIVED. GIVEN WITH THE SEED: THE CARDS: each row of YtialcphfaleedaaGreatDoorRows.lean that lists a variable, with what it lists TIED to the program's text (the seventh form; the later family's looks); each row that meets fmt, with fmt's text TOLD by the authors' own Lean function (tested against real Go, not proved from fmt's source: count such statements apart). THE CARD IS WHAT COUNTS. Prove the row's statement (the work); the ties are given (YtialcphfaleedaaGreatDoorTie.lean); close each card by the builder's one call (the guide's Derived/Test/ToyasCard.lean, 'card_holds'). Laid BY PROGRAM, IN A SANDBOX (cutbox-door.mjs). By AI agents, Wed Nov 11 2026. No macro, syntax, notation, axiom, sorry.
-/
import Derived.Test.YtialcphfaleedaaGreatDoorRows
import GoSem.ClaimSeven
namespace Go.Proofs.YtialcphfaleedaaGreatDoor
namespace Rows

/-- THE TIED CARD OF 'reachlaw3.ScanPrintsBack'. -/
def scanPrintsBackCard : Claim7 := { stood := { row := scanPrintsBackRow, standIns := [], harness := (true, "ec1016c878536d7e27a8d49bf78b2f35ce9ea56611d3aae3c15132af3aaf7c7b"), looks := true }, kinds := [], alts := [], laidByText := true, laidKinds := [.data, .data, .data, .data, .sentinel, .sentinel, .data, .data, .data, .pinned], laidTests := true, laidLooks := .later }
def ScanPrintsBackCardSaid : Prop := Claim7.holds Tryz.pinned (.plain (OpenSpec.ofChange scanPrintsBackSpec)) scanPrintsBackCard

/-- THE TIED CARD OF 'reachlaw3.ScanTells'. -/
def scanTellsCard : Claim7 := { stood := { row := scanTellsRow, standIns := [], harness := (true, "ec1016c878536d7e27a8d49bf78b2f35ce9ea56611d3aae3c15132af3aaf7c7b"), looks := true }, kinds := [], alts := [], laidByText := true, laidKinds := [.data, .data, .data, .data, .data, .sentinel, .sentinel, .data, .data, .pinned], laidTests := true, laidLooks := .later }
def ScanTellsCardSaid : Prop := Claim7.holds Tryz.pinned (.plain (OpenSpec.ofChange scanTellsSpec)) scanTellsCard

/-- THE SECOND FORM's CARD OF 'reachlaw3.ScanPrintsBack'. -/
def scanPrintsBackUptoCard : Claim7 := { stood := { row := scanPrintsBackUptoRow, standIns := [], harness := (true, "ec1016c878536d7e27a8d49bf78b2f35ce9ea56611d3aae3c15132af3aaf7c7b"), looks := true }, kinds := [], alts := [], laidByText := true, laidKinds := [.data, .data, .data, .data, .sentinel, .sentinel, .data, .data, .data, .pinned], laidTests := true, laidLooks := .later }
def ScanPrintsBackUptoCardSaid : Prop := Claim7.holds Tryz.pinned (.plain (OpenSpec.upto scanPrintsBackSpec)) scanPrintsBackUptoCard

/-- THE SECOND FORM's CARD OF 'reachlaw3.ScanTells'. -/
def scanTellsUptoCard : Claim7 := { stood := { row := scanTellsUptoRow, standIns := [], harness := (true, "ec1016c878536d7e27a8d49bf78b2f35ce9ea56611d3aae3c15132af3aaf7c7b"), looks := true }, kinds := [], alts := [], laidByText := true, laidKinds := [.data, .data, .data, .data, .data, .sentinel, .sentinel, .data, .data, .pinned], laidTests := true, laidLooks := .later }
def ScanTellsUptoCardSaid : Prop := Claim7.holds Tryz.pinned (.plain (OpenSpec.upto scanTellsSpec)) scanTellsUptoCard
end Rows
end Go.Proofs.YtialcphfaleedaaGreatDoor
