/-
  DERIVED. GIVEN WITH THE SEED: THE CARDS: each row of YtppmncmhokkfdaaDoorRows.lean that lists a variable, with what it lists TIED to the program's text (the seventh form; the later family's looks); each row that meets fmt, with fmt's text TOLD by the authors' own Lean function (tested against real Go, not proved from fmt's source: count such statements apart). THE CARD IS WHAT COUNTS. Prove the row's statement (the work); the ties are given (YtppmncmhokkfdaaDoorTie.lean); close each card by the builder's one call (the guide's Derived/Test/ToyasCard.lean, 'card_holds'). Laid BY PROGRAM, IN A SANDBOX (cutbox-door.mjs). By AI agents, Wed Nov 11 2026. No macro, syntax, notation, axiom, sorry.
-/
import Derived.Test.YtppmncmhokkfdaaDoorRows
import GoSem.ClaimSeven
namespace Go.Proofs.YtppmncmhokkfdaaDoor
namespace Rows

/-- THE TIED CARD OF 'reachlaw3.ScanJoins'. -/
def scanJoinsCard : Claim7 := { stood := { row := scanJoinsRow, standIns := [], harness := (true, "b8abad17823fc90ff912a2a95b003ff6caf071964f94fe783310487d02ab5585"), looks := true }, kinds := [], alts := [], laidByText := true, laidKinds := [.data, .data, .data, .data, .sentinel, .sentinel, .data, .data, .pinned], laidTests := true, laidLooks := .later }
def ScanJoinsCardSaid : Prop := Claim7.holds Tryd.pinned (.plain (OpenSpec.ofChange scanJoinsSpec)) scanJoinsCard

/-- THE TIED CARD OF 'reachlaw3.ScanLeavesNothing'. -/
def scanLeavesNothingCard : Claim7 := { stood := { row := scanLeavesNothingRow, standIns := [], harness := (true, "b8abad17823fc90ff912a2a95b003ff6caf071964f94fe783310487d02ab5585"), looks := true }, kinds := [], alts := [], laidByText := true, laidKinds := [.data, .data, .data, .data, .sentinel, .sentinel, .data, .data, .pinned], laidTests := true, laidLooks := .later }
def ScanLeavesNothingCardSaid : Prop := Claim7.holds Tryd.pinned (.plain (OpenSpec.ofChange scanLeavesNothingSpec)) scanLeavesNothingCard

/-- THE TIED CARD OF 'reachlaw3.ScanSaysBack'. -/
def scanSaysBackCard : Claim7 := { stood := { row := scanSaysBackRow, standIns := [], harness := (true, "b8abad17823fc90ff912a2a95b003ff6caf071964f94fe783310487d02ab5585"), looks := true }, kinds := [], alts := [], laidByText := true, laidKinds := [.data, .data, .data, .data, .sentinel, .sentinel, .data, .data, .data, .pinned], laidTests := true, laidLooks := .later }
def ScanSaysBackCardSaid : Prop := Claim7.holds Tryd.pinned (.plain (OpenSpec.ofChange scanSaysBackSpec)) scanSaysBackCard

/-- THE TIED CARD OF 'reachlaw3.ScanCounts'. -/
def scanCountsCard : Claim7 := { stood := { row := scanCountsRow, standIns := [], harness := (true, "b8abad17823fc90ff912a2a95b003ff6caf071964f94fe783310487d02ab5585"), looks := true }, kinds := [], alts := [], laidByText := true, laidKinds := [.data, .data, .data, .data, .sentinel, .sentinel, .data, .data, .pinned], laidTests := true, laidLooks := .later }
def ScanCountsCardSaid : Prop := Claim7.holds Tryd.pinned (.plain (OpenSpec.ofChange scanCountsSpec)) scanCountsCard

/-- THE SECOND FORM's CARD OF 'reachlaw3.ScanJoins'. -/
def scanJoinsUptoCard : Claim7 := { stood := { row := scanJoinsUptoRow, standIns := [], harness := (true, "b8abad17823fc90ff912a2a95b003ff6caf071964f94fe783310487d02ab5585"), looks := true }, kinds := [], alts := [], laidByText := true, laidKinds := [.data, .data, .data, .data, .sentinel, .sentinel, .data, .data, .pinned], laidTests := true, laidLooks := .later }
def ScanJoinsUptoCardSaid : Prop := Claim7.holds Tryd.pinned (.plain (OpenSpec.upto scanJoinsSpec)) scanJoinsUptoCard

/-- THE SECOND FORM's CARD OF 'reachlaw3.ScanLeavesNothing'. -/
def scanLeavesNothingUptoCard : Claim7 := { stood := { row := scanLeavesNothingUptoRow, standIns := [], harness := (true, "b8abad17823fc90ff912a2a95b003ff6caf071964f94fe783310487d02ab5585"), looks := true }, kinds := [], alts := [], laidByText := true, laidKinds := [.data, .data, .data, .data, .sentinel, .sentinel, .data, .data, .pinned], laidTests := true, laidLooks := .later }
def ScanLeavesNothingUptoCardSaid : Prop := Claim7.holds Tryd.pinned (.plain (OpenSpec.upto scanLeavesNothingSpec)) scanLeavesNothingUptoCard

/-- THE SECOND FORM's CARD OF 'reachlaw3.ScanSaysBack'. -/
def scanSaysBackUptoCard : Claim7 := { stood := { row := scanSaysBackUptoRow, standIns := [], harness := (true, "b8abad17823fc90ff912a2a95b003ff6caf071964f94fe783310487d02ab5585"), looks := true }, kinds := [], alts := [], laidByText := true, laidKinds := [.data, .data, .data, .data, .sentinel, .sentinel, .data, .data, .data, .pinned], laidTests := true, laidLooks := .later }
def ScanSaysBackUptoCardSaid : Prop := Claim7.holds Tryd.pinned (.plain (OpenSpec.upto scanSaysBackSpec)) scanSaysBackUptoCard

/-- THE SECOND FORM's CARD OF 'reachlaw3.ScanCounts'. -/
def scanCountsUptoCard : Claim7 := { stood := { row := scanCountsUptoRow, standIns := [], harness := (true, "b8abad17823fc90ff912a2a95b003ff6caf071964f94fe783310487d02ab5585"), looks := true }, kinds := [], alts := [], laidByText := true, laidKinds := [.data, .data, .data, .data, .sentinel, .sentinel, .data, .data, .pinned], laidTests := true, laidLooks := .later }
def ScanCountsUptoCardSaid : Prop := Claim7.holds Tryd.pinned (.plain (OpenSpec.upto scanCountsSpec)) scanCountsUptoCard
end Rows
end Go.Proofs.YtppmncmhokkfdaaDoor
