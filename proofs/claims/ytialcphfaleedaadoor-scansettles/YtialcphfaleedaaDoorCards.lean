/-
  DERIVED. GIVEN WITH THE SEED: THE CARDS: each row of YtialcphfaleedaaDoorRows.lean that lists a variable, with what it lists TIED to the program's text (the seventh form; the later family's looks); each row that meets fmt, with fmt's text TOLD by the authors' own Lean function (tested against real Go, not proved from fmt's source: count such statements apart). THE CARD IS WHAT COUNTS. Prove the row's statement (the work); the ties are given (YtialcphfaleedaaDoorTie.lean); close each card by the builder's one call (the guide's Derived/Test/ToyasCard.lean, 'card_holds'). Laid BY PROGRAM, IN A SANDBOX (cutbox-door.mjs). By AI agents, Wed Nov 11 2026. No macro, syntax, notation, axiom, sorry.
-/
import Derived.Test.YtialcphfaleedaaDoorRows
import GoSem.ClaimSeven
namespace Go.Proofs.YtialcphfaleedaaDoor
namespace Rows

/-- THE TIED CARD OF 'reachlaw3.ScanJoins'. -/
def scanJoinsCard : Claim7 := { stood := { row := scanJoinsRow, standIns := [], harness := (true, "6a2dba56bbc363abf9850d8578cab947051938e10a8ca73767bc8eafb155e3ed"), looks := true }, kinds := [], alts := [], laidByText := true, laidKinds := [.data, .data, .data, .data, .sentinel, .sentinel, .data, .data, .pinned], laidTests := true, laidLooks := .later }
def ScanJoinsCardSaid : Prop := Claim7.holds Tryd.pinned (.plain (OpenSpec.ofChange scanJoinsSpec)) scanJoinsCard

/-- THE TIED CARD OF 'reachlaw3.ScanLeavesNothing'. -/
def scanLeavesNothingCard : Claim7 := { stood := { row := scanLeavesNothingRow, standIns := [], harness := (true, "6a2dba56bbc363abf9850d8578cab947051938e10a8ca73767bc8eafb155e3ed"), looks := true }, kinds := [], alts := [], laidByText := true, laidKinds := [.data, .data, .data, .data, .sentinel, .sentinel, .data, .data, .pinned], laidTests := true, laidLooks := .later }
def ScanLeavesNothingCardSaid : Prop := Claim7.holds Tryd.pinned (.plain (OpenSpec.ofChange scanLeavesNothingSpec)) scanLeavesNothingCard

/-- THE TIED CARD OF 'reachlaw3.ScanIsNew'. -/
def scanIsNewCard : Claim7 := { stood := { row := scanIsNewRow, standIns := [], harness := (true, "6a2dba56bbc363abf9850d8578cab947051938e10a8ca73767bc8eafb155e3ed"), looks := true }, kinds := [], alts := [], laidByText := true, laidKinds := [.data, .data, .data, .data, .sentinel, .sentinel, .data, .data, .pinned], laidTests := true, laidLooks := .later }
def ScanIsNewCardSaid : Prop := Claim7.holds Tryd.pinned (.plain (OpenSpec.ofChange scanIsNewSpec)) scanIsNewCard

/-- THE TIED CARD OF 'reachlaw3.ScanSettles'. -/
def scanSettlesCard : Claim7 := { stood := { row := scanSettlesRow, standIns := [], harness := (true, "6a2dba56bbc363abf9850d8578cab947051938e10a8ca73767bc8eafb155e3ed"), looks := true }, kinds := [], alts := [], laidByText := true, laidKinds := [.data, .data, .data, .data, .sentinel, .sentinel, .data, .data, .data, .pinned], laidTests := true, laidLooks := .later }
def ScanSettlesCardSaid : Prop := Claim7.holds Tryd.pinned (.plain (OpenSpec.ofChange scanSettlesSpec)) scanSettlesCard

/-- THE SECOND FORM's CARD OF 'reachlaw3.ScanJoins'. -/
def scanJoinsUptoCard : Claim7 := { stood := { row := scanJoinsUptoRow, standIns := [], harness := (true, "6a2dba56bbc363abf9850d8578cab947051938e10a8ca73767bc8eafb155e3ed"), looks := true }, kinds := [], alts := [], laidByText := true, laidKinds := [.data, .data, .data, .data, .sentinel, .sentinel, .data, .data, .pinned], laidTests := true, laidLooks := .later }
def ScanJoinsUptoCardSaid : Prop := Claim7.holds Tryd.pinned (.plain (OpenSpec.upto scanJoinsSpec)) scanJoinsUptoCard

/-- THE SECOND FORM's CARD OF 'reachlaw3.ScanLeavesNothing'. -/
def scanLeavesNothingUptoCard : Claim7 := { stood := { row := scanLeavesNothingUptoRow, standIns := [], harness := (true, "6a2dba56bbc363abf9850d8578cab947051938e10a8ca73767bc8eafb155e3ed"), looks := true }, kinds := [], alts := [], laidByText := true, laidKinds := [.data, .data, .data, .data, .sentinel, .sentinel, .data, .data, .pinned], laidTests := true, laidLooks := .later }
def ScanLeavesNothingUptoCardSaid : Prop := Claim7.holds Tryd.pinned (.plain (OpenSpec.upto scanLeavesNothingSpec)) scanLeavesNothingUptoCard

/-- THE SECOND FORM's CARD OF 'reachlaw3.ScanIsNew'. -/
def scanIsNewUptoCard : Claim7 := { stood := { row := scanIsNewUptoRow, standIns := [], harness := (true, "6a2dba56bbc363abf9850d8578cab947051938e10a8ca73767bc8eafb155e3ed"), looks := true }, kinds := [], alts := [], laidByText := true, laidKinds := [.data, .data, .data, .data, .sentinel, .sentinel, .data, .data, .pinned], laidTests := true, laidLooks := .later }
def ScanIsNewUptoCardSaid : Prop := Claim7.holds Tryd.pinned (.plain (OpenSpec.upto scanIsNewSpec)) scanIsNewUptoCard

/-- THE SECOND FORM's CARD OF 'reachlaw3.ScanSettles'. -/
def scanSettlesUptoCard : Claim7 := { stood := { row := scanSettlesUptoRow, standIns := [], harness := (true, "6a2dba56bbc363abf9850d8578cab947051938e10a8ca73767bc8eafb155e3ed"), looks := true }, kinds := [], alts := [], laidByText := true, laidKinds := [.data, .data, .data, .data, .sentinel, .sentinel, .data, .data, .data, .pinned], laidTests := true, laidLooks := .later }
def ScanSettlesUptoCardSaid : Prop := Claim7.holds Tryd.pinned (.plain (OpenSpec.upto scanSettlesSpec)) scanSettlesUptoCard
end Rows
end Go.Proofs.YtialcphfaleedaaDoor
