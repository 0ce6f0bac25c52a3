/-
  DERIVED. GIVEN WITH THE SEED: THE CARDS: each row of YtclgjdhobdncjaaDoorRows.lean that lists a variable, with what it lists TIED to the program's text (the seventh form; the later family's looks); each row that meets fmt, with fmt's text TOLD by the authors' own Lean function (tested against real Go, not proved from fmt's source: count such statements apart). THE CARD IS WHAT COUNTS. Prove the row's statement (the work); the ties are given (YtclgjdhobdncjaaDoorTie.lean); close each card by the builder's one call (the guide's Derived/Test/ToyasCard.lean, 'card_holds'). Laid BY PROGRAM, IN A SANDBOX (cutbox-door.mjs). By AI agents, Wed Nov 11 2026. No macro, syntax, notation, axiom, sorry.
-/
import Derived.Test.YtclgjdhobdncjaaDoorRows
import GoSem.ClaimSeven
namespace Go.Proofs.YtclgjdhobdncjaaDoor
namespace Rows

/-- THE TIED CARD OF 'reachlaw3.ScanQuotes'. -/
def scanQuotesCard : Claim7 := { stood := { row := scanQuotesRow, standIns := [], harness := (true, "d2bfb40a593e4be9042a72e2e64b85272be6d011e6780c2303a57a36517133c0"), looks := false }, kinds := [], alts := [], laidByText := true, laidKinds := [.data, .data, .data, .data, .data], laidTests := true, laidLooks := .later }
def ScanQuotesCardSaid : Prop := Claim7.holds Tryd.pinned (.plain (OpenSpec.ofChange scanQuotesSpec)) scanQuotesCard

/-- THE TIED CARD OF 'reachlaw3.ScanSaysAlike'. -/
def scanSaysAlikeCard : Claim7 := { stood := { row := scanSaysAlikeRow, standIns := [], harness := (true, "d2bfb40a593e4be9042a72e2e64b85272be6d011e6780c2303a57a36517133c0"), looks := false }, kinds := [], alts := [], laidByText := true, laidKinds := [.data, .data, .data, .data, .data], laidTests := true, laidLooks := .later }
def ScanSaysAlikeCardSaid : Prop := Claim7.holds Tryd.pinned (.plain (OpenSpec.ofChange scanSaysAlikeSpec)) scanSaysAlikeCard

/-- THE TIED CARD OF 'reachlaw3.ScanUnquotes'. -/
def scanUnquotesCard : Claim7 := { stood := { row := scanUnquotesRow, standIns := [], harness := (true, "d2bfb40a593e4be9042a72e2e64b85272be6d011e6780c2303a57a36517133c0"), looks := false }, kinds := [], alts := [], laidByText := true, laidKinds := [.data], laidTests := true, laidLooks := .later }
def ScanUnquotesCardSaid : Prop := Claim7.holds Tryd.pinned (.plain (OpenSpec.ofChange scanUnquotesSpec)) scanUnquotesCard

/-- THE SECOND FORM's CARD OF 'reachlaw3.ScanQuotes'. -/
def scanQuotesUptoCard : Claim7 := { stood := { row := scanQuotesUptoRow, standIns := [], harness := (true, "d2bfb40a593e4be9042a72e2e64b85272be6d011e6780c2303a57a36517133c0"), looks := false }, kinds := [], alts := [], laidByText := true, laidKinds := [.data, .data, .data, .data, .data], laidTests := true, laidLooks := .later }
def ScanQuotesUptoCardSaid : Prop := Claim7.holds Tryd.pinned (.plain (OpenSpec.upto scanQuotesSpec)) scanQuotesUptoCard

/-- THE SECOND FORM's CARD OF 'reachlaw3.ScanSaysAlike'. -/
def scanSaysAlikeUptoCard : Claim7 := { stood := { row := scanSaysAlikeUptoRow, standIns := [], harness := (true, "d2bfb40a593e4be9042a72e2e64b85272be6d011e6780c2303a57a36517133c0"), looks := false }, kinds := [], alts := [], laidByText := true, laidKinds := [.data, .data, .data, .data, .data], laidTests := true, laidLooks := .later }
def ScanSaysAlikeUptoCardSaid : Prop := Claim7.holds Tryd.pinned (.plain (OpenSpec.upto scanSaysAlikeSpec)) scanSaysAlikeUptoCard

/-- THE SECOND FORM's CARD OF 'reachlaw3.ScanUnquotes'. -/
def scanUnquotesUptoCard : Claim7 := { stood := { row := scanUnquotesUptoRow, standIns := [], harness := (true, "d2bfb40a593e4be9042a72e2e64b85272be6d011e6780c2303a57a36517133c0"), looks := false }, kinds := [], alts := [], laidByText := true, laidKinds := [.data], laidTests := true, laidLooks := .later }
def ScanUnquotesUptoCardSaid : Prop := Claim7.holds Tryd.pinned (.plain (OpenSpec.upto scanUnquotesSpec)) scanUnquotesUptoCard
end Rows
end Go.Proofs.YtclgjdhobdncjaaDoor
