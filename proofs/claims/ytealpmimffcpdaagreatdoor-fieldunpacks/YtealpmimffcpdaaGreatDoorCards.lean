/-
  DERIVED. GIVEN WITH THE SEED: THE CARDS: each row of YtealpmimffcpdaaGreatDoorRows.lean that lists a variable, with what it lists TIED to the program's text (the seventh form; the later family's looks); each row that meets fmt, with fmt's text TOLD by the authors' own Lean function (tested against real Go, not proved from fmt's source: count such statements apart). THE CARD IS WHAT COUNTS. Prove the row's statement (the work); the ties are given (YtealpmimffcpdaaGreatDoorTie.lean); close each card by the builder's one call (the guide's Derived/Test/ToyasCard.lean, 'card_holds'). Laid BY PROGRAM, IN A SANDBOX (cutbox-door.mjs). By AI agents, Wed Nov 11 2026. No macro, syntax, notation, axiom, sorry.
-/
import Derived.Test.YtealpmimffcpdaaGreatDoorRows
import GoSem.ClaimSeven
namespace Go.Proofs.YtealpmimffcpdaaGreatDoor
namespace Rows

/-- THE TIED CARD OF 'reachlaw4.FieldChecks'. -/
def fieldChecksCard : Claim7 := { stood := { row := fieldChecksRow, standIns := [], harness := (true, "1384feb84c1a576d7643aaa7b1fcaf2b4825b9f0bf57e77869061c541af987e6"), looks := true }, kinds := [], alts := [], laidByText := true, laidKinds := [.data, .data, .data, .data, .sentinel, .sentinel, .data, .data, .pinned], laidTests := true, laidLooks := .later }
def FieldChecksCardSaid : Prop := Claim7.holds Tryz.pinned (.plain (OpenSpec.ofChange fieldChecksSpec)) fieldChecksCard

/-- THE TIED CARD OF 'reachlaw4.FieldPacks'. -/
def fieldPacksCard : Claim7 := { stood := { row := fieldPacksRow, standIns := [], harness := (true, "1384feb84c1a576d7643aaa7b1fcaf2b4825b9f0bf57e77869061c541af987e6"), looks := true }, kinds := [], alts := [], laidByText := true, laidKinds := [.data, .data, .data, .data, .sentinel, .sentinel, .data, .data, .pinned], laidTests := true, laidLooks := .later }
def FieldPacksCardSaid : Prop := Claim7.holds Tryz.pinned (.plain (OpenSpec.ofChange fieldPacksSpec)) fieldPacksCard

/-- THE TIED CARD OF 'reachlaw4.FieldWords'. -/
def fieldWordsCard : Claim7 := { stood := { row := fieldWordsRow, standIns := [], harness := (true, "1384feb84c1a576d7643aaa7b1fcaf2b4825b9f0bf57e77869061c541af987e6"), looks := true }, kinds := [], alts := [], laidByText := true, laidKinds := [.data, .data, .data, .data, .sentinel, .sentinel, .data, .data, .pinned], laidTests := true, laidLooks := .later }
def FieldWordsCardSaid : Prop := Claim7.holds Tryz.pinned (.plain (OpenSpec.ofChange fieldWordsSpec)) fieldWordsCard

/-- THE TIED CARD OF 'reachlaw4.FieldUnpacks'. -/
def fieldUnpacksCard : Claim7 := { stood := { row := fieldUnpacksRow, standIns := [], harness := (true, "1384feb84c1a576d7643aaa7b1fcaf2b4825b9f0bf57e77869061c541af987e6"), looks := true }, kinds := [], alts := [], laidByText := true, laidKinds := [.data, .data, .data, .data, .sentinel, .sentinel, .data, .data, .pinned], laidTests := true, laidLooks := .later }
def FieldUnpacksCardSaid : Prop := Claim7.holds Tryz.pinned (.plain (OpenSpec.ofChange fieldUnpacksSpec)) fieldUnpacksCard

/-- THE SECOND FORM's CARD OF 'reachlaw4.FieldChecks'. -/
def fieldChecksUptoCard : Claim7 := { stood := { row := fieldChecksUptoRow, standIns := [], harness := (true, "1384feb84c1a576d7643aaa7b1fcaf2b4825b9f0bf57e77869061c541af987e6"), looks := true }, kinds := [], alts := [], laidByText := true, laidKinds := [.data, .data, .data, .data, .sentinel, .sentinel, .data, .data, .pinned], laidTests := true, laidLooks := .later }
def FieldChecksUptoCardSaid : Prop := Claim7.holds Tryz.pinned (.plain (OpenSpec.upto fieldChecksSpec)) fieldChecksUptoCard

/-- THE SECOND FORM's CARD OF 'reachlaw4.FieldPacks'. -/
def fieldPacksUptoCard : Claim7 := { stood := { row := fieldPacksUptoRow, standIns := [], harness := (true, "1384feb84c1a576d7643aaa7b1fcaf2b4825b9f0bf57e77869061c541af987e6"), looks := true }, kinds := [], alts := [], laidByText := true, laidKinds := [.data, .data, .data, .data, .sentinel, .sentinel, .data, .data, .pinned], laidTests := true, laidLooks := .later }
def FieldPacksUptoCardSaid : Prop := Claim7.holds Tryz.pinned (.plain (OpenSpec.upto fieldPacksSpec)) fieldPacksUptoCard

/-- THE SECOND FORM's CARD OF 'reachlaw4.FieldWords'. -/
def fieldWordsUptoCard : Claim7 := { stood := { row := fieldWordsUptoRow, standIns := [], harness := (true, "1384feb84c1a576d7643aaa7b1fcaf2b4825b9f0bf57e77869061c541af987e6"), looks := true }, kinds := [], alts := [], laidByText := true, laidKinds := [.data, .data, .data, .data, .sentinel, .sentinel, .data, .data, .pinned], laidTests := true, laidLooks := .later }
def FieldWordsUptoCardSaid : Prop := Claim7.holds Tryz.pinned (.plain (OpenSpec.upto fieldWordsSpec)) fieldWordsUptoCard

/-- THE SECOND FORM's CARD OF 'reachlaw4.FieldUnpacks'. -/
def fieldUnpacksUptoCard : Claim7 := { stood := { row := fieldUnpacksUptoRow, standIns := [], harness := (true, "1384feb84c1a576d7643aaa7b1fcaf2b4825b9f0bf57e77869061c541af987e6"), looks := true }, kinds := [], alts := [], laidByText := true, laidKinds := [.data, .data, .data, .data, .sentinel, .sentinel, .data, .data, .pinned], laidTests := true, laidLooks := .later }
def FieldUnpacksUptoCardSaid : Prop := Claim7.holds Tryz.pinned (.plain (OpenSpec.upto fieldUnpacksSpec)) fieldUnpacksUptoCard
end Rows
end Go.Proofs.YtealpmimffcpdaaGreatDoor
