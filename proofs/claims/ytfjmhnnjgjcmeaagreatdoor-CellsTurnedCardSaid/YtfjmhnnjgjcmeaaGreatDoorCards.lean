/-
  DERIVED. GIVEN WITH THE SEED: THE CARDS: each row of YtfjmhnnjgjcmeaaGreatDoorRows.lean that lists a variable, with what it lists TIED to the program's text (the seventh form; the later family's looks); each row that meets fmt, with fmt's text TOLD by the authors' own Lean function (tested against real Go, not proved from fmt's source: count such statements apart). THE CARD IS WHAT COUNTS. Prove the row's statement (the work); the ties are given (YtfjmhnnjgjcmeaaGreatDoorTie.lean); close each card by the builder's one call (the guide's Derived/Test/ToyasCard.lean, 'card_holds'). Laid BY PROGRAM, IN A SANDBOX (cutbox-door.mjs). By AI agents, Wed Nov 11 2026. No macro, syntax, notation, axiom, sorry.
-/
import Derived.Test.YtfjmhnnjgjcmeaaGreatDoorRows
import GoSem.ClaimSeven
namespace Go.Proofs.YtfjmhnnjgjcmeaaGreatDoor
namespace Rows

/-- THE TIED CARD OF 'concordatlaw08.WeaveParts'. -/
def weavePartsCard : Claim7 := { stood := { row := weavePartsRow, standIns := [], harness := (true, "a496f80a3b5a793168be110272d0e62278d05f687e0c0de0cb0c0f5e4abbfca2"), looks := true }, kinds := [], alts := [], laidByText := true, laidKinds := [.data, .data, .data, .sentinel, .sentinel], laidTests := true, laidLooks := .later }
def WeavePartsCardSaid : Prop := Claim7.holds Tryz.pinned (.plain (OpenSpec.ofChange weavePartsSpec)) weavePartsCard

/-- THE TIED CARD OF 'concordatlaw30.CellsRows'. -/
def cellsRowsCard : Claim7 := { stood := { row := cellsRowsRow, standIns := [], harness := (true, "a496f80a3b5a793168be110272d0e62278d05f687e0c0de0cb0c0f5e4abbfca2"), looks := true }, kinds := [], alts := [], laidByText := true, laidKinds := [.data, .data, .data, .sentinel, .sentinel], laidTests := true, laidLooks := .later }
def CellsRowsCardSaid : Prop := Claim7.holds Tryz.pinned (.plain (OpenSpec.ofChange cellsRowsSpec)) cellsRowsCard

/-- THE TIED CARD OF 'concordatlaw30.CellsThree'. -/
def cellsThreeCard : Claim7 := { stood := { row := cellsThreeRow, standIns := [], harness := (true, "a496f80a3b5a793168be110272d0e62278d05f687e0c0de0cb0c0f5e4abbfca2"), looks := true }, kinds := [], alts := [], laidByText := true, laidKinds := [.data, .data, .data, .sentinel, .sentinel], laidTests := true, laidLooks := .later }
def CellsThreeCardSaid : Prop := Claim7.holds Tryz.pinned (.plain (OpenSpec.ofChange cellsThreeSpec)) cellsThreeCard

/-- THE TIED CARD OF 'concordatlaw30.CellsOne'. -/
def cellsOneCard : Claim7 := { stood := { row := cellsOneRow, standIns := [], harness := (true, "a496f80a3b5a793168be110272d0e62278d05f687e0c0de0cb0c0f5e4abbfca2"), looks := true }, kinds := [], alts := [], laidByText := true, laidKinds := [.data, .data, .data, .sentinel, .sentinel], laidTests := true, laidLooks := .later }
def CellsOneCardSaid : Prop := Claim7.holds Tryz.pinned (.plain (OpenSpec.ofChange cellsOneSpec)) cellsOneCard

/-- THE TIED CARD OF 'concordatlaw30.CellsTurned'. -/
def cellsTurnedCard : Claim7 := { stood := { row := cellsTurnedRow, standIns := [], harness := (true, "a496f80a3b5a793168be110272d0e62278d05f687e0c0de0cb0c0f5e4abbfca2"), looks := true }, kinds := [], alts := [], laidByText := true, laidKinds := [.data, .data, .data, .sentinel, .sentinel], laidTests := true, laidLooks := .later }
def CellsTurnedCardSaid : Prop := Claim7.holds Tryz.pinned (.plain (OpenSpec.ofChange cellsTurnedSpec)) cellsTurnedCard

/-- THE TIED CARD OF 'concordatlaw30.CellsKept'. -/
def cellsKeptCard : Claim7 := { stood := { row := cellsKeptRow, standIns := [], harness := (true, "a496f80a3b5a793168be110272d0e62278d05f687e0c0de0cb0c0f5e4abbfca2"), looks := true }, kinds := [], alts := [], laidByText := true, laidKinds := [.data, .data, .data, .sentinel, .sentinel], laidTests := true, laidLooks := .later }
def CellsKeptCardSaid : Prop := Claim7.holds Tryz.pinned (.plain (OpenSpec.ofChange cellsKeptSpec)) cellsKeptCard

/-- THE SECOND FORM's CARD OF 'concordatlaw08.WeaveParts'. -/
def weavePartsUptoCard : Claim7 := { stood := { row := weavePartsUptoRow, standIns := [], harness := (true, "a496f80a3b5a793168be110272d0e62278d05f687e0c0de0cb0c0f5e4abbfca2"), looks := true }, kinds := [], alts := [], laidByText := true, laidKinds := [.data, .data, .data, .sentinel, .sentinel], laidTests := true, laidLooks := .later }
def WeavePartsUptoCardSaid : Prop := Claim7.holds Tryz.pinned (.plain (OpenSpec.upto weavePartsSpec)) weavePartsUptoCard

/-- THE SECOND FORM's CARD OF 'concordatlaw30.CellsRows'. -/
def cellsRowsUptoCard : Claim7 := { stood := { row := cellsRowsUptoRow, standIns := [], harness := (true, "a496f80a3b5a793168be110272d0e62278d05f687e0c0de0cb0c0f5e4abbfca2"), looks := true }, kinds := [], alts := [], laidByText := true, laidKinds := [.data, .data, .data, .sentinel, .sentinel], laidTests := true, laidLooks := .later }
def CellsRowsUptoCardSaid : Prop := Claim7.holds Tryz.pinned (.plain (OpenSpec.upto cellsRowsSpec)) cellsRowsUptoCard

/-- THE SECOND FORM's CARD OF 'concordatlaw30.CellsThree'. -/
def cellsThreeUptoCard : Claim7 := { stood := { row := cellsThreeUptoRow, standIns := [], harness := (true, "a496f80a3b5a793168be110272d0e62278d05f687e0c0de0cb0c0f5e4abbfca2"), looks := true }, kinds := [], alts := [], laidByText := true, laidKinds := [.data, .data, .data, .sentinel, .sentinel], laidTests := true, laidLooks := .later }
def CellsThreeUptoCardSaid : Prop := Claim7.holds Tryz.pinned (.plain (OpenSpec.upto cellsThreeSpec)) cellsThreeUptoCard

/-- THE SECOND FORM's CARD OF 'concordatlaw30.CellsOne'. -/
def cellsOneUptoCard : Claim7 := { stood := { row := cellsOneUptoRow, standIns := [], harness := (true, "a496f80a3b5a793168be110272d0e62278d05f687e0c0de0cb0c0f5e4abbfca2"), looks := true }, kinds := [], alts := [], laidByText := true, laidKinds := [.data, .data, .data, .sentinel, .sentinel], laidTests := true, laidLooks := .later }
def CellsOneUptoCardSaid : Prop := Claim7.holds Tryz.pinned (.plain (OpenSpec.upto cellsOneSpec)) cellsOneUptoCard

/-- THE SECOND FORM's CARD OF 'concordatlaw30.CellsTurned'. -/
def cellsTurnedUptoCard : Claim7 := { stood := { row := cellsTurnedUptoRow, standIns := [], harness := (true, "a496f80a3b5a793168be110272d0e62278d05f687e0c0de0cb0c0f5e4abbfca2"), looks := true }, kinds := [], alts := [], laidByText := true, laidKinds := [.data, .data, .data, .sentinel, .sentinel], laidTests := true, laidLooks := .later }
def CellsTurnedUptoCardSaid : Prop := Claim7.holds Tryz.pinned (.plain (OpenSpec.upto cellsTurnedSpec)) cellsTurnedUptoCard

/-- THE SECOND FORM's CARD OF 'concordatlaw30.CellsKept'. -/
def cellsKeptUptoCard : Claim7 := { stood := { row := cellsKeptUptoRow, standIns := [], harness := (true, "a496f80a3b5a793168be110272d0e62278d05f687e0c0de0cb0c0f5e4abbfca2"), looks := true }, kinds := [], alts := [], laidByText := true, laidKinds := [.data, .data, .data, .sentinel, .sentinel], laidTests := true, laidLooks := .later }
def CellsKeptUptoCardSaid : Prop := Claim7.holds Tryz.pinned (.plain (OpenSpec.upto cellsKeptSpec)) cellsKeptUptoCard
end Rows
end Go.Proofs.YtfjmhnnjgjcmeaaGreatDoor
