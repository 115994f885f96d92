/-
  DERIVED. GIVEN WITH THE SEED: THE CARDS: each row of YtpnfjiglphogoadDoorRows.lean that lists a variable, with what it lists TIED to the program's text (the seventh form; the later family's looks); each row that meets fmt, with fmt's text TOLD by the authors' own Lean function (tested against real Go, not proved from fmt's source: count such statements apart). THE CARD IS WHAT COUNTS. Prove the row's statement (the work); the ties are given (YtpnfjiglphogoadDoorTie.lean); close each card by the builder's one call (the guide's Derived/Test/ToyasCard.lean, 'card_holds'). Laid BY PROGRAM, IN A SANDBOX (cutbox-door.mjs). By AI agents, Wed Nov 11 2026. No macro, syntax, notation, axiom, sorry.
-/
import Derived.Test.YtpnfjiglphogoadDoorRows
import GoSem.ClaimSeven
namespace Go.Proofs.YtpnfjiglphogoadDoor
namespace Rows

/-- THE TIED CARD OF 'concordatlaw35.ArchiveTells'. -/
def archiveTellsCard : Claim7 := { stood := { row := archiveTellsRow, standIns := [], harness := (true, "03290b401d1494419f2b0fe1d437285aa2de44dcaed7f0eb95decd003eea603d"), looks := true }, kinds := [], alts := [], laidByText := true, laidKinds := [.data, .data, .data, .data, .sentinel, .sentinel, .pinned], laidTests := true, laidLooks := .later }
def ArchiveTellsCardSaid : Prop := Claim7.holds Tryd.pinned (.plain (OpenSpec.ofChange archiveTellsSpec)) archiveTellsCard

/-- THE TIED CARD OF 'concordatlaw35.ArchiveBack'. -/
def archiveBackCard : Claim7 := { stood := { row := archiveBackRow, standIns := [], harness := (true, "03290b401d1494419f2b0fe1d437285aa2de44dcaed7f0eb95decd003eea603d"), looks := true }, kinds := [], alts := [], laidByText := true, laidKinds := [.data, .data, .data, .data, .sentinel, .sentinel, .pinned], laidTests := true, laidLooks := .later }
def ArchiveBackCardSaid : Prop := Claim7.holds Tryd.pinned (.plain (OpenSpec.ofChange archiveBackSpec)) archiveBackCard

/-- THE TIED CARD OF 'concordatlaw35.ArchiveParts'. -/
def archivePartsCard : Claim7 := { stood := { row := archivePartsRow, standIns := [], harness := (true, "03290b401d1494419f2b0fe1d437285aa2de44dcaed7f0eb95decd003eea603d"), looks := true }, kinds := [], alts := [], laidByText := true, laidKinds := [.data, .data, .data, .data, .sentinel, .sentinel, .pinned], laidTests := true, laidLooks := .later }
def ArchivePartsCardSaid : Prop := Claim7.holds Tryd.pinned (.plain (OpenSpec.ofChange archivePartsSpec)) archivePartsCard

/-- THE SECOND FORM's CARD OF 'concordatlaw35.ArchiveTells'. -/
def archiveTellsUptoCard : Claim7 := { stood := { row := archiveTellsUptoRow, standIns := [], harness := (true, "03290b401d1494419f2b0fe1d437285aa2de44dcaed7f0eb95decd003eea603d"), looks := true }, kinds := [], alts := [], laidByText := true, laidKinds := [.data, .data, .data, .data, .sentinel, .sentinel, .pinned], laidTests := true, laidLooks := .later }
def ArchiveTellsUptoCardSaid : Prop := Claim7.holds Tryd.pinned (.plain (OpenSpec.upto archiveTellsSpec)) archiveTellsUptoCard

/-- THE SECOND FORM's CARD OF 'concordatlaw35.ArchiveBack'. -/
def archiveBackUptoCard : Claim7 := { stood := { row := archiveBackUptoRow, standIns := [], harness := (true, "03290b401d1494419f2b0fe1d437285aa2de44dcaed7f0eb95decd003eea603d"), looks := true }, kinds := [], alts := [], laidByText := true, laidKinds := [.data, .data, .data, .data, .sentinel, .sentinel, .pinned], laidTests := true, laidLooks := .later }
def ArchiveBackUptoCardSaid : Prop := Claim7.holds Tryd.pinned (.plain (OpenSpec.upto archiveBackSpec)) archiveBackUptoCard

/-- THE SECOND FORM's CARD OF 'concordatlaw35.ArchiveParts'. -/
def archivePartsUptoCard : Claim7 := { stood := { row := archivePartsUptoRow, standIns := [], harness := (true, "03290b401d1494419f2b0fe1d437285aa2de44dcaed7f0eb95decd003eea603d"), looks := true }, kinds := [], alts := [], laidByText := true, laidKinds := [.data, .data, .data, .data, .sentinel, .sentinel, .pinned], laidTests := true, laidLooks := .later }
def ArchivePartsUptoCardSaid : Prop := Claim7.holds Tryd.pinned (.plain (OpenSpec.upto archivePartsSpec)) archivePartsUptoCard
end Rows
end Go.Proofs.YtpnfjiglphogoadDoor
