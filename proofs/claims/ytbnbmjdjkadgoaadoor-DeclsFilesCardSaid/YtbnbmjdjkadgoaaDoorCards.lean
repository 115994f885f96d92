/-
  DERIVED. GIVEN WITH THE SEED: THE CARDS: each row of YtbnbmjdjkadgoaaDoorRows.lean that lists a variable, with what it lists TIED to the program's text (the seventh form; the later family's looks); each row that meets fmt, with fmt's text TOLD by the authors' own Lean function (tested against real Go, not proved from fmt's source: count such statements apart). THE CARD IS WHAT COUNTS. Prove the row's statement (the work); the ties are given (YtbnbmjdjkadgoaaDoorTie.lean); close each card by the builder's one call (the guide's Derived/Test/ToyasCard.lean, 'card_holds'). Laid BY PROGRAM, IN A SANDBOX (cutbox-door.mjs). By AI agents, Wed Nov 11 2026. No macro, syntax, notation, axiom, sorry.
-/
import Derived.Test.YtbnbmjdjkadgoaaDoorRows
import GoSem.ClaimSeven
namespace Go.Proofs.YtbnbmjdjkadgoaaDoor
namespace Rows

/-- THE TIED CARD OF 'concordatlaw15.DeclsTables'. -/
def declsTablesCard : Claim7 := { stood := { row := declsTablesRow, standIns := [], harness := (true, "8a7779887e8c1c3cf1fde105d5e6e274e2132f6c88ed3e44004afa81fef1381f"), looks := false }, kinds := [], alts := [], laidByText := true, laidKinds := [.data, .data, .data], laidTests := true, laidLooks := .later }
def DeclsTablesCardSaid : Prop := Claim7.holds Tryd.pinned (.plain (OpenSpec.ofChange declsTablesSpec)) declsTablesCard

/-- THE TIED CARD OF 'concordatlaw15.DeclsOne'. -/
def declsOneCard : Claim7 := { stood := { row := declsOneRow, standIns := [], harness := (true, "8a7779887e8c1c3cf1fde105d5e6e274e2132f6c88ed3e44004afa81fef1381f"), looks := false }, kinds := [], alts := [], laidByText := true, laidKinds := [.data, .data, .data], laidTests := true, laidLooks := .later }
def DeclsOneCardSaid : Prop := Claim7.holds Tryd.pinned (.plain (OpenSpec.ofChange declsOneSpec)) declsOneCard

/-- THE TIED CARD OF 'concordatlaw15.DeclsFiles'. -/
def declsFilesCard : Claim7 := { stood := { row := declsFilesRow, standIns := [], harness := (true, "8a7779887e8c1c3cf1fde105d5e6e274e2132f6c88ed3e44004afa81fef1381f"), looks := false }, kinds := [], alts := [], laidByText := true, laidKinds := [.data, .data, .data], laidTests := true, laidLooks := .later }
def DeclsFilesCardSaid : Prop := Claim7.holds Tryd.pinned (.plain (OpenSpec.ofChange declsFilesSpec)) declsFilesCard

/-- THE SECOND FORM's CARD OF 'concordatlaw15.DeclsTables'. -/
def declsTablesUptoCard : Claim7 := { stood := { row := declsTablesUptoRow, standIns := [], harness := (true, "8a7779887e8c1c3cf1fde105d5e6e274e2132f6c88ed3e44004afa81fef1381f"), looks := false }, kinds := [], alts := [], laidByText := true, laidKinds := [.data, .data, .data], laidTests := true, laidLooks := .later }
def DeclsTablesUptoCardSaid : Prop := Claim7.holds Tryd.pinned (.plain (OpenSpec.upto declsTablesSpec)) declsTablesUptoCard

/-- THE SECOND FORM's CARD OF 'concordatlaw15.DeclsOne'. -/
def declsOneUptoCard : Claim7 := { stood := { row := declsOneUptoRow, standIns := [], harness := (true, "8a7779887e8c1c3cf1fde105d5e6e274e2132f6c88ed3e44004afa81fef1381f"), looks := false }, kinds := [], alts := [], laidByText := true, laidKinds := [.data, .data, .data], laidTests := true, laidLooks := .later }
def DeclsOneUptoCardSaid : Prop := Claim7.holds Tryd.pinned (.plain (OpenSpec.upto declsOneSpec)) declsOneUptoCard

/-- THE SECOND FORM's CARD OF 'concordatlaw15.DeclsFiles'. -/
def declsFilesUptoCard : Claim7 := { stood := { row := declsFilesUptoRow, standIns := [], harness := (true, "8a7779887e8c1c3cf1fde105d5e6e274e2132f6c88ed3e44004afa81fef1381f"), looks := false }, kinds := [], alts := [], laidByText := true, laidKinds := [.data, .data, .data], laidTests := true, laidLooks := .later }
def DeclsFilesUptoCardSaid : Prop := Claim7.holds Tryd.pinned (.plain (OpenSpec.upto declsFilesSpec)) declsFilesUptoCard
end Rows
end Go.Proofs.YtbnbmjdjkadgoaaDoor
