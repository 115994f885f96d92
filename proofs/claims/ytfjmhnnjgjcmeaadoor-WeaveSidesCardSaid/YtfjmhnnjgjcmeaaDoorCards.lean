/-
  DERIVED. GIVEN WITH THE SEED: THE CARDS: each row of YtfjmhnnjgjcmeaaDoorRows.lean that lists a variable, with what it lists TIED to the program's text (the seventh form; the later family's looks); each row that meets fmt, with fmt's text TOLD by the authors' own Lean function (tested against real Go, not proved from fmt's source: count such statements apart). THE CARD IS WHAT COUNTS. Prove the row's statement (the work); the ties are given (YtfjmhnnjgjcmeaaDoorTie.lean); close each card by the builder's one call (the guide's Derived/Test/ToyasCard.lean, 'card_holds'). Laid BY PROGRAM, IN A SANDBOX (cutbox-door.mjs). By AI agents, Wed Nov 11 2026. No macro, syntax, notation, axiom, sorry.
-/
import Derived.Test.YtfjmhnnjgjcmeaaDoorRows
import GoSem.ClaimSeven
namespace Go.Proofs.YtfjmhnnjgjcmeaaDoor
namespace Rows

/-- THE TIED CARD OF 'concordatlaw08.WeaveJoins'. -/
def weaveJoinsCard : Claim7 := { stood := { row := weaveJoinsRow, standIns := [], harness := (true, "dea8255719088ca6936ebe9cca45efbe7384db4990d183abbc7b668ed011f889"), looks := true }, kinds := [], alts := [], laidByText := true, laidKinds := [.data, .data, .data, .sentinel, .sentinel], laidTests := true, laidLooks := .later }
def WeaveJoinsCardSaid : Prop := Claim7.holds Tryd.pinned (.plain (OpenSpec.ofChange weaveJoinsSpec)) weaveJoinsCard

/-- THE TIED CARD OF 'concordatlaw08.WeaveSides'. -/
def weaveSidesCard : Claim7 := { stood := { row := weaveSidesRow, standIns := [], harness := (true, "dea8255719088ca6936ebe9cca45efbe7384db4990d183abbc7b668ed011f889"), looks := true }, kinds := [], alts := [], laidByText := true, laidKinds := [.data, .data, .data, .sentinel, .sentinel], laidTests := true, laidLooks := .later }
def WeaveSidesCardSaid : Prop := Claim7.holds Tryd.pinned (.plain (OpenSpec.ofChange weaveSidesSpec)) weaveSidesCard

/-- THE TIED CARD OF 'concordatlaw08.WeaveOne'. -/
def weaveOneCard : Claim7 := { stood := { row := weaveOneRow, standIns := [], harness := (true, "dea8255719088ca6936ebe9cca45efbe7384db4990d183abbc7b668ed011f889"), looks := true }, kinds := [], alts := [], laidByText := true, laidKinds := [.data, .data, .data, .sentinel, .sentinel], laidTests := true, laidLooks := .later }
def WeaveOneCardSaid : Prop := Claim7.holds Tryd.pinned (.plain (OpenSpec.ofChange weaveOneSpec)) weaveOneCard

/-- THE SECOND FORM's CARD OF 'concordatlaw08.WeaveJoins'. -/
def weaveJoinsUptoCard : Claim7 := { stood := { row := weaveJoinsUptoRow, standIns := [], harness := (true, "dea8255719088ca6936ebe9cca45efbe7384db4990d183abbc7b668ed011f889"), looks := true }, kinds := [], alts := [], laidByText := true, laidKinds := [.data, .data, .data, .sentinel, .sentinel], laidTests := true, laidLooks := .later }
def WeaveJoinsUptoCardSaid : Prop := Claim7.holds Tryd.pinned (.plain (OpenSpec.upto weaveJoinsSpec)) weaveJoinsUptoCard

/-- THE SECOND FORM's CARD OF 'concordatlaw08.WeaveSides'. -/
def weaveSidesUptoCard : Claim7 := { stood := { row := weaveSidesUptoRow, standIns := [], harness := (true, "dea8255719088ca6936ebe9cca45efbe7384db4990d183abbc7b668ed011f889"), looks := true }, kinds := [], alts := [], laidByText := true, laidKinds := [.data, .data, .data, .sentinel, .sentinel], laidTests := true, laidLooks := .later }
def WeaveSidesUptoCardSaid : Prop := Claim7.holds Tryd.pinned (.plain (OpenSpec.upto weaveSidesSpec)) weaveSidesUptoCard

/-- THE SECOND FORM's CARD OF 'concordatlaw08.WeaveOne'. -/
def weaveOneUptoCard : Claim7 := { stood := { row := weaveOneUptoRow, standIns := [], harness := (true, "dea8255719088ca6936ebe9cca45efbe7384db4990d183abbc7b668ed011f889"), looks := true }, kinds := [], alts := [], laidByText := true, laidKinds := [.data, .data, .data, .sentinel, .sentinel], laidTests := true, laidLooks := .later }
def WeaveOneUptoCardSaid : Prop := Claim7.holds Tryd.pinned (.plain (OpenSpec.upto weaveOneSpec)) weaveOneUptoCard
end Rows
end Go.Proofs.YtfjmhnnjgjcmeaaDoor
