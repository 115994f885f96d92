/-
  DERIVED. GIVEN WITH THE SEED: THE CARDS: each row of YtbekbllffphfeaaDoorRows.lean that lists a variable, with what it lists TIED to the program's text (the seventh form; the later family's looks); each row that meets fmt, with fmt's text TOLD by the authors' own Lean function (tested against real Go, not proved from fmt's source: count such statements apart). THE CARD IS WHAT COUNTS. Prove the row's statement (the work); the ties are given (YtbekbllffphfeaaDoorTie.lean); close each card by the builder's one call (the guide's Derived/Test/ToyasCard.lean, 'card_holds'). Laid BY PROGRAM, IN A SANDBOX (cutbox-door.mjs). By AI agents, Wed Nov 11 2026. No macro, syntax, notation, axiom, sorry.
-/
import Derived.Test.YtbekbllffphfeaaDoorRows
import GoSem.ClaimSeven
namespace Go.Proofs.YtbekbllffphfeaaDoor
namespace Rows

/-- THE TIED CARD OF 'concordatlaw32.FallbackOne'. -/
def fallbackOneCard : Claim7 := { stood := { row := fallbackOneRow, standIns := [], harness := (true, "8182025da4aeb779953f4a5552b57dfd710d54ca9c6962b18484856296b412cd"), looks := false }, kinds := [], alts := [], laidByText := true, laidKinds := [.data], laidTests := true, laidLooks := .later }
def FallbackOneCardSaid : Prop := Claim7.holds Tryd.pinned (.plain (OpenSpec.ofChange fallbackOneSpec)) fallbackOneCard

/-- THE SECOND FORM's CARD OF 'concordatlaw32.FallbackOne'. -/
def fallbackOneUptoCard : Claim7 := { stood := { row := fallbackOneUptoRow, standIns := [], harness := (true, "8182025da4aeb779953f4a5552b57dfd710d54ca9c6962b18484856296b412cd"), looks := false }, kinds := [], alts := [], laidByText := true, laidKinds := [.data], laidTests := true, laidLooks := .later }
def FallbackOneUptoCardSaid : Prop := Claim7.holds Tryd.pinned (.plain (OpenSpec.upto fallbackOneSpec)) fallbackOneUptoCard
end Rows
end Go.Proofs.YtbekbllffphfeaaDoor
