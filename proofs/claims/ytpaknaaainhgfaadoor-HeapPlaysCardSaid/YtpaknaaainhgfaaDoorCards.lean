/-
  DERIVED. GIVEN WITH THE SEED: THE CARDS: each row of YtpaknaaainhgfaaDoorRows.lean that lists a variable, with what it lists TIED to the program's text (the seventh form; the later family's looks); each row that meets fmt, with fmt's text TOLD by the authors' own Lean function (tested against real Go, not proved from fmt's source: count such statements apart). THE CARD IS WHAT COUNTS. Prove the row's statement (the work); the ties are given (YtpaknaaainhgfaaDoorTie.lean); close each card by the builder's one call (the guide's Derived/Test/ToyasCard.lean, 'card_holds'). Laid BY PROGRAM, IN A SANDBOX (cutbox-door.mjs). By AI agents, Wed Nov 11 2026. No macro, syntax, notation, axiom, sorry.
-/
import Derived.Test.YtpaknaaainhgfaaDoorRows
import GoSem.ClaimSeven
namespace Go.Proofs.YtpaknaaainhgfaaDoor
namespace Rows

/-- THE TIED CARD OF 'concordatlaw20.ArithDoes'. -/
def arithDoesCard : Claim7 := { stood := { row := arithDoesRow, standIns := [], harness := (true, "fed545c5dd2a7711c9b868982fbb1046548b02abff04e7f6750f2d434de67748"), looks := true }, kinds := [], alts := [], laidByText := true, laidKinds := [.data, .data, .data, .sentinel, .sentinel], laidTests := true, laidLooks := .later }
def ArithDoesCardSaid : Prop := Claim7.holds Tryd.pinned (.plain (OpenSpec.ofChange arithDoesSpec)) arithDoesCard

/-- THE TIED CARD OF 'concordatlaw20.ArithShows'. -/
def arithShowsCard : Claim7 := { stood := { row := arithShowsRow, standIns := [], harness := (true, "fed545c5dd2a7711c9b868982fbb1046548b02abff04e7f6750f2d434de67748"), looks := true }, kinds := [], alts := [], laidByText := true, laidKinds := [.data, .data, .data, .sentinel, .sentinel], laidTests := true, laidLooks := .later }
def ArithShowsCardSaid : Prop := Claim7.holds Tryd.pinned (.plain (OpenSpec.ofChange arithShowsSpec)) arithShowsCard

/-- THE TIED CARD OF 'concordatlaw20.ArithRing'. -/
def arithRingCard : Claim7 := { stood := { row := arithRingRow, standIns := [], harness := (true, "fed545c5dd2a7711c9b868982fbb1046548b02abff04e7f6750f2d434de67748"), looks := true }, kinds := [], alts := [], laidByText := true, laidKinds := [.data, .data, .data, .sentinel, .sentinel], laidTests := true, laidLooks := .later }
def ArithRingCardSaid : Prop := Claim7.holds Tryd.pinned (.plain (OpenSpec.ofChange arithRingSpec)) arithRingCard

/-- THE TIED CARD OF 'concordatlaw20.ArithQuotient'. -/
def arithQuotientCard : Claim7 := { stood := { row := arithQuotientRow, standIns := [], harness := (true, "fed545c5dd2a7711c9b868982fbb1046548b02abff04e7f6750f2d434de67748"), looks := true }, kinds := [], alts := [], laidByText := true, laidKinds := [.data, .data, .data, .sentinel, .sentinel], laidTests := true, laidLooks := .later }
def ArithQuotientCardSaid : Prop := Claim7.holds Tryd.pinned (.plain (OpenSpec.ofChange arithQuotientSpec)) arithQuotientCard

/-- THE TIED CARD OF 'concordatlaw20.ArithOrder'. -/
def arithOrderCard : Claim7 := { stood := { row := arithOrderRow, standIns := [], harness := (true, "fed545c5dd2a7711c9b868982fbb1046548b02abff04e7f6750f2d434de67748"), looks := true }, kinds := [], alts := [], laidByText := true, laidKinds := [.data, .data, .data, .sentinel, .sentinel], laidTests := true, laidLooks := .later }
def ArithOrderCardSaid : Prop := Claim7.holds Tryd.pinned (.plain (OpenSpec.ofChange arithOrderSpec)) arithOrderCard

/-- THE TIED CARD OF 'concordatlaw21.HeapPlays'. -/
def heapPlaysCard : Claim7 := { stood := { row := heapPlaysRow, standIns := [], harness := (true, "fed545c5dd2a7711c9b868982fbb1046548b02abff04e7f6750f2d434de67748"), looks := true }, kinds := [], alts := [], laidByText := true, laidKinds := [.data, .data, .data], laidTests := true, laidLooks := .later }
def HeapPlaysCardSaid : Prop := Claim7.holds Tryd.pinned (.plain (OpenSpec.ofChange heapPlaysSpec)) heapPlaysCard

/-- THE TIED CARD OF 'concordatlaw21.HeapShows'. -/
def heapShowsCard : Claim7 := { stood := { row := heapShowsRow, standIns := [], harness := (true, "fed545c5dd2a7711c9b868982fbb1046548b02abff04e7f6750f2d434de67748"), looks := true }, kinds := [], alts := [], laidByText := true, laidKinds := [.data, .data, .data], laidTests := true, laidLooks := .later }
def HeapShowsCardSaid : Prop := Claim7.holds Tryd.pinned (.plain (OpenSpec.ofChange heapShowsSpec)) heapShowsCard

/-- THE TIED CARD OF 'concordatlaw21.HeapApart'. -/
def heapApartCard : Claim7 := { stood := { row := heapApartRow, standIns := [], harness := (true, "fed545c5dd2a7711c9b868982fbb1046548b02abff04e7f6750f2d434de67748"), looks := true }, kinds := [], alts := [], laidByText := true, laidKinds := [.data, .data, .data], laidTests := true, laidLooks := .later }
def HeapApartCardSaid : Prop := Claim7.holds Tryd.pinned (.plain (OpenSpec.ofChange heapApartSpec)) heapApartCard

/-- THE TIED CARD OF 'concordatlaw21.HeapNone'. -/
def heapNoneCard : Claim7 := { stood := { row := heapNoneRow, standIns := [], harness := (true, "fed545c5dd2a7711c9b868982fbb1046548b02abff04e7f6750f2d434de67748"), looks := true }, kinds := [], alts := [], laidByText := true, laidKinds := [.data, .data, .data], laidTests := true, laidLooks := .later }
def HeapNoneCardSaid : Prop := Claim7.holds Tryd.pinned (.plain (OpenSpec.ofChange heapNoneSpec)) heapNoneCard

/-- THE SECOND FORM's CARD OF 'concordatlaw20.ArithDoes'. -/
def arithDoesUptoCard : Claim7 := { stood := { row := arithDoesUptoRow, standIns := [], harness := (true, "fed545c5dd2a7711c9b868982fbb1046548b02abff04e7f6750f2d434de67748"), looks := true }, kinds := [], alts := [], laidByText := true, laidKinds := [.data, .data, .data, .sentinel, .sentinel], laidTests := true, laidLooks := .later }
def ArithDoesUptoCardSaid : Prop := Claim7.holds Tryd.pinned (.plain (OpenSpec.upto arithDoesSpec)) arithDoesUptoCard

/-- THE SECOND FORM's CARD OF 'concordatlaw20.ArithShows'. -/
def arithShowsUptoCard : Claim7 := { stood := { row := arithShowsUptoRow, standIns := [], harness := (true, "fed545c5dd2a7711c9b868982fbb1046548b02abff04e7f6750f2d434de67748"), looks := true }, kinds := [], alts := [], laidByText := true, laidKinds := [.data, .data, .data, .sentinel, .sentinel], laidTests := true, laidLooks := .later }
def ArithShowsUptoCardSaid : Prop := Claim7.holds Tryd.pinned (.plain (OpenSpec.upto arithShowsSpec)) arithShowsUptoCard

/-- THE SECOND FORM's CARD OF 'concordatlaw20.ArithRing'. -/
def arithRingUptoCard : Claim7 := { stood := { row := arithRingUptoRow, standIns := [], harness := (true, "fed545c5dd2a7711c9b868982fbb1046548b02abff04e7f6750f2d434de67748"), looks := true }, kinds := [], alts := [], laidByText := true, laidKinds := [.data, .data, .data, .sentinel, .sentinel], laidTests := true, laidLooks := .later }
def ArithRingUptoCardSaid : Prop := Claim7.holds Tryd.pinned (.plain (OpenSpec.upto arithRingSpec)) arithRingUptoCard

/-- THE SECOND FORM's CARD OF 'concordatlaw20.ArithQuotient'. -/
def arithQuotientUptoCard : Claim7 := { stood := { row := arithQuotientUptoRow, standIns := [], harness := (true, "fed545c5dd2a7711c9b868982fbb1046548b02abff04e7f6750f2d434de67748"), looks := true }, kinds := [], alts := [], laidByText := true, laidKinds := [.data, .data, .data, .sentinel, .sentinel], laidTests := true, laidLooks := .later }
def ArithQuotientUptoCardSaid : Prop := Claim7.holds Tryd.pinned (.plain (OpenSpec.upto arithQuotientSpec)) arithQuotientUptoCard

/-- THE SECOND FORM's CARD OF 'concordatlaw20.ArithOrder'. -/
def arithOrderUptoCard : Claim7 := { stood := { row := arithOrderUptoRow, standIns := [], harness := (true, "fed545c5dd2a7711c9b868982fbb1046548b02abff04e7f6750f2d434de67748"), looks := true }, kinds := [], alts := [], laidByText := true, laidKinds := [.data, .data, .data, .sentinel, .sentinel], laidTests := true, laidLooks := .later }
def ArithOrderUptoCardSaid : Prop := Claim7.holds Tryd.pinned (.plain (OpenSpec.upto arithOrderSpec)) arithOrderUptoCard

/-- THE SECOND FORM's CARD OF 'concordatlaw21.HeapPlays'. -/
def heapPlaysUptoCard : Claim7 := { stood := { row := heapPlaysUptoRow, standIns := [], harness := (true, "fed545c5dd2a7711c9b868982fbb1046548b02abff04e7f6750f2d434de67748"), looks := true }, kinds := [], alts := [], laidByText := true, laidKinds := [.data, .data, .data], laidTests := true, laidLooks := .later }
def HeapPlaysUptoCardSaid : Prop := Claim7.holds Tryd.pinned (.plain (OpenSpec.upto heapPlaysSpec)) heapPlaysUptoCard

/-- THE SECOND FORM's CARD OF 'concordatlaw21.HeapShows'. -/
def heapShowsUptoCard : Claim7 := { stood := { row := heapShowsUptoRow, standIns := [], harness := (true, "fed545c5dd2a7711c9b868982fbb1046548b02abff04e7f6750f2d434de67748"), looks := true }, kinds := [], alts := [], laidByText := true, laidKinds := [.data, .data, .data], laidTests := true, laidLooks := .later }
def HeapShowsUptoCardSaid : Prop := Claim7.holds Tryd.pinned (.plain (OpenSpec.upto heapShowsSpec)) heapShowsUptoCard

/-- THE SECOND FORM's CARD OF 'concordatlaw21.HeapApart'. -/
def heapApartUptoCard : Claim7 := { stood := { row := heapApartUptoRow, standIns := [], harness := (true, "fed545c5dd2a7711c9b868982fbb1046548b02abff04e7f6750f2d434de67748"), looks := true }, kinds := [], alts := [], laidByText := true, laidKinds := [.data, .data, .data], laidTests := true, laidLooks := .later }
def HeapApartUptoCardSaid : Prop := Claim7.holds Tryd.pinned (.plain (OpenSpec.upto heapApartSpec)) heapApartUptoCard

/-- THE SECOND FORM's CARD OF 'concordatlaw21.HeapNone'. -/
def heapNoneUptoCard : Claim7 := { stood := { row := heapNoneUptoRow, standIns := [], harness := (true, "fed545c5dd2a7711c9b868982fbb1046548b02abff04e7f6750f2d434de67748"), looks := true }, kinds := [], alts := [], laidByText := true, laidKinds := [.data, .data, .data], laidTests := true, laidLooks := .later }
def HeapNoneUptoCardSaid : Prop := Claim7.holds Tryd.pinned (.plain (OpenSpec.upto heapNoneSpec)) heapNoneUptoCard
end Rows
end Go.Proofs.YtpaknaaainhgfaaDoor
