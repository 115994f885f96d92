/-
  For the laws of node: a region that draws its order, walked once in the order of the text, at the class of worlds that have grown from one world. No condition.
-/
import Derived.Test.YtpnfjiglphogoacAwk
import Derived.Deep.QuietTactic
import Derived.BigQuiet
namespace Go.Proofs.Ytpnfjiglphogoac
open Go.RowKit Go.Shelf
set_option linter.unusedSimpArgs false
set_option linter.unusedVariables false

/-- A world that has grown from W0. -/
structure InC (W0 : World) where
  w : World
  h : Below W0.heap.size W0 w
instance (W0 : World) : Nonempty (InC W0) := ⟨⟨W0, Below.refl _ _⟩⟩
theorem wp_region_quiet_in {P : Program} {id : Nat} {Q : Exit → Act → World → Prop} {a : Act} {w : World} {l : List Oper} (W0 : World) (hw : Below W0.heap.size W0 w) (hm : P.follows .mixedOrders = true) (hB : Region.lexB .any l.toArray = true)
    (h : wpQuiet P l.toArray (fun w' => ∃ p : InC W0, w' = p.w) (fun a' => ∀ w', (∃ p : InC W0, w' = p.w) → Q .normal a' w') l a) : (Code.region id l.toArray true).wp P Q a w :=
  wp_region_quiet (C := fun w' => ∃ p : InC W0, w' = p.w) hm hB ⟨⟨w.drew, below_drew hw⟩, rfl⟩ (by simpa using h)
theorem InC.aq {W0 : World} (p : InC W0) : AQ W0 p.w := p.h
theorem quiet_in {P : Program} {f : FuncId} {args : Array Value} {W0 : World} {p : InC W0} {v : Value}
    (h : Calls P f args p.w fun e w' => e = .returned v ∧ Below p.w.heap.size p.w w') : Calls P f args p.w fun e w'' => e = .returned v ∧ ∃ q : InC W0, w'' = q.w :=
  h.mono fun _ w' ⟨he, hb⟩ => ⟨he, ⟨w', p.h.trans (hb.mono p.h.size)⟩, rfl⟩
end Go.Proofs.Ytpnfjiglphogoac
