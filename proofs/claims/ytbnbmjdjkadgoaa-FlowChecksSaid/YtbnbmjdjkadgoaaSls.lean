/-
  For the laws of node: slices of texts. No condition.
-/
import Derived.Test.YtbnbmjdjkadgoaaRd
namespace Go.Proofs.Ytbnbmjdjkadgoaa
open Go.RowKit Go.Shelf
set_option linter.unusedSimpArgs false
set_option linter.unusedVariables false

/-- A slice of texts. -/
def SlS (w : World) (v : Value) (l : List By) : Prop := ∃ (a : Option Addr) (cap : Nat), v = .slice a l.length cap ∧ l.length ≤ cap ∧ cap ≤ maxLen ∧ ∀ (k : Nat) (s : By), l[k]? = some s → ∃ b off, a = some ⟨b, off, none⟩ ∧ w.cell? ⟨b, off + k, none⟩ = some (.string (bs s))
theorem SlS.below {w w' : World} {v : Value} {l : List By} (h : SlS w v l) (hb : Below w.heap.size w w') : SlS w' v l := by
  obtain ⟨a, cap, e, h1, h2, hx⟩ := h
  exact ⟨a, cap, e, h1, h2, fun k i hk => by
    obtain ⟨b, off, ea, hc⟩ := hx k i hk
    exact ⟨b, off, ea, (hb.cell (p := ⟨b, off + k, none⟩) (World.block_lt_of_cell? w _ hc)).trans hc⟩⟩
/-- The first two of a slice of texts. -/
theorem SlS.two {w : World} {v : Value} {l : List By} (h : SlS w v l) (h2 : 2 ≤ l.length) : ∃ (bn on cap : Nat) (s0 s1 : By), l[0]? = some s0 ∧ l[1]? = some s1 ∧ v = .slice (some ⟨bn, on, none⟩) l.length cap ∧ l.length ≤ cap ∧ cap ≤ maxLen ∧ bn < w.heap.size ∧ w.cell? ⟨bn, on, none⟩ = some (.string (bs s0)) ∧ w.cell? ⟨bn, on + 1, none⟩ = some (.string (bs s1)) := by
  obtain ⟨a, cap, e, h1, h3, hx⟩ := h
  obtain ⟨s0, e0⟩ : ∃ s, l[0]? = some s := ⟨_, List.getElem?_eq_getElem (by omega)⟩
  obtain ⟨s1, e1⟩ : ∃ s, l[1]? = some s := ⟨_, List.getElem?_eq_getElem (by omega)⟩
  obtain ⟨b, off, rfl, c0⟩ := hx 0 s0 e0
  obtain ⟨b', off', e', c1⟩ := hx 1 s1 e1
  cases e'
  exact ⟨b, off, cap, s0, s1, e0, e1, e, h1, h3, World.block_lt_of_cell? w _ c0, c0, c1⟩
end Go.Proofs.Ytbnbmjdjkadgoaa
