/-
  For the laws of cells: what the map of first places gives for a key that is there, and for one that isn't. Condition: keys no longer than any text may be.
-/
import Derived.Test.YtfjmhnnjgjcmeaaGreatDoorCu
namespace Go.Proofs.YtfjmhnnjgjcmeaaGreatDoor
open Go.RowKit Go.Shelf Go.Maps Go.WideMaps
set_option linter.unusedSimpArgs false
set_option linter.unusedVariables false

theorem FstM.below {W W' : World} {b n : Nat} {K : TL} (h : FstM W b K n) (hb : Below W.heap.size W W') : FstM W' b K n := h.same (hb.block b h.lt)
theorem FstM.yes {W : World} {b n : Nat} {K : TL} (h : FstM W b K n) {s : ByteArray} (hs : s.size ≤ maxLen) (hm : s ∈ K) :
    (Instr.lookup 75 (.map (some b)) (.string s) true).run Tryz.prog W = .ok (.tuple #[.int .i64 (ixT K s : Nat), .bool true]) W := by
  obtain ⟨c, d, h1, h2, h3⟩ := h.look s hs
  rw [h1, h2.2 hm, h3 hm]
theorem FstM.no {W : World} {b n : Nat} {K : TL} (h : FstM W b K n) {s : ByteArray} (hs : s.size ≤ maxLen) (hm : s ∉ K) :
    (Instr.lookup 75 (.map (some b)) (.string s) true).run Tryz.prog W = .ok (.tuple #[.int .i64 0, .bool false]) W := by
  obtain ⟨D, hD, hk⟩ := h
  obtain ⟨h1, -⟩ := hk (tl s)
  have h1' : Maps.has D (.string (tl s)) = false := by rw [h1]; exact decide_eq_false (fun h => hm (mem_tls.1 h))
  obtain ⟨v, ps, hrun, hv⟩ := hD.look_ok law9s Tryz.underlying75 (L.zero3 W) (plainElem_int Tryz.underlying3 (by decide)) (keyOf_string_mk Tryz.underlying9 hs)
  obtain ⟨c, rfl, hc, _⟩ := plainElem_int_inv Tryz.underlying3 hv
  simp only [Prod.mk.injEq] at hc
  have h2 := (atKey_of_not_has h1' (DataW.lit (.int .i64 0))).symm.trans hc.1
  have h3 : c = 0 := by simpa using h2.symm
  rw [hrun, h3]
  rw [show Maps.has D (.string s.data.toList) = false from h1']
end Go.Proofs.YtfjmhnnjgjcmeaaGreatDoor
