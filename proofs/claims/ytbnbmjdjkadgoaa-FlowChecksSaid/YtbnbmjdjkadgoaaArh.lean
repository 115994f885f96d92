/-
  What an argument holds: a node, a slice of texts, a slice of numbers. Condition: a node's count is at most its bulk.
-/
import Derived.Test.YtbnbmjdjkadgoaaArg
import Derived.Test.YtbnbmjdjkadgoaaSls
namespace Go.Proofs.Ytbnbmjdjkadgoaa
open Go.ChangeShapes Go.WideShapes Go.ChangeAt Go.RowKit Go.Deep
open Go.ChangeMaps (open_string)
set_option linter.unusedVariables false

section
variable {H : Type} {enc : TypeId × Value → H} {W : World} {sp : Nat → Bool} {r : Reach} {b0 : Nat} {v : Value} {d : DataW H} {p : List MemPlace}
theorem addr_of_cell {W : World} {a : Addr} {x : Value} (h : W.cell? (a.add 0) = some x) : ∃ b off, a = ⟨b, off, none⟩ ∧ b < W.heap.size := by
  obtain ⟨blk, off, el⟩ := a
  obtain rfl : el = none := by simpa [Addr.add] using World.cell?_spot h
  exact ⟨blk, off, rfl, World.block_lt_of_cell? W _ h⟩
set_option maxRecDepth 100000 in
theorem strs_of_arg (hv : Value.okWide Try.prog W r b0 26 v) (h : DataW.Trod enc Try.prog W 0 sp true 26 v d p) : ∃ ss : List By, SlS W v ss := by
  obtain ⟨a1, len, cap, rfl⟩ := okWide_slice Try.underlying26 hv
  obtain ⟨fuel, hf⟩ := h
  rcases Go.ChangeShapes.open_strings Try.underlying26 Try.underlying9 cellsOf9 hf with ⟨hcs, hx⟩ | ⟨a, len', cap', ss, hcs, _, hl, hm, hz, hx, hcell, hws⟩
  · simp [Value.cells] at hcs
    obtain ⟨rfl, rfl, rfl⟩ := hcs
    exact ⟨[], none, 0, rfl, Nat.le_refl _, by simp [maxLen], fun k i hk => by simp at hk⟩
  · simp [Value.cells] at hcs
    obtain ⟨rfl, rfl, rfl⟩ := hcs
    have hlz : len ≤ ss.length := by rw [hz]; split <;> omega
    have hlen : ((ss.take len).map tl).length = len := by rw [List.length_map, List.length_take]; omega
    refine ⟨(ss.take len).map tl, some a, cap, by rw [hlen], by omega, by omega, fun j x hj => ?_⟩
    have hj2 : j < len := by
      have := (List.getElem?_eq_some_iff.1 hj).1
      omega
    obtain ⟨blk, off, rfl, hblk⟩ := addr_of_cell (hcell 0 (by omega))
    refine ⟨blk, off, rfl, ?_⟩
    have hc := hcell j (by omega)
    rw [List.getElem?_map, List.getElem?_take_of_lt hj2, List.getElem?_eq_getElem (by omega)] at hj
    have hj3 : tl ss[j] = x := by simpa using hj
    rw [← add_flat, hc, ← hj3, bs_tl]
    simp [List.getD_eq_getElem?_getD, List.getElem?_eq_getElem (show j < ss.length by omega)]
end
end Go.Proofs.Ytbnbmjdjkadgoaa
