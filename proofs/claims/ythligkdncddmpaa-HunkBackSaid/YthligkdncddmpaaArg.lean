/-
  For the laws of lcs and hunk: what an argument holds: a number, a text, a slice of numbers, a slice of texts. No condition.
-/
import Derived.Test.YthligkdncddmpaaNums
import Derived.ProofKit
import Derived.OpenShut
import Derived.ShutString
import Derived.SliceStrings
import Derived.ChangeSlices
namespace Go.Proofs.Ythligkdncddmpaa
open Go.ChangeShapes Go.WideShapes Go.ChangeAt Go.RowKit
open Go.ChangeMaps (open_string)

theorem laidOut : laidOutB Try.prog = true := by kernel_rfl
theorem cellsOf3 : Try.prog.cellsOf 3 = 1 := by kernel_rfl
theorem cellsOf9 : Try.prog.cellsOf 9 = 1 := by kernel_rfl
section
variable {H : Type} {enc : TypeId × Value → H} {W : World} {sp : Nat → Bool} {r : Reach} {b0 : Nat} {v : Value} {d : DataW H} {p : List MemPlace}
theorem int_of_arg (hv : Value.okWide Try.prog W r b0 3 v) (h : DataW.Trod enc Try.prog W 0 sp true 3 v d p) : ∃ x : Int, v = .int .i64 x ∧ (Lit.int .i64 x).wf = true := by
  obtain ⟨a, rfl, -, -, w⟩ := open_int Try.underlying3 hv h
  exact ⟨a, rfl, w⟩
theorem string_of_arg (hv : Value.okWide Try.prog W r b0 9 v) (h : DataW.Trod enc Try.prog W 0 sp true 9 v d p) : ∃ x : ByteArray, v = .string x ∧ x.size ≤ maxLen := by
  obtain ⟨a, rfl, -, -, w⟩ := open_string Try.underlying9 hv h
  exact ⟨a, rfl, w⟩
theorem addr_of_cell {W : World} {a : Addr} {x : Value} (h : W.cell? (a.add 0) = some x) : ∃ b off, a = ⟨b, off, none⟩ ∧ b < W.heap.size := by
  obtain ⟨blk, off, el⟩ := a
  obtain rfl : el = none := by simpa [Addr.add] using World.cell?_spot h
  exact ⟨blk, off, rfl, World.block_lt_of_cell? W _ h⟩
theorem add_flat (b off j : Nat) : (⟨b, off, none⟩ : Addr).add j = ⟨b, off + j, none⟩ := by
  by_cases h0 : j = 0 <;> simp [Addr.add, h0]
theorem ints_of_arg (hv : Value.okWide Try.prog W r b0 22 v) (h : DataW.Trod enc Try.prog W 0 sp true 22 v d p) : ∃ xs : List Int, Ints W .i64 v xs := by
  obtain ⟨a1, len, cap, rfl⟩ := okWide_slice Try.underlying22 hv
  obtain ⟨fuel, hf⟩ := h
  rcases open_ints Try.underlying22 Try.underlying3 cellsOf3 hf with ⟨hcs, hx⟩ | ⟨a, len', cap', zs, hcs, _, hl, hm, hz, hx, hcell, hws⟩
  · simp [Value.cells] at hcs
    obtain ⟨rfl, rfl, rfl⟩ := hcs
    exact ⟨[], ⟨none, 0, rfl, Nat.le_refl _, by simp [maxLen], .inl rfl⟩⟩
  · simp [Value.cells] at hcs
    obtain ⟨rfl, rfl, rfl⟩ := hcs
    have hlz : len ≤ zs.length := by rw [hz]; split <;> omega
    have hlen : (zs.take len).length = len := by rw [List.length_take]; omega
    refine ⟨zs.take len, ⟨some a, cap, by rw [hlen], by omega, by omega, ?_⟩⟩
    by_cases h0 : len = 0
    · left; subst h0; simp
    · right
      obtain ⟨blk, off, rfl, hblk⟩ := addr_of_cell (hcell 0 (by omega))
      refine ⟨blk, off, rfl, hblk, fun j x hj => ?_⟩
      have hj2 : j < len := by
        have := (List.getElem?_eq_some_iff.1 hj).1
        omega
      have hc := hcell j (by omega)
      rw [List.getElem?_take_of_lt hj2] at hj
      rw [← add_flat, hc]
      simp [List.getD_eq_getElem?_getD, hj]
theorem strs_of_arg (hv : Value.okWide Try.prog W r b0 27 v) (h : DataW.Trod enc Try.prog W 0 sp true 27 v d p) : ∃ ss : List ByteArray, Vals W v (ss.map Value.string) ∧ ∀ s ∈ ss, s.size ≤ maxLen := by
  obtain ⟨a1, len, cap, rfl⟩ := okWide_slice Try.underlying27 hv
  obtain ⟨fuel, hf⟩ := h
  rcases Go.ChangeShapes.open_strings Try.underlying27 Try.underlying9 cellsOf9 hf with ⟨hcs, hx⟩ | ⟨a, len', cap', ss, hcs, _, hl, hm, hz, hx, hcell, hws⟩
  · simp [Value.cells] at hcs
    obtain ⟨rfl, rfl, rfl⟩ := hcs
    exact ⟨[], vals_nil W, by simp⟩
  · simp [Value.cells] at hcs
    obtain ⟨rfl, rfl, rfl⟩ := hcs
    have hlz : len ≤ ss.length := by rw [hz]; split <;> omega
    have hlen : (ss.take len).length = len := by rw [List.length_take]; omega
    refine ⟨ss.take len, ⟨some a, cap, by rw [List.length_map, hlen], by rw [List.length_map]; omega, by omega, ?_⟩, fun s hs => hws s (List.mem_of_mem_take hs)⟩
    by_cases h0 : len = 0
    · left; subst h0; simp
    · right
      obtain ⟨blk, off, rfl, hblk⟩ := addr_of_cell (hcell 0 (by omega))
      refine ⟨blk, off, rfl, hblk, fun j x hj => ?_⟩
      rw [List.getElem?_map] at hj
      have hj2 : j < len := by
        by_cases e : j < len
        · exact e
        · rw [List.getElem?_eq_none (by omega)] at hj; cases hj
      have hc := hcell j (by omega)
      rw [List.getElem?_take_of_lt hj2, List.getElem?_eq_getElem (by omega)] at hj
      simp at hj
      rw [← add_flat, hc, ← hj]
      simp [List.getD_eq_getElem?_getD, List.getElem?_eq_getElem (show j < ss.length by omega)]
end
end Go.Proofs.Ythligkdncddmpaa
