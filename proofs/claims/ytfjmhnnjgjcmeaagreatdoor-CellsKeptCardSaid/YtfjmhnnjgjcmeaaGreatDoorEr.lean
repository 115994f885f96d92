/-
  For the laws of cells: what a law's argument reads as: rows of segments. No condition.
-/
import Derived.Test.YtfjmhnnjgjcmeaaGreatDoorLaid
import Derived.Test.YtfjmhnnjgjcmeaaGreatDoorEb
import Derived.Laws.IdiomArrays
namespace Go.Proofs.YtfjmhnnjgjcmeaaGreatDoor
open Go.ChangeShapes Go.WideShapes Go.ChangeAt Go.RowKit Go.Deep

theorem okWide_arr {P : Program} {w : World} {r : Reach} {base n : Nat} {t e : TypeId} {v : Value} (ht : P.underlying t = some (.array n e)) (h : Value.okWide P w r base t v) : ∃ cs, v = .agg cs ∧ cs.size = P.cellsOf t := by
  simp only [Value.okWide, ht] at h
  obtain ⟨cs, h1, h2, _⟩ := h
  exact ⟨cs, h1, h2⟩
theorem arr43 : Tryz.prog.underlying 43 = some (.array 3 9) := by kernel_rfl
theorem arr44 : Tryz.prog.underlying 44 = some (.array 3 4) := by kernel_rfl
theorem arr45 : Tryz.prog.underlying 45 = some (.array 3 27) := by kernel_rfl
theorem cellsOf43 : Tryz.prog.cellsOf 43 = 3 := by kernel_rfl
theorem cellsOf44 : Tryz.prog.cellsOf 44 = 3 := by kernel_rfl
theorem cellsOf45 : Tryz.prog.cellsOf 45 = 3 := by kernel_rfl
theorem cellsOf27 : Tryz.prog.cellsOf 27 = 1 := by kernel_rfl
theorem addr_of_cell {W : World} {a : Addr} {x : Value} (h : W.cell? (a.add 0) = some x) : ∃ b off, a = ⟨b, off, none⟩ ∧ b < W.heap.size := by
  obtain ⟨blk, off, el⟩ := a
  obtain rfl : el = none := by simpa [Addr.add] using World.cell?_spot h
  exact ⟨blk, off, rfl, World.block_lt_of_cell? W _ h⟩
theorem strs_of_cell {H : Type} {enc : TypeId × Value → H} {W : World} {sp : Nat → Bool} {c : Value} {fuel : Nat} {y : DataW H × List MemPlace} (hf : DataW.trod enc Tryz.prog W 0 sp true fuel 27 [c] = some y) : ∃ ss : TL, L.Vals W c (ss.map Value.string) ∧ ∀ s ∈ ss, s.size ≤ maxLen := by
  rcases Go.ChangeShapes.open_strings Tryz.underlying27 Tryz.underlying9 cellsOf9 hf with ⟨hcs, hx⟩ | ⟨a, len, cap, ss, hcs, _, hl, hm, hz, hx, hcell, hws⟩
  · obtain rfl : c = .slice none 0 0 := by simpa using hcs
    exact ⟨[], L.vals_nil W, by simp⟩
  · obtain rfl : c = .slice (some a) len cap := by simpa using hcs
    have hlz : len ≤ ss.length := by rw [hz]; split <;> omega
    have hlen : (ss.take len).length = len := by rw [List.length_take]; omega
    refine ⟨ss.take len, ⟨some a, cap, by rw [List.length_map, hlen], by rw [List.length_map]; omega, by omega, ?_⟩, fun s hs => hws s (List.mem_of_mem_take hs)⟩
    by_cases h0 : len = 0
    · left; subst h0; simp
    · right
      obtain ⟨blk, off, rfl, hblk⟩ := addr_of_cell (hcell 0 (by omega))
      refine ⟨blk, off, rfl, hblk, fun j x hj => ?_⟩
      rw [List.getElem?_map] at hj
      have hj2 : j < len := by
        by_cases e : j < len
        · exact e
        · rw [List.getElem?_eq_none (by omega)] at hj; cases hj
      have hc := hcell j (by omega)
      rw [List.getElem?_take_of_lt hj2, List.getElem?_eq_getElem (by omega)] at hj
      simp at hj
      rw [← add_flat, hc, ← hj]
      simp [List.getD_eq_getElem?_getD, List.getElem?_eq_getElem (show j < ss.length by omega)]
theorem cellsOf49 : Tryz.prog.cellsOf 49 = 2 := by kernel_rfl
section
variable {H : Type} {enc : TypeId × Value → H} {W : World} {sp : Nat → Bool} {r : Reach} {b0 : Nat} {v : Value} {d : DataW H} {p : List MemPlace}
set_option maxRecDepth 100000 in
theorem sgs_of_arg (hv : Value.okWide Tryz.prog W r b0 35 v) (h : DataW.Trod enc Tryz.prog W 0 sp true 35 v d p) : ∃ L : SL, Sgs W v L := by
  obtain ⟨a1, len, cap, rfl⟩ := okWide_slice Tryz.underlying35 hv
  obtain ⟨fuel, hf⟩ := h
  rcases open_slice Tryz.underlying35 hf with ⟨hcs, hx⟩ | ⟨a, len', cap', m, n, D, Pl, hcs, _, hl, hm, hmm, hx, hi⟩
  · simp [Value.cells] at hcs
    obtain ⟨rfl, rfl, rfl⟩ := hcs
    exact ⟨[], sgs_nil _⟩
  · simp [Value.cells] at hcs
    obtain ⟨rfl, rfl, rfl⟩ := hcs
    have hlm : len ≤ m := by rw [hmm]; split <;> omega
    have hone : ∀ i, i < len → ∃ t : ByteArray × ByteArray, ∃ b off, a = ⟨b, off, none⟩ ∧ b < W.heap.size ∧ W.cell? ⟨b, off + i * 2, none⟩ = some (.string t.1) ∧ W.cell? ⟨b, off + i * 2 + 1, none⟩ = some (.string t.2) := by
      intro i hil
      obtain ⟨cs, hc, ht⟩ := hi i (by omega)
      rw [cellsOf49] at hc
      obtain ⟨_, hcl, hat⟩ := World.cells?_some hc
      obtain ⟨xs, n', _, _, _, hxl, hfd⟩ := DataW.trod_struct Tryz.underlying49 ht
      match cs, hcl with
      | [q0, q1], _ =>
        have hxl' : xs.length = 2 := hxl
        match xs, hxl' with
        | [y0, y1], _ =>
          have f0 : DataW.trod enc Tryz.prog W 0 sp true n' 9 [q0] = some y0 := by have := hfd 0 _ rfl; simpa [cellsOf9] using this
          have f1 : DataW.trod enc Tryz.prog W 0 sp true n' 9 [q1] = some y1 := by have := hfd 1 _ rfl; simpa [cellsOf9] using this
          obtain ⟨x0, e0, -, -⟩ := DataW.trod_string Tryz.underlying9 f0
          obtain ⟨x1, e1, -, -⟩ := DataW.trod_string Tryz.underlying9 f1
          simp only [List.cons.injEq, and_true] at e0 e1
          subst e0 e1
          have g0 := hat 0 (by omega)
          have g1 := hat 1 (by omega)
          obtain ⟨blk, off, el⟩ := a
          have hel : el = none := by
            obtain ⟨cz, hcz, -⟩ := hi 0 (by omega)
            rw [cellsOf49] at hcz
            obtain ⟨_, hcl, hatz⟩ := World.cells?_some hcz
            have hz := hatz 0 (by omega)
            rw [List.getElem?_eq_getElem (by omega)] at hz
            have := World.cell?_spot hz
            simpa [Addr.add] using this
          subst hel
          simp only [add_flat, List.getElem?_cons_zero, List.getElem?_cons_succ, Nat.add_zero] at g0 g1
          exact ⟨(x0, x1), blk, off, rfl, World.block_lt_of_cell? W _ g0, g0, g1⟩
    obtain ⟨L, hLl, hL⟩ := list_of len _ hone
    refine ⟨L, some a, cap, by rw [hLl], by omega, by omega, fun k h hk => ?_⟩
    obtain ⟨b, off, e, rest⟩ := hL k h hk
    exact ⟨b, off, by rw [e], rest⟩
set_option maxRecDepth 100000 in
theorem texts3_of_arg (hv : Value.okWide Tryz.prog W r b0 43 v) (h : DataW.Trod enc Tryz.prog W 0 sp true 43 v d p) : ∃ x y z : ByteArray, v = .agg #[.string x, .string y, .string z] := by
  obtain ⟨cs, rfl, hsz⟩ := okWide_arr arr43 hv
  obtain ⟨fuel, hf⟩ := h
  rw [cellsOf43] at hsz
  obtain ⟨l⟩ := cs
  match l, hsz with
  | [c0, c1, c2], _ =>
    obtain ⟨y0, y1, y2, n, -, f0, f1, f2⟩ := Go.ChangeShapes.trod_array3 arr43 cellsOf9 (by simpa [Value.cells] using hf)
    obtain ⟨x0, e0, -, -⟩ := DataW.trod_string Tryz.underlying9 f0
    obtain ⟨x1, e1, -, -⟩ := DataW.trod_string Tryz.underlying9 f1
    obtain ⟨x2, e2, -, -⟩ := DataW.trod_string Tryz.underlying9 f2
    simp only [List.cons.injEq, and_true] at e0 e1 e2
    subst e0 e1 e2
    exact ⟨x0, x1, x2, rfl⟩
set_option maxRecDepth 100000 in
theorem bools3_of_arg (hv : Value.okWide Tryz.prog W r b0 44 v) (h : DataW.Trod enc Tryz.prog W 0 sp true 44 v d p) : ∃ x y z : Bool, v = .agg #[.bool x, .bool y, .bool z] := by
  obtain ⟨cs, rfl, hsz⟩ := okWide_arr arr44 hv
  obtain ⟨fuel, hf⟩ := h
  rw [cellsOf44] at hsz
  obtain ⟨l⟩ := cs
  match l, hsz with
  | [c0, c1, c2], _ =>
    obtain ⟨y0, y1, y2, n, -, f0, f1, f2⟩ := Go.ChangeShapes.trod_array3 arr44 cellsOf4 (by simpa [Value.cells] using hf)
    obtain ⟨x0, e0, -, -⟩ := DataW.trod_bool Tryz.underlying4 f0
    obtain ⟨x1, e1, -, -⟩ := DataW.trod_bool Tryz.underlying4 f1
    obtain ⟨x2, e2, -, -⟩ := DataW.trod_bool Tryz.underlying4 f2
    simp only [List.cons.injEq, and_true] at e0 e1 e2
    subst e0 e1 e2
    exact ⟨x0, x1, x2, rfl⟩
set_option maxRecDepth 100000 in
theorem rows3_of_arg (hv : Value.okWide Tryz.prog W r b0 45 v) (h : DataW.Trod enc Tryz.prog W 0 sp true 45 v d p) : ∃ (u0 u1 u2 : Value) (k0 k1 k2 : TL), v = .agg #[u0, u1, u2] ∧ (L.Vals W u0 (k0.map .string) ∧ ∀ s ∈ k0, s.size ≤ maxLen) ∧ (L.Vals W u1 (k1.map .string) ∧ ∀ s ∈ k1, s.size ≤ maxLen) ∧ L.Vals W u2 (k2.map .string) ∧ ∀ s ∈ k2, s.size ≤ maxLen := by
  obtain ⟨cs, rfl, hsz⟩ := okWide_arr arr45 hv
  obtain ⟨fuel, hf⟩ := h
  rw [cellsOf45] at hsz
  obtain ⟨l⟩ := cs
  match l, hsz with
  | [c0, c1, c2], _ =>
    obtain ⟨y0, y1, y2, n, -, f0, f1, f2⟩ := Go.ChangeShapes.trod_array3 arr45 cellsOf27 (by simpa [Value.cells] using hf)
    obtain ⟨k0, g0⟩ := strs_of_cell f0
    obtain ⟨k1, g1⟩ := strs_of_cell f1
    obtain ⟨k2, g2⟩ := strs_of_cell f2
    exact ⟨c0, c1, c2, k0, k1, k2, rfl, g0, g1, g2⟩
end
end Go.Proofs.YtfjmhnnjgjcmeaaGreatDoor
