/-
  For the laws of hunk: what an argument of hunks holds. No condition.
-/
import Derived.Test.YthligkdncddmpaaHc
import Derived.Deep.Slices
namespace Go.Proofs.Ythligkdncddmpaa
open Go.ChangeShapes Go.WideShapes Go.ChangeAt Go.RowKit Go.Deep

theorem cellsOf50 : Try.prog.cellsOf 50 = 4 := by kernel_rfl
theorem wf_range {x : Int} (h : (Lit.int .i64 x).wf = true) : -2 ^ 63 ≤ x ∧ x < 2 ^ 63 := by
  simp [Lit.wf, IntKind.min, IntKind.max, IntKind.signed, IntKind.bits] at h
  omega
section
variable {H : Type} {enc : TypeId × Value → H} {W : World} {sp : Nat → Bool} {r : Reach} {b0 : Nat} {v : Value} {d : DataW H} {p : List MemPlace}
theorem list_of {α : Type} (n : Nat) (P : Nat → α → Prop) (h : ∀ i, i < n → ∃ x, P i x) : ∃ L : List α, L.length = n ∧ ∀ i x, L[i]? = some x → P i x := by
  induction n with
  | zero => exact ⟨[], rfl, by simp⟩
  | succ n ih =>
    obtain ⟨L, hl, hL⟩ := ih (fun i hi => h i (by omega))
    obtain ⟨x, hx⟩ := h n (by omega)
    refine ⟨L ++ [x], by simp [hl], fun i y hy => ?_⟩
    by_cases hi : i < L.length
    · rw [List.getElem?_append_left hi] at hy
      exact hL i y hy
    · rw [List.getElem?_append_right (by omega)] at hy
      have : i - L.length = 0 := by
        have := (List.getElem?_eq_some_iff.1 hy).1
        simpa using this
      rw [this] at hy
      obtain rfl : x = y := by simpa using hy
      obtain rfl : i = n := by omega
      exact hx
theorem hunks_of_arg (hv : Value.okWide Try.prog W r b0 37 v) (h : DataW.Trod enc Try.prog W 0 sp true 37 v d p) : ∃ L : List Hk, Hunks W v L ∧ ∀ h ∈ L, h.wf := by
  obtain ⟨a1, len, cap, rfl⟩ := okWide_slice Try.underlying37 hv
  obtain ⟨fuel, hf⟩ := h
  rcases open_slice Try.underlying37 hf with ⟨hcs, hx⟩ | ⟨a, len', cap', m, n, D, Pl, hcs, _, hl, hm, hmm, hx, hi⟩
  · simp [Value.cells] at hcs
    obtain ⟨rfl, rfl, rfl⟩ := hcs
    exact ⟨[], ⟨none, 0, rfl, Nat.le_refl _, by simp [maxLen], by simp⟩, by simp⟩
  · simp [Value.cells] at hcs
    obtain ⟨rfl, rfl, rfl⟩ := hcs
    have hlm : len ≤ m := by rw [hmm]; split <;> omega
    have hone : ∀ i, i < len → ∃ h : Hk, (∃ b off, a = ⟨b, off, none⟩ ∧ b < W.heap.size ∧ h.lies W b (off + i * 4)) ∧ h.wf := by
      intro i hil
      obtain ⟨cs, hc, ht⟩ := hi i (by omega)
      rw [cellsOf50] at hc
      obtain ⟨_, hcl, hat⟩ := World.cells?_some hc
      obtain ⟨xs, n', _, _, _, hxl, hfd⟩ := DataW.trod_struct Try.underlying50 ht
      match cs, hcl with
      | [q0, q1, q2, q3], _ =>
        have hxl' : xs.length = 4 := hxl
        match xs, hxl' with
        | [y0, y1, y2, y3], _ =>
          have f0 : DataW.trod enc Try.prog W 0 sp true n' 3 [q0] = some y0 := by have := hfd 0 _ rfl; simpa [cellsOf3] using this
          have f1 : DataW.trod enc Try.prog W 0 sp true n' 3 [q1] = some y1 := by have := hfd 1 _ rfl; simpa [cellsOf3] using this
          have f2 : DataW.trod enc Try.prog W 0 sp true n' 3 [q2] = some y2 := by have := hfd 2 _ rfl; simpa [cellsOf3] using this
          have f3 : DataW.trod enc Try.prog W 0 sp true n' 3 [q3] = some y3 := by have := hfd 3 _ rfl; simpa [cellsOf3] using this
          obtain ⟨x0, e0, -, w0⟩ := DataW.trod_int Try.underlying3 f0
          obtain ⟨x1, e1, -, w1⟩ := DataW.trod_int Try.underlying3 f1
          obtain ⟨x2, e2, -, w2⟩ := DataW.trod_int Try.underlying3 f2
          obtain ⟨x3, e3, -, w3⟩ := DataW.trod_int Try.underlying3 f3
          simp only [List.cons.injEq, and_true] at e0 e1 e2 e3
          subst e0 e1 e2 e3
          have g0 := hat 0 (by omega)
          have g1 := hat 1 (by omega)
          have g2 := hat 2 (by omega)
          have g3 := hat 3 (by omega)
          obtain ⟨blk, off, el⟩ := a
          have hel : el = none := by
            obtain ⟨cz, hcz, -⟩ := hi 0 (by omega)
            rw [cellsOf50] at hcz
            obtain ⟨_, hcl, hatz⟩ := World.cells?_some hcz
            have hz := hatz 0 (by omega)
            rw [List.getElem?_eq_getElem (by omega)] at hz
            have := World.cell?_spot hz
            simpa [Addr.add] using this
          subst hel
          simp only [add_flat, List.getElem?_cons_zero, List.getElem?_cons_succ, Nat.add_zero] at g0 g1 g2 g3
          exact ⟨⟨x0, x1, x2, x3⟩, ⟨blk, off, rfl, World.block_lt_of_cell? W _ g0, g0, g1, g2, g3⟩, wf_range w0, wf_range w1, wf_range w2, wf_range w3⟩
    obtain ⟨L, hLl, hL⟩ := list_of len _ hone
    refine ⟨L, ⟨some a, cap, by rw [hLl], by omega, by omega, fun k h hk => ?_⟩, fun h hh => ?_⟩
    · obtain ⟨⟨b, off, e, rest⟩, _⟩ := hL k h hk
      exact ⟨b, off, by rw [e], rest⟩
    · obtain ⟨i, hi⟩ := List.mem_iff_getElem?.1 hh
      exact (hL i h hi).2
end
end Go.Proofs.Ythligkdncddmpaa
