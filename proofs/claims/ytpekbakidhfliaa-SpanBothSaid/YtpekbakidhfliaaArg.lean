/-
  What an argument holds: a number, a text, a slice of structs. No condition.
-/
import Derived.Test.YtpekbakidhfliaaEds
import Derived.Deep.Slices
import Derived.ProofKit
import Derived.OpenShut
import Derived.ShutString
import Derived.SliceStrings
import Derived.ChangeSlices
namespace Go.Proofs.Ytpekbakidhfliaa
open Go.ChangeShapes Go.WideShapes Go.ChangeAt Go.RowKit Go.Deep
open Go.ChangeMaps (open_string)

theorem laidOut : laidOutB Try.prog = true := by kernel_rfl
theorem cellsOf3 : Try.prog.cellsOf 3 = 1 := by kernel_rfl
theorem cellsOf9 : Try.prog.cellsOf 9 = 1 := by kernel_rfl
theorem cellsOf39 : Try.prog.cellsOf 39 = 3 := by kernel_rfl
section
variable {H : Type} {enc : TypeId × Value → H} {W : World} {sp : Nat → Bool} {r : Reach} {b0 : Nat} {v : Value} {d : DataW H} {p : List MemPlace}
theorem int_of_arg (hv : Value.okWide Try.prog W r b0 3 v) (h : DataW.Trod enc Try.prog W 0 sp true 3 v d p) : ∃ x : Int, v = .int .i64 x ∧ (Lit.int .i64 x).wf = true := by
  obtain ⟨a, rfl, -, -, w⟩ := open_int Try.underlying3 hv h
  exact ⟨a, rfl, w⟩
theorem string_of_arg (hv : Value.okWide Try.prog W r b0 9 v) (h : DataW.Trod enc Try.prog W 0 sp true 9 v d p) : ∃ x : ByteArray, v = .string x ∧ x.size ≤ maxLen := by
  obtain ⟨a, rfl, -, -, w⟩ := open_string Try.underlying9 hv h
  exact ⟨a, rfl, w⟩
theorem list_of {α : Type} (n : Nat) (P : Nat → α → Prop) (h : ∀ i, i < n → ∃ x, P i x) : ∃ L : List α, L.length = n ∧ ∀ i x, L[i]? = some x → P i x := by
  induction n with
  | zero => exact ⟨[], rfl, by simp⟩
  | succ n ih =>
    obtain ⟨L, hl, hL⟩ := ih (fun i hi => h i (by omega))
    obtain ⟨x, hx⟩ := h n (by omega)
    refine ⟨L ++ [x], by simp [hl], fun i y hy => ?_⟩
    by_cases hi : i < L.length
    · rw [List.getElem?_append_left hi] at hy
      exact hL i y hy
    · rw [List.getElem?_append_right (by omega)] at hy
      have : i - L.length = 0 := by
        have := (List.getElem?_eq_some_iff.1 hy).1
        simpa using this
      rw [this] at hy
      obtain rfl : x = y := by simpa using hy
      obtain rfl : i = n := by omega
      exact hx
set_option maxRecDepth 100000 in
theorem eds_of_arg (hv : Value.okWide Try.prog W r b0 22 v) (h : DataW.Trod enc Try.prog W 0 sp true 22 v d p) : ∃ L : List Ed, Eds W v L := by
  obtain ⟨a1, len, cap, rfl⟩ := okWide_slice Try.underlying22 hv
  obtain ⟨fuel, hf⟩ := h
  rcases open_slice Try.underlying22 hf with ⟨hcs, hx⟩ | ⟨a, len', cap', m, n, D, Pl, hcs, _, hl, hm, hmm, hx, hi⟩
  · simp [Value.cells] at hcs
    obtain ⟨rfl, rfl, rfl⟩ := hcs
    exact ⟨[], none, 0, rfl, Nat.le_refl _, Nat.zero_le _, by simp⟩
  · simp [Value.cells] at hcs
    obtain ⟨rfl, rfl, rfl⟩ := hcs
    have hlm : len ≤ m := by rw [hmm]; split <;> omega
    have hone : ∀ i, i < len → ∃ t : Ed, ∃ b off, a = ⟨b, off, none⟩ ∧ b < W.heap.size ∧ W.cell? ⟨b, off + i * 3, none⟩ = some (.int .i64 t.fr) ∧ W.cell? ⟨b, off + i * 3 + 1, none⟩ = some (.int .i64 t.to) ∧ W.cell? ⟨b, off + i * 3 + 2, none⟩ = some (.string (bs t.tx)) := by
      intro i hil
      obtain ⟨cs, hc, ht⟩ := hi i (by omega)
      rw [cellsOf39] at hc
      obtain ⟨_, hcl, hat⟩ := World.cells?_some hc
      obtain ⟨xs, n', _, _, _, hxl, hfd⟩ := DataW.trod_struct Try.underlying39 ht
      match cs, hcl with
      | [q0, q1, q2], _ =>
        have hxl' : xs.length = 3 := hxl
        match xs, hxl' with
        | [y0, y1, y2], _ =>
          have f0 : DataW.trod enc Try.prog W 0 sp true n' 3 [q0] = some y0 := by have := hfd 0 _ rfl; simpa [cellsOf3] using this
          have f1 : DataW.trod enc Try.prog W 0 sp true n' 3 [q1] = some y1 := by have := hfd 1 _ rfl; simpa [cellsOf3] using this
          have f2 : DataW.trod enc Try.prog W 0 sp true n' 9 [q2] = some y2 := by have := hfd 2 _ rfl; simpa [cellsOf9] using this
          obtain ⟨x0, e0, -, -⟩ := DataW.trod_int Try.underlying3 f0
          obtain ⟨x1, e1, -, -⟩ := DataW.trod_int Try.underlying3 f1
          obtain ⟨x2, e2, -, -⟩ := DataW.trod_string Try.underlying9 f2
          simp only [List.cons.injEq, and_true] at e0 e1 e2
          subst e0 e1 e2
          have g0 := hat 0 (by omega)
          have g1 := hat 1 (by omega)
          have g2 := hat 2 (by omega)
          obtain ⟨blk, off, el⟩ := a
          have hel : el = none := by
            obtain ⟨cz, hcz, -⟩ := hi 0 (by omega)
            rw [cellsOf39] at hcz
            obtain ⟨_, hcl, hatz⟩ := World.cells?_some hcz
            have hz := hatz 0 (by omega)
            rw [List.getElem?_eq_getElem (by omega)] at hz
            have := World.cell?_spot hz
            simpa [Addr.add] using this
          subst hel
          simp only [add_flat, List.getElem?_cons_zero, List.getElem?_cons_succ, Nat.add_zero] at g0 g1 g2
          exact ⟨⟨x0, x1, tl x2⟩, blk, off, rfl, World.block_lt_of_cell? W _ g0, g0, g1, by rw [bs_tl]; exact g2⟩
    obtain ⟨L, hLl, hL⟩ := list_of len _ hone
    refine ⟨L, some a, cap, by rw [hLl], by omega, by omega, fun k h hk => ?_⟩
    obtain ⟨b, off, e, rest⟩ := hL k h hk
    exact ⟨b, off, by rw [e], rest⟩
end
end Go.Proofs.Ytpekbakidhfliaa
