/-
  For the laws of lex: what an argument of tokens holds. No condition.
-/
import Derived.Test.YtamhlobjolnlhaaDoorAdd
import Derived.Test.YtamhlobjolnlhaaDoorLaid
import Derived.Deep.Slices
namespace Go.Proofs.YtamhlobjolnlhaaDoor
open Go.ChangeShapes Go.WideShapes Go.ChangeAt Go.RowKit Go.Deep

theorem laidOut : laidOutB Tryd.prog = true := by kernel_rfl
theorem cellsOf3 : Tryd.prog.cellsOf 3 = 1 := by kernel_rfl
theorem cellsOf9 : Tryd.prog.cellsOf 9 = 1 := by kernel_rfl
theorem cellsOf30 : Tryd.prog.cellsOf 30 = 4 := by kernel_rfl
section
variable {H : Type} {enc : TypeId × Value → H} {W : World} {sp : Nat → Bool} {r : Reach} {b0 : Nat} {v : Value} {d : DataW H} {p : List MemPlace}
theorem list_of {α : Type} (n : Nat) (P : Nat → α → Prop) (h : ∀ i, i < n → ∃ x, P i x) : ∃ L : List α, L.length = n ∧ ∀ i x, L[i]? = some x → P i x := by
  induction n with
  | zero => exact ⟨[], rfl, by simp⟩
  | succ n ih =>
    obtain ⟨L, hl, hL⟩ := ih (fun i hi => h i (by omega))
    obtain ⟨x, hx⟩ := h n (by omega)
    refine ⟨L ++ [x], by simp [hl], fun i y hy => ?_⟩
    by_cases hi : i < L.length
    · rw [List.getElem?_append_left hi] at hy
      exact hL i y hy
    · rw [List.getElem?_append_right (by omega)] at hy
      have : i - L.length = 0 := by
        have := (List.getElem?_eq_some_iff.1 hy).1
        simpa using this
      rw [this] at hy
      obtain rfl : x = y := by simpa using hy
      obtain rfl : i = n := by omega
      exact hx
set_option maxRecDepth 100000 in
theorem toks_of_arg (hv : Value.okWide Tryd.prog W r b0 23 v) (h : DataW.Trod enc Tryd.prog W 0 sp true 23 v d p) : ∃ T : List Tk, Toks W v T := by
  obtain ⟨a1, len, cap, rfl⟩ := okWide_slice Tryd.underlying23 hv
  obtain ⟨fuel, hf⟩ := h
  rcases open_slice Tryd.underlying23 hf with ⟨hcs, hx⟩ | ⟨a, len', cap', m, n, D, Pl, hcs, _, hl, hm, hmm, hx, hi⟩
  · simp [Value.cells] at hcs
    obtain ⟨rfl, rfl, rfl⟩ := hcs
    exact ⟨[], toks_nil _⟩
  · simp [Value.cells] at hcs
    obtain ⟨rfl, rfl, rfl⟩ := hcs
    have hlm : len ≤ m := by rw [hmm]; split <;> omega
    have hone : ∀ i, i < len → ∃ t : Tk, ∃ b off, a = ⟨b, off, none⟩ ∧ b < W.heap.size ∧ t.lies W b (off + i * 4) := by
      intro i hil
      obtain ⟨cs, hc, ht⟩ := hi i (by omega)
      rw [cellsOf30] at hc
      obtain ⟨_, hcl, hat⟩ := World.cells?_some hc
      obtain ⟨xs, n', _, _, _, hxl, hfd⟩ := DataW.trod_struct Tryd.underlying30 ht
      match cs, hcl with
      | [q0, q1, q2, q3], _ =>
        have hxl' : xs.length = 4 := hxl
        match xs, hxl' with
        | [y0, y1, y2, y3], _ =>
          have f0 : DataW.trod enc Tryd.prog W 0 sp true n' 3 [q0] = some y0 := by have := hfd 0 _ rfl; simpa [cellsOf3] using this
          have f1 : DataW.trod enc Tryd.prog W 0 sp true n' 9 [q1] = some y1 := by have := hfd 1 _ rfl; simpa [cellsOf9] using this
          have f2 : DataW.trod enc Tryd.prog W 0 sp true n' 3 [q2] = some y2 := by have := hfd 2 _ rfl; simpa [cellsOf3] using this
          have f3 : DataW.trod enc Tryd.prog W 0 sp true n' 9 [q3] = some y3 := by have := hfd 3 _ rfl; simpa [cellsOf9] using this
          obtain ⟨x0, e0, -, w0⟩ := DataW.trod_int Tryd.underlying3 f0
          obtain ⟨x1, e1, -, w1⟩ := DataW.trod_string Tryd.underlying9 f1
          obtain ⟨x2, e2, -, w2⟩ := DataW.trod_int Tryd.underlying3 f2
          obtain ⟨x3, e3, -, w3⟩ := DataW.trod_string Tryd.underlying9 f3
          simp only [List.cons.injEq, and_true] at e0 e1 e2 e3
          subst e0 e1 e2 e3
          have g0 := hat 0 (by omega)
          have g1 := hat 1 (by omega)
          have g2 := hat 2 (by omega)
          have g3 := hat 3 (by omega)
          obtain ⟨blk, off, el⟩ := a
          have hel : el = none := by
            obtain ⟨cz, hcz, -⟩ := hi 0 (by omega)
            rw [cellsOf30] at hcz
            obtain ⟨_, hcl, hatz⟩ := World.cells?_some hcz
            have hz := hatz 0 (by omega)
            rw [List.getElem?_eq_getElem (by omega)] at hz
            have := World.cell?_spot hz
            simpa [Addr.add] using this
          subst hel
          simp only [add_flat, List.getElem?_cons_zero, List.getElem?_cons_succ, Nat.add_zero] at g0 g1 g2 g3
          exact ⟨⟨x0, tl x1, x2, tl x3⟩, blk, off, rfl, World.block_lt_of_cell? W _ g0, g0, by rw [bs_tl]; exact g1, g2, by rw [bs_tl]; exact g3⟩
    obtain ⟨L, hLl, hL⟩ := list_of len _ hone
    refine ⟨L, some a, cap, by rw [hLl], by omega, by omega, fun k h hk => ?_⟩
    obtain ⟨b, off, e, rest⟩ := hL k h hk
    exact ⟨b, off, by rw [e], rest⟩
end
end Go.Proofs.YtamhlobjolnlhaaDoor
