/-
  For the laws of span: one edit alone, put in order, by the program. No condition.
-/
import Derived.Test.YtpekbakidhfliaaInv
namespace Go.Proofs.Ytpekbakidhfliaa
open Go.RowKit Go.Shelf

set_option maxRecDepth 100000 in
set_option maxHeartbeats 8000000 in
theorem isort_none (s : Value) (i j : Int) (f : Value) (w : World) (h : i = 0 ∧ j = 1 ∨ i = 0 ∧ j = 0) : Calls Try.prog 38 #[s, .int .i64 i, .int .i64 j, f] w fun e w' => (∃ v, e = .returned v) ∧ Below w.heap.size w w' := by
  rcases h with ⟨rfl, rfl⟩ | ⟨rfl, rfl⟩ <;>
  · go_enter Try.func38, Try.ntmps38
    go_wp2_with fail
    refine wp_loop_rounds 1 ?_
    rw [rounds_succ]
    go_wp2_with fail
    go_end0
    exact ⟨⟨_, rfl⟩, Below.refl _ _⟩
set_option maxRecDepth 100000 in
set_option maxHeartbeats 8000000 in
theorem stable_one (s f : Value) (w : World) : Calls Try.prog 35 #[s, .int .i64 1, f] w fun e w' => (∃ v, e = .returned v) ∧ Below w.heap.size w w' := by
  go_enter Try.func35, Try.ntmps35
  go_wp2_with fail
  refine wp_loop_rounds 1 ?_
  rw [rounds_succ]
  go_wp2_with fail
  refine (isort_none s 0 1 f w (.inl ⟨rfl, rfl⟩)).mono ?_
  rintro e w1 ⟨⟨_, rfl⟩, b1⟩
  go_wp2_with fail
  refine wp_loop_rounds 1 ?_
  rw [rounds_succ]
  go_wp2_with fail
  go_end0
  exact ⟨⟨_, rfl⟩, b1⟩
end Go.Proofs.Ytpekbakidhfliaa
