/-
  For the laws of hunk: one step of the closure that lays the hunks. Conditions: the places are from 0 to 2,000,000, at most 1,000,000 hunks.
-/
import Derived.Test.YthligkdncddmpaaHo
import Derived.Test.YthligkdncddmpaaHj
import Derived.RangeFuncBox
import Derived.RangeFuncNested
namespace Go.Proofs.Ythligkdncddmpaa
open Go.RowKit

def UpTo (W : World) (base Ba Bb Bl : Nat) (L : List Hk) (i k : Int) (e : Ending) (W' : World) : Prop :=
  (∃ v, e = .returned v) ∧ Boxed W' Ba 3 (.int .i64 (i + 1)) ∧ Boxed W' Bb 3 (.int .i64 (k + 1)) ∧ (∃ v, Boxed W' Bl 37 v ∧ W'.ownsRow base 50 4 v L.length (L.flatMap Hk.row)) ∧
    KeepsOthers W W' ∧ Below Bl W W' ∧ ∀ q, q < base → q ≠ Ba → q ≠ Bb → q ≠ Bl → W'.heap[q]? = W.heap[q]?

/-- Behind the two stores. -/
theorem upTo_end {W w2 : World} {base Ba Bb Bl : Nat} {L : List Hk} {i k : Int} {v x y : Value} (h1 : Boxed w2 Ba 3 x) (h2 : Boxed w2 Bb 3 y) (h3 : Boxed w2 Bl 37 v) (ho : w2.ownsRow base 50 4 v L.length (L.flatMap Hk.row))
    (hk : KeepsOthers W w2) (hb : Below Bl W w2) (hq : ∀ q, q < base → q ≠ Ba → q ≠ Bb → q ≠ Bl → w2.heap[q]? = W.heap[q]?) (hla : Bl < Ba) (hab : Ba < Bb) (hbb : Bb < base) (r : Value) :
    UpTo W base Ba Bb Bl L i k (.returned r) ((w2.setCell ⟨Ba, 0, none⟩ (.int .i64 (i + 1))).setCell ⟨Bb, 0, none⟩ (.int .i64 (k + 1))) := by
  refine ⟨⟨_, rfl⟩, ?_, ?_, ⟨v, ?_, ?_⟩, ?_, ?_, ?_⟩
  · exact (h1.set _).other (by omega) _
  · exact (h2.other (by omega) _).set _
  · exact (h3.other (by omega) _).other (by omega) _
  · exact ownsRow_setCell_below (ownsRow_setCell_below ho (a := ⟨Ba, 0, none⟩) (by show Ba < base; omega) _) (a := ⟨Bb, 0, none⟩) (by show Bb < base; omega) _
  · exact (hk.trans (KeepsOthers.setCell _ _ _)).trans (KeepsOthers.setCell _ _ _)
  · exact (hb.setCell (p := ⟨Ba, 0, none⟩) (by show Bl ≤ Ba; omega) _).setCell (p := ⟨Bb, 0, none⟩) (by show Bl ≤ Bb; omega) _
  · intro q h4 h5 h6 h7
    rw [Below.heap_setCell _ _ _ _ (by simpa using h6), Below.heap_setCell _ _ _ _ (by simpa using h5)]
    exact hq q h4 h5 h6 h7

set_option maxRecDepth 100000 in
set_option maxHeartbeats 4000000 in
theorem upTo_none (W : World) (base Ba Bb Bl : Nat) (L : List Hk) (a b i k : Int) (h1 : Boxed W Ba 3 (.int .i64 a)) (h2 : Boxed W Bb 3 (.int .i64 b)) (v : Value) (h3 : Boxed W Bl 37 v) (ho : W.ownsRow base 50 4 v L.length (L.flatMap Hk.row))
    (hla : Bl < Ba) (hab : Ba < Bb) (hbb : Bb < base) (hi0 : 0 ≤ i) (hi1 : i ≤ 2000000) (hk0 : 0 ≤ k) (hk1 : k ≤ 2000000) (hn : ¬ (a < i ∨ b < k)) :
    Calls Try.prog 44 #[.int .i64 i, .int .i64 k, .pointer (some ⟨Ba, 0, none⟩), .pointer (some ⟨Bb, 0, none⟩), .pointer (some ⟨Bl, 0, none⟩)] W (UpTo W base Ba Bb Bl L i k) := by
  have c1 := h1.cell
  have c2 := h2.cell
  have f1 := h1.frozen
  have f2 := h2.frozen
  have f2' : (W.setCell ⟨Ba, 0, none⟩ (.int .i64 (i + 1))).frozen? ⟨Bb, 0, none⟩ = false := (h2.other (by omega) _).frozen
  have t1 : decide (a < i) = false := decide_eq_false (by omega)
  have t2 : decide (b < k) = false := decide_eq_false (by omega)
  go_enter Try.func44, Try.ntmps44
  go_wp2_with fail
  go_end0
  exact upTo_end h1 h2 h3 ho (KeepsOthers.refl W) (Below.refl _ W) (fun _ _ _ _ _ => rfl) hla hab hbb _

theorem hneq {W : World} {base e size n : Nat} {v : Value} {xs : List Value} (h : W.ownsRow base e size v n xs) (q : Nat) (hq : q < base) : some q ≠ v.ownBlock := fun e => by
  have := (h.lt q e.symm).1
  omega
theorem own_cells {W : World} {base e size n j : Nat} {v : Value} {xs : List Value} {o : Obj} (h : W.ownsRow base e size v n xs) (ej : v.ownBlock = some j) (hj : W.heap[j]? = some o) : o.isCells = true := by
  rcases h.2 with ⟨rfl, _⟩ | ⟨g, cap, cur, rfl, _, hgb, _⟩
  · simp [Value.ownBlock] at ej
  · obtain rfl : g = j := by simpa [Value.ownBlock] using ej
    rw [hgb] at hj; cases hj; rfl
theorem ownsRow_succ' {W : World} {base e size n : Nat} {v : Value} {xs : List Value} (h : W.ownsRow base e size v (n + 1) xs) : ∃ g cap, v = .slice (some ⟨g, 0, none⟩) (n + 1) cap := by
  rcases h.2 with ⟨_, h0⟩ | ⟨g, cap, cur, rfl, _⟩
  · omega
  · exact ⟨g, cap, rfl⟩

set_option maxRecDepth 100000 in
set_option maxHeartbeats 4000000 in
theorem upTo_gap (W : World) (base Ba Bb Bl : Nat) (L : List Hk) (a b i k : Int) (h1 : Boxed W Ba 3 (.int .i64 a)) (h2 : Boxed W Bb 3 (.int .i64 b)) (v : Value) (h3 : Boxed W Bl 37 v) (ho : W.ownsRow base 50 4 v L.length (L.flatMap Hk.row))
    (hsz : base ≤ W.heap.size) (hL : L.length ≤ 1000000)
    (hla : Bl < Ba) (hab : Ba < Bb) (hbb : Bb < base) (hi0 : 0 ≤ i) (hi1 : i ≤ 2000000) (hk0 : 0 ≤ k) (hk1 : k ≤ 2000000) (ha0 : 0 ≤ a) (ha1 : a ≤ 3000000) (hb0 : 0 ≤ b) (hb1 : b ≤ 3000000) (hn : a < i ∨ b < k) :
    Calls Try.prog 44 #[.int .i64 i, .int .i64 k, .pointer (some ⟨Ba, 0, none⟩), .pointer (some ⟨Bb, 0, none⟩), .pointer (some ⟨Bl, 0, none⟩)] W (UpTo W base Ba Bb Bl (L ++ [⟨a, i - a, b, k - b⟩]) i k) := by
  have c1 := h1.cell
  have c2 := h2.cell
  have c3 := h3.cell
  have f1 := h1.frozen
  have f2 := h2.frozen
  have f3 := h3.frozen
  obtain ⟨i0, hi0', hz0, hz1, hz2⟩ := info50
  obtain ⟨h, hh⟩ : ∃ h : Hk, Hid (h = ⟨a, i - a, b, k - b⟩) := ⟨_, Lib.hid rfl⟩
  have t1 : decide (a < i) = true ∨ (decide (a < i) = false ∧ decide (b < k) = true) := by
    by_cases x : a < i
    · exact .inl (decide_eq_true x)
    · exact .inr ⟨decide_eq_false x, decide_eq_true (by omega)⟩
  go_enter Try.func44, Try.ntmps44
  rcases t1 with t1 | ⟨t1, t2⟩
  all_goals
    go_wp2_with (at_builtin; refine wpList_append_own _ rfl _ _ 37 rfl base 50 i0 _ 4 32 Try.underlying37 hi0' hz0 hz1 hz2 rfl (by decide) _ _ _ rfl (ho.alloc _) ⟨W.heap.size, 0, none⟩ 1 1 (Hk.row ⟨a, i - a, b, k - b⟩) rfl rfl (row_new W ⟨a, i - a, b, k - b⟩ _) (row_one _) (by unfold maxLen; omega) (by omega) (by simp; omega) ?_; intro v' w2 hown' hgrow _; obtain ⟨g', cap', rfl⟩ := ownsRow_succ' hown'; have hne : ∀ q, q < base → some q ≠ v.ownBlock := hneq ho; have b1 := (h1.alloc (.cells #[.int .i64 a, .int .i64 (i - a), .int .i64 b, .int .i64 (k - b)] 50)).kept hgrow (hne _ (by omega)); have b2 := (h2.alloc (.cells #[.int .i64 a, .int .i64 (i - a), .int .i64 b, .int .i64 (k - b)] 50)).kept hgrow (hne _ (by omega)); have b3 := (h3.alloc (.cells #[.int .i64 a, .int .i64 (i - a), .int .i64 b, .int .i64 (k - b)] 50)).kept hgrow (hne _ (by omega)); clear hne; have c4 := b3.cell; have c5 := b3.frozen; have c6 := b1.cell; have c7 := b1.frozen; have c8 := b2.cell; have c9 := b2.frozen)
    go_end0
    refine upTo_end (b1.other (by omega) _) (b2.other (by omega) _) (b3.set _) ?_ ?_ ?_ ?_ hla hab hbb _
    · have := ownsRow_setCell_below hown' (a := ⟨Bl, 0, none⟩) (by show Bl < base; omega) (Value.slice (some ⟨g', 0, none⟩) (L.length + 1) cap')
      simpa using this
    · refine ((KeepsOthers.alloc W _).trans (KeepsOthers.of_grownBy hgrow fun j o ej hj => ?_)).trans (KeepsOthers.setCell _ _ _)
      exact own_cells (ho.alloc _) ej hj
    · exact (((Below.refl Bl W).alloc (by omega) _).grown hgrow (by simp; omega) (fun j ej => by have := (ho.lt j ej).1; omega)).setCell (p := ⟨Bl, 0, none⟩) (Nat.le_refl _) _
    · intro q h4 h5 h6 h7
      rw [Below.heap_setCell _ _ _ _ (by simpa using h7), hgrow.block q (by simp; omega) (hneq ho q h4), Below.heap_alloc _ _ _ (by omega)]
end Go.Proofs.Ythligkdncddmpaa
