/-
  For the laws of flow and kin: one node's nine cells changed; no condition.
-/
import Derived.Test.YtbnbmjdjkadgoaaDoorAll
namespace Go.Proofs.YtbnbmjdjkadgoaaDoor
open Go.RowKit Go.Shelf
set_option linter.unusedSimpArgs false
set_option linter.unusedVariables false

/-- One node of a row turns. -/
structure Upd (W W' : World) (b o : Nat) : Prop where
  size : W'.heap.size = W.heap.size
  other : ∀ q, q ≠ b → W'.heap[q]? = W.heap[q]?
  row : ∀ cs, W.heap[b]? = some (.cells cs 55 (0, 0)) → ∃ cs', W'.heap[b]? = some (.cells cs' 55 (0, 0)) ∧ cs'.size = cs.size ∧ ∀ j, (j < o ∨ o + 9 ≤ j) → cs'[j]? = cs[j]?
  below : ∀ B, B ≤ b → Below B W W'
theorem Upd.trans {W W1 W2 : World} {b o : Nat} (h : Upd W W1 b o) (k : Upd W1 W2 b o) : Upd W W2 b o := by
  refine ⟨k.size.trans h.size, fun q hq => (k.other q hq).trans (h.other q hq), fun cs hc => ?_, fun B hB => (h.below B hB).trans (k.below B hB)⟩
  obtain ⟨c1, e1, s1, j1⟩ := h.row cs hc
  obtain ⟨c2, e2, s2, j2⟩ := k.row c1 e1
  exact ⟨c2, e2, s2.trans s1, fun j hj => (j2 j hj).trans (j1 j hj)⟩
theorem Upd.set (W : World) (b o i : Nat) (hi : i < 9) (v : Value) : Upd W (W.setCell ⟨b, o + i, none⟩ v) b o := by
  refine ⟨by simp [World.setCell], fun q hq => Below.heap_setCell W _ v q (by simpa using hq), fun cs hc => ?_, fun B hB => (Below.refl B W).setCell (p := ⟨b, o + i, none⟩) hB v⟩
  have h : RowAt W b 55 cs := hc
  refine ⟨_, h.set (o + i) v, by simp, fun j hj => ?_⟩
  rw [Array.getElem?_setIfInBounds]
  rw [if_neg (by omega)]
theorem nine {wr : World} {rb : Nat} {a b c d e f g h i : Value} (R : RowAt wr rb 55 #[a, b, c, d, e, f, g, h, i]) (h2 : Hd) (v : Value) : RowAt (((((((((wr.setCell ⟨rb, 0, none⟩ (.int .i64 h2.kind)).setCell ⟨rb, 1, none⟩ (.string (bs h2.text))).setCell ⟨rb, 2, none⟩ (.string (bs h2.type))).setCell ⟨rb, 3, none⟩ (.int .i64 h2.n)).setCell ⟨rb, 4, none⟩ (.int .i64 h2.fr)).setCell ⟨rb, 5, none⟩ (.int .i64 h2.to_)).setCell ⟨rb, 6, none⟩ (.int .i64 h2.at_)).setCell ⟨rb, 7, none⟩ (.int .i64 h2.tat)).setCell ⟨rb, 8, none⟩ v) rb 55 (h2.vals v) ∧ Upd wr (((((((((wr.setCell ⟨rb, 0, none⟩ (.int .i64 h2.kind)).setCell ⟨rb, 1, none⟩ (.string (bs h2.text))).setCell ⟨rb, 2, none⟩ (.string (bs h2.type))).setCell ⟨rb, 3, none⟩ (.int .i64 h2.n)).setCell ⟨rb, 4, none⟩ (.int .i64 h2.fr)).setCell ⟨rb, 5, none⟩ (.int .i64 h2.to_)).setCell ⟨rb, 6, none⟩ (.int .i64 h2.at_)).setCell ⟨rb, 7, none⟩ (.int .i64 h2.tat)).setCell ⟨rb, 8, none⟩ v) rb 0 := by
  have R9 := ((((((((R.set 0 (.int .i64 h2.kind)).set 1 (.string (bs h2.text))).set 2 (.string (bs h2.type))).set 3 (.int .i64 h2.n)).set 4 (.int .i64 h2.fr)).set 5 (.int .i64 h2.to_)).set 6 (.int .i64 h2.at_)).set 7 (.int .i64 h2.tat)).set 8 v
  have U9 := ((((((((Upd.set wr rb 0 0 (by omega) (.int .i64 h2.kind)).trans (Upd.set _ rb 0 1 (by omega) (.string (bs h2.text)))).trans (Upd.set _ rb 0 2 (by omega) (.string (bs h2.type)))).trans (Upd.set _ rb 0 3 (by omega) (.int .i64 h2.n))).trans (Upd.set _ rb 0 4 (by omega) (.int .i64 h2.fr))).trans (Upd.set _ rb 0 5 (by omega) (.int .i64 h2.to_))).trans (Upd.set _ rb 0 6 (by omega) (.int .i64 h2.at_))).trans (Upd.set _ rb 0 7 (by omega) (.int .i64 h2.tat))).trans (Upd.set _ rb 0 8 (by omega) v)
  simp only [Nat.zero_add] at U9
  simp only [List.setIfInBounds_toArray, List.set_cons_zero, List.set_cons_succ] at R9
  exact ⟨R9, U9⟩
end Go.Proofs.YtbnbmjdjkadgoaaDoor
