/-
  For the laws of node: nine cells stored at any place. No condition.
-/
import Derived.Test.YtpnfjiglphogoacPum
import Derived.Test.YtpnfjiglphogoacClo
namespace Go.Proofs.Ytpnfjiglphogoac
open Go.RowKit Go.Shelf
set_option linter.unusedSimpArgs false
set_option linter.unusedVariables false

theorem nineAt_upd (W : World) (g o : Nat) (h : Hd) (kv : Value) : Upd W (nineAt W g o h kv) g o := by
  unfold nineAt
  have u := ((((((((Upd.set W g o 0 (by omega) (.int .i64 h.kind)).trans (Upd.set _ g o 1 (by omega) (.string (bs h.text)))).trans (Upd.set _ g o 2 (by omega) (.string (bs h.type)))).trans (Upd.set _ g o 3 (by omega) (.int .i64 h.n))).trans (Upd.set _ g o 4 (by omega) (.int .i64 h.fr))).trans (Upd.set _ g o 5 (by omega) (.int .i64 h.to_))).trans (Upd.set _ g o 6 (by omega) (.int .i64 h.at_))).trans (Upd.set _ g o 7 (by omega) (.int .i64 h.tat))).trans (Upd.set _ g o 8 (by omega) kv)
  simp only [Nat.add_zero] at u
  exact u
theorem off_setz (W : World) (b o j : Nat) (hj : 0 ≠ j) (v : Value) : (W.setCell ⟨b, o, none⟩ v).cell? ⟨b, o + j, none⟩ = W.cell? ⟨b, o + j, none⟩ :=
  World.cell?_setCell_other _ _ _ _ (by intro h; simp only [Addr.mk.injEq] at h; omega)
theorem nineAt_cells {W : World} {g o : Nat} {h0 : Hd} {kv0 : Value} (c : Cells W g o h0 kv0) (h : Hd) (kv : Value) : Cells (nineAt W g o h kv) g o h kv := by
  unfold nineAt
  refine ⟨?_, ?_, ?_, ?_, ?_, ?_, ?_, ?_, ?_⟩
  · rw [off_set0 _ _ _ 8 (by omega), off_set0 _ _ _ 7 (by omega), off_set0 _ _ _ 6 (by omega), off_set0 _ _ _ 5 (by omega), off_set0 _ _ _ 4 (by omega), off_set0 _ _ _ 3 (by omega), off_set0 _ _ _ 2 (by omega), off_set0 _ _ _ 1 (by omega)]
    exact World.cell?_setCell_same _ _ _ c.c0
  · rw [off_set _ _ _ 8 1 (by omega), off_set _ _ _ 7 1 (by omega), off_set _ _ _ 6 1 (by omega), off_set _ _ _ 5 1 (by omega), off_set _ _ _ 4 1 (by omega), off_set _ _ _ 3 1 (by omega), off_set _ _ _ 2 1 (by omega)]
    refine World.cell?_setCell_same _ _ _ (u := .string (bs h0.text)) ?_
    · rw [off_setz _ _ _ 1 (by omega)]
      exact c.c1
  · rw [off_set _ _ _ 8 2 (by omega), off_set _ _ _ 7 2 (by omega), off_set _ _ _ 6 2 (by omega), off_set _ _ _ 5 2 (by omega), off_set _ _ _ 4 2 (by omega), off_set _ _ _ 3 2 (by omega)]
    refine World.cell?_setCell_same _ _ _ (u := .string (bs h0.type)) ?_
    · rw [off_set _ _ _ 1 2 (by omega), off_setz _ _ _ 2 (by omega)]
      exact c.c2
  · rw [off_set _ _ _ 8 3 (by omega), off_set _ _ _ 7 3 (by omega), off_set _ _ _ 6 3 (by omega), off_set _ _ _ 5 3 (by omega), off_set _ _ _ 4 3 (by omega)]
    refine World.cell?_setCell_same _ _ _ (u := .int .i64 h0.n) ?_
    · rw [off_set _ _ _ 2 3 (by omega), off_set _ _ _ 1 3 (by omega), off_setz _ _ _ 3 (by omega)]
      exact c.c3
  · rw [off_set _ _ _ 8 4 (by omega), off_set _ _ _ 7 4 (by omega), off_set _ _ _ 6 4 (by omega), off_set _ _ _ 5 4 (by omega)]
    refine World.cell?_setCell_same _ _ _ (u := .int .i64 h0.fr) ?_
    · rw [off_set _ _ _ 3 4 (by omega), off_set _ _ _ 2 4 (by omega), off_set _ _ _ 1 4 (by omega), off_setz _ _ _ 4 (by omega)]
      exact c.c4
  · rw [off_set _ _ _ 8 5 (by omega), off_set _ _ _ 7 5 (by omega), off_set _ _ _ 6 5 (by omega)]
    refine World.cell?_setCell_same _ _ _ (u := .int .i64 h0.to_) ?_
    · rw [off_set _ _ _ 4 5 (by omega), off_set _ _ _ 3 5 (by omega), off_set _ _ _ 2 5 (by omega), off_set _ _ _ 1 5 (by omega), off_setz _ _ _ 5 (by omega)]
      exact c.c5
  · rw [off_set _ _ _ 8 6 (by omega), off_set _ _ _ 7 6 (by omega)]
    refine World.cell?_setCell_same _ _ _ (u := .int .i64 h0.at_) ?_
    · rw [off_set _ _ _ 5 6 (by omega), off_set _ _ _ 4 6 (by omega), off_set _ _ _ 3 6 (by omega), off_set _ _ _ 2 6 (by omega), off_set _ _ _ 1 6 (by omega), off_setz _ _ _ 6 (by omega)]
      exact c.c6
  · rw [off_set _ _ _ 8 7 (by omega)]
    refine World.cell?_setCell_same _ _ _ (u := .int .i64 h0.tat) ?_
    · rw [off_set _ _ _ 6 7 (by omega), off_set _ _ _ 5 7 (by omega), off_set _ _ _ 4 7 (by omega), off_set _ _ _ 3 7 (by omega), off_set _ _ _ 2 7 (by omega), off_set _ _ _ 1 7 (by omega), off_setz _ _ _ 7 (by omega)]
      exact c.c7
  · refine World.cell?_setCell_same _ _ _ (u := kv0) ?_
    · rw [off_set _ _ _ 7 8 (by omega), off_set _ _ _ 6 8 (by omega), off_set _ _ _ 5 8 (by omega), off_set _ _ _ 4 8 (by omega), off_set _ _ _ 3 8 (by omega), off_set _ _ _ 2 8 (by omega), off_set _ _ _ 1 8 (by omega), off_setz _ _ _ 8 (by omega)]
      exact c.c8
end Go.Proofs.Ytpnfjiglphogoac
