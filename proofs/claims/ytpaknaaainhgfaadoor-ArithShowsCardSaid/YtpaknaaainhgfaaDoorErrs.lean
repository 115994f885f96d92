/-
  For the law ArithShows: what the row's listed variables give of the two errors of the library. No condition.
-/
import Derived.Test.YtpaknaaainhgfaaDoorLaid
import Derived.Test.YtpaknaaainhgfaaDoorShows
namespace Go.Proofs.YtpaknaaainhgfaaDoor
open Go.ChangeShapes Go.WideShapes Go.ChangeAt Go.RowKit

theorem gESType : (Tryd.prog.globals[0]?).map (·.type) = some 79 := by kernel_rfl
theorem gERType : (Tryd.prog.globals[1]?).map (·.type) = some 79 := by kernel_rfl
theorem starErr : "*" ++ "errors.errorString" = "*errors.errorString" := by decide
theorem rowErr (u : TypeId) (h : Tryd.prog.typeName? 3 u = some "*errors.errorString") : u = 126 :=
  typeName_ptr_named (nm := "errors.errorString") (by rw [starErr]; kernel_rfl) (by kernel_rfl) (by decide) u (by rw [starErr]; exact h)
theorem cells128 : Tryd.prog.cellsOf 128 = 1 := by kernel_rfl
theorem cells9 : Tryd.prog.cellsOf 9 = 1 := by kernel_rfl
theorem errs_of_laid {W : World} (h : laidMetH Tryd.prog Rows.arithOrderRow.laid W) : Errs W := by
  rw [MakeChecks.laidMetH_plain _ _ _ (by kernel_rfl)] at h
  have h3 := laidMet.tail (laidMet.tail (laidMet.tail h))
  obtain ⟨a0, s0, v0, -, -, -⟩ := laid_sentinel h3 gER gERType Tryd.underlying79 rowErr Tryd.underlying126 Tryd.underlying128 rfl rfl Tryd.underlying9 cells128 cells9
  obtain ⟨a1, s1, v1, -, -, -⟩ := laid_sentinel (laidMet.tail h3) gES gESType Tryd.underlying79 rowErr Tryd.underlying126 Tryd.underlying128 rfl rfl Tryd.underlying9 cells128 cells9
  exact ⟨_, _, _, _, v1, v0⟩
end Go.Proofs.YtpaknaaainhgfaaDoor
