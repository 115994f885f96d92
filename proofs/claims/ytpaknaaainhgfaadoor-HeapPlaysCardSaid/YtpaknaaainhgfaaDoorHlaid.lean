/-
  For the laws of heap: what the rows' listed variables give; a world in which they read as listed. No condition.
-/
import Derived.Test.YtpaknaaainhgfaaDoorLaid
namespace Go.Proofs.YtpaknaaainhgfaaDoor
open Go.ChangeShapes Go.WideShapes Go.ChangeAt Go.RowKit
theorem door_metH (os : Os) (args : Array Value) : laidMetH Tryd.prog Rows.heapShowsRow.laid ((World.doorLaid Tryd.prog 62 os).forCall (fun _ _ => 0) ⟨#[], args, []⟩).memory :=
  laidMetH_of_parts3 (fuel := 8) (laidMet_of_run' 8 (by kernel_rfl) (by kernel_rfl)) (by kernel_rfl) (by kernel_rfl)
theorem pow_of_laidH {W : World} (h : laidMetH Tryd.prog Rows.heapShowsRow.laid W) : Pow W := by
  rw [MakeChecks.laidMetH_plain _ _ _ (by kernel_rfl)] at h
  have h1 := laidMet.tail h
  have h2 := laidMet.tail h1
  have h3 : laidMet Tryd.prog [("internal/strconv.uint64pow10", Lib.tabData .u64 Lib.pow10Tab)] W := by
    rw [← powD]; exact h2
  exact Lib.tabIs_of_head gPow gPowType Tryd.underlying120 Tryd.underlying99 (by kernel_rfl) (by kernel_rfl) h3
theorem cells44 : Tryd.prog.cellsOf 44 = 2 := by kernel_rfl
end Go.Proofs.YtpaknaaainhgfaaDoor
