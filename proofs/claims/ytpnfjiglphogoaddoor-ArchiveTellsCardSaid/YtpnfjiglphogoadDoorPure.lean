/-
  For the laws of archive: files; bytes alone, no program. No condition.
-/
import Derived.RowKit
namespace Go.Proofs.YtpnfjiglphogoadDoor

abbrev By := List UInt8
/-- A file. -/
structure Fl where
  path : By
  text : By
deriving DecidableEq
/-- A text with a newline at its end, unless it is empty. -/
def whole (t : By) : By := if t = [] ∨ t.getLast? = some 10 then t else t ++ [10]
def cutOf (t : By) : Bool := decide (whole t ≠ t)
theorem whole_le (t : By) : (whole t).length ≤ t.length + 1 := by
  unfold whole
  split
  · omega
  · simp
end Go.Proofs.YtpnfjiglphogoadDoor
