/-
  For the laws of tree: whether a path may be, by the program. Condition: texts no longer than any Go string.
-/
import Derived.Test.YtpnfjiglphogoadDoorFiles
namespace Go.Proofs.YtpnfjiglphogoadDoor
open Go.RowKit Go.Shelf

def pathB (n : Nat) : Bool := (decide (97 ≤ n) && decide (n ≤ 122)) || (decide (65 ≤ n) && decide (n ≤ 90)) || (decide (48 ≤ n) && decide (n ≤ 57)) || n == 46 || n == 95 || n == 47
set_option maxRecDepth 100000 in
set_option maxHeartbeats 8000000 in
theorem inPath_any (n : Nat) (w : World) : Calls Tryd.prog 43 #[.int .u8 n] w fun e w' => e = .returned (.bool (pathB n)) ∧ w' = w := by
  rcases (by omega : n < 46 ∨ n = 46 ∨ n = 47 ∨ (48 ≤ n ∧ n ≤ 57) ∨ (57 < n ∧ n < 65) ∨ (65 ≤ n ∧ n ≤ 90) ∨ (90 < n ∧ n < 95) ∨ n = 95 ∨ n = 96 ∨ (97 ≤ n ∧ n ≤ 122) ∨ 122 < n) with h | h | h | h | h | h | h | h | h | h | h
  all_goals
    first | have f1 : decide ((97 : Int) ≤ (n : Int)) = true := decide_eq_true (by omega) | have f1 : decide ((97 : Int) ≤ (n : Int)) = false := decide_eq_false (by omega)
    first | have f2 : decide ((n : Int) ≤ 122) = true := decide_eq_true (by omega) | have f2 : decide ((n : Int) ≤ 122) = false := decide_eq_false (by omega)
    first | have f3 : decide ((65 : Int) ≤ (n : Int)) = true := decide_eq_true (by omega) | have f3 : decide ((65 : Int) ≤ (n : Int)) = false := decide_eq_false (by omega)
    first | have f4 : decide ((n : Int) ≤ 90) = true := decide_eq_true (by omega) | have f4 : decide ((n : Int) ≤ 90) = false := decide_eq_false (by omega)
    first | have f5 : decide ((48 : Int) ≤ (n : Int)) = true := decide_eq_true (by omega) | have f5 : decide ((48 : Int) ≤ (n : Int)) = false := decide_eq_false (by omega)
    first | have f6 : decide ((n : Int) ≤ 57) = true := decide_eq_true (by omega) | have f6 : decide ((n : Int) ≤ 57) = false := decide_eq_false (by omega)
    first | have f7 : ((n : Int) == 46) = true := beq_iff_eq.2 (by omega) | have f7 : ((n : Int) == 46) = false := beq_eq_false_iff_ne.2 (by omega)
    first | have f8 : ((n : Int) == 95) = true := beq_iff_eq.2 (by omega) | have f8 : ((n : Int) == 95) = false := beq_eq_false_iff_ne.2 (by omega)
    first | have f9 : ((n : Int) == 47) = true := beq_iff_eq.2 (by omega) | have f9 : ((n : Int) == 47) = false := beq_eq_false_iff_ne.2 (by omega)
    first | (have fp : pathB n = true := by (simp [pathB]; omega)) | (have fp : pathB n = false := by (simp [pathB]; omega))
    rw [fp]
    clear fp h
    go_enter Tryd.func43, Tryd.ntmps43
    go_wp2_with fail
    go_ret
    exact ⟨rfl, rfl⟩
end Go.Proofs.YtpnfjiglphogoadDoor
