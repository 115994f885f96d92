/-
  For the laws of lines: Whole returns the text, with a newline where it wants one. Condition: at most 5,000,000 bytes.
-/
import Derived.Test.YthojjmebjhempaaSplit
import Derived.Test.YthojjmebjhempaaShelf
namespace Go.Proofs.Ythojjmebjhempaa
open Go.RowKit Go.Shelf

/-- The text with a newline behind it, if it wants one. -/
def whole (s : ByteArray) : ByteArray := if s.toList.isEmpty || Lib.hasSuffix s.data.toList [10] then s else s ++ ⟨#[10]⟩

set_option maxHeartbeats 1000000 in
theorem Whole_any (s : ByteArray) (hs : s.size ≤ 5000000) (w : World) :
    Calls Try.prog 15 #[.string s] w fun e w' => e = .returned (.string (whole s)) ∧ w = w' := by
  by_cases h0 : s.toList = []
  · have hw : whole s = s := by unfold whole; rw [h0]; rfl
    have Hw := Lib.hid hw; clear hw
    have h0b : s.toList.isEmpty = true := by rw [h0]; rfl
    go_enter Try.func15, Try.ntmps15
    go_wp2
    go_ret
    exact ⟨by rw [Hw.out]; rfl, rfl⟩
  · have h0b : s.toList.isEmpty = false := by simpa using h0
    by_cases h1 : Lib.hasSuffix s.data.toList [10] = true
    · have hw : whole s = s := by unfold whole; rw [h1, Bool.or_true]; rfl
      have Hw := Lib.hid hw; clear hw
      go_enter Try.func15, Try.ntmps15
      go_wp2_with (go_at_call 23; refine (Try.strings_HasSuffix _ _ _ (by omega)).mono ?_; rintro e w' ⟨rfl, rfl⟩)
      go_ret
      exact ⟨by rw [Hw.out]; rfl, rfl⟩
    · replace h1 : Lib.hasSuffix s.data.toList [10] = false := by simpa using h1
      have hw : whole s = s ++ ⟨#[10]⟩ := by unfold whole; rw [h0b, h1]; rfl
      have Hw := Lib.hid hw; clear hw
      go_enter Try.func15, Try.ntmps15
      go_wp2_with (go_at_call 23; refine (Try.strings_HasSuffix _ _ _ (by omega)).mono ?_; rintro e w' ⟨rfl, rfl⟩)
      go_ret
      exact ⟨by rw [Hw.out]; rfl, rfl⟩
end Go.Proofs.Ythojjmebjhempaa
