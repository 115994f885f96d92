/-
  For the laws of marker: Whole returns the text, with a newline where it wants one. Condition: at most 5,000,000 bytes.
-/
import Derived.Test.YtbekbllffphfeaaDoorKLen
import Derived.Test.YtbekbllffphfeaaDoorShelf
namespace Go.Proofs.YtbekbllffphfeaaDoor.K
open Go.RowKit Go.Shelf

/-- The text with a newline behind it, if it wants one. -/
def wholeS (s : ByteArray) : ByteArray := if s.toList.isEmpty || Lib.hasSuffix s.data.toList [10] then s else s ++ ⟨#[10]⟩

set_option maxHeartbeats 1000000 in
theorem Whole_any (s : ByteArray) (hs : s.size ≤ 50000000) (w : World) :
    Calls Tryd.prog 50 #[.string s] w fun e w' => e = .returned (.string (wholeS s)) ∧ w = w' := by
  by_cases h0 : s.toList = []
  · have hw : wholeS s = s := by unfold wholeS; rw [h0]; rfl
    have Hw := Lib.hid hw; clear hw
    have h0b : s.toList.isEmpty = true := by rw [h0]; rfl
    go_enter Tryd.func50, Tryd.ntmps50
    go_wp2
    go_ret
    exact ⟨by rw [Hw.out]; rfl, rfl⟩
  · have h0b : s.toList.isEmpty = false := by simpa using h0
    by_cases h1 : Lib.hasSuffix s.data.toList [10] = true
    · have hw : wholeS s = s := by unfold wholeS; rw [h1, Bool.or_true]; rfl
      have Hw := Lib.hid hw; clear hw
      go_enter Tryd.func50, Tryd.ntmps50
      go_wp2_with (go_at_call 27; refine (Tryd.strings_HasSuffix _ _ _ (by omega)).mono ?_; rintro e w' ⟨rfl, rfl⟩)
      go_ret
      exact ⟨by rw [Hw.out]; rfl, rfl⟩
    · replace h1 : Lib.hasSuffix s.data.toList [10] = false := by simpa using h1
      have hw : wholeS s = s ++ ⟨#[10]⟩ := by unfold wholeS; rw [h0b, h1]; rfl
      have Hw := Lib.hid hw; clear hw
      go_enter Tryd.func50, Tryd.ntmps50
      go_wp2_with (go_at_call 27; refine (Tryd.strings_HasSuffix _ _ _ (by omega)).mono ?_; rintro e w' ⟨rfl, rfl⟩)
      go_ret
      exact ⟨by rw [Hw.out]; rfl, rfl⟩
theorem suffix_nl (l : By) : Lib.hasSuffix l [10] = decide (l.getLast? = some 10) := by
  unfold Lib.hasSuffix
  rw [Bool.eq_iff_iff, decide_eq_true_iff, List.isSuffixOf_iff_suffix]
  constructor
  · rintro ⟨t, rfl⟩; simp
  · intro h
    obtain ⟨ys, rfl⟩ := List.getLast?_eq_some_iff.1 h
    exact ⟨ys, rfl⟩
theorem whole_tl (s : ByteArray) : tl (wholeS s) = whole (tl s) := by
  unfold wholeS whole
  have h1 : s.toList = tl s := Lib.toList_data s
  have h2 : Lib.hasSuffix s.data.toList [10] = decide ((tl s).getLast? = some 10) := suffix_nl (tl s)
  rw [h1, h2]
  by_cases h0 : tl s = []
  · rw [if_pos (by rw [h0]; rfl), if_pos (.inl h0)]
  · by_cases e : (tl s).getLast? = some 10
    · rw [if_pos (by simp [e]), if_pos (.inr e)]
    · have g1 : ((tl s).isEmpty || decide ((tl s).getLast? = some 10)) = false := by
        rw [Bool.or_eq_false_iff]
        exact ⟨by simpa using h0, decide_eq_false e⟩
      rw [g1, if_neg (by simp), if_neg (fun h => h.elim h0 e)]
      simp [tl]
end Go.Proofs.YtbekbllffphfeaaDoor.K
