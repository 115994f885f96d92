/-
  For the laws of lines: the example of the document comes out true. No condition.
-/
import Derived.Test.YthojjmebjhempaaStart
namespace Go.Proofs.Ythojjmebjhempaa
open Go.RowKit Go.Shelf

theorem ex_lns : lns ⟨#[97, 10, 10, 98]⟩ = [⟨#[97, 10]⟩, ⟨#[10]⟩, ⟨#[98]⟩] := by decide +kernel
theorem ex_lns2 : lns ⟨#[97, 10]⟩ = [⟨#[97, 10]⟩] := by decide +kernel
theorem ex_join : joinB [⟨#[97, 10]⟩, ⟨#[10]⟩, ⟨#[98]⟩] = ⟨#[97, 10, 10, 98]⟩ := by decide +kernel
theorem ex_whole : whole ⟨#[97]⟩ = ⟨#[97, 10]⟩ := by decide +kernel
theorem ex_place : placeV ⟨#[97, 10, 10, 98]⟩ 3 = (3, 1) := by decide +kernel
theorem ex_start : startV ⟨#[97, 10, 10, 98]⟩ 3 = (3, true) := by decide +kernel

set_option maxRecDepth 100000 in
set_option maxHeartbeats 2000000 in
theorem awake_any (w : World) : Calls Try.prog 8 #[] w fun e w' => e = .returned (.bool true) ∧ Below w.heap.size w w' := by
  go_enter Try.func8, Try.ntmps8
  go_wp2_with fail
  refine (Split_any ⟨#[97, 10, 10, 98]⟩ (by decide) _).mono ?_
  rintro e w1 ⟨v, rfl, hv, hb1⟩
  rw [ex_lns] at hv
  go_wp2_with fail
  refine (Place_any ⟨#[97, 10, 10, 98]⟩ 3 (by decide) _).mono ?_
  rw [ex_place]
  rintro e w2 ⟨rfl, rfl⟩
  go_wp2_with fail
  refine (Start_any ⟨#[97, 10, 10, 98]⟩ 3 (by decide) _).mono ?_
  rw [ex_start]
  rintro e w2 ⟨rfl, hb2⟩
  go_wp2_with fail
  have hb02 : Below w.heap.size w w2 := hb1.trans (hb2.mono hb1.size)
  have hb03 : Below w.heap.size w (w2.alloc (.cells #[.string ⟨#[97, 10]⟩, .string ⟨#[10]⟩, .string ⟨#[98]⟩] 9)) := hb02.alloc hb02.size _
  have hv3 : Strs (w2.alloc (.cells #[.string ⟨#[97, 10]⟩, .string ⟨#[10]⟩, .string ⟨#[98]⟩] 9)) v [⟨#[97, 10]⟩, ⟨#[10]⟩, ⟨#[98]⟩] := (hv.below hb2).below ((Below.refl _ _).alloc (Nat.le_refl _) _)
  have hl3 : Strs (w2.alloc (.cells #[.string ⟨#[97, 10]⟩, .string ⟨#[10]⟩, .string ⟨#[98]⟩] 9)) (.slice (some ⟨w2.heap.size, 0, none⟩) 3 3) [⟨#[97, 10]⟩, ⟨#[10]⟩, ⟨#[98]⟩] := by
    refine ⟨_, 3, rfl, Nat.le_refl _, by simp [maxLen], .inr ⟨w2.heap.size, 0, rfl, by simp, fun j x hj => ?_⟩⟩
    match j, hj with
    | 0, hj => simp at hj; subst hj; simp
    | 1, hj => simp at hj; subst hj; simp
    | 2, hj => simp at hj; subst hj; simp
    | j + 3, hj => simp at hj
  refine (Same_yes _ _ _ _ hv3 hl3).mono ?_
  rintro e w4 ⟨rfl, hb4⟩
  have hb04 := hb03.trans (hb4.mono hb03.size)
  have hv4 := hv3.below hb4
  clear hv hv3 hl3 hb1 hb2 hb4 hb02 hb03
  go_wp2_with fail
  refine (Join_any v _ w4 hv4 (by decide +kernel) (by simp)).mono ?_
  rw [ex_join]
  rintro e w5 ⟨rfl, hb5⟩
  have hb05 := hb04.trans (hb5.mono hb04.size)
  clear hb5 hb04 hv4
  go_wp2_with fail
  refine (Count_any ⟨#[97, 10]⟩ (by decide) _).mono ?_
  rw [ex_lns2]
  rintro e w6 ⟨rfl, hb6⟩
  have hb06 := hb05.trans (hb6.mono hb05.size)
  clear hb6 hb05
  go_wp2_with fail
  refine (Whole_any ⟨#[97]⟩ (by decide) _).mono ?_
  rw [ex_whole]
  rintro e w7 ⟨rfl, rfl⟩
  go_wp2
  go_ret
  exact ⟨rfl, hb06⟩
end Go.Proofs.Ythojjmebjhempaa
