/-
  For the laws of lines: the law LinesPlaces returns true for every text and every two numbers. No condition.
-/
import Derived.Test.YthojjmebjhempaaRef
namespace Go.Proofs.Ythojjmebjhempaa
open Go.RowKit Go.Shelf

set_option maxRecDepth 100000 in
set_option maxHeartbeats 4000000 in
theorem Places_any (s : ByteArray) (i line : Int) (w : World) : Calls Try.prog 4 #[.string s, .int .i64 i, .int .i64 line] w fun e w' => e = .returned (.bool true) ∧ Below w.heap.size w w' := by
  by_cases hbig : 5000 < s.size
  · go_enter Try.func4, Try.ntmps4
    go_wp2_with fail
    refine (awake_any _).mono ?_
    rintro e w1 ⟨rfl, hb⟩
    go_wp2
    go_ret
    exact ⟨rfl, hb⟩
  · have hd0 : decide ((5000 : Int) < (s.size : Int)) = false := by simp; omega
    have hs : s.size ≤ 5000000 := by omega
    clear hbig
    go_enter Try.func4, Try.ntmps4
    go_wp2_with fail
    refine (awake_any _).mono ?_
    rintro e w1 ⟨rfl, hb1⟩
    go_wp2_with fail
    refine (Place_any s i hs _).mono ?_
    rintro e w2 ⟨rfl, rfl⟩
    go_wp2_with fail
    refine (RefPlace_any s i hs _).mono ?_
    rintro e w2 ⟨rfl, rfl⟩
    go_wp2_with fail
    refine (Start_any s line hs _).mono ?_
    rintro e w2 ⟨rfl, hb2⟩
    have hb02 := hb1.trans (hb2.mono hb1.size)
    clear hb1 hb2
    go_wp2_with fail
    refine (RefStart_any s line hs _).mono ?_
    rintro e w3 ⟨rfl, hb3⟩
    have hb03 := hb02.trans (hb3.mono hb02.size)
    clear hb02 hb3
    go_wp2
    go_ret
    exact ⟨rfl, hb03⟩
end Go.Proofs.Ythojjmebjhempaa
