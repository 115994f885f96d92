/-
  For the law LcsMatches: it returns true for any two rows of numbers. No condition but what can be read.
-/
import Derived.Test.YthligkdncddmpaaRefs
namespace Go.Proofs.Ythligkdncddmpaa
open Go.RowKit

set_option maxRecDepth 100000 in
set_option maxHeartbeats 8000000 in
theorem LcsMatches_out (v1 v2 : Value) (A B : List Int) (w : World) (h1 : Ints w .i64 v1 A) (h2 : Ints w .i64 v2 B) (hs : 2500 < A.length ∨ 2500 < B.length ∨ (300 < A.length ∧ A.length < 2000) ∨ (300 < B.length ∧ B.length < 2000)) :
    Calls Try.prog 3 #[v1, v2] w fun e w' => e = .returned (.bool true) ∧ Below w.heap.size w w' := by
  obtain ⟨aA, cA, rfl, -, -, -⟩ := h1.at
  obtain ⟨aB, cB, rfl, -, -, -⟩ := h2.at
  clear h1 h2
  by_cases q1 : 2500 < A.length
  · have d1 : decide ((2500 : Int) < (A.length : Int)) = true := by simp; omega
    clear hs q1
    go_enter Try.func3, Try.ntmps3
    go_wp2_with fail
    refine (awake_any _).mono ?_
    rintro e w1 ⟨rfl, b1⟩
    go_wp2_with fail
    go_ret
    exact ⟨rfl, b1⟩
  · have d1 : decide ((2500 : Int) < (A.length : Int)) = false := by simp; omega
    by_cases q2 : 2500 < B.length
    · have d2 : decide ((2500 : Int) < (B.length : Int)) = true := by simp; omega
      clear hs q1 q2
      go_enter Try.func3, Try.ntmps3
      go_wp2_with fail
      refine (awake_any _).mono ?_
      rintro e w1 ⟨rfl, b1⟩
      go_wp2_with fail
      go_ret
      exact ⟨rfl, b1⟩
    · have d2 : decide ((2500 : Int) < (B.length : Int)) = false := by simp; omega
      by_cases q3 : 300 < A.length ∧ A.length < 2000
      · have d3 : decide ((300 : Int) < (A.length : Int)) = true := by simp; omega
        have d4 : decide ((A.length : Int) < 2000) = true := by simp; omega
        clear hs q1 q2 q3
        go_enter Try.func3, Try.ntmps3
        go_wp2_with fail
        refine (awake_any _).mono ?_
        rintro e w1 ⟨rfl, b1⟩
        go_wp2_with fail
        go_ret
        exact ⟨rfl, b1⟩
      · have d5 : decide ((300 : Int) < (B.length : Int)) = true := by simp; omega
        have d6 : decide ((B.length : Int) < 2000) = true := by simp; omega
        by_cases q4 : 300 < A.length
        · have d3 : decide ((300 : Int) < (A.length : Int)) = true := by simp; omega
          have d4 : decide ((A.length : Int) < 2000) = false := by simp; omega
          clear hs q1 q2 q3 q4
          go_enter Try.func3, Try.ntmps3
          go_wp2_with fail
          refine (awake_any _).mono ?_
          rintro e w1 ⟨rfl, b1⟩
          go_wp2_with fail
          go_ret
          exact ⟨rfl, b1⟩
        · have d3 : decide ((300 : Int) < (A.length : Int)) = false := by simp; omega
          clear hs q1 q2 q3 q4
          go_enter Try.func3, Try.ntmps3
          go_wp2_with fail
          refine (awake_any _).mono ?_
          rintro e w1 ⟨rfl, b1⟩
          go_wp2_with fail
          go_ret
          exact ⟨rfl, b1⟩

set_option maxRecDepth 100000 in
set_option maxHeartbeats 8000000 in
theorem LcsMatches_in (v1 v2 : Value) (A B : List Int) (w : World) (h1 : Ints w .i64 v1 A) (h2 : Ints w .i64 v2 B) (q1 : A.length ≤ 2500) (q2 : B.length ≤ 2500) (q3 : A.length ≤ 300 ∨ 2000 ≤ A.length) (q4 : B.length ≤ 300 ∨ 2000 ≤ B.length) :
    Calls Try.prog 3 #[v1, v2] w fun e w' => e = .returned (.bool true) ∧ Below w.heap.size w w' := by
  obtain ⟨aA, cA, rfl, -, -, -⟩ := h1.at
  obtain ⟨aB, cB, rfl, -, -, -⟩ := h2.at
  have HA := Lib.hid h1; clear h1
  have HB := Lib.hid h2; clear h2
  have d1 : decide ((2500 : Int) < (A.length : Int)) = false := by simp; omega
  have d2 : decide ((2500 : Int) < (B.length : Int)) = false := by simp; omega
  have e1 : ∃ t1 : Bool, decide ((300 : Int) < (A.length : Int)) = t1 ∧ (t1 = true → decide ((A.length : Int) < 2000) = false) := ⟨_, rfl, fun h => by simp at h ⊢; omega⟩
  have e2 : ∃ t1 : Bool, decide ((300 : Int) < (B.length : Int)) = t1 ∧ (t1 = true → decide ((B.length : Int) < 2000) = false) := ⟨_, rfl, fun h => by simp at h ⊢; omega⟩
  obtain ⟨t1, ha1, ha2⟩ := e1
  obtain ⟨t2, hb1, hb2⟩ := e2
  have hml := matchOf_length A B
  have HM := Lib.hid hml; clear hml
  clear q3 q4
  cases t1
  all_goals
    cases t2
    all_goals
      first
      | have ha3 := ha2 rfl
      | skip
      first
      | have hb3 := hb2 rfl
      | skip
      clear ha2 hb2
      go_enter Try.func3, Try.ntmps3
      go_wp2_with fail
      refine (awake_any _).mono ?_
      rintro e w1 ⟨rfl, b1⟩
      have A1 := Lib.hid (HA.out.below b1)
      have B1 := Lib.hid (HB.out.below b1)
      go_wp2_with fail
      refine (Match_any _ _ A B _ A1.out B1.out (by omega) (by omega)).mono ?_
      rintro e w2 ⟨g, rfl, hg, r2, b2⟩
      have b12 := b1.trans (b2.mono b1.size)
      have A2 := Lib.hid (A1.out.below b2)
      have B2 := Lib.hid (B1.out.below b2)
      have M2 := Lib.hid (ints_of_row r2 (by rw [HM.out]; unfold maxLen; omega))
      clear r2 b1 b2 A1 B1 hg
      go_wp2_with fail
      refine (RefMatch_any _ _ A B _ A2.out B2.out (by omega) (by omega)).mono ?_
      rintro e w3 ⟨v3, rfl, hI3, b3⟩
      have b13 := b12.trans (b3.mono b12.size)
      have A3 := Lib.hid (A2.out.below b3)
      have B3 := Lib.hid (B2.out.below b3)
      have M3 := Lib.hid (M2.out.below b3)
      have HI3 := Lib.hid hI3
      clear hI3 b12 b3 A2 B2 M2
      go_wp2_with fail
      refine (Same_yes _ _ (matchOf A B) _ M3.out HI3.out).mono ?_
      rintro e w4 ⟨rfl, b4⟩
      have b14 := b13.trans (b4.mono b13.size)
      have A4 := Lib.hid (A3.out.below b4)
      have B4 := Lib.hid (B3.out.below b4)
      clear b13 b4 A3 B3 M3 HI3
      go_wp2_with fail
      refine (Length_any _ _ A B _ A4.out B4.out (by omega) (by omega)).mono ?_
      rintro e w5 ⟨rfl, b5⟩
      have b15 := b14.trans (b5.mono b14.size)
      have A5 := Lib.hid (A4.out.below b5)
      have B5 := Lib.hid (B4.out.below b5)
      clear b14 b5 A4 B4
      go_wp2_with fail
      refine (RefLength_any _ _ A B _ A5.out B5.out (by omega) (by omega)).mono ?_
      rintro e w6 ⟨rfl, b6⟩
      have b16 := b15.trans (b6.mono b15.size)
      have A6 := Lib.hid (A5.out.below b6)
      have B6 := Lib.hid (B5.out.below b6)
      clear b15 b6 A5 B5
      go_wp2_with fail
      refine (Percent_any _ _ A B _ A6.out B6.out (by omega) (by omega)).mono ?_
      rintro e w7 ⟨rfl, b7⟩
      have b17 := b16.trans (b7.mono b16.size)
      have A7 := Lib.hid (A6.out.below b7)
      have B7 := Lib.hid (B6.out.below b7)
      clear b16 b7 A6 B6
      go_wp2_with fail
      refine (RefPercent_any _ _ A B _ A7.out B7.out (by omega) (by omega)).mono ?_
      rintro e w8 ⟨rfl, b8⟩
      have b18 := b17.trans (b8.mono b17.size)
      clear b17 b8 A7 B7
      go_wp2_with fail
      go_ret
      exact ⟨rfl, b18⟩

theorem LcsMatches_any (v1 v2 : Value) (A B : List Int) (w : World) (h1 : Ints w .i64 v1 A) (h2 : Ints w .i64 v2 B) :
    Calls Try.prog 3 #[v1, v2] w fun e w' => e = .returned (.bool true) ∧ Below w.heap.size w w' := by
  by_cases hs : 2500 < A.length ∨ 2500 < B.length ∨ (300 < A.length ∧ A.length < 2000) ∨ (300 < B.length ∧ B.length < 2000)
  · exact LcsMatches_out v1 v2 A B w h1 h2 hs
  · exact LcsMatches_in v1 v2 A B w h1 h2 (by omega) (by omega) (by omega) (by omega)
end Go.Proofs.Ythligkdncddmpaa
