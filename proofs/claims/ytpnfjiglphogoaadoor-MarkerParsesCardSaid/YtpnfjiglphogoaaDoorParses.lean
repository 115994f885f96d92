/-
  For the laws of marker: MarkerParses returns true. Condition: the program's table of marks is as it is laid.
-/
import Derived.Test.YtpnfjiglphogoaaDoorRefparse
import Derived.Test.YtpnfjiglphogoaaDoorWake
namespace Go.Proofs.YtpnfjiglphogoaaDoor
open Go.RowKit Go.Shelf
set_option linter.unusedSimpArgs false

set_option maxRecDepth 100000 in
set_option maxHeartbeats 16000000 in
theorem markerParses_any (s : ByteArray) (n : Int) (w : World) (hW : MkW w) : Calls Tryd.prog 4 #[.string s, .int .i64 n] w fun e w' => e = .returned (.bool true) ∧ Below w.heap.size w w' := by
  have HW := Lib.hid hW
  have hW1 := hW.size
  clear hW
  by_cases hs : s.size ≤ 1500
  · have f1 : decide ((s.size : Int) > 1500) = false := decide_eq_false (by omega)
    obtain ⟨R, hR⟩ : ∃ R, Hid (parseT (lnB s) n = R) := ⟨_, Lib.hid rfl⟩
    go_enter Tryd.func4, Tryd.ntmps4
    go_wp2_with fail
    refine (awake_any _ HW.out).mono ?_
    rintro e w1 ⟨rfl, b1⟩
    have B1 := Lib.hid b1
    have hs1 := b1.size
    clear b1
    go_wp2_with fail
    refine (Parse_any s (by omega) n _ (HW.out.below B1.out hW1)).mono ?_
    rw [hR.out]
    cases R with
    | none =>
      rintro e w2 ⟨hp, b2⟩
      obtain rfl : e = _ := hp
      have B2 := Lib.hid (B1.out.trans (b2.mono hs1))
      have hs2 := B2.out.size
      clear b2
      go_wp2_with fail
      refine (RefParse_any s (by omega) n _).mono ?_
      rw [hR.out]
      rintro e w3 ⟨hp, b3⟩
      obtain rfl : e = _ := hp
      have B3 := Lib.hid (B2.out.trans (b3.mono hs2))
      have hs3 := B3.out.size
      clear b3
      go_wp2_with fail
      refine (Same_eq _ _ [] _ (prts_nil _) (prts_nil _)).mono ?_
      rintro e w4 ⟨rfl, b4⟩
      have B4 := Lib.hid (B3.out.trans (b4.mono hs3))
      clear b4
      go_wp2_with fail
      go_ret
      exact ⟨rfl, B4.out⟩
    | some L =>
      rintro e w2 ⟨⟨v2, rfl, p2⟩, b2⟩
      have B2 := Lib.hid (B1.out.trans (b2.mono hs1))
      have hs2 := B2.out.size
      have P2 := Lib.hid p2
      clear b2 p2
      go_wp2_with fail
      refine (RefParse_any s (by omega) n _).mono ?_
      rw [hR.out]
      rintro e w3 ⟨⟨v3, rfl, p3⟩, b3⟩
      have B3 := Lib.hid (B2.out.trans (b3.mono hs2))
      have P3 := Lib.hid (P2.out.below b3)
      have Q3 := Lib.hid p3
      have hs3 := B3.out.size
      clear b3 p3
      go_wp2_with fail
      refine (Same_eq _ _ L _ P3.out Q3.out).mono ?_
      rintro e w4 ⟨rfl, b4⟩
      have B4 := Lib.hid (B3.out.trans (b4.mono hs3))
      clear b4
      go_wp2_with fail
      go_ret
      exact ⟨rfl, B4.out⟩
  · have f1 : decide ((s.size : Int) > 1500) = true := decide_eq_true (by omega)
    go_enter Tryd.func4, Tryd.ntmps4
    go_wp2_with fail
    refine (awake_any _ HW.out).mono ?_
    rintro e w1 ⟨rfl, b1⟩
    have B1 := Lib.hid b1
    clear b1
    go_wp2_with fail
    go_ret
    exact ⟨rfl, B1.out⟩
end Go.Proofs.YtpnfjiglphogoaaDoor
