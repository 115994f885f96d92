/-
  For the law TokenKinds. Condition: the library's own variables and the table are as they are laid.
-/
import Derived.Test.YtamhlobjolnlhaaDoorWake4
import Derived.Test.YtamhlobjolnlhaaDoorRefgap
namespace Go.Proofs.YtamhlobjolnlhaaDoor
open Go.RowKit Go.Shelf

set_option maxRecDepth 100000 in
set_option maxHeartbeats 8000000 in
theorem tokenKinds_any (a b : ByteArray) (w : World) (hW : TokW w) : Calls Tryd.prog 8 #[.string a, .string b] w fun e w' => e = .returned (.bool true) ∧ Below w.heap.size w w' := by
  have HW := Lib.hid hW; clear hW
  have hW4 := HW.out.lex.size
  obtain ⟨k, hk⟩ : ∃ k, Hid (kindOf (tl a) = k) := ⟨_, Lib.hid rfl⟩
  obtain ⟨g, hg⟩ : ∃ g, Hid (gapOf (tl a) (tl b) = g) := ⟨_, Lib.hid rfl⟩
  go_enter Tryd.func8, Tryd.ntmps8
  go_wp2_with fail
  refine (wake4_any _ HW.out).mono ?_
  rintro e w1 ⟨rfl, b1⟩
  have HW1 := Lib.hid (HW.out.below b1 hW4)
  by_cases ha : 100 < a.size
  · have hd : decide ((100 : Int) < (a.size : Int)) = true := by simp; omega
    go_wp2_with fail
    go_ret
    exact ⟨rfl, b1⟩
  have hd : decide ((100 : Int) < (a.size : Int)) = false := by simp; omega
  by_cases hb : 100 < b.size
  · have hd2 : decide ((100 : Int) < (b.size : Int)) = true := by simp; omega
    go_wp2_with fail
    go_ret
    exact ⟨rfl, b1⟩
  have hd2 : decide ((100 : Int) < (b.size : Int)) = false := by simp; omega
  go_wp2_with fail
  refine (Kind_any a _ HW1.out.lex (by omega)).mono ?_
  rw [hk.out]
  rintro e w2 ⟨rfl, b2⟩
  have B2 := b1.trans (b2.mono b1.size)
  clear b1 b2
  go_wp2_with fail
  refine (RefKind_any a _ (by omega)).mono ?_
  rw [hk.out]
  rintro e w3 ⟨rfl, b3⟩
  have B3 := B2.trans (b3.mono B2.size)
  clear b3 B2
  go_wp2_with fail
  refine (Gap_any a b _ (HW.out.below B3 hW4) (by omega) (by omega)).mono ?_
  rw [hg.out]
  rintro e w4 ⟨rfl, b4⟩
  have B4 := B3.trans (b4.mono B3.size)
  clear b4 B3
  go_wp2_with fail
  refine (RefGap_any a b _ (by omega) (by omega)).mono ?_
  rw [hg.out]
  rintro e w5 ⟨rfl, b5⟩
  have B5 := B4.trans (b5.mono B4.size)
  clear b5 B4
  go_wp2_with fail
  go_ret
  exact ⟨rfl, B5⟩
end Go.Proofs.YtamhlobjolnlhaaDoor
