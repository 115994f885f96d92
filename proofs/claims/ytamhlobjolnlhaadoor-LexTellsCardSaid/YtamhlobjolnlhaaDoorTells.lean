/-
  For the law LexTells. Condition: the library's own variables are as they are laid.
-/
import Derived.Test.YtamhlobjolnlhaaDoorRefl
import Derived.Test.YtamhlobjolnlhaaDoorSame
namespace Go.Proofs.YtamhlobjolnlhaaDoor
open Go.RowKit Go.Shelf

set_option maxRecDepth 100000 in
set_option maxHeartbeats 8000000 in
theorem lexTells_any (s : ByteArray) (w : World) (hW : LexW w) : Calls Tryd.prog 3 #[.string s] w fun e w' => e = .returned (.bool true) ∧ Below w.heap.size w w' := by
  have HW := Lib.hid hW; clear hW
  have hW4 := HW.out.size
  go_enter Tryd.func3, Tryd.ntmps3
  go_wp2_with fail
  refine (awake_any _ HW.out).mono ?_
  rintro e w1 ⟨rfl, b1⟩
  have HW1 := Lib.hid (HW.out.below b1 hW4)
  by_cases hs : 3000 < s.size
  · have hd : decide ((3000 : Int) < (s.size : Int)) = true := by simp; omega
    go_wp2_with fail
    go_ret
    exact ⟨rfl, b1⟩
  have hd : decide ((3000 : Int) < (s.size : Int)) = false := by simp; omega
  go_wp2_with fail
  refine (Lex_any _ _ HW1.out (by omega)).mono ?_
  unfold LexGives
  obtain ⟨q, hq⟩ : ∃ q, Hid (lexR 0 (tl s) = q) := ⟨_, Lib.hid rfl⟩
  rw [hq.out]
  obtain ⟨T, p, x⟩ := q
  simp only
  rintro e w2 ⟨⟨v2, rfl, t2⟩, b2⟩
  have B2 := b1.trans (b2.mono b1.size)
  have T2 := Lib.hid t2
  clear b1 b2 t2
  go_wp2_with fail
  refine (RefLex_any _ _ (by omega)).mono ?_
  unfold LexGives
  rw [hq.out]
  simp only
  rintro e w3 ⟨⟨v3, rfl, t3⟩, b3⟩
  have B3 := B2.trans (b3.mono B2.size)
  have T3 := Lib.hid t3
  have T2' := Lib.hid (T2.out.below b3)
  clear B2 b3 t3 T2
  go_wp2_with fail
  refine (RefSame_any _ _ T _ T2'.out T3.out).mono ?_
  rintro e w4 ⟨rfl, b4⟩
  have B4 := B3.trans (b4.mono B3.size)
  go_wp2_with fail
  go_ret
  exact ⟨rfl, B4⟩
end Go.Proofs.YtamhlobjolnlhaaDoor
