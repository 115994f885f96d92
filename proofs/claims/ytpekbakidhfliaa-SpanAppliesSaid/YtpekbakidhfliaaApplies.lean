/-
  For the laws of span: SpanApplies, by the program. Condition: a text and edits as handed in.
-/
import Derived.Test.YtpekbakidhfliaaRefi
import Derived.Test.YtpekbakidhfliaaWake
namespace Go.Proofs.Ytpekbakidhfliaa
open Go.RowKit Go.Shelf

set_option maxRecDepth 100000 in
set_option maxHeartbeats 8000000 in
theorem Applies_any (t : ByteArray) (v : Value) (L : List Ed) (w : World) (ht : t.size ≤ maxLen) (h1 : Eds w v L) : Calls Try.prog 3 #[.string t, v] w fun e w' => e = .returned (.bool true) ∧ Below w.heap.size w w' := by
  have H1 := Lib.hid h1
  obtain ⟨a, cap, rfl, hc, hm, hat⟩ := h1
  clear hat
  unfold maxLen at ht hm
  go_enter Try.func3, Try.ntmps3
  go_wp2_with fail
  refine (wake_any w).mono ?_
  rintro e w1 ⟨rfl, b1⟩
  have B1 := Lib.hid b1
  have H2 := Lib.hid (H1.out.below b1)
  clear b1
  go_wp2_with fail
  refine (few_any _ L w1 H2.out).mono ?_
  rintro e w2 ⟨rfl, b2⟩
  have B2 := Lib.hid (B1.out.trans (b2.mono B1.out.size))
  have H3 := Lib.hid (H2.out.below b2)
  clear b2
  cases hf : fewE L with
  | false =>
    go_wp2_with fail
    go_ret
    exact ⟨rfl, B2.out⟩
  | true =>
    obtain ⟨hL, hx⟩ := few_bd hf
    have Hx := Lib.hid hx
    have Hx2 : Hid (∀ e ∈ L, e.tx.length ≤ 1000000) := Lib.hid fun e he => Nat.le_trans (hx e he) (by omega)
    clear hf hx
    by_cases h3000 : t.size > 3000
    · have f1 : decide ((t.size : Int) > 3000) = true := decide_eq_true (by omega)
      go_wp2_with fail
      go_ret
      exact ⟨rfl, B2.out⟩
    have f1 : decide ((t.size : Int) > 3000) = false := decide_eq_false (by omega)
    obtain ⟨c, hc⟩ : ∃ c, Hid (code (chkB t.size none L) = c) := ⟨_, Lib.hid rfl⟩
    go_wp2_with fail
    refine (Apply_any t _ L w2 H3.out (by omega) hL Hx.out).mono ?_
    rintro e w3 ⟨rfl, b3⟩
    have B3 := Lib.hid (B2.out.trans (b3.mono B2.out.size))
    have H4 := Lib.hid (H3.out.below b3)
    clear b3
    go_wp2_with fail
    refine (RefApply_any t _ L w3 H4.out (by omega) hL Hx.out).mono ?_
    rintro e w4 ⟨rfl, b4⟩
    have B4 := Lib.hid (B3.out.trans (b4.mono B3.out.size))
    have H5 := Lib.hid (H4.out.below b4)
    clear b4
    go_wp2_with fail
    refine (Inverse_any t _ L w4 H5.out (by omega) (by omega) Hx2.out).mono ?_
    rintro e w5 ⟨u, rfl, hu, b5⟩
    have B5 := Lib.hid (B4.out.trans (b5.mono B4.out.size))
    have H6 := Lib.hid (H5.out.below b5)
    have U6 := Lib.hid hu
    clear b5 hu
    go_wp2_with fail
    refine (RefInverse_any t _ L w5 H6.out (by omega) (by omega) Hx2.out).mono ?_
    rintro e w6 ⟨u2, rfl, hu, b6⟩
    have B6 := Lib.hid (B5.out.trans (b6.mono B5.out.size))
    have H7 := Lib.hid (H6.out.below b6)
    have U7 := Lib.hid (U6.out.below b6)
    have V7 := Lib.hid hu
    clear b6 hu
    go_wp2_with fail
    refine (Check_any t.size _ L w6 H7.out).mono ?_
    rintro e w7 ⟨rfl, b7⟩
    have B7 := Lib.hid (B6.out.trans (b7.mono B6.out.size))
    have U8 := Lib.hid (U7.out.below b7)
    have V8 := Lib.hid (V7.out.below b7)
    clear b7
    go_wp2_with fail
    refine (Same_any _ _ _ _ w7 U8.out V8.out).mono ?_
    rw [decide_eq_true rfl]
    rintro e w8 ⟨rfl, b8⟩
    have B8 := Lib.hid (B7.out.trans (b8.mono B7.out.size))
    clear b8
    go_wp2_with fail
    go_ret
    exact ⟨rfl, B8.out⟩
end Go.Proofs.Ytpekbakidhfliaa
