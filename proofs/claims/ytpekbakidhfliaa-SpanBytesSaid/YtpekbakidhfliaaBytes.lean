/-
  For the laws of span: SpanBytes, by the program. Condition: a text and edits as handed in.
-/
import Derived.Test.YtpekbakidhfliaaBytm
import Derived.Test.YtpekbakidhfliaaWake
namespace Go.Proofs.Ytpekbakidhfliaa
open Go.RowKit Go.Shelf

set_option maxRecDepth 100000 in
set_option maxHeartbeats 8000000 in
theorem Bytes_any (t : ByteArray) (v : Value) (L : List Ed) (w : World) (ht : t.size ≤ maxLen) (h1 : Eds w v L) : Calls Try.prog 5 #[.string t, v] w fun e w' => e = .returned (.bool true) ∧ Below w.heap.size w w' := by
  have H1 := Lib.hid h1
  obtain ⟨a, cap, rfl, hc, hm, hat⟩ := h1
  clear hat
  unfold maxLen at ht hm
  go_enter Try.func5, Try.ntmps5
  go_wp2_with fail
  refine (wake_any w).mono ?_
  rintro e w1 ⟨rfl, b1⟩
  have B1 := Lib.hid b1
  have H2 := Lib.hid (H1.out.below b1)
  clear b1
  go_wp2_with fail
  refine (few_any _ L w1 H2.out).mono ?_
  rintro e w2 ⟨rfl, b2⟩
  have B2 := Lib.hid (B1.out.trans (b2.mono B1.out.size))
  have H3 := Lib.hid (H2.out.below b2)
  clear b2
  cases hf : fewE L with
  | false =>
    go_wp2_with fail
    go_ret
    exact ⟨rfl, B2.out⟩
  | true =>
    obtain ⟨hL, hx⟩ := few_bd hf
    have Hx := Lib.hid hx
    clear hf hx
    by_cases h1000 : t.size > 1000
    · have f1 : decide ((t.size : Int) > 1000) = true := decide_eq_true (by omega)
      go_wp2_with fail
      go_ret
      exact ⟨rfl, B2.out⟩
    have f1 : decide ((t.size : Int) > 1000) = false := decide_eq_false (by omega)
    go_wp2_with fail
    refine (Apply_any t _ L w2 H3.out (by omega) hL Hx.out).mono ?_
    rintro e w3 ⟨rfl, b3⟩
    have B3 := Lib.hid (B2.out.trans (b3.mono B2.out.size))
    have H4 := Lib.hid (H3.out.below b3)
    clear b3
    cases hr : chkB t.size none L with
    | false =>
      have f2 := code_no false
      go_wp2_with fail
      go_ret
      exact ⟨rfl, B3.out⟩
    | true =>
      have f2 := code_no true
      have htl : Hid ((tl t).length = t.size) := Lib.hid (tl_length t)
      have ho : Ok ((tl t).length : Int) 0 L := by
        rw [htl.out]
        exact ok_of hr (fun e h => by cases h) (fun _ => Int.le_refl _) (by omega)
      have Ho := Lib.hid ho
      have Hfar := Lib.hid (chk_more (n := (t.size : Int)) (m := far) (by unfold far; omega) hr)
      obtain ⟨R, hR⟩ : ∃ R, Hid (app (tl t) 0 L = R) := ⟨_, Lib.hid rfl⟩
      have hAR : appR (tl t) L = R := by unfold appR; rw [htl.out, hr, if_pos rfl, hR.out]
      have hRl : R.length ≤ 8000000 := by
        have := app_len (tl t) L 0 Hx.out
        rw [hR.out, htl.out] at this
        have h2 : L.length * (200 + t.size) ≤ 60 * (200 + 1000) := Nat.mul_le_mul hL (by omega)
        omega
      rw [hAR]
      clear hAR ho hr
      go_wp2_with fail
      go_loopw [9, 10] (fun l c wr => ∃ (k : Nat) (last : Int), c = .int .i64 k ∧ l = .int .i64 last ∧ k ≤ t.size ∧ Hid (Behind L k last) ∧ Hid (Below w.heap.size w wr) ∧ Hid (Eds wr (.slice a L.length cap) L)) (fun _ c _ => t.size - (intOf c).toNat)
      case atStart => exact ⟨0, -1, rfl, rfl, by omega, Lib.hid (behind_first Ho.out), B3, H4⟩
      case round =>
        obtain ⟨k, last, rfl, rfl, hk, hb, hB, hE⟩ := hrel
        have hbs := hB.out.size
        by_cases hlt : k < t.size
        · have hw : wrap64 (k : Int) = k := Go.IntWalk.wrap64_in _ (by omega)
          go_wp2_with fail
          refine (Moved_any _ L k wr hE.out (by omega) hw).mono ?_
          rintro e w5 ⟨rfl, b5⟩
          have hB5 := Lib.hid (hB.out.trans (b5.mono hbs))
          have hE5 := Lib.hid (hE.out.below b5)
          have hbs5 := hB5.out.size
          clear b5
          have hmA : Hid (mvA L k = mvR L k) := Lib.hid (if_pos ⟨by omega, Hfar.out⟩)
          rw [hmA.out]
          cases hm0 : mv 0 L k with
          | none =>
            have e1 : Hid (mvR L k = (0, false)) := Lib.hid (by unfold mvR; rw [hm0])
            rw [e1.out]
            clear hm0
            go_wp2_with fail
            exact ⟨⟨k + 1, last, by go_num, rfl, by omega, Lib.hid (behind_none hb.out), hB5, hE5⟩, by simp [intOf]; omega⟩
          | some n =>
            obtain ⟨j, hj, rfl, hjt⟩ := at_byte Ho.out (by rw [htl.out]; exact hlt) hm0
            have hl := hb.out k _ (Nat.le_refl _) hm0
            have hnb := Lib.hid (behind_some Ho.out hm0)
            have e1 : Hid (mvR L k = ((j : Int), true)) := Lib.hid (by
              unfold mvR; rw [hm0]
              simp only
              rw [Go.IntWalk.wrap64_in _ (by rw [hR.out] at hj; omega)])
            rw [e1.out]
            have hjR : j < R.length := by rw [← hR.out]; exact hj
            have g1 : decide ((j : Int) ≤ last) = false := decide_eq_false (by omega)
            have g2 : decide (R.length ≤ j) = false := decide_eq_false (by omega)
            have hjs : j < (bs R).size := by rw [bs_size]; exact hjR
            have hbr : (bs R)[j] = t[k] := by
              have e1 := tl_get (bs R) hjs
              have e2 := tl_get t hlt
              rw [tl_bs] at e1
              rw [List.getElem?_eq_getElem hjR] at e1
              rw [List.getElem?_eq_getElem (by rw [htl.out]; exact hlt)] at e2
              rw [← Option.some.inj e1, ← Option.some.inj e2, ← hjt]
              simp only [hR.out]
            have g3 : (((bs R)[j].toNat : Int) != (t[k].toNat : Int)) = false := by rw [hbr]; simp
            clear hbr hjt
            have p0 : (0 : Int) ≤ (j : Int) := by omega
            have p1 : (j : Int) < (R.length : Int) := by omega
            have p2 : (0 : Int) ≤ (k : Int) := by omega
            have p3 : (k : Int) < (t.size : Int) := by omega
            clear hm0
            go_wp2_with fail
            go_quiet (fail)
            go_wp2_with fail
            exact ⟨⟨k + 1, _, by go_num, rfl, by omega, hnb, Lib.hid (below_draws hB5.out _), hE5⟩, by simp [intOf]; omega⟩
        · obtain rfl : k = t.size := by omega
          have hw : wrap64 (t.size : Int) = t.size := Go.IntWalk.wrap64_in _ (by omega)
          go_wp2_with fail
          refine (Moved_any _ L t.size wr hE.out (by omega) hw).mono ?_
          rintro e w5 ⟨rfl, b5⟩
          have hB5 := Lib.hid (hB.out.trans (b5.mono hbs))
          clear b5
          have hmA : mvA L t.size = ((R.length : Int), true) := by
            have e1 := at_end Ho.out
            rw [hR.out, htl.out] at e1
            unfold mvA mvR
            rw [if_pos ⟨by omega, Hfar.out⟩, e1]
            simp only
            rw [Go.IntWalk.wrap64_in _ (by omega)]
          rw [hmA]
          clear hmA
          go_wp2_with fail
          go_ret
          exact ⟨rfl, hB5.out⟩
end Go.Proofs.Ytpekbakidhfliaa
