/-
  For the laws of span: SpanMoves, by the program. Condition: edits and a place as handed in.
-/
import Derived.Test.YtpekbakidhfliaaRefb
import Derived.Test.YtpekbakidhfliaaRefm
import Derived.Test.YtpekbakidhfliaaWake
namespace Go.Proofs.Ytpekbakidhfliaa
open Go.RowKit Go.Shelf
set_option linter.unusedSimpArgs false

theorem both_ref {a b M Y : List Ed} (hM : SrtOf (a ++ b) M) (hY : SrtOf (a ++ without a b) Y) : bothB a b M = refbB a b Y ∧ bothA a b M = refbA a b Y := by
  unfold bothB refbB bothA refbA
  cases ha : chkB far none a with
  | false => simp
  | true =>
    cases hb : chkB far none b with
    | false => simp
    | true =>
      obtain ⟨h1, h2⟩ := both_same ha hb hM hY
      rw [h1]
      cases hc : chkB far none Y with
      | false => simp
      | true => simp [h2 hc]
set_option maxRecDepth 100000 in
set_option maxHeartbeats 8000000 in
theorem Moves_any (u v : Value) (A B : List Ed) (x : Int) (w : World) (h1 : Eds w u A) (h2 : Eds w v B) (hx : wrap64 x = x) : Calls Try.prog 4 #[u, v, .int .i64 x] w fun e w' => e = .returned (.bool true) ∧ Below w.heap.size w w' := by
  have H1 := Lib.hid h1
  have H2 := Lib.hid h2
  have Hx := Lib.hid hx
  obtain ⟨a, capa, rfl, -⟩ := h1
  obtain ⟨b, capb, rfl, -⟩ := h2
  clear hx
  go_enter Try.func4, Try.ntmps4
  go_wp2_with fail
  refine (wake_any w).mono ?_
  rintro e w1 ⟨rfl, b1⟩
  have B1 := Lib.hid b1
  clear b1
  go_wp2_with fail
  refine (few_any _ A w1 (H1.out.below B1.out)).mono ?_
  rintro e w2 ⟨rfl, b2⟩
  have B2 := Lib.hid (B1.out.trans (b2.mono B1.out.size))
  clear b2
  go_wp2_with fail
  refine (few_any _ B w2 (H2.out.below B2.out)).mono ?_
  rintro e w3 ⟨rfl, b3⟩
  have B3 := Lib.hid (B2.out.trans (b3.mono B2.out.size))
  clear b3
  cases hf : fewE A with
  | false =>
    go_wp2_with fail
    go_ret
    exact ⟨rfl, B3.out⟩
  | true =>
    cases hg : fewE B with
    | false =>
      go_wp2_with fail
      go_ret
      exact ⟨rfl, B3.out⟩
    | true =>
      obtain ⟨hA, _⟩ := few_bd hf
      obtain ⟨hB, _⟩ := few_bd hg
      clear hf hg
      obtain ⟨m, hm⟩ : ∃ m, Hid (mvA A x = m) := ⟨_, Lib.hid rfl⟩
      obtain ⟨n, is⟩ := m
      go_wp2_with fail
      refine (Moved_any _ A x w3 (H1.out.below B3.out) (by omega) Hx.out).mono ?_
      rw [hm.out]
      rintro e w4 ⟨rfl, b4⟩
      have B4 := Lib.hid (B3.out.trans (b4.mono B3.out.size))
      clear b4
      go_wp2_with fail
      refine (RefMoved_any _ A x w4 (H1.out.below B4.out) (by omega)).mono ?_
      rw [hm.out]
      rintro e w5 ⟨rfl, b5⟩
      have B5 := Lib.hid (B4.out.trans (b5.mono B4.out.size))
      clear b5
      go_wp2_with fail
      refine (Both_any _ _ A B w5 (H1.out.below B5.out) (H2.out.below B5.out) hA hB).mono ?_
      rintro e w6 ⟨u6, M, hM, rfl, hu, b6⟩
      obtain ⟨G, hG⟩ : ∃ G, Hid (bothA A B M = G) := ⟨_, Lib.hid rfl⟩
      obtain ⟨c, hc⟩ : ∃ c, Hid (bothB A B M = c) := ⟨_, Lib.hid rfl⟩
      rw [hG.out] at hu
      rw [hc.out]
      have HM := Lib.hid hM
      have U6 := Lib.hid hu
      have B6 := Lib.hid (B5.out.trans (b6.mono B5.out.size))
      clear b6 hu hM
      go_wp2_with fail
      refine (RefBoth_any _ _ A B w6 (H1.out.below B6.out) (H2.out.below B6.out) hA hB).mono ?_
      rintro e w7 ⟨u7, Y, hY, rfl, hu, b7⟩
      obtain ⟨k1, k2⟩ := both_ref HM.out hY
      rw [← k2, hG.out] at hu
      rw [← k1, hc.out]
      have U7 := Lib.hid hu
      have V7 := Lib.hid (U6.out.below b7)
      have B7 := Lib.hid (B6.out.trans (b7.mono B6.out.size))
      clear b7 hu hY k1 k2
      obtain ⟨c2, hc2⟩ : ∃ c2, Hid (code c = c2) := ⟨_, Lib.hid rfl⟩
      rw [hc2.out]
      go_wp2_with fail
      refine (Same_any _ _ _ _ w7 V7.out U7.out).mono ?_
      rw [decide_eq_true rfl]
      rintro e w8 ⟨rfl, b8⟩
      have B8 := Lib.hid (B7.out.trans (b8.mono B7.out.size))
      clear b8
      go_wp2_with fail
      refine (Sort_any _ B w8 (H2.out.below B8.out) (by omega)).mono ?_
      rintro e w9 ⟨u9, N, rfl, hN, ho9, b9⟩
      have HN := Lib.hid hN
      have hl := srt_len hN
      rw [← hl] at ho9
      have U9 := Lib.hid (own_eds ho9)
      have B9 := Lib.hid (B8.out.trans (b9.mono B8.out.size))
      clear b9 ho9 hl hN
      go_wp2_with fail
      refine (RefSort_any _ B w9 (H2.out.below B9.out) (by omega)).mono ?_
      rintro e w10 ⟨⟨u10, N2, rfl, hN2, ho10⟩, b10⟩
      obtain rfl := srt_unique HN.out hN2
      have hl := srt_len hN2
      rw [← hl] at ho10
      have U10 := Lib.hid (own_eds ho10)
      have V10 := Lib.hid (U9.out.below b10)
      have B10 := Lib.hid (B9.out.trans (b10.mono B9.out.size))
      clear b10 ho10 hl hN2
      go_wp2_with fail
      refine (Same_any _ _ _ _ w10 V10.out U10.out).mono ?_
      rw [decide_eq_true rfl]
      rintro e w11 ⟨rfl, b11⟩
      have B11 := Lib.hid (B10.out.trans (b11.mono B10.out.size))
      clear b11
      go_wp2_with fail
      go_ret
      exact ⟨rfl, B11.out⟩
theorem wf_wrap {x : Int} (h : (Lit.int .i64 x).wf = true) : wrap64 x = x := by
  have hr : -2 ^ 63 ≤ x ∧ x < 2 ^ 63 := by
    simp [Lit.wf, IntKind.min, IntKind.max, IntKind.signed, IntKind.bits] at h
    omega
  unfold wrap64
  omega
theorem Moves_wf (u v : Value) (A B : List Ed) (x : Int) (w : World) (h1 : Eds w u A) (h2 : Eds w v B) (h : (Lit.int .i64 x).wf = true) : Calls Try.prog 4 #[u, v, .int .i64 x] w fun e w' => e = .returned (.bool true) ∧ Below w.heap.size w w' :=
  Moves_any u v A B x w h1 h2 (wf_wrap h)
end Go.Proofs.Ytpekbakidhfliaa
