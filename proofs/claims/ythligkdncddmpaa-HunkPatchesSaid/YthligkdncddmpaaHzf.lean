/-
  For the law HunkPatches: it returns true for any two rows of texts and any hunks. No condition but what can be read.
-/
import Derived.Test.YthligkdncddmpaaHzd
import Derived.Test.YthligkdncddmpaaHr
import Derived.Test.YthligkdncddmpaaHv
import Derived.Test.YthligkdncddmpaaHm
namespace Go.Proofs.Ythligkdncddmpaa
open Go.RowKit

set_option maxRecDepth 100000 in
set_option maxHeartbeats 16000000 in
theorem HunkPatches_in (p1 p2 : Option Addr) (k1 k2 : Nat) (v : Value) (H : List Hk) (a b : List ByteArray) (w : World) (h1 : Vals w (.slice p1 a.length k1) (a.map .string)) (h2 : Vals w (.slice p2 b.length k2) (b.map .string)) (hH : Hunks w v H) (hwf : ∀ h ∈ H, h.wf) (hla : a.length ≤ 100) (hlb : b.length ≤ 100) (hlH : H.length ≤ 100) :
    Calls Try.prog 9 #[.slice p1 a.length k1, v, .slice p2 b.length k2] w fun e w' => e = .returned (.bool true) ∧ Below w.heap.size w w' := by
  have H1 := Lib.hid h1; clear h1
  have H2 := Lib.hid h2; clear h2
  have HH := Lib.hid hH
  have Hwf := Lib.hid hwf; clear hwf
  obtain ⟨aH, cH, rfl, hcH, hmH, -⟩ := hH
  have hda : decide (a.length ≤ 100) = true := decide_eq_true hla
  have hdb : decide (b.length ≤ 100) = true := decide_eq_true hlb
  have hdH : decide ((100 : Int) < (H.length : Int)) = false := by simp; omega
  unfold maxLen at hmH
  go_enter Try.func9, Try.ntmps9
  go_wp2_with fail
  refine (hawake_any _).mono ?_
  rintro e w1 ⟨rfl, b1⟩
  go_wp2_with fail
  refine (short_any _ _ _ _).mono ?_
  rw [hda]
  rintro e w1' ⟨rfl, rfl⟩
  go_wp2_with fail
  refine (short_any _ _ _ _).mono ?_
  rw [hdb]
  rintro e w1' ⟨rfl, rfl⟩
  have A1 := Lib.hid (H1.out.below b1)
  have B1 := Lib.hid (H2.out.below b1)
  have G1 := Lib.hid (HH.out.below b1)
  clear hda hdb H1 H2 HH
  go_wp2_with fail
  refine (Patch_any _ _ _ a b H _ A1.out G1.out B1.out Hwf.out (by omega) (by omega)).mono ?_
  rintro e w2 ⟨⟨vp, c, rfl, hc⟩, b2⟩
  have A2 := Lib.hid (A1.out.below b2)
  have B2 := Lib.hid (B1.out.below b2)
  have G2 := Lib.hid (G1.out.below b2)
  have D2 := b1.trans (b2.mono b1.size)
  clear b1 b2 A1 B1 G1
  have Hc := Lib.hid hc; clear hc
  go_wp2_with fail
  refine (RefPatch_any _ _ _ a b H _ A2.out G2.out B2.out Hwf.out (by omega) (by omega)).mono ?_
  rintro e w3 ⟨⟨vp', c', rfl, hc'⟩, b3⟩
  have A3 := Lib.hid (A2.out.below b3)
  have B3 := Lib.hid (B2.out.below b3)
  have G3 := Lib.hid (G2.out.below b3)
  have D3 := D2.trans (b3.mono D2.size)
  obtain ⟨R, hR⟩ : ∃ R : List ByteArray, Hid (Vals w3 vp (R.map Value.string) ∧ Vals w3 vp' (R.map Value.string) ∧ c' = c ∧ ((c = 60 ∧ ¬ may a.length b.length 0 0 True H) ∨ (c = 0 ∧ may a.length b.length 0 0 True H))) := by
    rcases Hc.out with ⟨x1, x2, x3⟩ | ⟨x1, x2, x3⟩
    · rcases hc' with ⟨y1, y2, y3⟩ | ⟨y1, y2, y3⟩
      · refine ⟨[], Lib.hid ⟨?_, ?_, by rw [x2, y2], .inl ⟨x2, x1⟩⟩⟩
        · rw [x3]; exact vals_nil w3
        · rw [y3]; exact vals_nil w3
      · exact absurd y1 x1
    · rcases hc' with ⟨y1, y2, y3⟩ | ⟨y1, y2, y3⟩
      · exact absurd x1 y1
      · exact ⟨_, Lib.hid ⟨x3.below b3, y3, by rw [x2, y2], .inr ⟨x2, x1⟩⟩⟩
  obtain rfl : c' = c := hR.out.2.2.1
  clear hc' Hc b3 A2 B2 G2 D2
  go_wp2_with fail
  refine (May_any _ H a.length b.length _ G3.out Hwf.out (by unfold maxLen; omega) (by unfold maxLen; omega)).mono ?_
  rintro e w4 ⟨⟨m, rfl, hm⟩, b4⟩
  have A4 := Lib.hid (A3.out.below b4)
  have B4 := Lib.hid (B3.out.below b4)
  have G4 := Lib.hid (G3.out.below b4)
  have D4 := D3.trans (b4.mono D3.size)
  have P4 := Lib.hid (hR.out.1.below b4)
  have Q4 := Lib.hid (hR.out.2.1.below b4)
  have Hm := Lib.hid hm
  have hcm := hR.out.2.2.2
  have Hcm := Lib.hid hcm
  clear hm hcm hR b4 A3 B3 G3 D3
  go_wp2_with fail
  refine (Check_any _ H a.length b.length _ G4.out Hwf.out (by unfold maxLen; omega) (by unfold maxLen; omega)).mono ?_
  rintro e w5 ⟨⟨c5, rfl, -, h5⟩, b5⟩
  have A5 := Lib.hid (A4.out.below b5)
  have B5 := Lib.hid (B4.out.below b5)
  have G5 := Lib.hid (G4.out.below b5)
  have D5 := D4.trans (b5.mono D4.size)
  have P5 := Lib.hid (P4.out.below b5)
  have Q5 := Lib.hid (Q4.out.below b5)
  have t5 : (c5 == 0) = m := by
    cases m with
    | true => exact beq_iff_eq.2 (h5.2 (Hm.out.1 rfl))
    | false =>
      rw [beq_eq_false_iff_ne]
      intro e
      have := Hm.out.2 (h5.1 e)
      exact Bool.false_ne_true this
  have t6 : ((c5 == 0) != m) = false := by rw [t5]; cases m <;> rfl
  clear h5 b5 A4 B4 G4 D4 P4 Q4
  go_wp2_with fail
  refine (SameT_any _ _ R R _ P5.out Q5.out).mono ?_
  rw [decide_eq_true rfl]
  rintro e w6 ⟨rfl, b6⟩
  have G6 := Lib.hid (G5.out.below b6)
  have D6 := D5.trans (b6.mono D5.size)
  clear D5 b6 A5 B5 G5 P5 Q5
  go_wp2_with fail
  refine (Invert_any _ H _ G6.out (by omega)).mono ?_
  rintro e w7 ⟨⟨v7, rfl, h7⟩, b7⟩
  have G7 := Lib.hid (G6.out.below b7)
  have D7 := D6.trans (b7.mono D6.size)
  rw [← List.length_map Hk.turn] at h7
  have I7 := Lib.hid (own_hunks h7)
  clear h7 D6 b7 G6
  go_wp2_with fail
  refine (RefInvert_any _ H _ G7.out (by omega)).mono ?_
  rintro e w8 ⟨⟨v8, rfl, h8⟩, b8⟩
  have G8 := Lib.hid (G7.out.below b8)
  have I8 := Lib.hid (I7.out.below b8)
  have D8 := D7.trans (b8.mono D7.size)
  rw [← List.length_map Hk.turn] at h8
  have J8 := Lib.hid (own_hunks h8)
  clear h8 D7 b8 G7 I7
  go_wp2_with fail
  refine (SameH_any _ _ (H.map Hk.turn) _ I8.out J8.out).mono ?_
  rintro e w9 ⟨rfl, b9⟩
  have G9 := Lib.hid (G8.out.below b9)
  have D9 := D8.trans (b9.mono D8.size)
  clear D8 b9 G8 I8 J8
  cases m
  · go_wp2_with fail
    go_ret
    exact ⟨rfl, D9⟩
  · go_wp2_with fail
    have hg := G9.out
    obtain ⟨a9, c9, e9, hc9, hm9, hat⟩ := hg
    cases e9
    have Hat := Lib.hid hat; clear hat
    go_loopw [15, 16] (fun n c wr => ∃ k : Nat, k ≤ H.length ∧ c = .int .i64 k ∧ n = .int .i64 (costOf 0 (H.take k)) ∧ Below w9.heap.size w9 wr) (fun _ c _ => H.length - (intOf c).toNat)
    case atStart => exact ⟨0, by omega, rfl, rfl, Below.refl _ _⟩
    case round =>
      obtain ⟨k, hk, rfl, rfl, hB⟩ := hrel
      by_cases hlt : k < H.length
      · obtain ⟨h, hh⟩ : ∃ h, H[k]? = some h := ⟨_, List.getElem?_eq_getElem hlt⟩
        obtain ⟨b', off, rfl, hl, hat⟩ := Hat.out k h hh
        have hn := costOf_next 0 hh
        obtain ⟨c0, c1, c2, c3⟩ := hat.below hB hl
        have Hn := Lib.hid hn; clear hn
        clear hat
        go_wp2_with fail
        go_quiet (fail)
        go_wp2_with fail
        exact ⟨⟨k + 1, by omega, by go_num, by rw [Hn.out], below_draws hB nq⟩, by simp [intOf]; omega⟩
      · obtain rfl : k = H.length := by omega
        rw [List.take_length]
        go_wp2_with fail
        refine (Cost_any _ H _ (G9.out.below hB)).mono ?_
        rintro e w10 ⟨rfl, b10⟩
        have D10 := D9.trans ((hB.trans (b10.mono hB.size)).mono D9.size)
        clear D9 hB b10
        go_wp2_with fail
        go_ret
        exact ⟨rfl, D10⟩

set_option maxRecDepth 100000 in
set_option maxHeartbeats 8000000 in
theorem HunkPatches_any (v1 v v2 : Value) (a : List ByteArray) (H : List Hk) (b : List ByteArray) (w : World) (h1 : Vals w v1 (a.map .string) ∧ ∀ s ∈ a, s.size ≤ maxLen) (hH : Hunks w v H ∧ ∀ h ∈ H, h.wf) (h2 : Vals w v2 (b.map .string) ∧ ∀ s ∈ b, s.size ≤ maxLen) :
    Calls Try.prog 9 #[v1, v, v2] w fun e w' => e = .returned (.bool true) ∧ Below w.heap.size w w' := by
  obtain ⟨h1, -⟩ := h1
  obtain ⟨h2, -⟩ := h2
  obtain ⟨hH, hwf⟩ := hH
  obtain ⟨p1, k1, rfl, -, -, -⟩ := h1.at
  obtain ⟨p2, k2, rfl, -, -, -⟩ := h2.at
  rw [List.length_map] at h1 h2 ⊢
  rw [List.length_map]
  by_cases hall : a.length ≤ 100 ∧ b.length ≤ 100 ∧ H.length ≤ 100
  · exact HunkPatches_in p1 p2 k1 k2 v H a b w h1 h2 hH hwf hall.1 hall.2.1 hall.2.2
  · obtain ⟨aH, cH, rfl, hcH, hmH, -⟩ := hH
    clear h1 h2 hwf
    have hways : ∃ c d f : Bool, decide (a.length ≤ 100) = c ∧ decide (b.length ≤ 100) = d ∧ decide ((100 : Int) < (H.length : Int)) = f ∧ (c = true → d = true → f = true) := by
      refine ⟨_, _, _, rfl, rfl, rfl, ?_⟩
      intro x y
      simp at x y ⊢
      omega
    obtain ⟨c, d, f, hda, hdb, hdf, hcd⟩ := hways
    have Hcd := Lib.hid hcd; clear hcd hall
    go_enter Try.func9, Try.ntmps9
    go_wp2_with fail
    refine (hawake_any _).mono ?_
    rintro e w1 ⟨rfl, b1⟩
    go_wp2_with fail
    refine (short_any _ _ _ _).mono ?_
    rw [hda]
    rintro e w1' ⟨rfl, rfl⟩
    go_wp2_with fail
    refine (short_any _ _ _ _).mono ?_
    rw [hdb]
    rintro e w1' ⟨rfl, rfl⟩
    cases c
    · go_wp2_with fail
      go_ret
      exact ⟨rfl, b1⟩
    · cases d
      · go_wp2_with fail
        go_ret
        exact ⟨rfl, b1⟩
      · obtain rfl := Hcd.out rfl rfl
        go_wp2_with fail
        go_ret
        exact ⟨rfl, b1⟩
end Go.Proofs.Ythligkdncddmpaa
