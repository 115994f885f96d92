/-
  For the law HunkBack: it returns true for any two rows of texts. No condition but what can be read.
-/
import Derived.Test.YthligkdncddmpaaHzd
namespace Go.Proofs.Ythligkdncddmpaa
open Go.RowKit

theorem back_bd (a b : List ByteArray) : 0 ≤ lenOf (numRow [] a) (numRow (knownBy [] a) b) ∧ lenOf (numRow [] a) (numRow (knownBy [] a) b) ≤ 2 * a.length := by
  have := lenOf_bd (numRow [] a) (numRow (knownBy [] a) b)
  rwa [numRow_length] at this

set_option maxRecDepth 100000 in
set_option maxHeartbeats 8000000 in
theorem HunkBack_in (p1 p2 : Option Addr) (k1 k2 : Nat) (a b : List ByteArray) (w : World) (h1 : Vals w (.slice p1 a.length k1) (a.map .string)) (h2 : Vals w (.slice p2 b.length k2) (b.map .string)) (hs1 : ∀ s ∈ a, s.size ≤ maxLen) (hs2 : ∀ s ∈ b, s.size ≤ maxLen) (hla : a.length ≤ 100) (hlb : b.length ≤ 100) :
    Calls Try.prog 10 #[.slice p1 a.length k1, .slice p2 b.length k2] w fun e w' => e = .returned (.bool true) ∧ Below w.heap.size w w' := by
  have H1 := Lib.hid h1; clear h1
  have H2 := Lib.hid h2; clear h2
  have S1 := Lib.hid hs1; clear hs1
  have S2 := Lib.hid hs2; clear hs2
  have hda : decide (a.length ≤ 100) = true := decide_eq_true hla
  have hdb : decide (b.length ≤ 100) = true := decide_eq_true hlb
  go_enter Try.func10, Try.ntmps10
  go_wp2_with fail
  refine (hawake_any _).mono ?_
  rintro e w1 ⟨rfl, b1⟩
  go_wp2_with fail
  refine (short_any _ _ _ _).mono ?_
  rw [hda]
  rintro e w1' ⟨rfl, rfl⟩
  go_wp2_with fail
  refine (short_any _ _ _ _).mono ?_
  rw [hdb]
  rintro e w1' ⟨rfl, rfl⟩
  have A1 := Lib.hid (H1.out.below b1)
  have B1 := Lib.hid (H2.out.below b1)
  clear hda hdb H1 H2
  go_wp2_with fail
  refine (HTexts_any _ _ a b _ A1.out B1.out (by omega) (by omega) S1.out S2.out).mono ?_
  rintro e w2 ⟨vH, rfl, hH, b2⟩
  have A2 := Lib.hid (A1.out.below b2)
  have B2 := Lib.hid (B1.out.below b2)
  have D2 := b1.trans (b2.mono b1.size)
  have H2 := Lib.hid hH
  clear b1 b2 A1 B1 hH
  go_wp2_with fail
  refine (Patch_any _ _ _ a b (textHunks a b) _ A2.out H2.out B2.out (fun h hh => (texts_wf (by omega) (by omega) h hh).1) (by omega) (by omega)).mono ?_
  rintro e w3 ⟨⟨vp, c, rfl, hc⟩, b3⟩
  obtain ⟨rfl, hp⟩ : c = 0 ∧ Vals w3 vp (b.map Value.string) := by
    rcases hc with ⟨h, -⟩ | ⟨-, x1, x2⟩
    · exact absurd (texts_may (by omega) (by omega)) h
    · rw [texts_patched (by omega) (by omega)] at x2; exact ⟨x1, x2⟩
  have A3 := Lib.hid (A2.out.below b3)
  have B3 := Lib.hid (B2.out.below b3)
  have H3 := Lib.hid (H2.out.below b3)
  have D3 := D2.trans (b3.mono D2.size)
  have P3 := Lib.hid hp
  clear hc hp D2 b3 A2 B2 H2
  go_wp2_with fail
  refine (Invert_any _ (textHunks a b) _ H3.out (by have := texts_len (a := a) (b := b) (by omega) (by omega); omega)).mono ?_
  rintro e w4 ⟨⟨vI, rfl, hI⟩, b4⟩
  have A4 := Lib.hid (A3.out.below b4)
  have B4 := Lib.hid (B3.out.below b4)
  have H4 := Lib.hid (H3.out.below b4)
  have P4 := Lib.hid (P3.out.below b4)
  have D4 := D3.trans (b4.mono D3.size)
  rw [← List.length_map Hk.turn] at hI
  have I4 := Lib.hid (own_hunks hI)
  clear hI D3 b4 A3 B3 H3 P3
  go_wp2_with fail
  refine (Patch_any _ _ _ b a ((textHunks a b).map Hk.turn) _ B4.out I4.out A4.out (texts_turn_wf (by omega) (by omega)) (by omega) (by omega)).mono ?_
  rintro e w5 ⟨⟨vq, c, rfl, hc⟩, b5⟩
  obtain ⟨rfl, hq⟩ : c = 0 ∧ Vals w5 vq (a.map Value.string) := by
    rcases hc with ⟨h, -⟩ | ⟨-, x1, x2⟩
    · exact absurd (texts_turn_may (by omega) (by omega)) h
    · rw [texts_turn_patched (by omega) (by omega)] at x2; exact ⟨x1, x2⟩
  have A5 := Lib.hid (A4.out.below b5)
  have B5 := Lib.hid (B4.out.below b5)
  have H5 := Lib.hid (H4.out.below b5)
  have P5 := Lib.hid (P4.out.below b5)
  have D5 := D4.trans (b5.mono D4.size)
  have Q5 := Lib.hid hq
  clear hc hq D4 b5 A4 B4 H4 P4 I4
  -- the numbers
  have bA : Below w5.heap.size w5 (w5.alloc (.cells #[.slice p1 a.length k1, .slice p2 b.length k2] 27)) := (Below.refl _ _).alloc (Nat.le_refl _) _
  have hv : Vals (w5.alloc (.cells #[.slice p1 a.length k1, .slice p2 b.length k2] 27)) (.slice (some ⟨w5.heap.size, 0, none⟩) 2 2) [.slice p1 a.length k1, .slice p2 b.length k2] := vals_of_row (vs := [.slice p1 a.length k1, .slice p2 b.length k2]) (RowAt.new _ _ _) (by simp [maxLen])
  have g1 := A5.out.below bA
  have g2 := B5.out.below bA
  have Hv := Lib.hid hv; clear hv
  have HB := Lib.hid bA; clear bA
  go_wp2_with fail
  refine (RefNumbers_any _ [.slice p1 a.length k1, .slice p2 b.length k2] [a, b] _ Hv.out rfl (fun j x ss hx hs => ?_) (by simp)).mono ?_
  · match j with
    | 0 => simp at hx hs; subst hx hs; exact ⟨g1, by omega, S1.out⟩
    | 1 => simp at hx hs; subst hx hs; exact ⟨g2, by omega, S2.out⟩
    | j + 2 => simp at hx
  rintro e w6 ⟨v, vals, rfl, hvals, hvl, hout, b6⟩
  obtain ⟨x0, e0, i0⟩ := hout 0 (numRow [] a) rfl
  obtain ⟨x1, e1, i1⟩ := hout 1 (numRow (knownBy [] a) b) rfl
  obtain ⟨av, cv, rfl, -, -, hat⟩ := hvals.at
  rw [show vals.length = 2 from hvl]
  obtain ⟨bb, oo, rfl, -, c0⟩ := hat 0 _ e0
  obtain ⟨bb', oo', hh, -, c1⟩ := hat 1 _ e1
  cases hh
  rw [Nat.add_zero] at c0
  have hb6 := HB.out.trans (b6.mono HB.out.size)
  have A6 := Lib.hid (A5.out.below hb6)
  have B6 := Lib.hid (B5.out.below hb6)
  have H6 := Lib.hid (H5.out.below hb6)
  have P6 := Lib.hid (P5.out.below hb6)
  have Q6 := Lib.hid (Q5.out.below hb6)
  have D6 := D5.trans (hb6.mono D5.size)
  have I0 := Lib.hid i0; clear i0
  have I1 := Lib.hid i1; clear i1
  clear hout hat e0 e1 hvals hvl b6 hb6 D5 HB Hv g1 g2 A5 B5 H5 P5 Q5
  have HD6 := Lib.hid D6; clear D6
  go_wp2_with fail
  go_still_tail 6, (by kernel_rfl)
  change wpList _ _ _ _ _ w6.drew
  obtain ⟨V, hV⟩ : ∃ V, Hid (w6.drew = V) := ⟨_, Lib.hid rfl⟩
  have hVb : Hid (Below w6.heap.size w6 V) := by rw [← hV.out]; exact Lib.hid (below_draws (Below.refl _ _) 1)
  rw [hV.out]
  clear hV c0 c1
  go_wp2_with fail
  refine (RefLength_any _ _ _ _ _ (I0.out.below hVb.out) (I1.out.below hVb.out) (by rw [numRow_length]; omega) (by rw [numRow_length]; omega)).mono ?_
  rintro e w7 ⟨rfl, b7⟩
  have hb7 := hVb.out.trans (b7.mono hVb.out.size)
  have A7 := Lib.hid (A6.out.below hb7)
  have B7 := Lib.hid (B6.out.below hb7)
  have H7 := Lib.hid (H6.out.below hb7)
  have P7 := Lib.hid (P6.out.below hb7)
  have Q7 := Lib.hid (Q6.out.below hb7)
  have D7 := HD6.out.trans (hb7.mono HD6.out.size)
  clear b7 hb7 hVb HD6 I0 I1 A6 B6 H6 P6 Q6
  have hbd := back_bd a b
  have hcost := texts_cost (a := a) (b := b) (by omega) (by omega)
  generalize lenOf (numRow [] a) (numRow (knownBy [] a) b) = common at hbd hcost ⊢
  have Hcost := Lib.hid hcost; clear hcost
  go_wp2_with fail
  refine (SameT_any _ _ b b _ P7.out B7.out).mono ?_
  rw [decide_eq_true rfl]
  rintro e w8 ⟨rfl, b8⟩
  have A8 := Lib.hid (A7.out.below b8)
  have H8 := Lib.hid (H7.out.below b8)
  have Q8 := Lib.hid (Q7.out.below b8)
  have D8 := D7.trans (b8.mono D7.size)
  clear D7 b8 A7 B7 H7 P7 Q7
  go_wp2_with fail
  refine (SameT_any _ _ a a _ Q8.out A8.out).mono ?_
  rw [decide_eq_true rfl]
  rintro e w9 ⟨rfl, b9⟩
  have H9 := Lib.hid (H8.out.below b9)
  have D9 := D8.trans (b9.mono D8.size)
  clear D8 b9 A8 H8 Q8
  go_wp2_with fail
  refine (Cost_any _ (textHunks a b) _ H9.out).mono ?_
  rw [Hcost.out]
  rintro e w10 ⟨rfl, b10⟩
  have H10 := Lib.hid (H9.out.below b10)
  have D10 := D9.trans (b10.mono D9.size)
  clear D9 b10 H9
  go_wp2_with fail
  refine (Invert_any _ (textHunks a b) _ H10.out (by have := texts_len (a := a) (b := b) (by omega) (by omega); omega)).mono ?_
  rintro e w11 ⟨⟨v11, rfl, h11⟩, b11⟩
  have H11 := Lib.hid (H10.out.below b11)
  have D11 := D10.trans (b11.mono D10.size)
  rw [← List.length_map Hk.turn] at h11
  have I11 := Lib.hid (own_hunks h11)
  clear h11 D10 b11 H10
  go_wp2_with fail
  refine (Invert_any _ ((textHunks a b).map Hk.turn) _ I11.out (by rw [List.length_map]; have := texts_len (a := a) (b := b) (by omega) (by omega); omega)).mono ?_
  rintro e w12 ⟨⟨v12, rfl, h12⟩, b12⟩
  have H12 := Lib.hid (H11.out.below b12)
  have D12 := D11.trans (b12.mono D11.size)
  rw [← List.length_map Hk.turn] at h12
  have h13 := own_hunks h12
  rw [turn_turn] at h13
  have I12 := Lib.hid h13
  clear h12 h13 D11 b12 H11 I11
  go_wp2_with fail
  refine (SameH_any _ _ (textHunks a b) _ I12.out H12.out).mono ?_
  rintro e w14 ⟨rfl, b14⟩
  have D14 := D12.trans (b14.mono D12.size)
  clear D12 b14 H12 I12
  go_wp2_with fail
  go_ret
  exact ⟨rfl, D14⟩

set_option maxRecDepth 100000 in
set_option maxHeartbeats 8000000 in
theorem HunkBack_any (v1 v2 : Value) (a b : List ByteArray) (w : World) (h1 : Vals w v1 (a.map .string) ∧ ∀ s ∈ a, s.size ≤ maxLen) (h2 : Vals w v2 (b.map .string) ∧ ∀ s ∈ b, s.size ≤ maxLen) :
    Calls Try.prog 10 #[v1, v2] w fun e w' => e = .returned (.bool true) ∧ Below w.heap.size w w' := by
  obtain ⟨h1, hs1⟩ := h1
  obtain ⟨h2, hs2⟩ := h2
  obtain ⟨p1, k1, rfl, -, -, -⟩ := h1.at
  obtain ⟨p2, k2, rfl, -, -, -⟩ := h2.at
  rw [List.length_map] at h1 h2 ⊢
  rw [List.length_map]
  by_cases hla : a.length ≤ 100
  · by_cases hlb : b.length ≤ 100
    · exact HunkBack_in p1 p2 k1 k2 a b w h1 h2 hs1 hs2 hla hlb
    · have hda : decide (a.length ≤ 100) = true := decide_eq_true hla
      have hdb : decide (b.length ≤ 100) = false := decide_eq_false hlb
      clear h1 h2 hs1 hs2
      go_enter Try.func10, Try.ntmps10
      go_wp2_with fail
      refine (hawake_any _).mono ?_
      rintro e w1 ⟨rfl, b1⟩
      go_wp2_with fail
      refine (short_any _ _ _ _).mono ?_
      rw [hda]
      rintro e w1' ⟨rfl, rfl⟩
      go_wp2_with fail
      refine (short_any _ _ _ _).mono ?_
      rw [hdb]
      rintro e w1' ⟨rfl, rfl⟩
      go_wp2_with fail
      go_ret
      exact ⟨rfl, b1⟩
  · have hda : decide (a.length ≤ 100) = false := decide_eq_false hla
    clear h1 h2 hs1 hs2
    obtain ⟨c, hdb⟩ : ∃ c, decide (b.length ≤ 100) = c := ⟨_, rfl⟩
    go_enter Try.func10, Try.ntmps10
    go_wp2_with fail
    refine (hawake_any _).mono ?_
    rintro e w1 ⟨rfl, b1⟩
    go_wp2_with fail
    refine (short_any _ _ _ _).mono ?_
    rw [hda]
    rintro e w1' ⟨rfl, rfl⟩
    go_wp2_with fail
    refine (short_any _ _ _ _).mono ?_
    rw [hdb]
    rintro e w1' ⟨rfl, rfl⟩
    go_wp2_with fail
    go_ret
    exact ⟨rfl, b1⟩
end Go.Proofs.Ythligkdncddmpaa
