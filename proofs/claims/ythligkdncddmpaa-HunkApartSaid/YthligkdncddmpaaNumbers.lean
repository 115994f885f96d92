/-
  For the law LcsNumbers: it returns true for any three rows of texts. No condition but what can be read.
-/
import Derived.Test.YthligkdncddmpaaRefn
namespace Go.Proofs.Ythligkdncddmpaa
open Go.RowKit
set_option linter.unusedVariables false

set_option maxRecDepth 100000 in
set_option maxHeartbeats 4000000 in
theorem RefTexts_any (v1 v2 : Value) (a b : List ByteArray) (w : World) (h1 : Vals w v1 (a.map .string)) (h2 : Vals w v2 (b.map .string)) (hl1 : a.length ≤ 10000) (hl2 : b.length ≤ 10000) (hs1 : ∀ s ∈ a, s.size ≤ maxLen) (hs2 : ∀ s ∈ b, s.size ≤ maxLen) :
    Calls Try.prog 23 #[v1, v2] w (GivesI w (textsOf a b)) := by
  obtain ⟨p1, k1, rfl, -, -, -⟩ := h1.at
  obtain ⟨p2, k2, rfl, -, -, -⟩ := h2.at
  generalize (a.map Value.string).length = z1 at h1 ⊢
  generalize (b.map Value.string).length = z2 at h2 ⊢
  have bA : Below w.heap.size w (w.alloc (.cells #[.slice p1 z1 k1, .slice p2 z2 k2] 27)) := (Below.refl _ _).alloc (Nat.le_refl _) _
  have hv : Vals (w.alloc (.cells #[.slice p1 z1 k1, .slice p2 z2 k2] 27)) (.slice (some ⟨w.heap.size, 0, none⟩) 2 2) [.slice p1 z1 k1, .slice p2 z2 k2] := vals_of_row (vs := [.slice p1 z1 k1, .slice p2 z2 k2]) (RowAt.new _ _ _) (by simp [maxLen])
  have g1 := h1.below bA
  have g2 := h2.below bA
  have Hv := Lib.hid hv; clear hv
  have HB := Lib.hid bA; clear bA
  go_enter Try.func23, Try.ntmps23
  go_wp2_with fail
  refine (RefNumbers_any _ [.slice p1 z1 k1, .slice p2 z2 k2] [a, b] _ Hv.out rfl (fun j x ss hx hs => ?_) (by simp)).mono ?_
  · match j with
    | 0 => simp at hx hs; subst hx hs; exact ⟨g1, hl1, hs1⟩
    | 1 => simp at hx hs; subst hx hs; exact ⟨g2, hl2, hs2⟩
    | j + 2 => simp at hx
  rintro e w1 ⟨v, vals, rfl, hvals, hvl, hout, b1⟩
  obtain ⟨x0, e0, i0⟩ := hout 0 (numRow [] a) rfl
  obtain ⟨x1, e1, i1⟩ := hout 1 (numRow (knownBy [] a) b) rfl
  obtain ⟨av, cv, rfl, -, -, hat⟩ := hvals.at
  rw [show vals.length = 2 from hvl]
  obtain ⟨bb, oo, rfl, -, c0⟩ := hat 0 _ e0
  obtain ⟨bb', oo', hh, -, c1⟩ := hat 1 _ e1
  cases hh
  rw [Nat.add_zero] at c0
  have n0 : (numRow [] a).length ≤ 10000 := by rw [numRow_length]; exact hl1
  have n1 : (numRow (knownBy [] a) b).length ≤ 10000 := by rw [numRow_length]; exact hl2
  have b2 : Below w.heap.size w w1 := HB.out.trans (b1.mono (by simp))
  clear hout hat e0 e1 hvals b1
  have I0 := Lib.hid i0; clear i0
  have I1 := Lib.hid i1; clear i1
  have Hb2 := Lib.hid b2; clear b2
  have htx : textsOf a b = matchOf (numRow [] a) (numRow (knownBy [] a) b) := rfl
  generalize numRow [] a = x0' at n0 I0 htx
  generalize numRow (knownBy [] a) b = x1' at n1 I1 htx
  have Htx := Lib.hid htx; clear htx
  go_wp2_with fail
  go_still_tail 6, (by kernel_rfl)
  change wpList _ _ _ _ _ w1.drew
  obtain ⟨V, hV⟩ : ∃ V, Hid (w1.drew = V) := ⟨_, Lib.hid rfl⟩
  have J0 : Hid (Ints V .i64 x0 x0') := by rw [← hV.out]; exact I0
  have J1 : Hid (Ints V .i64 x1 x1') := by rw [← hV.out]; exact I1
  have HbV : Hid (Below w.heap.size w V) := by rw [← hV.out]; exact Lib.hid (below_draws Hb2.out 1)
  rw [hV.out]
  clear hV I0 I1 Hb2 c0 c1
  go_wp2_with fail
  refine (RefMatch_any _ _ _ _ _ J0.out J1.out n0 n1).mono ?_
  rintro e w2 ⟨v2', rfl, hI, hb⟩
  rw [← Htx.out] at hI
  have hbw := HbV.out.trans (hb.mono HbV.out.size)
  have HI := Lib.hid hI
  clear hI hb
  go_wp2_with fail
  go_ret
  exact ⟨_, rfl, HI.out, hbw⟩

/-- A new row of three values. -/
theorem three_vals (W : World) (t : TypeId) (x y z : Value) : Vals (W.alloc (.cells #[x, y, z] t)) (.slice (some ⟨W.heap.size, 0, none⟩) 3 3) [x, y, z] ∧ Below W.heap.size W (W.alloc (.cells #[x, y, z] t)) :=
  ⟨vals_of_row (vs := [x, y, z]) (RowAt.new _ _ _) (by simp [maxLen]), (Below.refl _ _).alloc (Nat.le_refl _) _⟩

set_option maxRecDepth 100000 in
set_option maxHeartbeats 8000000 in
theorem LcsNumbers_any (v1 v2 v3 : Value) (a b c : List ByteArray) (w : World) (h1 : Vals w v1 (a.map .string) ∧ ∀ s ∈ a, s.size ≤ maxLen) (h2 : Vals w v2 (b.map .string) ∧ ∀ s ∈ b, s.size ≤ maxLen) (h3 : Vals w v3 (c.map .string) ∧ ∀ s ∈ c, s.size ≤ maxLen) :
    Calls Try.prog 4 #[v1, v2, v3] w fun e w' => e = .returned (.bool true) ∧ Below w.heap.size w w' := by
  obtain ⟨h1, hs1⟩ := h1
  obtain ⟨h2, hs2⟩ := h2
  obtain ⟨h3, hs3⟩ := h3
  obtain ⟨p1, k1, rfl, -, -, -⟩ := h1.at
  obtain ⟨p2, k2, rfl, -, -, -⟩ := h2.at
  obtain ⟨p3, k3, rfl, -, -, -⟩ := h3.at
  rw [List.length_map] at h1 h2 h3 ⊢
  rw [List.length_map, List.length_map]
  have H1 := Lib.hid h1; clear h1
  have H2 := Lib.hid h2; clear h2
  have H3 := Lib.hid h3; clear h3
  have S1 := Lib.hid hs1; clear hs1
  have S2 := Lib.hid hs2; clear hs2
  have S3 := Lib.hid hs3; clear hs3
  by_cases hs : 100 < a.length ∨ 100 < b.length ∨ 100 < c.length
  · by_cases hq1 : 100 < a.length
    case' neg => by_cases hq2 : 100 < b.length
    all_goals
      first
      | have hd1 : decide ((100 : Int) < (a.length : Int)) = true := by simp; omega
      | (have hd1 : decide ((100 : Int) < (a.length : Int)) = false := by simp; omega
         have hd2 : decide ((100 : Int) < (b.length : Int)) = true := by simp; omega)
      | (have hd1 : decide ((100 : Int) < (a.length : Int)) = false := by simp; omega
         have hd2 : decide ((100 : Int) < (b.length : Int)) = false := by simp; omega
         have hd3 : decide ((100 : Int) < (c.length : Int)) = true := by simp; omega)
      clear hs
      go_enter Try.func4, Try.ntmps4
      go_wp2_with fail
      refine (awake_any _).mono ?_
      rintro e w1 ⟨rfl, b1⟩
      go_wp2_with fail
      go_ret
      exact ⟨rfl, b1⟩
  · have hla : a.length ≤ 100 := by omega
    have hlb : b.length ≤ 100 := by omega
    have hlc : c.length ≤ 100 := by omega
    have hd1 : decide ((100 : Int) < (a.length : Int)) = false := by simp; omega
    have hd2 : decide ((100 : Int) < (b.length : Int)) = false := by simp; omega
    have hd3 : decide ((100 : Int) < (c.length : Int)) = false := by simp; omega
    clear hs
    go_enter Try.func4, Try.ntmps4
    go_wp2_with fail
    refine (awake_any _).mono ?_
    rintro e w1 ⟨rfl, b1⟩
    have t1 := Lib.hid (three_vals w1 27 (.slice p1 a.length k1) (.slice p2 b.length k2) (.slice p3 c.length k3))
    have A1 := (H1.out.below b1).below t1.out.2
    have A2 := (H2.out.below b1).below t1.out.2
    have A3 := (H3.out.below b1).below t1.out.2
    go_wp2_with fail
    refine (Numbers_any _ _ [a, b, c] _ t1.out.1 rfl (fun j x ss hx hs => ?_) (by simp)).mono ?_
    · match j with
      | 0 => simp at hx hs; subst hx hs; exact ⟨A1, by omega, S1.out⟩
      | 1 => simp at hx hs; subst hx hs; exact ⟨A2, by omega, S2.out⟩
      | 2 => simp at hx hs; subst hx hs; exact ⟨A3, by omega, S3.out⟩
      | j + 3 => simp at hx
    rintro e w2 ⟨v4, vals, rfl, hvals, ⟨hvl, hout⟩, b2⟩
    have B2 : Below w.heap.size w w2 := b1.trans ((t1.out.2.trans (b2.mono t1.out.2.size)).mono b1.size)
    clear A1 A2 A3 t1 b1 b2
    have hnl : vals.length = 3 := hvl
    obtain ⟨av, cv, rfl, -, -, -⟩ := hvals.at
    have Hvals := Lib.hid hvals; clear hvals
    have Hout := Lib.hid hout; clear hout
    rw [hnl]
    have t2 := Lib.hid (three_vals w2 27 (.slice p1 a.length k1) (.slice p2 b.length k2) (.slice p3 c.length k3))
    have A1 := (H1.out.below B2).below t2.out.2
    have A2 := (H2.out.below B2).below t2.out.2
    have A3 := (H3.out.below B2).below t2.out.2
    have hnl' := Lib.hid hnl
    clear hnl hvl
    go_wp2_with fail
    refine (RefNumbers_any _ _ [a, b, c] _ t2.out.1 rfl (fun j x ss hx hs => ?_) (by simp)).mono ?_
    · match j with
      | 0 => simp at hx hs; subst hx hs; exact ⟨A1, by omega, S1.out⟩
      | 1 => simp at hx hs; subst hx hs; exact ⟨A2, by omega, S2.out⟩
      | 2 => simp at hx hs; subst hx hs; exact ⟨A3, by omega, S3.out⟩
      | j + 3 => simp at hx
    rintro e w3 ⟨v5, vals2, rfl, hvals2, hvl2, hout2, b3⟩
    have B23 : Below w2.heap.size w2 w3 := t2.out.2.trans (b3.mono t2.out.2.size)
    have B3 := B2.trans (B23.mono B2.size)
    clear A1 A2 A3 t2 b3
    have hnl2 : vals2.length = 3 := hvl2
    obtain ⟨av2, cv2, rfl, -, -, hat2⟩ := hvals2.at
    obtain ⟨av1, cv1, e1, -, -, hat1⟩ := Hvals.out.at
    injection e1 with q1 q2 q3
    subst q1
    clear q2 q3
    rw [hnl2]
    have Hat1 := Lib.hid hat1; clear hat1
    have Hat2 := Lib.hid hat2; clear hat2
    have Hout2 := Lib.hid hout2; clear hout2
    obtain ⟨ns, hns⟩ : ∃ ns, Hid (numRows [] [a, b, c] = ns) := ⟨_, Lib.hid rfl⟩
    have hnsl : ns.length = 3 := by rw [← hns.out]; rfl
    have HB3 := Lib.hid B3; clear B3
    have HB23 := Lib.hid B23; clear B23
    clear hvals2 hvl2 hnl2
    have Hnsl := Lib.hid hnsl; clear hnsl
    go_wp2_with fail
    go_loopw [10] (fun c wr => ∃ i : Nat, i ≤ 3 ∧ c = .int .i64 i ∧ Below w3.heap.size w3 wr) (fun c _ => 3 - (intOf c).toNat)
    case atStart => exact ⟨0, by omega, rfl, Below.refl _ _⟩
    case round =>
      obtain ⟨i, hi, rfl, hB⟩ := hrel
      by_cases hlt : i < 3
      · obtain ⟨l, hl⟩ : ∃ l, ns[i]? = some l := ⟨ns[i]'(by rw [Hnsl.out]; exact hlt), List.getElem?_eq_getElem _⟩
        obtain ⟨g, e1, r1⟩ := Hout.out i l (by rw [hns.out]; exact hl)
        obtain ⟨y, e2, i2⟩ := Hout2.out i l (by rw [hns.out]; exact hl)
        obtain ⟨ba, oa, rfl, la, ca⟩ := Hat1.out i _ e1
        obtain ⟨bb, ob, rfl, lb, cb⟩ := Hat2.out i _ e2
        have c1 : wr.cell? ⟨ba, oa + i, none⟩ = some (.slice (some ⟨g, 0, none⟩) l.length l.length) := ((HB23.out.trans (hB.mono HB23.out.size)).cell (p := ⟨ba, oa + i, none⟩) la).trans ca
        have c2 : wr.cell? ⟨bb, ob + i, none⟩ = some y := (hB.cell (p := ⟨bb, ob + i, none⟩) lb).trans cb
        have hll : l.length ≤ maxLen := by
          obtain ⟨_, _, _, h5, h6, _⟩ := i2
          omega
        have I1 := Lib.hid ((ints_of_row r1 hll).below (HB23.out.trans (hB.mono HB23.out.size)))
        have I2 := Lib.hid (i2.below hB)
        have HBw := Lib.hid hB; clear hB
        have hd : decide (i < 3) = true := by simpa using hlt
        have q3 : (i : Int) < 3 := by omega
        clear hl e1 e2 r1 i2 ca cb hll
        go_wp2_with fail
        go_still_tail 8, (by kernel_rfl)
        change wpList _ _ _ _ _ wr.drew
        obtain ⟨V, hV⟩ : ∃ V, Hid (wr.drew = V) := ⟨_, Lib.hid rfl⟩
        have J0 : Hid (Ints V .i64 (.slice (some ⟨g, 0, none⟩) l.length l.length) l) := by rw [← hV.out]; exact I1
        have J1 : Hid (Ints V .i64 y l) := by rw [← hV.out]; exact I2
        have HbV : Hid (Below w3.heap.size w3 V) := by rw [← hV.out]; exact Lib.hid (below_draws HBw.out 1)
        rw [hV.out]
        clear hV I1 I2 c1 c2 HBw
        go_wp2_with fail
        refine (Same_yes _ _ l _ J0.out J1.out).mono ?_
        rintro e w4 ⟨rfl, b4⟩
        have B4 := HbV.out.trans (b4.mono HbV.out.size)
        clear b4 J0 J1 HbV
        go_wp2_with fail
        exact ⟨⟨i + 1, by omega, by go_num, B4⟩, by simp [intOf]; omega⟩
      · obtain rfl : i = 3 := by omega
        have B4 := HB3.out.trans (hB.mono HB3.out.size)
        clear hB hlt hi
        have D1 := Lib.hid (H1.out.below B4)
        have D2 := Lib.hid (H2.out.below B4)
        go_wp2_with fail
        refine (Texts_any _ _ a b _ D1.out D2.out (by omega) (by omega) S1.out S2.out).mono ?_
        rintro e w5 ⟨g5, rfl, hg5, r5, b5⟩
        have I5 := Lib.hid (ints_of_row r5 (by rw [show (textsOf a b).length = a.length by unfold textsOf; rw [matchOf_length, numRow_length]]; unfold maxLen; omega))
        have E1 := Lib.hid (D1.out.below b5)
        have E2 := Lib.hid (D2.out.below b5)
        have B5 := B4.trans (b5.mono B4.size)
        clear b5 r5 hg5 B4 D1 D2
        go_wp2_with fail
        refine (RefTexts_any _ _ a b _ E1.out E2.out (by omega) (by omega) S1.out S2.out).mono ?_
        rintro e w6 ⟨v6, rfl, hI6, b6⟩
        have J5 := Lib.hid (I5.out.below b6)
        have HI6 := Lib.hid hI6
        have B6 := B5.trans (b6.mono B5.size)
        clear b6 hI6 B5 E1 E2 I5
        go_wp2_with fail
        refine (Same_yes _ _ (textsOf a b) _ J5.out HI6.out).mono ?_
        rintro e w7 ⟨rfl, b7⟩
        have B7 := B6.trans (b7.mono B6.size)
        clear b7 B6 J5 HI6
        go_wp2_with fail
        refine (Numbers_any _ [] [] _ (vals_nil _) rfl (fun j x ss hx hs => by simp at hx) (by simp)).mono ?_
        rintro e w8 ⟨v8, vals8, rfl, hv8, ⟨hvl8, _⟩, b8⟩
        obtain ⟨av8, cv8, rfl, -, -, -⟩ := hv8.at
        rw [show vals8.length = 0 from hvl8]
        have B8 := B7.trans (b8.mono B7.size)
        clear b8 B7 hv8 hvl8
        go_wp2_with fail
        go_ret
        exact ⟨rfl, B8⟩
end Go.Proofs.Ythligkdncddmpaa
