/-
  For the laws of lcs: the document's example. No condition.
-/
import Derived.Test.YthligkdncddmpaaWake
namespace Go.Proofs.Ythligkdncddmpaa
open Go.RowKit

theorem b_two (W : World) (t t' : TypeId) (xs ys : Array Value) : Below W.heap.size W ((W.alloc (.cells xs t)).alloc (.cells ys t')) := ((Below.refl _ W).alloc (Nat.le_refl _) _).alloc (by simp) _
set_option maxRecDepth 100000 in
set_option maxHeartbeats 8000000 in
theorem awake_any (w : World) : Calls Try.prog 12 #[] w fun e w' => e = .returned (.bool true) ∧ Below w.heap.size w w' := by
  have T1 := Lib.hid (fun W => two_ints W [1, 2, 3, 2] [2, 3, 1, 2] (by simp [maxLen]) (by simp [maxLen]))
  go_enter Try.func12, Try.ntmps12
  go_wp2_with fail
  refine (Match_any _ _ [1, 2, 3, 2] [2, 3, 1, 2] _ (T1.out w).1 (T1.out w).2.1 (by simp) (by simp)).mono ?_
  rw [ex_match]
  rintro e w1 ⟨g1, rfl, -, r1, b1⟩
  have B1 := (T1.out w).2.2.trans (b1.mono (T1.out w).2.2.size)
  have I1 : Ints w1 .i64 (.slice (some ⟨g1, 0, none⟩) 4 4) [-1, 0, 1, 3] := ints_of_row r1 (by simp [maxLen])
  have HI1 := Lib.hid I1; clear I1 r1 b1
  have HB1 := Lib.hid B1; clear B1
  obtain ⟨W2, hW2⟩ : ∃ W2, Hid (((w1.alloc (.cells #[.string ⟨#[98]⟩, .string ⟨#[97]⟩] 9)).alloc (.cells #[.string ⟨#[97]⟩, .string ⟨#[99]⟩] 9)).alloc (.cells #[.slice (some ⟨w1.heap.size, 0, none⟩) 2 2, .slice (some ⟨w1.heap.size + 1, 0, none⟩) 2 2] 27) = W2) := ⟨_, Lib.hid rfl⟩
  have S2 := two_strs w1 [⟨#[98]⟩, ⟨#[97]⟩] [⟨#[97]⟩, ⟨#[99]⟩] (by simp [maxLen]) (by simp [maxLen])
  have bA : Below (w1.heap.size + 2) ((w1.alloc (.cells #[.string ⟨#[98]⟩, .string ⟨#[97]⟩] 9)).alloc (.cells #[.string ⟨#[97]⟩, .string ⟨#[99]⟩] 9)) W2 := by rw [← hW2.out]; exact (Below.refl _ _).alloc (by simp) _
  have v2 : Vals W2 (.slice (some ⟨w1.heap.size + 1 + 1, 0, none⟩) 2 2) [.slice (some ⟨w1.heap.size, 0, none⟩) 2 2, .slice (some ⟨w1.heap.size + 1, 0, none⟩) 2 2] := by
    rw [← hW2.out]
    have h := RowAt.new ((w1.alloc (.cells #[.string ⟨#[98]⟩, .string ⟨#[97]⟩] 9)).alloc (.cells #[.string ⟨#[97]⟩, .string ⟨#[99]⟩] 9)) 27 #[.slice (some ⟨w1.heap.size, 0, none⟩) 2 2, .slice (some ⟨w1.heap.size + 1, 0, none⟩) 2 2]
    simp only [World.size_alloc] at h
    exact vals_of_row (vs := [.slice (some ⟨w1.heap.size, 0, none⟩) 2 2, .slice (some ⟨w1.heap.size + 1, 0, none⟩) 2 2]) h (by simp [maxLen])
  have x2 := S2.1.below (W' := W2) (by simpa using bA)
  have y2 := S2.2.1.below (W' := W2) (by simpa using bA)
  have B2 : Below w1.heap.size w1 W2 := S2.2.2.trans (bA.mono (by omega))
  clear S2 bA
  have Hv2 := Lib.hid v2; clear v2
  go_wp2_with fail
  rw [hW2.out]
  refine (Numbers_any _ [.slice (some ⟨w1.heap.size, 0, none⟩) 2 2, .slice (some ⟨w1.heap.size + 1, 0, none⟩) 2 2] [[⟨#[98]⟩, ⟨#[97]⟩], [⟨#[97]⟩, ⟨#[99]⟩]] _ Hv2.out rfl (fun j x ss hx hs => ?_) (by simp)).mono ?_
  · match j with
    | 0 => simp at hx hs; subst hx hs; exact ⟨x2, by simp, by simp [maxLen]; decide⟩
    | 1 => simp at hx hs; subst hx hs; exact ⟨y2, by simp, by simp [maxLen]; decide⟩
    | j + 2 => simp at hx
  rw [ex_nums]
  rintro e w3 ⟨v, vals, rfl, hvals, ⟨hvl, hout⟩, b3⟩
  obtain ⟨q1, e1, r1⟩ := hout 1 [1, 2] rfl
  obtain ⟨av, cv, rfl, -, -, hat⟩ := hvals.at
  obtain ⟨bb, oo, rfl, hbb, c1⟩ := hat 1 _ e1
  have hvl2 : vals.length = 2 := hvl
  rw [hvl2]
  have I3 : Ints w3 .i64 (.slice (some ⟨q1, 0, none⟩) 2 2) [1, 2] := ints_of_row r1 (by simp [maxLen])
  have J3 := Lib.hid (HI1.out.below ((B2.trans (b3.mono B2.size))))
  have B3 := HB1.out.trans ((B2.trans (b3.mono B2.size)).mono HB1.out.size)
  have HI3 := Lib.hid I3; clear I3
  have HB3 := Lib.hid B3; clear B3
  have Hc1 := Lib.hid c1; clear c1
  clear HB1 HI1 Hv2 x2 y2 hout hat e1 r1 hvals hvl hvl2 b3 B2 hW2
  -- Same, of what Match told
  obtain ⟨W4, hW4⟩ : ∃ W4, Hid (w3.alloc (.cells #[.int .i64 (-1), .int .i64 0, .int .i64 1, .int .i64 3] 3) = W4) := ⟨_, Lib.hid rfl⟩
  have o4 := one_ints w3 [-1, 0, 1, 3] (by simp [maxLen])
  rw [show w3.alloc (.cells (([-1, 0, 1, 3] : List Int).map (Value.int .i64)).toArray 3) = W4 from hW4.out] at o4
  go_wp2_with fail
  rw [hW4.out]
  refine (Same_yes _ _ [-1, 0, 1, 3] _ (J3.out.below o4.2) o4.1).mono ?_
  rintro e w5 ⟨rfl, b5⟩
  have B5 : Below w3.heap.size w3 w5 := o4.2.trans (b5.mono o4.2.size)
  clear o4 hW4 b5 J3
  have l5 := B5.size
  -- Length
  go_wp2_with fail
  refine (Length_any _ _ [1, 2, 3, 2] [2, 3, 1, 2] _ (T1.out w5).1 (T1.out w5).2.1 (by simp) (by simp)).mono ?_
  rw [ex_len]
  rintro e w6 ⟨rfl, b6⟩
  have B6 := B5.trans (((T1.out w5).2.2.trans (b6.mono (T1.out w5).2.2.size)).mono B5.size)
  clear B5 b6 l5
  -- Percent
  go_wp2_with fail
  refine (Percent_any _ _ [1, 2, 3, 2] [2, 3, 1, 2] _ (T1.out w6).1 (T1.out w6).2.1 (by simp) (by simp)).mono ?_
  rw [ex_percent]
  rintro e w7 ⟨rfl, b7⟩
  have B7 := B6.trans (((T1.out w6).2.2.trans (b7.mono (T1.out w6).2.2.size)).mono B6.size)
  clear B6 b7
  -- Texts
  have S7 := two_strs w7 [⟨#[120]⟩] [⟨#[121]⟩, ⟨#[120]⟩] (by simp [maxLen]) (by simp [maxLen])
  have HS7 := Lib.hid S7; clear S7
  go_wp2_with fail
  refine (Texts_any _ _ [⟨#[120]⟩] [⟨#[121]⟩, ⟨#[120]⟩] _ HS7.out.1 HS7.out.2.1 (by simp) (by simp) (by simp [maxLen]; decide) (by simp [maxLen]; decide)).mono ?_
  rw [ex_texts]
  rintro e w8 ⟨g8, rfl, -, r8, b8⟩
  have B8 := B7.trans ((HS7.out.2.2.trans (b8.mono HS7.out.2.2.size)).mono B7.size)
  have I8 : Ints w8 .i64 (.slice (some ⟨g8, 0, none⟩) 1 1) [1] := ints_of_row r8 (by simp [maxLen])
  clear B7 b8 HS7 r8
  have HI8 := Lib.hid I8; clear I8
  have o8 := Lib.hid (one_ints w8 [1] (by simp [maxLen]))
  go_wp2_with fail
  refine (Same_yes _ _ [1] _ (HI8.out.below o8.out.2) o8.out.1).mono ?_
  rintro e w9 ⟨rfl, b9⟩
  have B9 := B8.trans ((o8.out.2.trans (b9.mono o8.out.2.size)).mono B8.size)
  clear B8 b9 o8 HI8
  have c9 : w9.cell? ⟨bb, oo + 1, none⟩ = some (.slice (some ⟨q1, 0, none⟩) 2 2) := (B9.cell (p := ⟨bb, oo + 1, none⟩) hbb).trans Hc1.out
  have J9 := Lib.hid (HI3.out.below B9)
  have o9 := Lib.hid (one_ints w9 [1, 2] (by simp [maxLen]))
  have HB9 := Lib.hid (HB3.out.trans (B9.mono HB3.out.size)); 
  clear B9 Hc1 HI3 HB3 hbb
  go_wp2_with fail
  refine (Same_yes _ _ [1, 2] _ (J9.out.below o9.out.2) o9.out.1).mono ?_
  rintro e wA ⟨rfl, bA⟩
  have BA := HB9.out.trans ((o9.out.2.trans (bA.mono o9.out.2.size)).mono HB9.out.size)
  clear bA o9 J9 HB9 c9
  go_wp2_with fail
  go_ret
  exact ⟨rfl, BA⟩
end Go.Proofs.Ythligkdncddmpaa
