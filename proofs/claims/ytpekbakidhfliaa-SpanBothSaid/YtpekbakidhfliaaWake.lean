/-
  For the laws of span: the document's example, by the program. No condition.
-/
import Derived.Test.YtpekbakidhfliaaClone
import Derived.Test.YtpekbakidhfliaaSame
namespace Go.Proofs.Ytpekbakidhfliaa
open Go.RowKit Go.Shelf

def exE : Ed := ⟨1, 3, [120, 121, 122]⟩
theorem eds_row1 {W : World} {b : Nat} {t : TypeId} {e : Ed} (h : RowAt W b t #[.int .i64 e.fr, .int .i64 e.to, .string (bs e.tx)]) : Eds W (.slice (some ⟨b, 0, none⟩) 1 1) [e] := by
  refine ⟨_, 1, rfl, Nat.le_refl _, by unfold maxLen; omega, fun k x hk => ?_⟩
  match k, hk with
  | 0, hk =>
    simp only [List.getElem?_cons_zero, Option.some.injEq] at hk
    subst hk
    exact ⟨b, 0, rfl, h.lt, h.cell rfl, h.cell rfl, h.cell rfl⟩
  | k + 1, hk => simp at hk
theorem ex_ok4 : chkB 4 none [exE] = true := by decide
theorem ex_ok2 : chkB 2 none [exE] = false := by decide
theorem ex_app : appR [97, 98, 99, 100] [exE] = [97, 120, 121, 122, 100] := by decide
theorem ex_inv : invA [97, 98, 99, 100] [exE] = [⟨1, 4, [98, 99]⟩] := by
  unfold invA
  rw [show chkB ([97, 98, 99, 100] : By).length none [exE] = true from ex_ok4, if_pos rfl]
  unfold invL invE exE grL grL
  simp [wrap64]
theorem ex_mv : mvA [exE] 3 = (4, true) := by
  unfold mvA
  rw [if_pos ⟨by decide, by decide⟩]
  unfold mvR mv exE gr
  simp [mv, wrap64]
set_option maxRecDepth 100000 in
set_option maxHeartbeats 8000000 in
theorem wake_any (w : World) : Calls Try.prog 7 #[] w fun e w' => e = .returned (.bool true) ∧ Below w.heap.size w w' := by
  have r1 := RowAt.new w 39 #[.int .i64 1, .int .i64 3, .string ⟨#[120, 121, 122]⟩]
  obtain ⟨W1, hW1⟩ : ∃ W1, Hid (w.alloc (.cells #[.int .i64 1, .int .i64 3, .string ⟨#[120, 121, 122]⟩] 39) = W1) := ⟨_, Lib.hid rfl⟩
  rw [hW1.out] at r1
  have b1 : Below w.heap.size w W1 := by rw [← hW1.out]; exact (Below.refl _ _).alloc (Nat.le_refl _) _
  have B1 := Lib.hid b1
  have H1 := Lib.hid (eds_row1 (e := exE) r1)
  clear r1 b1
  go_enter Try.func7, Try.ntmps7
  go_wp2_with fail
  rw [hW1.out]
  refine (Apply_any ⟨#[97, 98, 99, 100]⟩ _ [exE] W1 H1.out (by decide) (by decide) (by decide)).mono ?_
  rw [show appR (tl ⟨#[97, 98, 99, 100]⟩) [exE] = _ from ex_app, show chkB ((⟨#[97, 98, 99, 100]⟩ : ByteArray).size : Nat) none [exE] = true from ex_ok4]
  rintro e w2 ⟨rfl, b2⟩
  have B2 := Lib.hid (B1.out.trans (b2.mono B1.out.size))
  have H2 := Lib.hid (H1.out.below b2)
  clear b2
  go_wp2_with fail
  refine (Inverse_any ⟨#[97, 98, 99, 100]⟩ _ [exE] w2 H2.out (by decide) (by decide) (by decide)).mono ?_
  rw [show invA (tl ⟨#[97, 98, 99, 100]⟩) [exE] = _ from ex_inv, show chkB ((⟨#[97, 98, 99, 100]⟩ : ByteArray).size : Nat) none [exE] = true from ex_ok4]
  rintro e w3 ⟨u, rfl, hu, b3⟩
  have B3 := Lib.hid (B2.out.trans (b3.mono B2.out.size))
  have H3 := Lib.hid (H2.out.below b3)
  have U3 := Lib.hid hu
  clear b3 hu
  go_wp2_with fail
  refine (Moved_any _ [exE] 3 w3 H3.out (by decide) (by unfold wrap64; decide)).mono ?_
  rw [ex_mv]
  rintro e w4 ⟨rfl, b4⟩
  have B4 := Lib.hid (B3.out.trans (b4.mono B3.out.size))
  have H4 := Lib.hid (H3.out.below b4)
  have U4 := Lib.hid (U3.out.below b4)
  clear b4
  have r5 := RowAt.new w4 39 #[.int .i64 1, .int .i64 4, .string ⟨#[98, 99]⟩]
  obtain ⟨W5, hW5⟩ : ∃ W5, Hid (w4.alloc (.cells #[.int .i64 1, .int .i64 4, .string ⟨#[98, 99]⟩] 39) = W5) := ⟨_, Lib.hid rfl⟩
  rw [hW5.out] at r5
  have b5 : Below w4.heap.size w4 W5 := by rw [← hW5.out]; exact (Below.refl _ _).alloc (Nat.le_refl _) _
  have B5 := Lib.hid (B4.out.trans (b5.mono B4.out.size))
  have H5 := Lib.hid (H4.out.below b5)
  have U5 := Lib.hid (U4.out.below b5)
  have V5 := Lib.hid (eds_row1 (e := ⟨1, 4, [98, 99]⟩) r5)
  clear r5 b5
  go_wp2_with fail
  rw [hW5.out]
  refine (Same_any _ _ _ _ W5 U5.out V5.out).mono ?_
  rw [show decide (([⟨1, 4, [98, 99]⟩] : List Ed) = [⟨1, 4, [98, 99]⟩]) = true from by decide]
  rintro e w6 ⟨rfl, b6⟩
  have B6 := Lib.hid (B5.out.trans (b6.mono B5.out.size))
  have H6 := Lib.hid (H5.out.below b6)
  clear b6
  go_wp2_with fail
  refine (Check_any 4 _ [exE] w6 H6.out).mono ?_
  rw [ex_ok4]
  rintro e w7 ⟨rfl, b7⟩
  have f7 : code true = 0 := rfl
  have B7 := Lib.hid (B6.out.trans (b7.mono B6.out.size))
  have H7 := Lib.hid (H6.out.below b7)
  clear b7
  rw [f7]
  go_wp2_with fail
  refine (Check_any 2 _ [exE] w7 H7.out).mono ?_
  rw [ex_ok2]
  rintro e w8 ⟨rfl, b8⟩
  have f8 : code false = 20 := rfl
  have B8 := Lib.hid (B7.out.trans (b8.mono B7.out.size))
  have H8 := Lib.hid (H7.out.below b8)
  clear b8
  rw [f8]
  go_wp2_with fail
  refine (Sort_one _ exE w8 H8.out).mono ?_
  rintro e w9 ⟨⟨p9, c9, rfl⟩, b9⟩
  have B9 := Lib.hid (B8.out.trans (b9.mono B8.out.size))
  clear b9
  go_wp2_with fail
  go_ret
  exact ⟨rfl, B9.out⟩
end Go.Proofs.Ytpekbakidhfliaa
