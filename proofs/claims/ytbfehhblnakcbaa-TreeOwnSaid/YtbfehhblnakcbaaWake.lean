/-
  For the laws of tree: the document's example, by the program. No condition.
-/
import Derived.Test.YtbfehhblnakcbaaCheck
import Derived.Test.YtbfehhblnakcbaaConcat
import Derived.Test.YtbfehhblnakcbaaSame
namespace Go.Proofs.Ytbfehhblnakcbaa
open Go.RowKit Go.Shelf

def exL : List Fl := [⟨[97], [49]⟩, ⟨[99], []⟩]
def exP : List Fl := [⟨[97], [49]⟩, ⟨[98], [50]⟩, ⟨[99], []⟩]
theorem ex_rising : Rising exP := by unfold Rising exP; decide
theorem ex_put : putF exL [98] [50] = exP := by
  refine rising_ext (rising_sort _) ex_rising fun q => ?_
  rw [get_put]
  by_cases h1 : ([98] : By) = q
  · subst h1; rfl
  · rw [if_neg h1]
    by_cases h2 : ([97] : By) = q
    · subst h2; rfl
    · by_cases h3 : ([99] : By) = q
      · subst h3; rfl
      · simp [exL, exP, lastT, getT, h1, h2, h3]
theorem ex_twice : sortF (exP ++ exP) = exP := by
  refine rising_ext (rising_sort _) ex_rising fun q => ?_
  rw [get_sort, lastT_append]
  by_cases h1 : ([98] : By) = q
  · subst h1; rfl
  · by_cases h2 : ([97] : By) = q
    · subst h2; rfl
    · by_cases h3 : ([99] : By) = q
      · subst h3; rfl
      · simp [exP, lastT, getT, h1, h2, h3]
theorem ex_paths : (pathsOf (ps [exP, exP].flatten)).length = 3 := by
  have h : (sortF (exP ++ exP)).length = 3 := by rw [ex_twice]; rfl
  rw [sortF, List.length_map] at h
  exact h
theorem fls_row2 {W : World} {b : Nat} {t : TypeId} {f g : Fl} (h : RowAt W b t #[.string (bs f.path), .string (bs f.text), .string (bs g.path), .string (bs g.text)]) : Fls W (.slice (some ⟨b, 0, none⟩) 2 2) [f, g] := by
  refine ⟨_, 2, rfl, Nat.le_refl _, by unfold maxLen; omega, fun k x hk => ?_⟩
  match k, hk with
  | 0, hk =>
    simp only [List.getElem?_cons_zero, Option.some.injEq] at hk
    subst hk
    exact ⟨b, 0, rfl, h.lt, h.cell rfl, h.cell rfl⟩
  | 1, hk =>
    simp only [List.getElem?_cons_succ, List.getElem?_cons_zero, Option.some.injEq] at hk
    subst hk
    exact ⟨b, 0, rfl, h.lt, h.cell rfl, h.cell rfl⟩
  | k + 2, hk => simp at hk
set_option maxRecDepth 100000 in
set_option maxHeartbeats 8000000 in
theorem wake_any (w : World) : Calls Try.prog 7 #[] w fun e w' => e = .returned (.bool true) ∧ Below w.heap.size w w' := by
  have r1 := RowAt.new w 43 #[.string ⟨#[97]⟩, .string ⟨#[49]⟩, .string ⟨#[99]⟩, .string ⟨#[]⟩]
  obtain ⟨W1, hW1⟩ : ∃ W1, Hid (w.alloc (.cells #[.string ⟨#[97]⟩, .string ⟨#[49]⟩, .string ⟨#[99]⟩, .string ⟨#[]⟩] 43) = W1) := ⟨_, Lib.hid rfl⟩
  rw [hW1.out] at r1
  have b1 : Below w.heap.size w W1 := by rw [← hW1.out]; exact (Below.refl _ _).alloc (Nat.le_refl _) _
  have B1 := Lib.hid b1
  have P1 := Lib.hid (Put_any (.slice (some ⟨w.heap.size, 0, none⟩) 2 2) exL ⟨#[98]⟩ ⟨#[50]⟩ W1 (fls_row2 (f := ⟨[97], [49]⟩) (g := ⟨[99], []⟩) r1) (by decide) (by decide) (by decide))
  clear r1 b1
  go_enter Try.func7, Try.ntmps7
  go_wp2_with fail
  rw [hW1.out]
  refine P1.out.mono ?_
  rintro e w2 ⟨u, rfl, hu, hb⟩
  have hu2 : Fls w2 u exP := by
    have h := hu
    rw [show putF exL (tl ⟨#[98]⟩) (tl ⟨#[50]⟩) = exP from ex_put] at h
    exact h
  have B2 := Lib.hid (B1.out.trans (hb.mono B1.out.size))
  clear hu hb P1
  go_wp2_with fail
  refine (Get_any u exP ⟨#[98]⟩ w2 hu2).mono ?_
  rw [show getT exP (tl ⟨#[98]⟩) = some [50] from rfl]
  rintro e w3 ⟨rfl, b3⟩
  have B3 := Lib.hid (B2.out.trans (b3.mono B2.out.size))
  have hu3 := hu2.below b3
  have H3 := Lib.hid hu3
  obtain ⟨a, cap, rfl, hc, hm, hat⟩ := hu3
  obtain ⟨b, off, rfl, hbl, c0, -⟩ := hat 1 ⟨[98], [50]⟩ rfl
  unfold maxLen at hm
  clear hu2 b3 hat
  go_wp2_with fail
  refine (Check_yes _ exP w3 H3.out (by decide) (by decide) (by decide) ?_).mono ?_
  · intro k x y hx hy
    match k, hx, hy with
    | 0, hx, hy =>
      simp only [exP, List.getElem?_cons_zero, List.getElem?_cons_succ, Option.some.injEq] at hx hy
      subst hx hy; decide
    | 1, hx, hy =>
      simp only [exP, List.getElem?_cons_zero, List.getElem?_cons_succ, Option.some.injEq] at hx hy
      subst hx hy; decide
    | k + 2, hx, hy => simp [exP] at hy
  rintro e w4 ⟨rfl, b4⟩
  have B4 := Lib.hid (B3.out.trans (b4.mono B3.out.size))
  have H4 := Lib.hid (H3.out.below b4)
  clear b4
  go_wp2_with fail
  refine (Size_any _ exP w4 H4.out (by decide)).mono ?_
  rw [show sumT exP = 2 from rfl]
  rintro e w5 ⟨rfl, b5⟩
  have B5 := Lib.hid (B4.out.trans (b5.mono B4.out.size))
  have H5 := Lib.hid (H4.out.below b5)
  clear b5
  go_wp2_with fail
  refine (Path_any ⟨#[97, 47, 98, 46, 109, 106]⟩ w5 (by decide)).mono ?_
  rw [show pathOk (tl ⟨#[97, 47, 98, 46, 109, 106]⟩) = true from by decide]
  rintro e w6 ⟨rfl, rfl⟩
  go_wp2_with fail
  refine (Path_any ⟨#[47]⟩ _ (by decide)).mono ?_
  rw [show pathOk (tl ⟨#[47]⟩) = false from by decide]
  rintro e w7 ⟨rfl, rfl⟩
  go_wp2_with fail
  refine (Remove_any _ exP ⟨#[97]⟩ _ H5.out (by decide)).mono ?_
  rw [show remF exP (tl ⟨#[97]⟩) = [⟨[98], [50]⟩, ⟨[99], []⟩] from by decide]
  rintro e w8 ⟨⟨v8, rfl, hv8⟩, b8⟩
  obtain ⟨a8, c8, rfl, -, -, -⟩ := hv8
  have B8 := Lib.hid (B5.out.trans (b8.mono B5.out.size))
  have H8 := Lib.hid (H5.out.below b8)
  clear b8
  go_wp2_with fail
  have r9 := RowAt.new w8 22 #[.slice (some ⟨b, off, none⟩) exP.length cap, .slice (some ⟨b, off, none⟩) exP.length cap]
  have b9 := (Below.refl w8.heap.size w8).alloc (Nat.le_refl _) (.cells #[.slice (some ⟨b, off, none⟩) exP.length cap, .slice (some ⟨b, off, none⟩) exP.length cap] 22)
  have B9 := Lib.hid (B8.out.trans (b9.mono B8.out.size))
  have H9 := Lib.hid (H8.out.below b9)
  refine (Paths_any _ [exP, exP] _ (fss_two r9 H9.out H9.out) (by decide)).mono ?_
  rintro e w10 ⟨v10, rfl, hv10, b10⟩
  obtain ⟨a10, c10, rfl, -, -, -⟩ := hv10
  rw [ex_paths]
  have B10 := Lib.hid (B9.out.trans (b10.mono B9.out.size))
  have H10 := Lib.hid (H9.out.below b10)
  clear r9 b9 b10
  go_wp2_with fail
  refine (Same_eq _ _ exP w10 H10.out H10.out).mono ?_
  rintro e w11 ⟨rfl, b11⟩
  have B11 := Lib.hid (B10.out.trans (b11.mono B10.out.size))
  have H11 := Lib.hid (H10.out.below b11)
  clear b11
  go_wp2_with fail
  refine (Sort_any _ exP w11 H11.out (by decide) (by decide)).mono ?_
  rw [sort_rising ex_rising]
  rintro e w12 ⟨v12, rfl, hv12, b12⟩
  obtain ⟨a12, c12, rfl, -, -, -⟩ := hv12
  have B12 := Lib.hid (B11.out.trans (b12.mono B11.out.size))
  clear b12
  go_wp2_with fail
  go_ret
  exact ⟨rfl, B12.out⟩
end Go.Proofs.Ytbfehhblnakcbaa
