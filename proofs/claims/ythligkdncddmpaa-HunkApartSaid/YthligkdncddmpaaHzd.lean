/-
  For the laws of hunk: the document's example holds. No condition.
-/
import Derived.Test.YthligkdncddmpaaHzc
namespace Go.Proofs.Ythligkdncddmpaa
open Go.RowKit

def exA : List ByteArray := [⟨#[97]⟩, ⟨#[98]⟩, ⟨#[99]⟩]
def exB : List ByteArray := [⟨#[97]⟩, ⟨#[120]⟩, ⟨#[121]⟩]
theorem ex_hunks : textHunks exA exB = [⟨1, 2, 1, 2⟩] := by
  have h1 : numRow [] exA = [0, 1, 2] := by decide
  have h2 : numRow (knownBy [] exA) exB = [0, 3, 4] := by decide
  have h3 : textsOf exA exB = [0, -1, -1] := by
    unfold textsOf
    rw [h1, h2]
    unfold matchOf
    rw [if_neg (by simp)]
    simp [gm, lc]
  unfold textHunks
  rw [h3]
  decide
theorem one_hunk (W : World) (h : Hk) : Hunks (W.alloc (.cells #[.int .i64 h.a, .int .i64 h.an, .int .i64 h.b, .int .i64 h.bn] 50)) (.slice (some ⟨W.heap.size, 0, none⟩) 1 1) [h] ∧ Below W.heap.size W (W.alloc (.cells #[.int .i64 h.a, .int .i64 h.an, .int .i64 h.b, .int .i64 h.bn] 50)) := by
  have hr := RowAt.new W 50 #[.int .i64 h.a, .int .i64 h.an, .int .i64 h.b, .int .i64 h.bn]
  refine ⟨⟨some ⟨W.heap.size, 0, none⟩, 1, rfl, Nat.le_refl _, by simp [maxLen], fun k g hk => ?_⟩, (Below.refl _ W).alloc (Nat.le_refl _) _⟩
  have hk0 : k = 0 := by have := (List.getElem?_eq_some_iff.1 hk).1; simp at this; omega
  subst hk0
  obtain rfl : h = g := by simpa using hk
  exact ⟨W.heap.size, 0, rfl, by simp, hr.cell (j := 0) rfl, hr.cell (j := 1) rfl, hr.cell (j := 2) rfl, hr.cell (j := 3) rfl⟩
theorem ex_may : may (3 : Nat) (3 : Nat) 0 0 True [⟨1, 2, 1, 2⟩] := by have := texts_may (a := exA) (b := exB) (by decide) (by decide); rwa [ex_hunks] at this
theorem ex_not : ¬ may (3 : Nat) (4 : Nat) 0 0 True [⟨1, 2, 1, 2⟩] := by simp [may]
theorem ex_patched : patched exA exB 0 [⟨1, 2, 1, 2⟩] = exB := by have := texts_patched (a := exA) (b := exB) (by decide) (by decide); rwa [ex_hunks] at this
theorem ex_wf : ∀ h ∈ ([⟨1, 2, 1, 2⟩] : List Hk), h.wf := by
  intro h hh
  obtain rfl := List.mem_singleton.1 hh
  simp [Hk.wf]
theorem ex_of : hunksOf [0, -1] 1 = [⟨1, 1, 1, 0⟩] := by decide
theorem ex_cost : costOf 0 [⟨1, 2, 1, 2⟩] = 4 := by
  rw [costOf_eq _ 0 (Int.le_refl _) (by simp) (by simp [cost])]
  rfl

set_option maxRecDepth 100000 in
set_option maxHeartbeats 8000000 in
theorem hawake_any (w : World) : Calls Try.prog 24 #[] w fun e w' => e = .returned (.bool true) ∧ Below w.heap.size w w' := by
  have T := Lib.hid (two_strs w exA exB (by decide) (by decide))
  have hsA : ∀ s ∈ exA, s.size ≤ maxLen := by unfold exA maxLen; decide
  have hsB : ∀ s ∈ exB, s.size ≤ maxLen := by unfold exB maxLen; decide
  have SA := Lib.hid hsA; clear hsA
  have SB := Lib.hid hsB; clear hsB
  go_enter Try.func24, Try.ntmps24
  go_wp2_with fail
  refine (HTexts_any _ _ exA exB _ T.out.1 T.out.2.1 (by decide) (by decide) SA.out SB.out).mono ?_
  rw [ex_hunks]
  rintro e w1 ⟨vH, rfl, hH, b1⟩
  have A1 := Lib.hid (T.out.1.below b1)
  have B1 := Lib.hid (T.out.2.1.below b1)
  have B := T.out.2.2.trans (b1.mono T.out.2.2.size)
  have H1 := Lib.hid hH; clear hH b1 T
  go_wp2_with fail
  refine (Patch_any _ _ _ exA exB [⟨1, 2, 1, 2⟩] _ A1.out H1.out B1.out ex_wf (by decide) (by decide)).mono ?_
  rintro e w2 ⟨⟨vp, c, rfl, hc⟩, b2⟩
  obtain ⟨rfl, hp⟩ : c = 0 ∧ Vals w2 vp (exB.map Value.string) := by
    rcases hc with ⟨h, -⟩ | ⟨-, h1, h2⟩
    · exact absurd ex_may h
    · rw [ex_patched] at h2; exact ⟨h1, h2⟩
  have HP := Lib.hid hp
  have H2 := Lib.hid (H1.out.below b2)
  have B2 := Lib.hid (B1.out.below b2)
  have BB := B.trans (b2.mono B.size)
  clear hc hp B b2 A1 B1 H1
  have O := Lib.hid (one_hunk w2 ⟨1, 2, 1, 2⟩)
  go_wp2_with fail
  refine (SameH_any _ _ [⟨1, 2, 1, 2⟩] _ (H2.out.below O.out.2) O.out.1).mono ?_
  rintro e w3 ⟨rfl, b3⟩
  have C3 := O.out.2.trans (b3.mono O.out.2.size)
  have H3 := Lib.hid (H2.out.below C3)
  have P3 := Lib.hid (HP.out.below C3)
  have B3 := Lib.hid (B2.out.below C3)
  have D3 := BB.trans (C3.mono BB.size)
  clear C3 b3 O H2 HP B2 BB
  go_wp2_with fail
  refine (SameT_any _ _ exB exB _ P3.out B3.out).mono ?_
  rw [decide_eq_true rfl]
  rintro e w4 ⟨rfl, b4⟩
  have H4 := Lib.hid (H3.out.below b4)
  have D4 := D3.trans (b4.mono D3.size)
  clear D3 b4 P3 B3 H3
  go_wp2_with fail
  refine (Cost_any _ [⟨1, 2, 1, 2⟩] _ H4.out).mono ?_
  rw [ex_cost]
  rintro e w5 ⟨rfl, b5⟩
  have H5 := Lib.hid (H4.out.below b5)
  have D5 := D4.trans (b5.mono D4.size)
  clear D4 b5 H4
  go_wp2_with fail
  refine (Check_any _ [⟨1, 2, 1, 2⟩] 3 3 _ H5.out ex_wf (by simp [maxLen]) (by simp [maxLen])).mono ?_
  rintro e w6 ⟨⟨c, rfl, -, hc⟩, b6⟩
  obtain rfl : c = 0 := hc.2 ex_may
  have H6 := Lib.hid (H5.out.below b6)
  have D6 := D5.trans (b6.mono D5.size)
  clear D5 b6 H5 hc
  go_wp2_with fail
  refine (Check_any _ [⟨1, 2, 1, 2⟩] 3 4 _ H6.out ex_wf (by simp [maxLen]) (by simp [maxLen])).mono ?_
  rintro e w7 ⟨⟨c, rfl, hc0, hc⟩, b7⟩
  obtain rfl : c = 60 := by
    rcases hc0 with h | h
    · exact absurd (hc.1 h) ex_not
    · exact h
  have H7 := Lib.hid (H6.out.below b7)
  have D7 := D6.trans (b7.mono D6.size)
  clear D6 b7 H6 hc hc0
  go_wp2_with fail
  refine (Invert_any _ [⟨1, 2, 1, 2⟩] _ H7.out (by simp)).mono ?_
  rintro e w8 ⟨⟨v8, rfl, ho8⟩, b8⟩
  obtain ⟨a8, c8, rfl, -⟩ := own_hunks ho8
  have D8 := D7.trans (b8.mono D7.size)
  clear D7 b8 H7 ho8
  have O8 := Lib.hid (one_ints w8 [0, -1] (by simp [maxLen]))
  go_wp2_with fail
  refine (Of_any _ [0, -1] 1 _ O8.out.1 (by simp) (by omega)).mono ?_
  rw [ex_of]
  rintro e w9 ⟨v9, rfl, ⟨a9, c9, rfl, -⟩, b9⟩
  have D9 := D8.trans ((O8.out.2.trans (b9.mono O8.out.2.size)).mono D8.size)
  clear D8 b9 O8
  go_wp2_with fail
  go_ret
  exact ⟨rfl, D9⟩
end Go.Proofs.Ythligkdncddmpaa
