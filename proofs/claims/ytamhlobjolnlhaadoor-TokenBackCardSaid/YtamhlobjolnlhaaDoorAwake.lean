/-
  For the laws of lex: names that may be declared; the document's examples hold. Condition: the library's own variables are as they are laid.
-/
import Derived.Test.YtamhlobjolnlhaaDoorUnlex
namespace Go.Proofs.YtamhlobjolnlhaaDoor
open Go.RowKit Go.Shelf

def nameOk (l : List UInt8) : Bool := decide (l ≠ []) && (decide (nameLen l = l.length) && (decide (l.length ≤ 20) && !(decide (l ∈ keptL))))
set_option maxHeartbeats 1000000 in
theorem Name_any (s : ByteArray) (w : World) (hs : s.size ≤ maxLen) : Calls Tryd.prog 17 #[.string s] w fun e w' => e = .returned (.bool (nameOk (tl s))) ∧ w = w' := by
  have hl := tl_length s
  unfold maxLen at hs
  go_enter Tryd.func17, Tryd.ntmps17
  go_wp2_with fail
  · rename_i h
    have hn : tl s = [] := by rw [tl, ← Lib.toList_data, h]
    go_ret
    refine ⟨ret_bool ?_, rfl⟩
    rw [hn]; rfl
  · have h : ¬s.toList = [] := by assumption
    have hn : decide (tl s ≠ []) = true := by rw [decide_eq_true_iff]; intro e; apply h; rw [Lib.toList_data]; exact e
    have Hn := Lib.hid hn; clear hn
    have hE : s.toList.isEmpty = false := by simpa using h
    clear h
    refine (nameLength_any s _ (by unfold maxLen; omega)).mono ?_
    rintro e w' ⟨rfl, rfl⟩
    obtain ⟨b1, h1⟩ : ∃ b, Hid (decide (nameLen (tl s) = (tl s).length) = b) := ⟨_, Lib.hid rfl⟩
    have e1 : (((nameLen (tl s) : Nat) : Int) == (s.size : Int)) = b1 := by rw [← h1.out, hl]; rw [Bool.eq_iff_iff]; simp; omega
    obtain ⟨b2, h2⟩ : ∃ b, Hid (decide ((tl s).length ≤ 20) = b) := ⟨_, Lib.hid rfl⟩
    have e2 : decide ((s.size : Int) ≤ 20) = b2 := by rw [← h2.out, hl]; rw [Bool.eq_iff_iff]; simp; omega
    cases b1 with
    | false =>
      go_wp2_with fail
      go_ret
      exact ⟨ret_bool (by unfold nameOk; rw [Hn.out, h1.out]; rfl), rfl⟩
    | true =>
      cases b2 with
      | false =>
        go_wp2_with fail
        go_ret
        exact ⟨ret_bool (by unfold nameOk; rw [Hn.out, h1.out, h2.out]; rfl), rfl⟩
      | true =>
        go_wp2_with fail
        refine (Kept_any s _).mono ?_
        rintro e w' ⟨rfl, rfl⟩
        go_wp2_with fail
        go_ret
        exact ⟨ret_bool (by unfold nameOk; rw [Hn.out, h1.out, h2.out]; rfl), rfl⟩
theorem ex_lex1 : lexR 0 [97, 47, 42, 120, 42, 47, 60, 61, 49] = ([⟨1, [97], 0, []⟩, ⟨4, [60, 61], 6, [47, 42, 120, 42, 47]⟩, ⟨2, [49], 8, []⟩, ⟨5, [], 9, []⟩], 0, 0) := by
  have s0 : sep [97, 47, 42, 120, 42, 47, 60, 61, 49] = (0, true) := by simp [sep, blank]
  have s1 : sep [47, 42, 120, 42, 47, 60, 61, 49] = (5, true) := by simp [sep, blank, closeAt]
  have s2 : sep [49] = (0, true) := by simp [sep, blank]
  have s3 : sep [] = (0, true) := by simp [sep]
  have f0 : first [97, 47, 42, 120, 42, 47, 60, 61, 49] = (1, 1, 0) := by decide
  have f1 : first [60, 61, 49] = (4, 2, 0) := by decide
  have f2 : first [49] = (2, 1, 0) := by decide
  have l3 : lexR 9 [] = ([⟨5, [], 9, []⟩], 0, 0) := by rw [lexR, s3]; simp
  have l2 : lexR 8 [49] = ([⟨2, [49], 8, []⟩, ⟨5, [], 9, []⟩], 0, 0) := by rw [lexR, s2]; simp [f2, l3]
  have l1 : lexR 1 [47, 42, 120, 42, 47, 60, 61, 49] = ([⟨4, [60, 61], 6, [47, 42, 120, 42, 47]⟩, ⟨2, [49], 8, []⟩, ⟨5, [], 9, []⟩], 0, 0) := by rw [lexR, s1]; simp [f1, l2]
  rw [lexR, s0]
  simp [f0, l1]
theorem ex_lex2 : lexR 0 [97, 38, 98] = ([], 1, 30) := by
  have s0 : sep [97, 38, 98] = (0, true) := by simp [sep, blank]
  have s1 : sep [38, 98] = (0, true) := by simp [sep, blank]
  have f0 : first [97, 38, 98] = (1, 1, 0) := by decide
  have f1 : first [38, 98] = (0, 0, 30) := by decide
  have l1 : lexR 1 [38, 98] = ([], 1, 30) := by rw [lexR, s1]; simp [f1]
  rw [lexR, s0]
  simp [f0, l1]
set_option maxRecDepth 100000 in
set_option maxHeartbeats 8000000 in
theorem awake_any (w : World) (hW : LexW w) : Calls Tryd.prog 11 #[] w fun e w' => e = .returned (.bool true) ∧ Below w.heap.size w w' := by
  have HW := Lib.hid hW; clear hW
  have hW4 := HW.out.size
  go_enter Tryd.func11, Tryd.ntmps11
  go_wp2_with fail
  refine (Lex_any _ _ HW.out (by decide)).mono ?_
  unfold LexGives
  rw [show tl { data := #[97, 47, 42, 120, 42, 47, 60, 61, 49] } = [97, 47, 42, 120, 42, 47, 60, 61, 49] from rfl, ex_lex1]
  rintro e w1 ⟨⟨v1, rfl, ht1⟩, b1⟩
  have HW1 := Lib.hid (HW.out.below b1 hW4)
  have T1 := Lib.hid ht1; clear ht1
  go_wp2_with fail
  refine (Lex_any _ _ HW1.out (by decide)).mono ?_
  unfold LexGives
  rw [show tl { data := #[97, 38, 98] } = [97, 38, 98] from rfl, ex_lex2]
  rintro e w2 ⟨⟨v2, rfl, -⟩, b2⟩
  have T2 := Lib.hid (T1.out.below b2)
  have B2 := b1.trans (b2.mono b1.size)
  clear b1 b2
  obtain ⟨a, cap, rfl, hc, hm, hx⟩ := T2.out
  obtain ⟨b, off, rfl, hl1, x1⟩ := hx 1 _ rfl
  obtain ⟨b', off', e2, hl2, x2⟩ := hx 2 _ rfl
  obtain ⟨b'', off'', e3, hl3, x3⟩ := hx 3 _ rfl
  cases e2
  cases e3
  obtain ⟨c10, c11, c12, c13⟩ := x1
  obtain ⟨c20, c21, c22, c23⟩ := x2
  obtain ⟨c30, c31, c32, c33⟩ := x3
  clear hx
  simp only [List.length_cons, List.length_nil] at *
  go_wp2_with fail
  refine (Kept_any _ _).mono ?_
  rw [show tl { data := #[119, 104, 105, 108, 101] } = [119, 104, 105, 108, 101] from rfl]
  rintro e w3 ⟨rfl, rfl⟩
  rw [show decide (([119, 104, 105, 108, 101] : List UInt8) ∈ keptL) = true from by decide]
  go_wp2_with fail
  refine (Name_any _ _ (by decide)).mono ?_
  rw [show nameOk (tl { data := #[97, 95, 49] }) = true from by decide]
  rintro e w3 ⟨rfl, rfl⟩
  go_wp2_with fail
  refine (Name_any _ _ (by decide)).mono ?_
  rw [show nameOk (tl { data := #[119, 104, 105, 108, 101] }) = false from by decide]
  rintro e w3 ⟨rfl, rfl⟩
  go_wp2_with fail
  refine (Unlex_any _ _ _ T2.out (by decide) (by decide)).mono ?_
  rw [show bs (allB [⟨1, [97], 0, []⟩, ⟨4, [60, 61], 6, [47, 42, 120, 42, 47]⟩, ⟨2, [49], 8, []⟩, ⟨5, [], 9, []⟩]) = { data := #[97, 47, 42, 120, 42, 47, 60, 61, 49] } from rfl]
  rintro e w3 ⟨rfl, b3⟩
  have B3 := B2.trans (b3.mono B2.size)
  go_wp2_with fail
  go_ret
  exact ⟨rfl, B3⟩
end Go.Proofs.YtamhlobjolnlhaaDoor
