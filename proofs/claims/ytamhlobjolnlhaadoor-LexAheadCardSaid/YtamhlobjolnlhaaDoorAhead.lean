/-
  For the law LexAhead. Condition: the library's own variables are as they are laid.
-/
import Derived.Test.YtamhlobjolnlhaaDoorAwake
import Derived.Test.YtamhlobjolnlhaaDoorMore
namespace Go.Proofs.YtamhlobjolnlhaaDoor
open Go.RowKit Go.Shelf

theorem tl_append (a b : ByteArray) : tl (a ++ b) = tl a ++ tl b := by simp [tl]
theorem tl_take (s : ByteArray) (p : Nat) : tl (s.extract 0 p) = (tl s).take p := by rw [ext_bs, tl_bs]; simp
theorem byte_ne {c : UInt8} {n : Nat} (hn : n < 256) (h : ((c.toNat : Int) == (n : Int)) = false) : c ≠ UInt8.ofNat n := by
  rintro rfl
  simp [Nat.mod_eq_of_lt hn] at h
set_option maxRecDepth 100000 in
set_option maxHeartbeats 8000000 in
theorem lexAhead_any (s b : ByteArray) (w : World) (hW : LexW w) : Calls Tryd.prog 6 #[.string s, .string b] w fun e w' => e = .returned (.bool true) ∧ Below w.heap.size w w' := by
  have HW := Lib.hid hW; clear hW
  have hW4 := HW.out.size
  go_enter Tryd.func6, Tryd.ntmps6
  go_wp2_with fail
  refine (awake_any _ HW.out).mono ?_
  rintro e w1 ⟨rfl, b1⟩
  have HW1 := Lib.hid (HW.out.below b1 hW4)
  by_cases hs : 2000 < s.size
  · have hd : decide ((2000 : Int) < (s.size : Int)) = true := by simp; omega
    go_wp2_with fail
    go_ret
    exact ⟨rfl, b1⟩
  have hd : decide ((2000 : Int) < (s.size : Int)) = false := by simp; omega
  by_cases hb : 500 < b.size
  · have hd2 : decide ((500 : Int) < (b.size : Int)) = true := by simp; omega
    go_wp2_with fail
    go_ret
    exact ⟨rfl, b1⟩
  have hd2 : decide ((500 : Int) < (b.size : Int)) = false := by simp; omega
  go_wp2_with fail
  refine (Lex_any _ _ HW1.out (by omega)).mono ?_
  unfold LexGives
  obtain ⟨q, hq⟩ : ∃ q, Hid (lexR 0 (tl s) = q) := ⟨_, Lib.hid rfl⟩
  have hpl := lexR_at _ (tl s) 0 (Nat.le_refl _)
  rw [hq.out, Nat.zero_add, tl_length] at hpl
  rw [hq.out]
  obtain ⟨T, p, x⟩ := q
  simp only at hpl ⊢
  rintro e w2 ⟨⟨v, rfl, -⟩, b2⟩
  have B2 := b1.trans (b2.mono b1.size)
  have HW2 := Lib.hid (HW.out.below B2 hW4)
  clear b1 b2
  by_cases h0 : x = 0
  · subst h0
    go_wp2_with fail
    go_ret
    exact ⟨rfl, B2⟩
  have hx0 : (x == 0) = false := by simpa using h0
  have hd3 : decide ((s.size : Int) < (p : Int)) = false := by simp; omega
  have hd4 : decide ((p : Int) < (0 : Int)) = false := by simp
  have hcut := lexR_cut _ (tl s) 0 _ (Nat.le_refl _) hq.out h0
  simp only [Nat.sub_zero] at hcut
  have hsz : (s.extract 0 p).size ≤ 1048576 := by rw [ByteArray.size_extract]; omega
  have Hsz := Lib.hid hsz; clear hsz
  have Hcut := Lib.hid hcut; clear hcut
  go_wp2_with fail
  refine (Lex_any _ _ HW2.out Hsz.out).mono ?_
  unfold LexGives
  rw [tl_take]
  have hne := lexR_ne Hcut.out
  have hz := lexR_zero _ _ Hcut.out
  have he := Hcut.out
  generalize lexR 0 ((tl s).take p) = q2 at hne hz he
  obtain ⟨T2, p2, x2⟩ := q2
  simp only at hne hz he ⊢
  subst hz he
  rintro e w3 ⟨⟨v3, rfl, ht3⟩, b3⟩
  have B3 := B2.trans (b3.mono B2.size)
  have HW3 := Lib.hid (HW.out.below B3 hW4)
  clear b3 B2
  obtain ⟨a3, cap3, rfl, -, -, -⟩ := ht3
  have hl3 := List.length_pos_iff.2 hne
  have hd5 : ((T2.length : Int) == 0) = false := by rw [beq_eq_false_iff_ne]; omega
  clear hne
  by_cases hx30 : x = 30
  · subst hx30
    obtain ⟨-, hlt, hmore⟩ := lexR_more _ (tl s) 0 _ (Nat.le_refl _) hq.out rfl
    simp only [Nat.zero_add, Nat.sub_zero] at hlt hmore
    rw [tl_length] at hlt
    obtain ⟨c, hc⟩ : ∃ c, s[p] = c := ⟨_, rfl⟩
    have hg := tl_get s hlt
    rw [hc] at hg
    have hm := hmore (tl b) c hg
    have Hm := Lib.hid hm; clear hm hmore hg
    have hi0 : (0 : Int) ≤ (p : Int) := by omega
    have hi1 : (p : Int) < (s.size : Int) := by omega
    by_cases h38 : ((c.toNat : Int) == 38) = true
    · go_wp2_with fail
      go_ret
      exact ⟨rfl, B3⟩
    by_cases h124 : ((c.toNat : Int) == 124) = true
    · simp only [Bool.not_eq_true] at h38
      go_wp2_with fail
      go_ret
      exact ⟨rfl, B3⟩
    simp only [Bool.not_eq_true] at h38 h124
    have hq3 := Hm.out (byte_ne (n := 38) (by decide) h38) (byte_ne (n := 124) (by decide) h124)
    have Hq3 := Lib.hid hq3; clear hq3
    have Hsz2 : Hid ((s ++ b).size ≤ 1048576) := Lib.hid (by rw [ByteArray.size_append]; omega)
    by_cases h33 : ((c.toNat : Int) == 33) = true
    · go_wp2_with fail
      go_ret
      exact ⟨rfl, B3⟩
    simp only [Bool.not_eq_true] at h33
    go_wp2_with fail
    refine (Lex_any _ _ HW3.out Hsz2.out).mono ?_
    unfold LexGives
    rw [tl_append, Hq3.out]
    rintro e w4 ⟨⟨v4, rfl, -⟩, b4⟩
    have B4 := B3.trans (b4.mono B3.size)
    go_wp2_with fail
    go_ret
    exact ⟨rfl, B4⟩
  · have hd6 : (x == 30) = false := by simpa using hx30
    go_wp2_with fail
    go_ret
    exact ⟨rfl, B3⟩
end Go.Proofs.YtamhlobjolnlhaaDoor
