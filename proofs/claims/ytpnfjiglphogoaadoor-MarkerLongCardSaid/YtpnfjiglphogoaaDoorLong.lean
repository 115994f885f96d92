/-
  For the laws of marker: MarkerLong returns true. Condition: the program's table of marks is as it is laid.
-/
import Derived.Test.YtpnfjiglphogoaaDoorWake
import Derived.Laws.BitsLemmas
namespace Go.Proofs.YtpnfjiglphogoaaDoor
open Go.RowKit Go.Shelf
set_option linter.unusedSimpArgs false

theorem i64_and15 (n : Int) : bits .and .i64 n 15 = n % 16 := by
  have h15 : (BitVec.ofInt 64 15).toNat = 2 ^ 4 - 1 := by decide
  have key : (BitVec.ofInt 64 n &&& BitVec.ofInt 64 15).toNat = (n % ((2 ^ 64 : Nat) : Int)).toNat % 2 ^ 4 := by
    rw [BitVec.toNat_and, BitVec.toNat_ofInt, h15, Nat.and_two_pow_sub_one_eq_mod]
  show IntKind.i64.wrap ((BitVec.ofInt 64 n &&& BitVec.ofInt 64 15).toNat : Nat) = n % 16
  rw [key, IntKind.wrap_i64]
  omega
theorem allL_one (x : ByteArray) : allL [x] = lnB x := by simp [allL]
theorem strz_two {W : World} {b : Nat} {t : TypeId} {x y : ByteArray} (h : RowAt W b t #[.string x, .string y]) : Strz W (.slice (some ⟨b, 0, none⟩) 2 2) [x, y] := by
  refine ⟨_, 2, rfl, Nat.le_refl _, by simp [maxLen], .inr ⟨b, 0, rfl, h.lt, fun j u hj => ?_⟩⟩
  have hj0 : j = 0 ∨ j = 1 := by have := (List.getElem?_eq_some_iff.1 hj).1; simp at this; omega
  rcases hj0 with rfl | rfl
  · obtain rfl : x = u := by simpa using hj
    exact h.cell (j := 0) rfl
  · obtain rfl : y = u := by simpa using hj
    exact h.cell (j := 1) rfl
theorem strz_none (W : World) : Strz W (.slice none 0 0) [] := ⟨none, 0, rfl, Nat.le_refl _, Nat.zero_le _, .inl rfl⟩
theorem long_parse (s : ByteArray) (k : Nat) (hk : lenL 7 (lnB s) ≤ k) : parseT (lnB s) (k : Int) = some (if tl s = [] then [] else [⟨false, tl s, tl s, tl s⟩]) := by
  have hg := lenL_ge (lnB s) 7
  unfold parseT
  rw [if_neg (by omega), Int.toNat_natCast, parseL_plain (fun l hl => markOf_run (by omega) (by have := hg.2 l hl; omega)), lnB_flat]
set_option maxRecDepth 100000 in
set_option maxHeartbeats 16000000 in
theorem markerLong_any (s : ByteArray) (more : Int) (w : World) (hW : MkW w) : Calls Tryd.prog 5 #[.string s, .int .i64 more] w fun e w' => e = .returned (.bool true) ∧ Below w.heap.size w w' := by
  have HW := Lib.hid hW
  have hW1 := hW.size
  clear hW
  by_cases hs : s.size ≤ 1500
  · have f1 : decide ((s.size : Int) > 1500) = false := decide_eq_false (by omega)
    go_enter Tryd.func5, Tryd.ntmps5
    go_wp2_with fail
    refine (awake_any _ HW.out).mono ?_
    rintro e w1 ⟨rfl, b1⟩
    have B1 := Lib.hid b1
    have hs1 := b1.size
    clear b1
    obtain ⟨W2, hW2⟩ : ∃ W2, Hid (w1.alloc (.cells #[.string s] 9) = W2) := ⟨_, Lib.hid rfl⟩
    have B2 : Hid (Below w1.heap.size w1 W2) := by rw [← hW2.out]; exact Lib.hid ((Below.refl _ w1).alloc (Nat.le_refl _) _)
    have R2 : Hid (RowAt W2 w1.heap.size 9 #[.string s]) := by rw [← hW2.out]; exact Lib.hid (RowAt.new w1 9 _)
    have C2 := Lib.hid (B1.out.trans (B2.out.mono hs1))
    have hs2 := C2.out.size
    go_wp2_with fail
    rw [hW2.out]
    refine (Length_any _ _ (fun x hx => by obtain rfl : x = s := by simpa using hx
                                           omega) _ (strz_one R2.out)).mono ?_
    rw [allL_one]
    obtain ⟨N, hN⟩ : ∃ N, Hid (lenL 7 (lnB s) = N) := ⟨_, Lib.hid rfl⟩
    have hN7 : 7 ≤ N := by rw [← hN.out]; exact (lenL_ge _ 7).1
    have hNb : N ≤ 1501 := by
      rw [← hN.out, ← allL_one]
      exact allL_bd2 (by omega) (fun x hx => by obtain rfl : x = s := by simpa using hx
                                                exact hs)
    rw [hN.out]
    rintro e w3 ⟨rfl, b3⟩
    have B3 := Lib.hid (C2.out.trans (b3.mono hs2))
    have hs3 := B3.out.size
    clear b3
    obtain ⟨x, hx, hx15⟩ : ∃ x : Nat, bits .and .i64 more 15 = (x : Int) ∧ x ≤ 15 := ⟨(more % 16).toNat, by rw [i64_and15]; omega, by omega⟩
    have HX := Lib.hid hx
    have hpl : Hid (parseT (lnB s) ((N : Int) + x) = some (if tl s = [] then [] else [⟨false, tl s, tl s, tl s⟩])) := Lib.hid (by
      have := long_parse s (N + x) (by rw [hN.out]; omega)
      rwa [Int.natCast_add] at this)
    obtain ⟨L, hL⟩ : ∃ L, Hid ((if tl s = [] then [] else [(⟨false, tl s, tl s, tl s⟩ : Pt)]) = L) := ⟨_, Lib.hid rfl⟩
    rw [hL.out] at hpl
    have hLl : L.length ≤ 1 := by rw [← hL.out]; split <;> simp
    have hLo : Hid (∀ p ∈ L, okS p) := Lib.hid (by
      rw [← hL.out]
      intro p hp
      split at hp
      · cases hp
      · obtain rfl : p = ⟨false, tl s, tl s, tl s⟩ := by simpa using hp
        have h1 := tl_length s
        exact ⟨by show (tl s).length ≤ _; omega, by show (tl s).length ≤ _; omega, by show (tl s).length ≤ _; omega⟩)
    have hLp : Hid (printM L (N + x) true = tl s) := Lib.hid (by
      rw [← hL.out]
      split
      · rename_i h; rw [h]; rfl
      · simp [printM, oneP])
    clear hW2 B2 R2
    go_wp2_with fail
    refine (Parse_any s (by omega) _ _ (HW.out.below B3.out hW1)).mono ?_
    rw [hpl.out]
    rintro e w4 ⟨⟨v4, rfl, p4⟩, b4⟩
    have B4 := Lib.hid (B3.out.trans (b4.mono hs3))
    have P4 := Lib.hid p4
    have hs4 := B4.out.size
    clear b4 p4
    go_wp2_with fail
    refine (Print_any _ L _ (N + x) (by omega) (by omega) true (by omega) hLo.out _ (HW.out.below B4.out hW1) P4.out).mono ?_
    rw [hLp.out, bs_tl]
    rintro e w5 ⟨rfl, b5⟩
    have B5 := Lib.hid (B4.out.trans (b5.mono hs4))
    have P5 := Lib.hid (P4.out.below b5)
    have hs5 := B5.out.size
    clear b5
    have hd7 : decide ((N : Int) < 7) = false := decide_eq_false (by omega)
    go_wp2_with fail
    refine (Length_any _ [] (by simp) _ (strz_none _)).mono ?_
    rw [show lenL 7 (allL []) = 7 from rfl]
    rintro e w6 ⟨rfl, b6⟩
    have B6 := Lib.hid (B5.out.trans (b6.mono hs5))
    have P6 := Lib.hid (P5.out.below b6)
    have hs6 := B6.out.size
    clear b6
    obtain ⟨W7, hW7⟩ : ∃ W7, Hid (w6.alloc (.cells #[.string s, .string s] 9) = W7) := ⟨_, Lib.hid rfl⟩
    have B7 : Hid (Below w6.heap.size w6 W7) := by rw [← hW7.out]; exact Lib.hid ((Below.refl _ w6).alloc (Nat.le_refl _) _)
    have R7 : Hid (RowAt W7 w6.heap.size 9 #[.string s, .string s]) := by rw [← hW7.out]; exact Lib.hid (RowAt.new w6 9 _)
    have C7 := Lib.hid (B6.out.trans (B7.out.mono hs6))
    have P7 := Lib.hid (P6.out.below B7.out)
    have hs7 := C7.out.size
    go_wp2_with fail
    rw [hW7.out]
    refine (Length_any _ _ (fun x hx => by obtain rfl : x = s := by simpa using hx
                                           omega) _ (strz_two R7.out)).mono ?_
    rw [show lenL 7 (allL [s, s]) = N from by rw [← hN.out, show allL [s, s] = lnB s ++ lnB s from by simp [allL], lenL_twice]]
    rintro e w8 ⟨rfl, b8⟩
    have B8 := Lib.hid (C7.out.trans (b8.mono hs7))
    have P8 := Lib.hid (P7.out.below b8)
    clear b8 hW7 B7 R7
    by_cases ht : tl s = []
    · have h0 : s.toList = [] := by rw [Lib.toList_data]; exact ht
      have h0b : s.toList.isEmpty = true := by rw [h0]; rfl
      have hL2 := hL.out
      rw [if_pos ht] at hL2
      have hP := P8.out
      rw [← hL2] at hP
      obtain ⟨a8, cap8, rfl, -, -, -⟩ := hP
      have H0 := Lib.hid h0
      clear ht hL2 h0
      go_wp2_with fail
      go_ret
      exact ⟨rfl, B8.out⟩
    · have h0 : ¬ s.toList = [] := by rw [Lib.toList_data]; exact ht
      have h0b : s.toList.isEmpty = false := by simpa using h0
      have hL2 := hL.out
      rw [if_neg ht] at hL2
      have hP := P8.out
      rw [← hL2] at hP
      obtain ⟨a8, cap8, rfl, hc8, hm8, h8⟩ := hP
      obtain ⟨b8, off8, rfl, -, l0, -, l2, -⟩ := h8 0 _ rfl
      rw [Nat.zero_mul, Nat.add_zero] at l0 l2
      simp only [bs_tl] at l2
      have H0 := Lib.hid h0
      have hcc : 1 ≤ cap8 := hc8
      clear ht hL2 h0 h8 hc8
      go_wp2_with fail
      go_ret
      exact ⟨rfl, B8.out⟩
  · have f1 : decide ((s.size : Int) > 1500) = true := decide_eq_true (by omega)
    go_enter Tryd.func5, Tryd.ntmps5
    go_wp2_with fail
    refine (awake_any _ HW.out).mono ?_
    rintro e w1 ⟨rfl, b1⟩
    have B1 := Lib.hid b1
    clear b1
    go_wp2_with fail
    go_ret
    exact ⟨rfl, B1.out⟩
end Go.Proofs.YtpnfjiglphogoaaDoor
