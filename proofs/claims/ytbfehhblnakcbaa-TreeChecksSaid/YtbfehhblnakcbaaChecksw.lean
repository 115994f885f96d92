/-
  For the laws of tree: TreeChecks, by the program. Condition: files and text as handed in.
-/
import Derived.Test.YtbfehhblnakcbaaCheckw
import Derived.Test.YtbfehhblnakcbaaRefsort
import Derived.Test.YtbfehhblnakcbaaSamer
import Derived.Test.YtbfehhblnakcbaaKeeps
namespace Go.Proofs.Ytbfehhblnakcbaa
open Go.RowKit Go.Shelf

theorem sum_le : ∀ {L : List Fl} {m : Nat}, (∀ f ∈ L, f.path.length ≤ 100 ∧ f.text.length ≤ m) → sumT L ≤ L.length * m
  | [], _, _ => by simp [sumT]
  | f :: L, m, h => by
    have h1 := (h f List.mem_cons_self).2
    have h2 := sum_le (L := L) (m := m) (fun g hg => h g (List.mem_cons_of_mem _ hg))
    rw [sumT, List.length_cons, Nat.add_mul]
    omega
set_option maxRecDepth 100000 in
set_option maxHeartbeats 8000000 in
theorem Checks_any (v : Value) (L : List Fl) (s : ByteArray) (w : World) (h1 : Fls w v L) (hs : s.size ≤ maxLen) : Calls Try.prog 3 #[v, .string s] w fun e w' => e = .returned (.bool true) ∧ Below w.heap.size w w' := by
  have H1 := Lib.hid h1
  have Hs := Lib.hid hs
  obtain ⟨a, cap, rfl, -, -, -⟩ := h1
  unfold maxLen at hs
  go_enter Try.func3, Try.ntmps3
  go_wp2_with fail
  refine (wake_any w).mono ?_
  rintro e w1 ⟨rfl, b1⟩
  have B1 := Lib.hid b1
  have H2 := Lib.hid (H1.out.below b1)
  clear b1
  go_wp2_with fail
  refine (few_any _ L w1 H2.out).mono ?_
  rintro e w2 ⟨rfl, b2⟩
  have B2 := Lib.hid (B1.out.trans (b2.mono B1.out.size))
  have H3 := Lib.hid (H2.out.below b2)
  clear b2
  cases hf : fewF L with
  | false =>
    clear hf
    go_wp2_with fail
    go_ret
    exact ⟨rfl, B2.out⟩
  | true =>
    obtain ⟨hL, hbd⟩ := few_bd hf
    have hsm : sumT L ≤ 1048576 := by
      have := sum_le hbd
      have h2 := Nat.mul_le_mul_right 300 hL
      omega
    have Hsm := Lib.hid hsm
    have Hbd := Lib.hid hbd
    clear hf hbd hsm
    rcases Nat.lt_or_ge 100 s.size with h100 | h100
    · have f1 : decide ((s.size : Int) > 100) = true := decide_eq_true (by omega)
      go_wp2_with fail
      go_ret
      exact ⟨rfl, B2.out⟩
    have f1 : decide ((s.size : Int) > 100) = false := decide_eq_false (by omega)
    go_wp2_with fail
    have hLm : ∀ f ∈ L, f.path.length ≤ maxLen := fun f hf => by have := (Hbd.out f hf).1; unfold maxLen; omega
    have HLm := Lib.hid hLm
    clear hLm
    refine (Path_any s w2 Hs.out).mono ?_
    rintro e w3 ⟨rfl, rfl⟩
    go_wp2_with fail
    refine (RefPath_any s _ Hs.out).mono ?_
    rintro e w4 ⟨rfl, rfl⟩
    go_wp2_with fail
    refine (Check_any _ L _ H3.out Hsm.out HLm.out).mono ?_
    rintro e w5 ⟨rfl, b5⟩
    have B5 := Lib.hid (B2.out.trans (b5.mono B2.out.size))
    have H5 := Lib.hid (H3.out.below b5)
    clear b5
    go_wp2_with fail
    refine (RefCheck_any _ L _ H5.out Hsm.out HLm.out).mono ?_
    rintro e w6 ⟨rfl, b6⟩
    have B6 := Lib.hid (B5.out.trans (b6.mono B5.out.size))
    have H6 := Lib.hid (H5.out.below b6)
    clear b6
    go_wp2_with fail
    refine (Size_any _ L _ H6.out (by have := Hsm.out; omega)).mono ?_
    rintro e w7 ⟨rfl, b7⟩
    have B7 := Lib.hid (B6.out.trans (b7.mono B6.out.size))
    have H7 := Lib.hid (H6.out.below b7)
    clear b7
    go_wp2_with fail
    refine (RefSize_any _ L _ H7.out (by have := Hsm.out; omega)).mono ?_
    rintro e w8 ⟨rfl, b8⟩
    have B8 := Lib.hid (B7.out.trans (b8.mono B7.out.size))
    have H8 := Lib.hid (H7.out.below b8)
    clear b8
    go_wp2_with fail
    refine (Sort_any _ L _ H8.out (by omega) HLm.out).mono ?_
    rintro e w9 ⟨u9, rfl, h9, b9⟩
    have B9 := Lib.hid (B8.out.trans (b9.mono B8.out.size))
    have H9 := Lib.hid (H8.out.below b9)
    have U9 := Lib.hid h9
    clear b9 h9
    go_wp2_with fail
    refine (RefSort_any _ L _ H9.out (by omega)).mono ?_
    rintro e w10 ⟨⟨u10, rfl, h10⟩, b10⟩
    have B10 := Lib.hid (B9.out.trans (b10.mono B9.out.size))
    have U10 := Lib.hid (U9.out.below b10)
    have V10 := Lib.hid h10
    clear b10 h10
    go_wp2_with fail
    refine (RefSame_any _ _ _ _ _ U10.out V10.out).mono ?_
    rw [decide_eq_true rfl]
    rintro e w11 ⟨rfl, b11⟩
    have B11 := Lib.hid (B10.out.trans (b11.mono B10.out.size))
    clear b11
    go_wp2_with fail
    go_ret
    exact ⟨rfl, B11.out⟩
end Go.Proofs.Ytbfehhblnakcbaa
