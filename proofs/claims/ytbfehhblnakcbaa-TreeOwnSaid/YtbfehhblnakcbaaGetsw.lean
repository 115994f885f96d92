/-
  For the laws of tree: TreeGets, by the program. Condition: files and path as handed in.
-/
import Derived.Test.YtbfehhblnakcbaaRefs
import Derived.Test.YtbfehhblnakcbaaRefsort
import Derived.Test.YtbfehhblnakcbaaSamer
import Derived.Test.YtbfehhblnakcbaaKeeps
namespace Go.Proofs.Ytbfehhblnakcbaa
open Go.RowKit Go.Shelf

set_option maxRecDepth 100000 in
set_option maxHeartbeats 8000000 in
/-- Rows of texts that read the same are the same. -/
theorem SameS_eq (u v : Value) (L : List (List UInt8)) (w : World) (h1 : Strs w u L) (h2 : Strs w v L) : Calls Try.prog 25 #[u, v] w fun e w' => e = .returned (.bool true) ∧ Below w.heap.size w w' := by
  obtain ⟨a, cap, rfl, hc, hm, hat⟩ := h1
  obtain ⟨a2, cap2, rfl, hc2, hm2, hat2⟩ := h2
  have Hat := Lib.hid hat; clear hat
  have Hat2 := Lib.hid hat2; clear hat2
  unfold maxLen at hm hm2
  go_enter Try.func25, Try.ntmps25
  go_wp2_with fail
  go_loopw [5] (fun c wr => ∃ k : Nat, c = .int .i64 k ∧ k ≤ L.length ∧ ∃ q, Hid (wr = w.drewN q)) (fun c _ => L.length - (intOf c).toNat)
  case atStart => exact ⟨0, rfl, by omega, 0, Lib.hid rfl⟩
  case round =>
    obtain ⟨k, rfl, hk, q, hq⟩ := hrel
    by_cases hlt : k < L.length
    · obtain ⟨x, hx⟩ : ∃ x, L[k]? = some x := ⟨_, List.getElem?_eq_getElem hlt⟩
      obtain ⟨b, off, rfl, hbl, hl0⟩ := Hat.out k x hx
      obtain ⟨b2, off2, rfl, hbl2, hl2⟩ := Hat2.out k x hx
      have c0 : wr.cell? ⟨b, off + k, none⟩ = some (.string (bs x)) := by rw [hq.out]; exact hl0
      have c2 : wr.cell? ⟨b2, off2 + k, none⟩ = some (.string (bs x)) := by rw [hq.out]; exact hl2
      have p0 : (0 : Int) ≤ (k : Int) := by omega
      have p1 : (k : Int) < (L.length : Int) := by omega
      have p2 : (k : Int) < (cap : Int) := by omega
      have p3 : (k : Int) < (cap2 : Int) := by omega
      clear hl0 hl2 hx
      go_wp2_with fail
      go_quiet (fail)
      go_wp2_with fail
      exact ⟨⟨k + 1, by go_num, by omega, q + nq, Lib.hid (by rw [hq.out]; exact World.drewN_drewN w q nq)⟩, by simp [intOf]; omega⟩
    · obtain rfl : k = L.length := by omega
      go_wp2_with fail
      go_ret
      exact ⟨rfl, by rw [hq.out]; exact below_draws (Below.refl _ _) _⟩
/-- What Get tells, as its two results. -/
def got (L : List Fl) (p : By) : ByteArray × Bool := match getT L p with | some t => (bs t, true) | none => (⟨#[]⟩, false)
theorem Get_got (v : Value) (L : List Fl) (q : ByteArray) (w : World) (h1 : Fls w v L) : Calls Try.prog 18 #[v, .string q] w fun e w' => e = .returned (.tuple #[.string (got L (tl q)).1, .bool (got L (tl q)).2]) ∧ Below w.heap.size w w' := by
  refine (Get_any v L q w h1).mono ?_
  rintro e w' ⟨rfl, hb⟩
  refine ⟨?_, hb⟩
  unfold got
  cases getT L (tl q) <;> rfl
theorem RefGet_got (v : Value) (L : List Fl) (q : ByteArray) (w : World) (h1 : Fls w v L) : Calls Try.prog 19 #[v, .string q] w fun e w' => e = .returned (.tuple #[.string (got L (tl q)).1, .bool (got L (tl q)).2]) ∧ Below w.heap.size w w' := by
  refine (RefGet_any v L q w h1).mono ?_
  rintro e w' ⟨rfl, hb⟩
  refine ⟨?_, hb⟩
  unfold got
  cases getT L (tl q) <;> rfl
def newB : ByteArray := ⟨#[110, 101, 119]⟩
set_option maxRecDepth 100000 in
set_option maxHeartbeats 8000000 in
theorem Gets_any (u v : Value) (A B : List Fl) (p : ByteArray) (w : World) (h1 : Fls w u A) (h2 : Fls w v B) (hp : p.size ≤ maxLen) : Calls Try.prog 4 #[u, v, .string p] w fun e w' => e = .returned (.bool true) ∧ Below w.heap.size w w' := by
  have H1 := Lib.hid h1
  have G1 := Lib.hid h2
  have Hp := Lib.hid hp
  obtain ⟨a, cap, rfl, -, -, -⟩ := h1
  obtain ⟨a2, cap2, rfl, -, -, -⟩ := h2
  unfold maxLen at hp
  go_enter Try.func4, Try.ntmps4
  go_wp2_with fail
  refine (wake_any w).mono ?_
  rintro e w1 ⟨rfl, b1⟩
  have B1 := Lib.hid b1
  have H2 := Lib.hid (H1.out.below b1)
  have G2 := Lib.hid (G1.out.below b1)
  clear b1
  go_wp2_with fail
  refine (few_any _ A w1 H2.out).mono ?_
  rintro e w2 ⟨rfl, b2⟩
  have B2 := Lib.hid (B1.out.trans (b2.mono B1.out.size))
  have H3 := Lib.hid (H2.out.below b2)
  have G3 := Lib.hid (G2.out.below b2)
  clear b2
  go_wp2_with fail
  refine (few_any _ B w2 G3.out).mono ?_
  rintro e w3 ⟨rfl, b3⟩
  have B3 := Lib.hid (B2.out.trans (b3.mono B2.out.size))
  have H4 := Lib.hid (H3.out.below b3)
  have G4 := Lib.hid (G3.out.below b3)
  clear b3
  cases hf : fewF A with
  | false =>
    clear hf
    go_wp2_with fail
    go_ret
    exact ⟨rfl, B3.out⟩
  | true =>
  cases hf2 : fewF B with
  | false =>
    clear hf hf2
    go_wp2_with fail
    go_ret
    exact ⟨rfl, B3.out⟩
  | true =>
    obtain ⟨hA, hbA⟩ := few_bd hf
    obtain ⟨hB, hbB⟩ := few_bd hf2
    have HbA := Lib.hid hbA
    clear hf hf2 hbA hbB
    rcases Nat.lt_or_ge 100 p.size with h100 | h100
    · have f1 : decide ((p.size : Int) > 100) = true := decide_eq_true (by omega)
      go_wp2_with fail
      go_ret
      exact ⟨rfl, B3.out⟩
    have f1 : decide ((p.size : Int) > 100) = false := decide_eq_false (by omega)
    have hAm : ∀ f ∈ A, f.path.length ≤ maxLen := fun f hf => by have := (HbA.out f hf).1; unfold maxLen; omega
    have HAm := Lib.hid hAm
    clear hAm
    obtain ⟨g1, g2, hg⟩ : ∃ g1 g2, Hid (got A (tl p) = (g1, g2)) := ⟨_, _, Lib.hid rfl⟩
    go_wp2_with fail
    refine (Get_got _ A p w3 H4.out).mono ?_
    rw [hg.out]
    rintro e w4 ⟨rfl, b4⟩
    have B4 := Lib.hid (B3.out.trans (b4.mono B3.out.size))
    have H5 := Lib.hid (H4.out.below b4)
    have G5 := Lib.hid (G4.out.below b4)
    clear b4
    go_wp2_with fail
    refine (RefGet_got _ A p w4 H5.out).mono ?_
    rw [hg.out]
    rintro e w5 ⟨rfl, b5⟩
    have B5 := Lib.hid (B4.out.trans (b5.mono B4.out.size))
    have H6 := Lib.hid (H5.out.below b5)
    have G6 := Lib.hid (G5.out.below b5)
    clear b5
    go_wp2_with fail
    refine (RefSort_any _ A w5 H6.out (by omega)).mono ?_
    rintro e w6 ⟨⟨s6, rfl, h6⟩, b6⟩
    have B6 := Lib.hid (B5.out.trans (b6.mono B5.out.size))
    have H7 := Lib.hid (H6.out.below b6)
    have G7 := Lib.hid (G6.out.below b6)
    have S7 := Lib.hid h6
    clear b6 h6
    go_wp2_with fail
    have hput := RefPut_any s6 (sortF A) (tl p) (tl newB) w6 S7.out (Nat.le_trans (sort_len _) (by omega))
    rw [bs_tl, bs_tl, putR_sort] at hput
    refine hput.mono ?_
    rintro e w7 ⟨⟨p7, rfl, h7⟩, b7⟩
    have B7 := Lib.hid (B6.out.trans (b7.mono B6.out.size))
    have H8 := Lib.hid (H7.out.below b7)
    have G8 := Lib.hid (G7.out.below b7)
    have P8 := Lib.hid h7
    clear b7 h7 hput
    go_wp2_with fail
    refine (Put_any _ A p newB w7 H8.out (by omega) HAm.out Hp.out).mono ?_
    rintro e w8 ⟨q8, rfl, h8, b8⟩
    have B8 := Lib.hid (B7.out.trans (b8.mono B7.out.size))
    have H9 := Lib.hid (H8.out.below b8)
    have G9 := Lib.hid (G8.out.below b8)
    have P9 := Lib.hid (P8.out.below b8)
    have Q9 := Lib.hid h8
    clear b8 h8
    go_wp2_with fail
    refine (RefSame_any _ _ _ _ _ Q9.out P9.out).mono ?_
    rw [decide_eq_true rfl]
    rintro e w9 ⟨rfl, b9⟩
    have B9 := Lib.hid (B8.out.trans (b9.mono B8.out.size))
    have H10 := Lib.hid (H9.out.below b9)
    have G10 := Lib.hid (G9.out.below b9)
    clear b9
    go_wp2_with fail
    refine (Remove_any _ A p _ H10.out (by omega)).mono ?_
    rintro e w10 ⟨⟨r10, rfl, h10⟩, b10⟩
    have B10 := Lib.hid (B9.out.trans (b10.mono B9.out.size))
    have H11 := Lib.hid (H10.out.below b10)
    have G11 := Lib.hid (G10.out.below b10)
    have R11 := Lib.hid h10
    clear b10 h10
    go_wp2_with fail
    refine (RefRemove_any _ A p _ H11.out (by omega)).mono ?_
    rintro e w11 ⟨⟨r11, rfl, h11⟩, b11⟩
    have B11 := Lib.hid (B10.out.trans (b11.mono B10.out.size))
    have H12 := Lib.hid (H11.out.below b11)
    have G12 := Lib.hid (G11.out.below b11)
    have R12 := Lib.hid (R11.out.below b11)
    have Q12 := Lib.hid h11
    clear b11 h11
    go_wp2_with fail
    refine (RefSame_any _ _ _ _ _ R12.out Q12.out).mono ?_
    rw [decide_eq_true rfl]
    rintro e w12 ⟨rfl, b12⟩
    have B12 := Lib.hid (B11.out.trans (b12.mono B11.out.size))
    have H13 := Lib.hid (H12.out.below b12)
    have G13 := Lib.hid (G12.out.below b12)
    clear b12
    obtain ⟨ab, hab⟩ : ∃ ab, Hid (decide (A = B) = ab) := ⟨_, Lib.hid rfl⟩
    go_wp2_with fail
    refine (Same_any _ _ A B _ H13.out G13.out).mono ?_
    rw [hab.out]
    rintro e w13 ⟨rfl, b13⟩
    have B13 := Lib.hid (B12.out.trans (b13.mono B12.out.size))
    have H14 := Lib.hid (H13.out.below b13)
    have G14 := Lib.hid (G13.out.below b13)
    clear b13
    go_wp2_with fail
    refine (RefSame_any _ _ A B _ H14.out G14.out).mono ?_
    rw [hab.out]
    rintro e w14 ⟨rfl, b14⟩
    have B14 := Lib.hid (B13.out.trans (b14.mono B13.out.size))
    have H15 := Lib.hid (H14.out.below b14)
    have G15 := Lib.hid (G14.out.below b14)
    clear b14
    go_wp2_with fail
    have r15 := RowAt.new w14 22 #[.slice a A.length cap, .slice a2 B.length cap2]
    have b15 := (Below.refl w14.heap.size w14).alloc (Nat.le_refl _) (.cells #[.slice a A.length cap, .slice a2 B.length cap2] 22)
    have B15 := Lib.hid (B14.out.trans (b15.mono B14.out.size))
    have H16 := Lib.hid (H15.out.below b15)
    have G16 := Lib.hid (G15.out.below b15)
    refine (Paths_any _ [A, B] _ (fss_two r15 H16.out G16.out) (by simp; omega)).mono ?_
    rintro e w16 ⟨v16, rfl, h16, b16⟩
    have B16 := Lib.hid (B15.out.trans (b16.mono B15.out.size))
    have H17 := Lib.hid (H16.out.below b16)
    have G17 := Lib.hid (G16.out.below b16)
    have V17 := Lib.hid h16
    clear r15 b15 b16 h16
    go_wp2_with fail
    have r17 := RowAt.new w16 22 #[.slice a A.length cap, .slice a2 B.length cap2]
    have b17 := (Below.refl w16.heap.size w16).alloc (Nat.le_refl _) (.cells #[.slice a A.length cap, .slice a2 B.length cap2] 22)
    have B17 := Lib.hid (B16.out.trans (b17.mono B16.out.size))
    have H18 := Lib.hid (H17.out.below b17)
    have G18 := Lib.hid (G17.out.below b17)
    have V18 := Lib.hid (V17.out.below b17)
    refine (RefPaths_any _ [A, B] _ (fss_two r17 H18.out G18.out) (by simp; omega)).mono ?_
    rintro e w18 ⟨v18, rfl, h18, b18⟩
    have B18 := Lib.hid (B17.out.trans (b18.mono B17.out.size))
    have V19 := Lib.hid (V18.out.below b18)
    have U19 := Lib.hid h18
    clear r17 b17 b18 h18
    go_wp2_with fail
    refine (SameS_eq _ _ _ _ V19.out U19.out).mono ?_
    rintro e w19 ⟨rfl, b19⟩
    have B19 := Lib.hid (B18.out.trans (b19.mono B18.out.size))
    clear b19
    go_wp2_with fail
    go_ret
    exact ⟨rfl, B19.out⟩
end Go.Proofs.Ytbfehhblnakcbaa
