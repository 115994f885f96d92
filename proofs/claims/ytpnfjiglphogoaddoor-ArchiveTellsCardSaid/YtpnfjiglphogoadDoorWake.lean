/-
  For the laws of archive: the document's example holds. Condition: the listed variables hold what the program's text lays.
-/
import Derived.Test.YtpnfjiglphogoadDoorFew
import Derived.Test.YtpnfjiglphogoadDoorRead
namespace Go.Proofs.YtpnfjiglphogoadDoor
open Go.RowKit Go.Shelf
set_option linter.unusedSimpArgs false
set_option linter.unusedVariables false

/-- Behind Whole, of files shown. -/
theorem WholeIs.shown {L : List Fl} {s : By} {e : Ending} {w' : World} (h : WholeIs s e w') (hs : s = showL L) (hl : s.length ≤ 100000) (hok : okL L) : ∃ v, e = .returned (.tuple #[v, .int .i64 0]) ∧ Fls w' v L := by
  rcases h with ⟨L', v, h1, h2, h3, h4⟩ | ⟨h1, -⟩
  · obtain rfl : L = L' := show_inj (by rw [← hs]; omega) hok h1 (hs.symm.trans h2)
    exact ⟨v, h3, h4⟩
  · exact absurd hs (h1 L hok)
theorem ReadIs.shown {L : List Fl} {s r : By} {n : Int} {e : Ending} {w' : World} (h : ReadIs s n e w') (hn : n = (L.length : Int)) (hs : s = showL L ++ r) (hl : s.length ≤ 100000) (hok : okL L) : ∃ v, e = .returned (.tuple #[v, .string (bs r), .int .i64 0]) ∧ Fls w' v L := by
  rcases h with ⟨L', r', v, h0, h1, h2, h3, h4, h5⟩ | ⟨h1, -⟩
  · obtain ⟨rfl, rfl⟩ := show_pre (L := L) (L' := L') (r := r) (r' := r') (by rw [← hs]; omega) hok h2 (by omega) (hs.symm.trans h3)
    exact ⟨v, h4, h5⟩
  · rcases h1 with h1 | h1
    · omega
    · exact absurd hs (h1 L r hok hn.symm)
theorem Same_eq (u v : Value) (A : List Fl) (w : World) (h1 : Fls w u A) (h2 : Fls w v A) : Calls Tryd.prog 12 #[u, v] w fun e w' => e = .returned (.bool true) ∧ Below w.heap.size w w' := by
  have := RefSame_any u v A A w h1 h2
  rwa [decide_eq_true rfl] at this
def exA : Fl := ⟨[97], [120]⟩
def exB : Fl := ⟨[98], []⟩
def exH : By := [102, 105, 108, 101, 32, 97, 32, 49, 33, 10]
def exS : By := [102, 105, 108, 101, 32, 97, 32, 49, 33, 10, 120, 10, 102, 105, 108, 101, 32, 98, 32, 48, 10]
def exR : By := [102, 105, 108, 101, 32, 98, 32, 48, 10, 109, 111, 114, 101]
theorem ex_head : headL exA = exH := by
  have h : cnt exA.text = 1 := by decide +kernel
  unfold headL
  rw [h, Lib.decDigits_one (by omega)]
  decide +kernel
theorem ex_headB : headL exB = [102, 105, 108, 101, 32, 98, 32, 48, 10] := by
  have h : cnt exB.text = 0 := by decide +kernel
  unfold headL
  rw [h, Lib.decDigits_one (by omega)]
  decide +kernel
theorem ex_show : showL [exA, exB] = exS := by
  unfold showL oneL
  simp only [List.flatMap_cons, List.flatMap_nil, ex_head, ex_headB]
  decide +kernel
theorem ex_read : exS ++ [109, 111, 114, 101] = showL [exA] ++ exR := by
  unfold showL oneL
  simp only [List.flatMap_cons, List.flatMap_nil, ex_head]
  decide +kernel
theorem ex_ok : okL [exA, exB] := by
  intro f hf
  simp at hf
  rcases hf with rfl | rfl <;> decide +kernel
theorem ex_ok1 : okL [exA] := fun f hf => ex_ok f (by simp at hf; simp [hf])
theorem ex_okS : ∀ f ∈ [exA, exB], okS f := by
  intro f hf
  simp at hf
  rcases hf with rfl | rfl <;> (unfold okS; decide)
theorem fls_two {W : World} {b : Nat} {t : TypeId} {x y : Fl} (h : RowAt W b t #[.string (bs x.path), .string (bs x.text), .string (bs y.path), .string (bs y.text)]) : Fls W (.slice (some ⟨b, 0, none⟩) 2 2) [x, y] := by
  refine ⟨_, 2, rfl, Nat.le_refl _, by simp [maxLen], fun j u hj => ?_⟩
  have hj0 : j = 0 ∨ j = 1 := by have := (List.getElem?_eq_some_iff.1 hj).1; simp at this; omega
  rcases hj0 with rfl | rfl
  · obtain rfl : x = u := by simpa using hj
    exact ⟨b, 0, rfl, h.lt, h.cell (j := 0) rfl, h.cell (j := 1) rfl⟩
  · obtain rfl : y = u := by simpa using hj
    exact ⟨b, 0, rfl, h.lt, h.cell (j := 2) rfl, h.cell (j := 3) rfl⟩
set_option maxRecDepth 100000 in
set_option maxHeartbeats 16000000 in
theorem awake_any (w : World) (hW : AW w) : Calls Tryd.prog 6 #[] w fun e w' => e = .returned (.bool true) ∧ Below w.heap.size w w' := by
  have HW := Lib.hid hW
  clear hW
  obtain ⟨W1, hW1'⟩ : ∃ W1, Hid (w.alloc (.cells #[.string ⟨#[97]⟩, .string ⟨#[120]⟩, .string ⟨#[98]⟩, .string ⟨#[]⟩] 34) = W1) := ⟨_, Lib.hid rfl⟩
  have B1 : Hid (Below w.heap.size w W1) := by rw [← hW1'.out]; exact Lib.hid ((Below.refl _ w).alloc (Nat.le_refl _) _)
  have R1 : Hid (RowAt W1 w.heap.size 34 #[.string (bs exA.path), .string (bs exA.text), .string (bs exB.path), .string (bs exB.text)]) := by rw [← hW1'.out]; exact Lib.hid (RowAt.new w 34 _)
  have V1 := Lib.hid (fls_two R1.out)
  have hs1 := B1.out.size
  have hw3 := Whole8_any exS (by decide)
  have hr4 := Read_any (exS ++ [109, 111, 114, 101]) (by decide) 1
  have hh := Head_any exA (by decide) (by decide)
  rw [ex_head] at hh
  have Hw3 := Lib.hid hw3
  have Hr4 := Lib.hid hr4
  have Hhh := Lib.hid hh
  clear hw3 hr4 hh
  go_enter Tryd.func6, Tryd.ntmps6
  go_wp2_with fail
  rw [hW1'.out]
  refine (Show_any _ [exA, exB] (by decide) ex_okS _ (HW.out.below B1.out) V1.out).mono ?_
  rw [ex_show]
  rintro e w2 ⟨rfl, b2⟩
  have B2 := Lib.hid (B1.out.trans (b2.mono hs1))
  have V2 := Lib.hid (V1.out.below b2)
  have R2 := Lib.hid (R1.out.later b2)
  have hs2 := B2.out.size
  clear b2
  go_wp2_with fail
  refine (Hw3.out _ (HW.out.below B2.out)).mono ?_
  rintro e w3 ⟨he, b3⟩
  obtain ⟨v3, rfl, p3⟩ := he.shown ex_show.symm (by decide) ex_ok
  have B3 := Lib.hid (B2.out.trans (b3.mono hs2))
  have V3 := Lib.hid (V2.out.below b3)
  have R3 := Lib.hid (R2.out.later b3)
  have P3 := Lib.hid p3
  have hs3 := B3.out.size
  clear b3 p3 he
  go_wp2_with fail
  refine (Hr4.out _ (HW.out.below B3.out)).mono ?_
  rintro e w4 ⟨he, b4⟩
  obtain ⟨v4, rfl, p4⟩ := he.shown rfl ex_read (by decide) ex_ok1
  have B4 := Lib.hid (B3.out.trans (b4.mono hs3))
  have V4 := Lib.hid (V3.out.below b4)
  have R4 := Lib.hid (R3.out.later b4)
  have P4 := Lib.hid (P3.out.below b4)
  have hs4 := B4.out.size
  obtain ⟨a4, cap4, rfl, -⟩ := p4
  clear b4 he
  go_wp2_with fail
  refine (Same_eq _ _ [exA, exB] _ P4.out V4.out).mono ?_
  rintro e w5 ⟨rfl, b5⟩
  have B5 := Lib.hid (B4.out.trans (b5.mono hs4))
  have R5 := Lib.hid (R4.out.later b5)
  have hs5 := B5.out.size
  have c0 := R5.out.cell (j := 0) rfl
  have c1 := R5.out.cell (j := 1) rfl
  clear b5
  go_wp2_with fail
  refine (Hhh.out _ (HW.out.below B5.out)).mono ?_
  rintro e w6 ⟨rfl, b6⟩
  have B6 := Lib.hid (B5.out.trans (b6.mono hs5))
  clear b6
  go_wp2_with fail
  go_ret
  exact ⟨rfl, B6.out⟩
end Go.Proofs.YtpnfjiglphogoadDoor
