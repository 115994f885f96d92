/-
  For the laws of report: the document's example holds. Condition: the program's tables are as they are laid.
-/
import Derived.Test.YtmklpanehnkfbaaDoorText2
import Derived.Test.YtmklpanehnkfbaaDoorRead
namespace Go.Proofs.YtmklpanehnkfbaaDoor
open Go.RowKit Go.Shelf

theorem rqs_nil (W : World) : Rqs W (.slice none 0 0) [] := ⟨none, 0, rfl, Nat.le_refl _, Nat.zero_le _, by simp⟩
theorem cfs_nil (W : World) : Cfs W (.slice none 0 0) [] := ⟨none, 0, rfl, Nat.le_refl _, Nat.zero_le _, by simp⟩
theorem rqs_one {W : World} {b : Nat} {t : TypeId} {x : Rq} (h : RowAt W b t #[.int .i64 x.kind, .string (bs x.id), .string (bs x.to)]) : Rqs W (.slice (some ⟨b, 0, none⟩) 1 1) [x] := by
  refine ⟨_, 1, rfl, Nat.le_refl _, by simp [maxLen], fun k u hk => ⟨b, 0, rfl, h.lt, ?_⟩⟩
  have hk0 : k = 0 := by have := (List.getElem?_eq_some_iff.1 hk).1; simp at this; omega
  subst hk0
  obtain rfl : x = u := by simpa using hk
  exact ⟨h.cell (j := 0) rfl, h.cell (j := 1) rfl, h.cell (j := 2) rfl⟩
theorem cfs_one {W : World} {b : Nat} {t : TypeId} {x : Cf} (h : RowAt W b t #[.int .i64 x.kind, .string (bs x.key)]) : Cfs W (.slice (some ⟨b, 0, none⟩) 1 1) [x] := by
  refine ⟨_, 1, rfl, Nat.le_refl _, by simp [maxLen], fun k u hk => ⟨b, 0, rfl, h.lt, ?_⟩⟩
  have hk0 : k = 0 := by have := (List.getElem?_eq_some_iff.1 hk).1; simp at this; omega
  subst hk0
  obtain rfl : x = u := by simpa using hk
  exact ⟨h.cell (j := 0) rfl, h.cell (j := 1) rfl⟩
def exC : Cf := ⟨3, [65, 46, 109, 40, 41]⟩
def exQ : Rq := ⟨1, [65], [66]⟩
theorem ex_reads : Reads [103, 111, 110, 101, 32, 65, 46, 109, 40, 41] 3 [65, 46, 109, 40, 41] := ⟨by decide, by decide, by decide, by decide⟩
theorem ex_text : textT 2 [exQ] [] [exC] = [99, 111, 110, 102, 108, 105, 99, 116, 115, 10, 108, 101, 102, 116, 58, 32, 114, 101, 110, 97, 109, 101, 32, 65, 32, 116, 111, 32, 66, 10, 99, 111, 110, 102, 108, 105, 99, 116, 58, 32, 103, 111, 110, 101, 32, 65, 46, 109, 40, 41, 10] := by decide
set_option maxRecDepth 100000 in
set_option maxHeartbeats 16000000 in
theorem awake_any (w : World) (hW : RepW w) : Calls Tryd.prog 7 #[] w fun e w' => e = .returned (.bool true) ∧ Below w.heap.size w w' := by
  have HW := Lib.hid hW; clear hW
  have hW4 := HW.out.size
  obtain ⟨W1, hW1⟩ : ∃ W1, Hid (w.alloc (.cells #[.int .i64 3, .string ⟨#[65, 46, 109, 40, 41]⟩] 23) = W1) := ⟨_, Lib.hid rfl⟩
  have hb1 : Hid (Below w.heap.size w W1) := by rw [← hW1.out]; exact Lib.hid ((Below.refl _ w).alloc (Nat.le_refl _) _)
  have hc1 : Hid (RowAt W1 w.heap.size 23 #[.int .i64 3, .string ⟨#[65, 46, 109, 40, 41]⟩]) := by rw [← hW1.out]; exact Lib.hid (RowAt.new w 23 _)
  have hs1 : w.heap.size + 1 ≤ W1.heap.size := by rw [← hW1.out]; simp
  go_enter Tryd.func7, Tryd.ntmps7
  go_wp2_with fail
  rw [hW1.out]
  refine (Read_any ⟨#[103, 111, 110, 101, 32, 65, 46, 109, 40, 41]⟩ _ (HW.out.below hb1.out hW4) (by decide)).mono ?_
  rintro e w2 ⟨hr, b2⟩
  have hB2 := Lib.hid (hb1.out.trans (b2.mono (by omega)))
  have hc2 := Lib.hid (hc1.out.later b2)
  have hs2 : w.heap.size + 1 ≤ w2.heap.size := by have := b2.size; omega
  clear b2
  obtain ⟨k, key, hrd, rfl⟩ := hr.resolve_right (fun h => h.1 _ _ ex_reads)
  obtain ⟨rfl, hkey⟩ := ex_reads.same hrd.1 hrd.2.1 hrd.2.2.1
  obtain rfl : key = ⟨#[65, 46, 109, 40, 41]⟩ := by rw [← bs_tl key, hkey]
  clear hrd hkey
  obtain ⟨W3, hW3⟩ : ∃ W3, Hid (w2.alloc (.cells #[.int .i64 3, .string ⟨#[65, 46, 109, 40, 41]⟩] 23) = W3) := ⟨_, Lib.hid rfl⟩
  have hb3 : Hid (Below w.heap.size w W3) := by rw [← hW3.out]; exact Lib.hid (hB2.out.alloc (by omega) _)
  have hc3 : Hid (RowAt W3 w.heap.size 23 #[.int .i64 3, .string ⟨#[65, 46, 109, 40, 41]⟩]) := by rw [← hW3.out]; exact Lib.hid (hc2.out.alloc _)
  have hr3 : Hid (RowAt W3 w2.heap.size 23 #[.int .i64 3, .string ⟨#[65, 46, 109, 40, 41]⟩]) := by rw [← hW3.out]; exact Lib.hid (RowAt.new w2 23 _)
  have hs3 : W3.heap.size = w2.heap.size + 1 := by rw [← hW3.out]; simp
  have Hs3 := Lib.hid hs3
  have hs3' : w2.heap.size + 1 ≤ W3.heap.size := by omega
  clear hs3
  obtain ⟨W4, hW4'⟩ : ∃ W4, Hid (W3.alloc (.cells #[.int .i64 1, .string ⟨#[65]⟩, .string ⟨#[66]⟩] 33) = W4) := ⟨_, Lib.hid rfl⟩
  have hb4 : Hid (Below w.heap.size w W4) := by rw [← hW4'.out]; exact Lib.hid (hb3.out.alloc (by omega) _)
  have hc4 : Hid (RowAt W4 w.heap.size 23 #[.int .i64 3, .string ⟨#[65, 46, 109, 40, 41]⟩]) := by rw [← hW4'.out]; exact Lib.hid (hc3.out.alloc _)
  have c40 := hc4.out.cell (j := 0) rfl
  have c41 := hc4.out.cell (j := 1) rfl
  have hs4 : W3.heap.size + 1 ≤ W4.heap.size := by rw [← hW4'.out]; simp
  rw [← hW4'.out, ← hW3.out] at c40 c41
  obtain ⟨W5, hW5⟩ : ∃ W5, Hid (W4.alloc (.cells #[.int .i64 3, .string ⟨#[65, 46, 109, 40, 41]⟩] 23) = W5) := ⟨_, Lib.hid rfl⟩
  have hb5 : Hid (Below w.heap.size w W5) := by rw [← hW5.out]; exact Lib.hid (hb4.out.alloc (by omega) _)
  have hc5 : Hid (RowAt W5 w.heap.size 23 #[.int .i64 3, .string ⟨#[65, 46, 109, 40, 41]⟩]) := by rw [← hW5.out]; exact Lib.hid (hc4.out.alloc _)
  have hr5 : Hid (RowAt W5 w2.heap.size 23 #[.int .i64 3, .string ⟨#[65, 46, 109, 40, 41]⟩]) := by rw [← hW5.out, ← hW4'.out]; exact Lib.hid ((hr3.out.alloc _).alloc _)
  have hq5 : Hid (RowAt W5 (w2.heap.size + 1) 33 #[.int .i64 exQ.kind, .string (bs exQ.id), .string (bs exQ.to)]) := by rw [← hW5.out, ← hW4'.out, ← Hs3.out]; exact Lib.hid ((RowAt.new W3 33 _).alloc _)
  have hs45 : W4.heap.size = w2.heap.size + 2 := by rw [← hW4'.out, World.size_alloc, Hs3.out]
  have hk5 : Hid (RowAt W5 (w2.heap.size + 2) 23 #[.int .i64 exC.kind, .string (bs exC.key)]) := by rw [← hW5.out, ← hs45]; exact Lib.hid (RowAt.new W4 23 _)
  have hs5 : W4.heap.size + 1 ≤ W5.heap.size := by rw [← hW5.out]; simp
  clear hs45
  go_wp2_with fail
  rw [hW3.out, hW4'.out, hW5.out]
  refine (Text_any 2 _ _ _ [exQ] [] [exC] _ (rqs_one hq5.out) (rqs_nil _) (cfs_one hk5.out) (HW.out.below hb5.out hW4) (by decide) (by decide) (by decide) (by decide) (by decide) (by decide)).mono ?_
  rw [ex_text]
  rintro e w6 ⟨rfl, b6⟩
  have hB6 := Lib.hid (hb5.out.trans (b6.mono (by omega)))
  have hc6 := Lib.hid (hc5.out.later b6)
  have hr6 := Lib.hid (hr5.out.later b6)
  have hs6 := b6.size
  have x0 := hc6.out.cell (j := 0) rfl
  have x1 := hc6.out.cell (j := 1) rfl
  have hR6 := Lib.hid (HW.out.below hB6.out hW4)
  clear b6 c40 c41
  go_wp2_with fail
  refine (Conflict_any 3 ⟨#[65, 46, 109, 40, 41]⟩ _ hR6.out (by decide)).mono ?_
  rw [show conOf 3 (tl ⟨#[65, 46, 109, 40, 41]⟩) = [103, 111, 110, 101, 32, 65, 46, 109, 40, 41] from by decide]
  rintro e w7 ⟨rfl, b7⟩
  have hB7 := Lib.hid (hB6.out.trans (b7.mono (by omega)))
  have hc7 := Lib.hid (hc6.out.later b7)
  have hr7 := Lib.hid (hr6.out.later b7)
  have hs7 := b7.size
  clear b7 x0 x1
  have x0 := hc7.out.cell (j := 0) rfl
  have x1 := hc7.out.cell (j := 1) rfl
  have y0 := hr7.out.cell (j := 0) rfl
  have y1 := hr7.out.cell (j := 1) rfl
  go_wp2_with fail
  refine (Outcome_any 4 _ (HW.out.below hB7.out hW4)).mono ?_
  rw [show outOf 4 = [116, 111, 111, 32, 108, 97, 114, 103, 101] from by decide]
  rintro e w8 ⟨rfl, b8⟩
  have hB8 := Lib.hid (hB7.out.trans (b8.mono (by omega)))
  have hc8 := Lib.hid (hc7.out.later b8)
  have hs8 := b8.size
  clear b8 x0 x1 y0 y1
  have x0 := hc8.out.cell (j := 0) rfl
  have x1 := hc8.out.cell (j := 1) rfl
  have hk9 := Lib.hid (RowAt.new w8 23 #[.int .i64 exC.kind, .string (bs exC.key)])
  go_wp2_with fail
  refine (Count_any _ [exC] _ (cfs_one hk9.out) (by decide)).mono ?_
  rintro e w9 ⟨⟨v9, rfl, h9⟩, b9⟩
  have hB9 := Lib.hid ((hB8.out.alloc (by omega) (.cells #[.int .i64 exC.kind, .string (bs exC.key)] 23)).trans (b9.mono (by simp; omega)))
  have hs9 := b9.size
  have H9 := Lib.hid h9
  have hf10 : Hid (Five (w9.alloc (.cells #[.int .i64 0, .int .i64 0, .int .i64 1, .int .i64 0, .int .i64 0] 3)) (.slice (some ⟨w9.heap.size, 0, none⟩) 5 5) (cnt [exC])) := Lib.hid ⟨_, _, rfl, RowAt.new w9 3 _⟩
  have hg10 : Hid (Five (w9.alloc (.cells #[.int .i64 0, .int .i64 0, .int .i64 1, .int .i64 0, .int .i64 0] 3)) v9 (cnt [exC])) := Lib.hid (h9.below ((Below.refl _ _).alloc (Nat.le_refl _) _))
  rw [World.size_alloc] at hs9
  have hB10 := Lib.hid (hB9.out.alloc (by omega) (.cells #[.int .i64 0, .int .i64 0, .int .i64 1, .int .i64 0, .int .i64 0] 3))
  clear b9 h9 x0 x1
  go_wp2_with fail
  refine (SameFive_any _ _ (cnt [exC]) _ hg10.out hf10.out).mono ?_
  rintro e w11 ⟨rfl, b11⟩
  have hB11 := Lib.hid (hB10.out.trans (b11.mono (by simp; omega)))
  go_wp2_with fail
  go_ret
  exact ⟨rfl, hB11.out⟩
end Go.Proofs.YtmklpanehnkfbaaDoor
