/-
  For the laws of heap: the document's example. Condition: the table of the powers of ten holds them.
-/
import Derived.Test.YtpaknaaainhgfaaDoorHset
namespace Go.Proofs.YtpaknaaainhgfaaDoor
open Go.RowKit Go.Maps Go.WideMaps

theorem ex_first : firstK ⟨#[98, 111, 111, 108, 101, 97, 110]⟩ = 2 := by decide +kernel
theorem ex_int : firstK ⟨#[105, 110, 116]⟩ = 1 := by decide +kernel
theorem ex_seven : showV 1 7 = ⟨#[55]⟩ := by decide +kernel
theorem ex_get (id : ByteArray) : getOf 1 (fun _ _ => none) 3 1 id ⟨#[105, 110, 116]⟩ = ((1, 0), 0) := by
  show ((firstK ⟨#[105, 110, 116]⟩, 0), 0) = _
  rw [ex_int]
theorem ex_get2 (id kind : ByteArray) : getOf 1 (setOf 1 (fun _ _ => none) 3 1 id (1, 7)) 3 1 id kind = ((1, 7), 0) := by
  show ((Store.set (fun _ _ => none) 1 id (1, 7) 1 id).getD (firstK kind, 0), 0) = _
  unfold Store.set
  rw [if_pos ⟨rfl, rfl⟩]
  rfl

set_option maxRecDepth 100000 in
set_option maxHeartbeats 8000000 in
theorem hawake_any (w : World) (hp : Pow w) : Calls Tryd.prog 24 #[] w fun e w' => e = .returned (.bool true) ∧ Below w.heap.size w w' := by
  go_enter Tryd.func24, Tryd.ntmps24
  go_wp2_with fail
  refine (New_any _).mono ?_
  rintro e w1 ⟨rfl, hw1⟩
  have H0 : Hp w1 w.heap.size w.heap.size [] 0 (fun _ _ => none) := by rw [hw1]; exact Hp.made w _
  have hB0 : Below w.heap.size w w1 := by rw [hw1]; exact (Below.refl _ w).alloc (Nat.le_refl _) _
  clear hw1
  go_wp2_with fail
  refine (Make_in ⟨#[65]⟩ w1 w.heap.size w.heap.size 0 [] _ (by decide) hB0.size H0).mono ?_
  rintro e w2 ⟨rfl, H1', T1⟩
  have H1 : Hp w2 w.heap.size w.heap.size [⟨#[65]⟩] 0 (fun _ _ => none) := H1'
  clear H1'
  have hB1 := hB0.trans (T1.below (Nat.le_refl _) (Nat.le_refl _) hB0.size)
  clear T1 hB0 H0
  obtain ⟨W3, hW3⟩ : ∃ W, Hid (w2.alloc (.cells #[.int .i64 3, .int .i64 1] 44) = W) := ⟨_, rfl⟩
  have b2 : Below w2.heap.size w2 W3 := by rw [← hW3.out]; exact (Below.refl _ _).alloc (Nat.le_refl _) _
  have rv : RowAt W3 w2.heap.size 44 #[.int .i64 3, .int .i64 1] := by rw [← hW3.out]; exact RowAt.new _ _ _
  have hB3 := hB1.trans (b2.mono hB1.size)
  have H3 := H1.later b2
  have hl2 := H1.lt
  clear H1
  have v0 : W3.cell? ⟨w2.heap.size, 0, none⟩ = some (.int .i64 3) := rv.cell rfl
  have v1 : W3.cell? ⟨w2.heap.size, 1, none⟩ = some (.int .i64 1) := rv.cell rfl
  go_wp2_with fail
  rw [hW3.out]
  refine (Get_any 3 1 (by decide) ⟨#[65, 46, 102]⟩ ⟨#[105, 110, 116]⟩ (by unfold maxLen; decide) W3 w.heap.size w.heap.size 0 _ _ H3).mono ?_
  rw [show List.length [(⟨#[65]⟩ : ByteArray)] = 1 from rfl, ex_get]
  rintro e w4 ⟨rfl, b4⟩
  have H4 := H3.later b4
  have rv4 := rv.later b4
  have hB4 := hB3.trans (b4.mono hB3.size)
  clear b4 H3 rv v0 v1 hB3 hB1 b2
  obtain ⟨W5, hW5⟩ : ∃ W, Hid (w4.alloc (.cells #[.int .i64 1, .int .i64 0] 44) = W) := ⟨_, rfl⟩
  have b5 : Below w4.heap.size w4 W5 := by rw [← hW5.out]; exact (Below.refl _ _).alloc (Nat.le_refl _) _
  have rx : RowAt W5 w4.heap.size 44 #[.int .i64 1, .int .i64 0] := by rw [← hW5.out]; exact RowAt.new _ _ _
  have hB5 := hB4.trans (b5.mono hB4.size)
  have H5 := H4.later b5
  have rv5 := rv4.later b5
  have v0 : w4.cell? ⟨w2.heap.size, 0, none⟩ = some (.int .i64 3) := rv4.cell rfl
  have v1 : w4.cell? ⟨w2.heap.size, 1, none⟩ = some (.int .i64 1) := rv4.cell rfl
  have l4 := rv4.lt
  go_wp2_with fail
  rw [hW5.out]
  refine (Set_any 3 1 1 7 (by decide) ⟨#[65, 46, 102]⟩ (by unfold maxLen; decide) W5 w.heap.size w.heap.size 0 (by unfold maxLen; decide) _ _ H5 hB5.size).mono ?_
  rw [show List.length [(⟨#[65]⟩ : ByteArray)] = 1 from rfl, show (whereAt 1 3 1).2 = 0 from rfl]
  rintro e w6 ⟨rfl, H6, T6⟩
  have hh2 : w2.heap.size ≠ w.heap.size := by omega
  have hh4 : w4.heap.size ≠ w.heap.size := by have := H4.lt; omega
  have rv6 := rv5.turn T6 hh2 (by decide)
  have rx6 := rx.turn T6 hh4 (by decide)
  have hB6 := hB5.trans (T6.below (Nat.le_refl _) (Nat.le_refl _) hB5.size)
  clear T6 rv5 rx H5 hB5 b5 H4 rv4 hB4 v0 v1 l4
  have v0 : w6.cell? ⟨w2.heap.size, 0, none⟩ = some (.int .i64 3) := rv6.cell rfl
  have v1 : w6.cell? ⟨w2.heap.size, 1, none⟩ = some (.int .i64 1) := rv6.cell rfl
  have l6 := rv6.lt
  go_wp2_with fail
  refine (Get_any 3 1 (by decide) ⟨#[65, 46, 102]⟩ ⟨#[105, 110, 116]⟩ (by unfold maxLen; decide) w6 w.heap.size w.heap.size 1 _ _ H6).mono ?_
  rw [show List.length [(⟨#[65]⟩ : ByteArray)] = 1 from rfl, ex_get2]
  rintro e w7 ⟨rfl, b7⟩
  have H7 := H6.later b7
  have rv7 := rv6.later b7
  have rx7 := rx6.later b7
  have hB7 := hB6.trans (b7.mono hB6.size)
  clear b7 H6 rv6 rx6 hB6 v0 v1 l6
  obtain ⟨W8, hW8⟩ : ∃ W, Hid (w7.alloc (.cells #[.int .i64 1, .int .i64 7] 44) = W) := ⟨_, rfl⟩
  have b8 : Below w7.heap.size w7 W8 := by rw [← hW8.out]; exact (Below.refl _ _).alloc (Nat.le_refl _) _
  have ry8 : RowAt W8 w7.heap.size 44 #[.int .i64 1, .int .i64 7] := by rw [← hW8.out]; exact RowAt.new _ _ _
  have hB8 := hB7.trans (b8.mono hB7.size)
  have H8 := H7.later b8
  have rv8 := rv7.later b8
  have rx8 := rx7.later b8
  have v0 : w7.cell? ⟨w2.heap.size, 0, none⟩ = some (.int .i64 3) := rv7.cell rfl
  have v1 : w7.cell? ⟨w2.heap.size, 1, none⟩ = some (.int .i64 1) := rv7.cell rfl
  have l7 := rv7.lt
  go_wp2_with fail
  rw [hW8.out]
  refine (Class_yes 0 ⟨#[65]⟩ W8 w.heap.size w.heap.size 1 _ _ H8 rfl).mono ?_
  rintro e w9 ⟨rfl, b9⟩
  have H9 := H8.later b9
  have rv9 := rv8.later b9
  have rx9 := rx8.later b9
  have ry9 := ry8.later b9
  have hB9 := hB8.trans (b9.mono hB8.size)
  clear b9 H8 rv8 rx8 ry8 hB8 v0 v1 l7 b8 H7 rv7 rx7 hB7
  have v0 : w9.cell? ⟨w2.heap.size, 0, none⟩ = some (.int .i64 3) := rv9.cell rfl
  have v1 : w9.cell? ⟨w2.heap.size, 1, none⟩ = some (.int .i64 1) := rv9.cell rfl
  have x0 : w9.cell? ⟨w4.heap.size, 0, none⟩ = some (.int .i64 1) := rx9.cell rfl
  have x1 : w9.cell? ⟨w4.heap.size, 1, none⟩ = some (.int .i64 0) := rx9.cell rfl
  have y0 : w9.cell? ⟨w7.heap.size, 0, none⟩ = some (.int .i64 1) := ry9.cell rfl
  have y1 : w9.cell? ⟨w7.heap.size, 1, none⟩ = some (.int .i64 7) := ry9.cell rfl
  go_wp2_with fail
  refine (Many_in _ _ _ _ _ _ H9).mono ?_
  rw [show List.length [(⟨#[65]⟩ : ByteArray)] = 1 from rfl]
  rintro e w10 ⟨rfl, rfl⟩
  go_wp2_with fail
  refine (HShow_any 1 7 _ (pow_below hp hB9)).mono ?_
  rw [ex_seven]
  rintro e w11 ⟨rfl, b11⟩
  have hB11 := hB9.trans (b11.mono hB9.size)
  clear b11 H9 rv9 rx9 ry9 hB9
  go_wp2_with fail
  refine (First_any _ _).mono ?_
  rw [ex_first]
  rintro e w12 ⟨rfl, b12⟩
  have kf : ∀ W : World, (Instr.field 44 (val2 2 0) 0).run Tryd.prog W = .ok (.int .i64 2) W := fun _ => by kernel_rfl
  have hB12 := hB11.trans (b12.mono hB11.size)
  go_wp2
  go_ret
  exact ⟨rfl, hB12⟩
end Go.Proofs.YtpaknaaainhgfaaDoor
