/-
  For the laws of cells: the example of the document is as told. Condition: the lexer's world.
-/
import Derived.Test.YtfjmhnnjgjcmeaaGreatDoorEb
namespace Go.Proofs.YtfjmhnnjgjcmeaaGreatDoor
open Go.RowKit Go.Shelf
set_option linter.unusedSimpArgs false
set_option linter.unusedVariables false

theorem vals1 {W : World} {b : Nat} {x : ByteArray} (h : RowAt W b 9 #[.string x]) : L.Vals W (.slice (some ⟨b, 0, none⟩) 1 1) ([x].map .string) := L.vals_of_row (vs := [.string x]) h (by show 1 ≤ maxLen; unfold maxLen; omega)
theorem vals2 {W : World} {b : Nat} {x y : ByteArray} (h : RowAt W b 9 #[.string x, .string y]) : L.Vals W (.slice (some ⟨b, 0, none⟩) 2 2) ([x, y].map .string) := L.vals_of_row (vs := [.string x, .string y]) h (by show 2 ≤ maxLen; unfold maxLen; omega)
theorem vals3 {W : World} {b : Nat} {x y z : ByteArray} (h : RowAt W b 9 #[.string x, .string y, .string z]) : L.Vals W (.slice (some ⟨b, 0, none⟩) 3 3) ([x, y, z].map .string) := L.vals_of_row (vs := [.string x, .string y, .string z]) h (by show 3 ≤ maxLen; unfold maxLen; omega)
theorem al (w : World) (o : Obj) : Below w.heap.size w (w.alloc o) := (Below.refl _ _).alloc (Nat.le_refl _) _
theorem small3 : ∀ s ∈ ([(⟨#[102]⟩ : ByteArray), (⟨#[103]⟩ : ByteArray), (⟨#[104]⟩ : ByteArray)] : TL), s.size ≤ 500 := by decide
set_option maxRecDepth 100000 in
set_option maxHeartbeats 16000000 in
theorem cellsAwake_any (w : World) (hW : X.LexW w) (hs : 4 ≤ w.heap.size) : Calls Tryz.prog 21 #[] w fun e w' => e = .returned (.bool true) ∧ Below w.heap.size w w' := by
  have m6 : 500 ≤ maxLen := by unfold maxLen; omega
  have HW := Lib.hid hW
  have f1 := Lib.hid f1
  have f2 := Lib.hid f2
  have f3 := Lib.hid f3
  have f4 := Lib.hid f4
  go_enter Tryz.func21, Tryz.ntmps21
  go_wp2_with fail
  refine calls_gen (fun W => L.Vals W (.slice (some ⟨w.heap.size, 0, none⟩) 2 2) ([(⟨#[102]⟩ : ByteArray), (⟨#[103]⟩ : ByteArray)].map .string) ∧ L.Vals W (.slice (some ⟨w.heap.size + 1, 0, none⟩) 3 3) ([(⟨#[102]⟩ : ByteArray), (⟨#[104]⟩ : ByteArray), (⟨#[103]⟩ : ByteArray)].map .string) ∧ L.Vals W (.slice (some ⟨w.heap.size + 1 + 1, 0, none⟩) 1 1) ([(⟨#[103]⟩ : ByteArray)].map .string) ∧ Below w.heap.size w W) ?_ ?_
  · exact ⟨vals2 (((RowAt.new w 9 _).alloc _).alloc _), vals3 ((row_new (by simp)).alloc _), vals1 (row_new (by simp)), (((Below.refl _ w).alloc (Nat.le_refl _) _).alloc (by simp) _).alloc (by simp; omega) _⟩
  rintro W1 ⟨V1, V2, V3, b1⟩
  have CO := Order_any _ _ _ _ _ _ W1 V1 V2 V3 (by decide) (by decide) (by decide) (by intro s hs; have h : s.size ≤ 500 := (show ∀ s ∈ ([(⟨#[102]⟩ : ByteArray), (⟨#[103]⟩ : ByteArray)] : TL), s.size ≤ 500 by decide) s hs; omega) (by intro s hs; have h : s.size ≤ 500 := (show ∀ s ∈ ([(⟨#[102]⟩ : ByteArray), (⟨#[104]⟩ : ByteArray), (⟨#[103]⟩ : ByteArray)] : TL), s.size ≤ 500 by decide) s hs; omega) (by intro s hs; have h : s.size ≤ 500 := (show ∀ s ∈ ([(⟨#[103]⟩ : ByteArray)] : TL), s.size ≤ 500 by decide) s hs; omega)
  rw [f1.out] at CO
  refine CO.mono ?_
  rintro e w2 ⟨v, rfl, ho, b2⟩
  have B2 := Lib.hid (b1.trans (b2.mono b1.size))
  have O := Lib.hid (L.own_vals ho)
  obtain ⟨xo, co, rfl⟩ := own_form ho
  clear V1 V2 V3 b1 b2 CO ho
  go_wp2_with fail
  refine calls_gen (fun W => L.Vals W (.slice (some ⟨w2.heap.size, 0, none⟩) 2 2) ([(⟨#[102]⟩ : ByteArray), (⟨#[103]⟩ : ByteArray)].map .string) ∧ Below w2.heap.size w2 W) ?_ ?_
  · exact ⟨vals2 (RowAt.new w2 9 _), al _ _⟩
  rintro W2 ⟨V1, b3⟩
  refine (rowK_any _ _ W2 V1 (by decide) (by decide)).mono ?_
  rintro e w3 ⟨u1, rfl, o1, b3'⟩
  have E3 := b3.trans (b3'.mono b3.size)
  have B3 := Lib.hid (B2.out.trans (E3.mono B2.out.size))
  have O := Lib.hid (O.out.below E3)
  have S1 := own_sgs o1
  obtain ⟨x1, c1, rfl⟩ := own_form o1
  clear V1 b3 b3' E3 o1
  go_wp2_with fail
  refine calls_gen (fun W => L.Vals W (.slice (some ⟨w3.heap.size, 0, none⟩) 3 3) ([(⟨#[102]⟩ : ByteArray), (⟨#[104]⟩ : ByteArray), (⟨#[103]⟩ : ByteArray)].map .string) ∧ Below w3.heap.size w3 W) ?_ ?_
  · exact ⟨vals3 (RowAt.new w3 9 _), al _ _⟩
  rintro W3 ⟨V1, b4⟩
  refine (rowK_any _ _ W3 V1 (by decide) (by decide)).mono ?_
  rintro e w4 ⟨u2, rfl, o2, b4'⟩
  have E4 := b4.trans (b4'.mono b4.size)
  have B4 := Lib.hid (B3.out.trans (E4.mono B3.out.size))
  have O := Lib.hid (O.out.below E4)
  have S1 := S1.below E4
  have S2 := own_sgs o2
  obtain ⟨x2, c2, rfl⟩ := own_form o2
  clear V1 b4 b4' E4 o2
  go_wp2_with fail
  refine calls_gen (fun W => L.Vals W (.slice (some ⟨w4.heap.size, 0, none⟩) 1 1) ([(⟨#[103]⟩ : ByteArray)].map .string) ∧ Below w4.heap.size w4 W) ?_ ?_
  · exact ⟨vals1 (RowAt.new w4 9 _), al _ _⟩
  rintro W4 ⟨V1, b5⟩
  refine (rowK_any _ _ W4 V1 (by decide) (by decide)).mono ?_
  rintro e w5 ⟨u3, rfl, o3, b5'⟩
  have E5 := b5.trans (b5'.mono b5.size)
  have B5 := Lib.hid (B4.out.trans (E5.mono B4.out.size))
  have O := Lib.hid (O.out.below E5)
  have S1 := S1.below E5
  have S2 := S2.below E5
  have S3 := own_sgs o3
  have CR := Lib.hid (Row_any _ _ _ _ _ _ w5 (HW.out.below B5.out hs) (Nat.le_trans hs B5.out.size) S1 S2 S3 (by decide) (by decide) (by decide) (seg6 _ (by decide)) (seg6 _ (by decide)) (seg6 _ (by decide)))
  rw [f2.out] at CR
  obtain ⟨x3, c3, rfl⟩ := own_form o3
  clear V1 b5 b5' E5 o3 S1 S2 S3
  go_wp2_with fail
  refine CR.out.mono ?_
  rintro e w6 ⟨r1, r2, rfl, p1, p2, b6⟩
  have B6 := Lib.hid (B5.out.trans (b6.mono B5.out.size))
  have O := Lib.hid (O.out.below b6)
  have SR := own_sgs p1
  obtain ⟨y1, d1, rfl⟩ := own_form p1
  obtain ⟨y2, d2, rfl⟩ := own_form p2
  clear p1 p2 b6 CR
  go_wp2_with fail
  refine calls_gen (fun W => L.Vals W (.slice (some ⟨w6.heap.size, 0, none⟩) 1 1) ([(⟨#[102]⟩ : ByteArray)].map .string) ∧ Below w6.heap.size w6 W) ?_ ?_
  · exact ⟨vals1 (RowAt.new w6 9 _), al _ _⟩
  rintro W6 ⟨V1, b7⟩
  refine (rowK_any _ _ W6 V1 (by decide) (by decide)).mono ?_
  rintro e w7 ⟨u4, rfl, o4, b7'⟩
  have E7 := b7.trans (b7'.mono b7.size)
  have B7 := Lib.hid (B6.out.trans (E7.mono B6.out.size))
  have O := Lib.hid (O.out.below E7)
  have SR := SR.below E7
  have S1 := own_sgs o4
  obtain ⟨x4, c4, rfl⟩ := own_form o4
  clear V1 b7 b7' E7 o4
  go_wp2_with fail
  refine calls_gen (fun W => L.Vals W (.slice (some ⟨w7.heap.size, 0, none⟩) 1 1) ([(⟨#[102]⟩ : ByteArray)].map .string) ∧ Below w7.heap.size w7 W) ?_ ?_
  · exact ⟨vals1 (RowAt.new w7 9 _), al _ _⟩
  rintro W7 ⟨V1, b8⟩
  refine (rowK_any _ _ W7 V1 (by decide) (by decide)).mono ?_
  rintro e w8 ⟨u5, rfl, o5, b8'⟩
  have E8 := b8.trans (b8'.mono b8.size)
  have B8 := Lib.hid (B7.out.trans (E8.mono B7.out.size))
  have O := Lib.hid (O.out.below E8)
  have SR := SR.below E8
  have S1 := S1.below E8
  have S2 := own_sgs o5
  have CT := Lib.hid (Texts_any _ _ _ _ _ [] w8 (HW.out.below B8.out hs) (Nat.le_trans hs B8.out.size) S1 S2 (sgs_nil _) (by decide) (by decide) (by decide) (seg6 _ (by decide)) (seg6 _ (by decide)) (by intro p hp; cases hp))
  rw [f3.out] at CT
  obtain ⟨x5, c5, rfl⟩ := own_form o5
  clear V1 b8 b8' E8 o5 S1 S2
  go_wp2_with fail
  refine CT.out.mono ?_
  rintro e w9 ⟨t1, t2, rfl, p1, p2, b9⟩
  have B9 := Lib.hid (B8.out.trans (b9.mono B8.out.size))
  have O := Lib.hid (O.out.below b9)
  have SR := SR.below b9
  obtain ⟨y3, d3, rfl⟩ := own_form p1
  obtain ⟨y4, d4, rfl⟩ := own_form p2
  have C3 := Lib.hid (Three_any ⟨#[]⟩ ⟨#[]⟩ ⟨#[]⟩ ⟨#[97]⟩ ⟨#[97]⟩ ⟨#[98]⟩ true true true w9 (HW.out.below B9.out hs) (Nat.le_trans hs B9.out.size) (by decide) (by decide) (by decide))
  rw [f4.out] at C3
  dsimp only at C3
  unfold segV at C3
  clear p1 p2 b9 CT
  go_wp2_with fail
  refine C3.out.mono ?_
  rintro e wa ⟨rfl, ba⟩
  have Ba := Lib.hid (B9.out.trans (ba.mono B9.out.size))
  have O := Lib.hid (O.out.below ba)
  have SR := SR.below ba
  clear ba C3
  have Y := Lib.hid (sgs_at2 SR)
  clear SR f1 f2 f3 f4
  go_wp2_with fail
  refine calls_gen (fun W => L.Vals W (.slice (some ⟨wa.heap.size, 0, none⟩) 2 2) ([(⟨#[104]⟩ : ByteArray), (⟨#[103]⟩ : ByteArray)].map .string) ∧ Below wa.heap.size wa W) ?_ ?_
  · exact ⟨vals2 (RowAt.new wa 9 _), al _ _⟩
  rintro Wb ⟨V1, b1⟩
  have B1 := Lib.hid b1
  refine (SameS_any _ _ _ _ Wb (O.out.below b1) V1).mono ?_
  rintro e wc ⟨rfl, q, hq⟩
  have Bc : Hid (Below wa.heap.size wa wc) := Lib.hid (by rw [hq]; exact below_draws B1.out q)
  obtain ⟨b, off, rfl, k1, -⟩ := Y.out wc Bc.out 0 _ rfl
  have q1 : (((⟨#[104]⟩ : ByteArray)).toList == ((⟨#[104]⟩ : ByteArray)).toList) = true := yes _
  have q2 : ((⟨#[98]⟩ : ByteArray).toList == (⟨#[98]⟩ : ByteArray).toList) = true := yes _
  rw [decide_eq_true (rfl : ([(⟨#[104]⟩ : ByteArray), (⟨#[103]⟩ : ByteArray)] : TL) = [(⟨#[104]⟩ : ByteArray), (⟨#[103]⟩ : ByteArray)])]
  simp only [Nat.zero_mul, Nat.add_zero] at k1
  clear hq V1 b1
  go_wp2_with fail
  go_ret
  exact ⟨rfl, Ba.out.trans (Bc.out.mono Ba.out.size)⟩
end Go.Proofs.YtfjmhnnjgjcmeaaGreatDoor
