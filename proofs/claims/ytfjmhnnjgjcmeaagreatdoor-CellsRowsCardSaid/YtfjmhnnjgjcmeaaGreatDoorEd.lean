/-
  For the laws of cells: CellsRows returns true. Condition: the lexer's world.
-/
import Derived.Test.YtfjmhnnjgjcmeaaGreatDoorEc
namespace Go.Proofs.YtfjmhnnjgjcmeaaGreatDoor
open Go.RowKit Go.Shelf
set_option linter.unusedSimpArgs false
set_option linter.unusedVariables false

theorem segsame_self (v1 v2 : Value) (A : SL) (w : World) (h1 : Sgs w v1 A) (h2 : Sgs w v2 A) (z : okL A) : Calls Tryz.prog 27 #[v1, v2] w fun e w' => e = .returned (.bool true) ∧ Below w.heap.size w w' := by
  refine (SegSame_any v1 v2 A A w h1 h2 z z).mono ?_
  rintro e w' ⟨rfl, q, rfl⟩
  exact ⟨by rw [decide_eq_true (rfl : A = A)], below_draws (Below.refl _ _) q⟩
theorem consame_self (v1 v2 : Value) (A : CL) (w : World) (h1 : Cfs w v1 A) (h2 : Cfs w v2 A) (z : okC2 A) : Calls Tryz.prog 28 #[v1, v2] w fun e w' => e = .returned (.bool true) ∧ Below w.heap.size w w' := by
  refine (ConSame_any v1 v2 A A w h1 h2 z z).mono ?_
  rintro e w' ⟨rfl, q, rfl⟩
  exact ⟨by rw [decide_eq_true (rfl : A = A)], below_draws (Below.refl _ _) q⟩
set_option maxRecDepth 100000 in
set_option maxHeartbeats 16000000 in
theorem cellsRows_any (v0 v1 v2 : Value) (o a b : SL) (w : World) (hW : X.LexW w) (h0 : Sgs w v0 o) (h1 : Sgs w v1 a) (h2 : Sgs w v2 b) : Calls Tryz.prog 4 #[v0, v1, v2] w fun e w' => e = .returned (.bool true) ∧ Below w.heap.size w w' := by
  have hs : 4 ≤ w.heap.size := hW.size
  have CA := Lib.hid (cellsAwake_any w hW hs)
  have F0 := Lib.hid (fun W (hB : Below w.heap.size w W) => fewS_any v0 o W (h0.below hB))
  have F1 := Lib.hid (fun W (hB : Below w.heap.size w W) => fewS_any v1 a W (h1.below hB))
  have F2 := Lib.hid (fun W (hB : Below w.heap.size w W) => fewS_any v2 b W (h2.below hB))
  have Q0 := Lib.hid (@fewS_sizes o)
  have Q1 := Lib.hid (@fewS_sizes a)
  have Q2 := Lib.hid (@fewS_sizes b)
  have H0 := Lib.hid h0
  have H1 := Lib.hid h1
  have H2 := Lib.hid h2
  have HW := Lib.hid hW
  obtain ⟨z0, c0, rfl, -⟩ := h0
  obtain ⟨z1, c1, rfl, -⟩ := h1
  obtain ⟨z2, c2, rfl, -⟩ := h2
  obtain ⟨n0, hn0⟩ : ∃ n, Hid (o.length = n) := ⟨_, Lib.hid rfl⟩
  obtain ⟨n1, hn1⟩ : ∃ n, Hid (a.length = n) := ⟨_, Lib.hid rfl⟩
  obtain ⟨n2, hn2⟩ : ∃ n, Hid (b.length = n) := ⟨_, Lib.hid rfl⟩
  rw [hn0.out] at F0 H0 ⊢
  rw [hn1.out] at F1 H1 ⊢
  rw [hn2.out] at F2 H2 ⊢
  obtain ⟨d0, hd0⟩ : ∃ d, Hid (fewS o = d) := ⟨_, Lib.hid rfl⟩
  obtain ⟨d1, hd1⟩ : ∃ d, Hid (fewS a = d) := ⟨_, Lib.hid rfl⟩
  obtain ⟨d2, hd2⟩ : ∃ d, Hid (fewS b = d) := ⟨_, Lib.hid rfl⟩
  rw [hd0.out] at F0 Q0
  rw [hd1.out] at F1 Q1
  rw [hd2.out] at F2 Q2
  clear hW hd0 hd1 hd2
  go_enter Tryz.func4, Tryz.ntmps4
  go_wp2_with fail
  refine CA.out.mono ?_
  rintro e w1 ⟨rfl, b1⟩
  have B1 := Lib.hid b1
  clear b1
  go_wp2_with fail
  refine (F0.out w1 B1.out).mono ?_
  rintro e w2 ⟨rfl, rfl⟩
  go_wp2_with fail
  refine (F1.out _ B1.out).mono ?_
  rintro e w3 ⟨rfl, rfl⟩
  go_wp2_with fail
  refine (F2.out _ B1.out).mono ?_
  rintro e w4 ⟨rfl, rfl⟩
  by_cases hall : (d0 && d1 && d2) = false
  · cases d0 <;> cases d1 <;> cases d2 <;> first
      | (exact absurd hall (by decide))
      | (clear hall Q0 Q1 Q2; go_wp2_with fail; go_ret; exact ⟨rfl, B1.out⟩)
  obtain rfl : d0 = true := by cases d0 <;> simp_all
  obtain rfl : d1 = true := by cases d1 <;> simp_all
  obtain rfl : d2 = true := by cases d2 <;> simp_all
  clear hall
  obtain ⟨l0, s0⟩ := Q0.out rfl
  obtain ⟨l1, s1⟩ := Q1.out rfl
  obtain ⟨l2, s2⟩ := Q2.out rfl
  have CR := Lib.hid (fun W (hB : Below w.heap.size w W) => Row_any _ _ _ o a b W (HW.out.below hB hs) (Nat.le_trans hs hB.size) (H0.out.below hB) (H1.out.below hB) (H2.out.below hB) (by omega) (by omega) (by omega) s0 s1 s2)
  have CR2 := Lib.hid (fun W (hB : Below w.heap.size w W) => RefRow_any _ _ _ o a b W (H0.out.below hB) (H1.out.below hB) (H2.out.below hB) (by omega) (by omega) (by omega) s0 s1 s2)
  have CT := Lib.hid (fun W (hB : Below w.heap.size w W) => Texts_any _ _ _ o a b W (HW.out.below hB hs) (Nat.le_trans hs hB.size) (H0.out.below hB) (H1.out.below hB) (H2.out.below hB) (by omega) (by omega) (by omega) s0 s1 s2)
  have CT2 := Lib.hid (fun W (hB : Below w.heap.size w W) => RefTexts_any _ _ _ o a b W (H0.out.below hB) (H1.out.below hB) (H2.out.below hB) (by omega) (by omega) (by omega) (fun p hp => (s0 p hp).2) (fun p hp => (s1 p hp).2) (fun p hp => (s2 p hp).2))
  obtain ⟨kr1, kr2⟩ := row_ok s0 s1 s2
  obtain ⟨kt1, kt2⟩ := texts_ok s0 s1 s2
  obtain ⟨⟨R1, R2⟩, hR⟩ : ∃ r, rowG o a b = r := ⟨_, rfl⟩
  obtain ⟨⟨T1, T2⟩, hT⟩ : ∃ r, textsP o a b = r := ⟨_, rfl⟩
  rw [hR] at kr1 kr2 CR CR2
  rw [hT] at kt1 kt2 CT CT2
  dsimp only at kr1 kr2 kt1 kt2 CR CR2 CT CT2
  obtain ⟨m1, hm1⟩ : ∃ n, Hid (R1.length = n) := ⟨_, Lib.hid rfl⟩
  obtain ⟨m2, hm2⟩ : ∃ n, Hid (R2.length = n) := ⟨_, Lib.hid rfl⟩
  obtain ⟨m3, hm3⟩ : ∃ n, Hid (T1.length = n) := ⟨_, Lib.hid rfl⟩
  obtain ⟨m4, hm4⟩ : ∃ n, Hid (T2.length = n) := ⟨_, Lib.hid rfl⟩
  rw [hm1.out, hm2.out] at CR CR2
  rw [hm3.out, hm4.out] at CT CT2
  have Kr1 := Lib.hid kr1
  have Kr2 := Lib.hid kr2
  have Kt1 := Lib.hid kt1
  have Kt2 := Lib.hid kt2
  clear kr1 kr2 kt1 kt2 hR hT s0 s1 s2 l0 l1 l2 Q0 Q1 Q2 F0 F1 F2 CA
  go_wp2_with fail
  refine (CR.out _ B1.out).mono ?_
  rintro e w5 ⟨u1, u2, rfl, o1, o2, b5⟩
  have B5 := Lib.hid (B1.out.trans (b5.mono B1.out.size))
  have X1 := own_sgs o1
  have X2 := own_cfs o2
  obtain ⟨x1, y1, rfl⟩ := own_form o1
  obtain ⟨x2, y2, rfl⟩ := own_form o2
  clear o1 o2 b5
  go_wp2_with fail
  refine (CR2.out _ B5.out).mono ?_
  rintro e w6 ⟨u3, u4, rfl, o1, o2, b6⟩
  have B6 := Lib.hid (B5.out.trans (b6.mono B5.out.size))
  have X1 := X1.below b6
  have X2 := X2.below b6
  have X3 := own_sgs o1
  have X4 := own_cfs o2
  obtain ⟨x3, y3, rfl⟩ := own_form o1
  obtain ⟨x4, y4, rfl⟩ := own_form o2
  clear o1 o2 b6
  go_wp2_with fail
  refine (CT.out _ B6.out).mono ?_
  rintro e w7 ⟨u5, u6, rfl, o1, o2, b7⟩
  have B7 := Lib.hid (B6.out.trans (b7.mono B6.out.size))
  have X1 := X1.below b7
  have X2 := X2.below b7
  have X3 := X3.below b7
  have X4 := X4.below b7
  have X5 := own_sgs o1
  have X6 := own_cfs o2
  obtain ⟨x5, y5, rfl⟩ := own_form o1
  obtain ⟨x6, y6, rfl⟩ := own_form o2
  clear o1 o2 b7
  go_wp2_with fail
  refine (CT2.out _ B7.out).mono ?_
  rintro e w8 ⟨u7, u8, rfl, o1, o2, b8⟩
  have B8 := Lib.hid (B7.out.trans (b8.mono B7.out.size))
  have X1 := Lib.hid (X1.below b8)
  have X2 := Lib.hid (X2.below b8)
  have X3 := Lib.hid (X3.below b8)
  have X4 := Lib.hid (X4.below b8)
  have X5 := Lib.hid (X5.below b8)
  have X6 := Lib.hid (X6.below b8)
  have X7 := Lib.hid (own_sgs o1)
  have X8 := Lib.hid (own_cfs o2)
  obtain ⟨x7, y7, rfl⟩ := own_form o1
  obtain ⟨x8, y8, rfl⟩ := own_form o2
  clear o1 o2 b8 CR CR2 CT CT2
  go_wp2_with fail
  refine (segsame_self _ _ R1 w8 X1.out X3.out Kr1.out).mono ?_
  rintro e w9 ⟨rfl, b9⟩
  have E9 := Lib.hid b9
  clear b9
  go_wp2_with fail
  refine (consame_self _ _ R2 w9 (X2.out.below E9.out) (X4.out.below E9.out) Kr2.out).mono ?_
  rintro e wa ⟨rfl, ba⟩
  have Ea := Lib.hid (E9.out.trans (ba.mono E9.out.size))
  clear ba
  go_wp2_with fail
  refine (segsame_self _ _ T1 wa (X5.out.below Ea.out) (X7.out.below Ea.out) Kt1.out).mono ?_
  rintro e wb ⟨rfl, bb⟩
  have Eb := Lib.hid (Ea.out.trans (bb.mono Ea.out.size))
  clear bb
  go_wp2_with fail
  refine (consame_self _ _ T2 wb (X6.out.below Eb.out) (X8.out.below Eb.out) Kt2.out).mono ?_
  rintro e wc ⟨rfl, bc⟩
  have Ec := Lib.hid (Eb.out.trans (bc.mono Eb.out.size))
  clear bc
  go_wp2_with fail
  go_ret
  exact ⟨rfl, B8.out.trans (Ec.out.mono B8.out.size)⟩
end Go.Proofs.YtfjmhnnjgjcmeaaGreatDoor
