/-
  For the laws of cells: CellsThree returns true. Condition: the lexer's world.
-/
import Derived.Test.YtfjmhnnjgjcmeaaGreatDoorEc
namespace Go.Proofs.YtfjmhnnjgjcmeaaGreatDoor
open Go.RowKit Go.Shelf
set_option linter.unusedSimpArgs false
set_option linter.unusedVariables false

set_option maxRecDepth 100000 in
set_option maxHeartbeats 16000000 in
theorem cellsThree_any (s0 s1 s2 : ByteArray) (p q r : Bool) (u0 u1 u2 : Value) (k0 k1 k2 : TL) (w : World) (hW : X.LexW w) (h0 : L.Vals w u0 (k0.map .string)) (h1 : L.Vals w u1 (k1.map .string)) (h2 : L.Vals w u2 (k2.map .string)) (z0 : ∀ s ∈ k0, s.size ≤ maxLen) (z1 : ∀ s ∈ k1, s.size ≤ maxLen) (z2 : ∀ s ∈ k2, s.size ≤ maxLen) : Calls Tryz.prog 5 #[.agg #[.string s0, .string s1, .string s2], .agg #[.bool p, .bool q, .bool r], .agg #[u0, u1, u2]] w fun e w' => e = .returned (.bool true) ∧ Below w.heap.size w w' := by
  have hs : 4 ≤ w.heap.size := hW.size
  have HW := Lib.hid hW
  have H0 := Lib.hid h0
  have H1 := Lib.hid h1
  have H2 := Lib.hid h2
  have Z0 := Lib.hid z0
  have Z1 := Lib.hid z1
  have Z2 := Lib.hid z2
  obtain ⟨a0, n0, c0, rfl, hn0⟩ := vals_form h0
  obtain ⟨a1, n1, c1, rfl, hn1⟩ := vals_form h1
  obtain ⟨a2, n2, c2, rfl, hn2⟩ := vals_form h2
  obtain ⟨m0, hm0⟩ : ∃ m, Hid (s0.size = m) := ⟨_, Lib.hid rfl⟩
  obtain ⟨m1, hm1⟩ : ∃ m, Hid (s1.size = m) := ⟨_, Lib.hid rfl⟩
  obtain ⟨m2, hm2⟩ : ∃ m, Hid (s2.size = m) := ⟨_, Lib.hid rfl⟩
  clear hW h0 h1 h2 z0 z1 z2
  go_enter Tryz.func5, Tryz.ntmps5
  go_wp2_with fail
  refine calls_gen (fun W => RowAt W w.heap.size 43 #[.string s0, .string s1, .string s2] ∧ RowAt W (w.heap.size + 1) 44 #[.bool p, .bool q, .bool r] ∧ RowAt W (w.heap.size + 1 + 1) 45 #[.slice a0 n0 c0, .slice a1 n1 c1, .slice a2 n2 c2] ∧ Below w.heap.size w W) ?_ ?_
  · exact ⟨((RowAt.new w 43 _).alloc _).alloc _, (row_new (by simp)).alloc _, row_new (by simp), (((Below.refl _ w).alloc (Nat.le_refl _) _).alloc (by simp) _).alloc (by simp; omega) _⟩
  rintro W1 ⟨r0, r1, r2, b0⟩
  refine (cellsAwake_any W1 (HW.out.below b0 hs) (Nat.le_trans hs b0.size)).mono ?_
  rintro e w2 ⟨rfl, b1⟩
  have R0 := Lib.hid (r0.later b1)
  have R1 := Lib.hid (r1.later b1)
  have R2 := Lib.hid (r2.later b1)
  have B2 := Lib.hid (b0.trans (b1.mono b0.size))
  clear r0 r1 r2 b0 b1
  go_wp2_with fail
  go_loopw [8] (fun i wr => ∃ j : Nat, j ≤ 3 ∧ i = .int .i64 j ∧ Hid (0 < j → m0 ≤ 300 ∧ n0 ≤ 30) ∧ Hid (1 < j → m1 ≤ 300 ∧ n1 ≤ 30) ∧ Hid (2 < j → m2 ≤ 300 ∧ n2 ≤ 30) ∧ Hid (Below w2.heap.size w2 wr)) (fun i _ => 3 - (intOf i).toNat)
  case atStart => exact ⟨0, Nat.zero_le _, rfl, Lib.hid (fun h => absurd h (by decide)), Lib.hid (fun h => absurd h (by decide)), Lib.hid (fun h => absurd h (by decide)), Lib.hid (Below.refl _ _)⟩
  case round =>
    obtain ⟨j, hj, rfl, y0, y1, y2, hB⟩ := hrel
    have Q0 := R0.out.later hB.out
    have Q1 := R1.out.later hB.out
    have Q2 := R2.out.later hB.out
    have BW := Lib.hid (B2.out.trans (hB.out.mono B2.out.size))
    obtain rfl | rfl | rfl | rfl : j = 0 ∨ j = 1 ∨ j = 2 ∨ j = 3 := by omega
    · have e0 : wr.cell? ⟨w.heap.size, 0, none⟩ = some (.string s0) := Q0.cell rfl
      have e2 : wr.cell? ⟨w.heap.size + 1 + 1, 0, none⟩ = some (.slice a0 n0 c0) := Q2.cell rfl
      have t : s0.size = m0 := hm0.out
      clear Q0 Q1 Q2
      rcases Nat.lt_or_ge 300 m0 with g1 | g1
      · have q1 : decide ((m0 : Int) > 300) = true := decide_eq_true (by omega)
        go_wp2_with fail
        go_ret
        exact ⟨rfl, BW.out⟩
      · have q1 : decide ((m0 : Int) > 300) = false := decide_eq_false (by omega)
        rcases Nat.lt_or_ge 30 n0 with g2 | g2
        · have q2 : decide ((n0 : Int) > 30) = true := decide_eq_true (by omega)
          go_wp2_with fail
          go_ret
          exact ⟨rfl, BW.out⟩
        · have q2 : decide ((n0 : Int) > 30) = false := decide_eq_false (by omega)
          go_wp2_with fail
          exact ⟨⟨1, by omega, by go_num, Lib.hid (fun _ => ⟨g1, g2⟩), Lib.hid (fun h => absurd h (by omega)), Lib.hid (fun h => absurd h (by omega)), hB⟩, by simp [intOf]⟩
    · have e0 : wr.cell? ⟨w.heap.size, 1, none⟩ = some (.string s1) := Q0.cell rfl
      have e2 : wr.cell? ⟨w.heap.size + 1 + 1, 1, none⟩ = some (.slice a1 n1 c1) := Q2.cell rfl
      have t : s1.size = m1 := hm1.out
      clear Q0 Q1 Q2
      rcases Nat.lt_or_ge 300 m1 with g1 | g1
      · have q1 : decide ((m1 : Int) > 300) = true := decide_eq_true (by omega)
        go_wp2_with fail
        go_ret
        exact ⟨rfl, BW.out⟩
      · have q1 : decide ((m1 : Int) > 300) = false := decide_eq_false (by omega)
        rcases Nat.lt_or_ge 30 n1 with g2 | g2
        · have q2 : decide ((n1 : Int) > 30) = true := decide_eq_true (by omega)
          go_wp2_with fail
          go_ret
          exact ⟨rfl, BW.out⟩
        · have q2 : decide ((n1 : Int) > 30) = false := decide_eq_false (by omega)
          go_wp2_with fail
          exact ⟨⟨2, by omega, by go_num, Lib.hid (fun _ => y0.out (by omega)), Lib.hid (fun _ => ⟨g1, g2⟩), Lib.hid (fun h => absurd h (by omega)), hB⟩, by simp [intOf]⟩
    · have e0 : wr.cell? ⟨w.heap.size, 2, none⟩ = some (.string s2) := Q0.cell rfl
      have e2 : wr.cell? ⟨w.heap.size + 1 + 1, 2, none⟩ = some (.slice a2 n2 c2) := Q2.cell rfl
      have t : s2.size = m2 := hm2.out
      clear Q0 Q1 Q2
      rcases Nat.lt_or_ge 300 m2 with g1 | g1
      · have q1 : decide ((m2 : Int) > 300) = true := decide_eq_true (by omega)
        go_wp2_with fail
        go_ret
        exact ⟨rfl, BW.out⟩
      · have q1 : decide ((m2 : Int) > 300) = false := decide_eq_false (by omega)
        rcases Nat.lt_or_ge 30 n2 with g2 | g2
        · have q2 : decide ((n2 : Int) > 30) = true := decide_eq_true (by omega)
          go_wp2_with fail
          go_ret
          exact ⟨rfl, BW.out⟩
        · have q2 : decide ((n2 : Int) > 30) = false := decide_eq_false (by omega)
          go_wp2_with fail
          exact ⟨⟨3, by omega, by go_num, Lib.hid (fun _ => y0.out (by omega)), Lib.hid (fun _ => y1.out (by omega)), Lib.hid (fun _ => ⟨g1, g2⟩), hB⟩, by simp [intOf]⟩
    · obtain ⟨l0, x0⟩ := y0.out (by omega)
      obtain ⟨l1, x1⟩ := y1.out (by omega)
      obtain ⟨l2, x2⟩ := y2.out (by omega)
      have CT := Lib.hid (Three_any ⟨#[]⟩ ⟨#[]⟩ ⟨#[]⟩ s0 s1 s2 p q r wr (HW.out.below BW.out hs) (Nat.le_trans hs BW.out.size) (by rw [hm0.out]; omega) (by rw [hm1.out]; omega) (by rw [hm2.out]; omega))
      have CT2 := Lib.hid (fun W => RefThree_any s0 s1 s2 p q r W (by rw [hm0.out]; omega) (by rw [hm1.out]; omega) (by rw [hm2.out]; omega))
      have CO := Lib.hid (fun W (hB : Below w.heap.size w W) => Order_any _ _ _ k0 k1 k2 W (H0.out.below hB) (H1.out.below hB) (H2.out.below hB) (by rw [← hn0.out]; omega) (by rw [← hn1.out]; omega) (by rw [← hn2.out]; omega) Z0.out Z1.out Z2.out)
      have CO2 := Lib.hid (fun W (hB : Below w.heap.size w W) => RefOrder_any _ _ _ k0 k1 k2 W (H0.out.below hB) (H1.out.below hB) (H2.out.below hB) (by rw [← hn0.out]; omega) (by rw [← hn1.out]; omega) (by rw [← hn2.out]; omega) Z0.out Z1.out Z2.out)
      obtain ⟨⟨T1, T2, T3⟩, hT⟩ : ∃ t, threeP s0 s1 s2 p q r = t := ⟨_, rfl⟩
      obtain ⟨⟨O1, O2⟩, hO⟩ : ∃ t, orderP k0 k1 k2 = t := ⟨_, rfl⟩
      rw [hT] at CT CT2
      rw [hO] at CO CO2
      dsimp only at CT CT2 CO CO2
      unfold segV at CT
      have e0 : wr.cell? ⟨w.heap.size, 0, none⟩ = some (.string s0) := Q0.cell rfl
      have e1 : wr.cell? ⟨w.heap.size, 1, none⟩ = some (.string s1) := Q0.cell rfl
      have e2 : wr.cell? ⟨w.heap.size, 2, none⟩ = some (.string s2) := Q0.cell rfl
      have e3 : wr.cell? ⟨w.heap.size + 1, 0, none⟩ = some (.bool p) := Q1.cell rfl
      have e4 : wr.cell? ⟨w.heap.size + 1, 1, none⟩ = some (.bool q) := Q1.cell rfl
      have e5 : wr.cell? ⟨w.heap.size + 1, 2, none⟩ = some (.bool r) := Q1.cell rfl
      clear hT hO l0 l1 l2 x0 x1 x2 y0 y1 y2 Q0 Q1 Q2
      go_wp2_with fail
      refine CT.out.mono ?_
      rintro e w3 ⟨rfl, b3⟩
      have B3 := Lib.hid (hB.out.trans (b3.mono hB.out.size))
      clear b3 CT e0 e1 e2 e3 e4 e5 hB BW
      have Q0 := R0.out.later B3.out
      have Q1 := R1.out.later B3.out
      have e0 : w3.cell? ⟨w.heap.size, 0, none⟩ = some (.string s0) := Q0.cell rfl
      have e1 : w3.cell? ⟨w.heap.size, 1, none⟩ = some (.string s1) := Q0.cell rfl
      have e2 : w3.cell? ⟨w.heap.size, 2, none⟩ = some (.string s2) := Q0.cell rfl
      have e3 : w3.cell? ⟨w.heap.size + 1, 0, none⟩ = some (.bool p) := Q1.cell rfl
      have e4 : w3.cell? ⟨w.heap.size + 1, 1, none⟩ = some (.bool q) := Q1.cell rfl
      have e5 : w3.cell? ⟨w.heap.size + 1, 2, none⟩ = some (.bool r) := Q1.cell rfl
      clear Q0 Q1
      go_wp2_with fail
      refine (CT2.out w3).mono ?_
      rintro e w4 ⟨rfl, b4⟩
      have B4 := Lib.hid (B3.out.trans (b4.mono B3.out.size))
      clear b4 CT2 e0 e1 e2 e3 e4 e5 B3
      have BW := Lib.hid (B2.out.trans (B4.out.mono B2.out.size))
      have Q2 := R2.out.later B4.out
      have e0 : w4.cell? ⟨w.heap.size + 1 + 1, 0, none⟩ = some (.slice a0 n0 c0) := Q2.cell rfl
      have e1 : w4.cell? ⟨w.heap.size + 1 + 1, 1, none⟩ = some (.slice a1 n1 c1) := Q2.cell rfl
      have e2 : w4.cell? ⟨w.heap.size + 1 + 1, 2, none⟩ = some (.slice a2 n2 c2) := Q2.cell rfl
      clear Q2
      go_wp2_with fail
      refine (CO.out w4 BW.out).mono ?_
      rintro e w5 ⟨v1, rfl, o1, b5⟩
      have B5 := Lib.hid (B4.out.trans (b5.mono B4.out.size))
      have V1 := L.own_vals o1
      obtain ⟨f1, g1, rfl⟩ := own_form o1
      clear b5 o1 CO e0 e1 e2 B4 BW
      have BW := Lib.hid (B2.out.trans (B5.out.mono B2.out.size))
      have Q2 := R2.out.later B5.out
      have e0 : w5.cell? ⟨w.heap.size + 1 + 1, 0, none⟩ = some (.slice a0 n0 c0) := Q2.cell rfl
      have e1 : w5.cell? ⟨w.heap.size + 1 + 1, 1, none⟩ = some (.slice a1 n1 c1) := Q2.cell rfl
      have e2 : w5.cell? ⟨w.heap.size + 1 + 1, 2, none⟩ = some (.slice a2 n2 c2) := Q2.cell rfl
      clear Q2
      go_wp2_with fail
      refine (CO2.out w5 BW.out).mono ?_
      rintro e w6 ⟨v2, rfl, V2, b6⟩
      have B6 := Lib.hid (BW.out.trans (b6.mono BW.out.size))
      have CS := Lib.hid (SameS_any _ _ _ _ w6 (V1.below b6) V2)
      rw [decide_eq_true rfl] at CS
      obtain ⟨f2, g2', g2, rfl, -⟩ := vals_form V2
      clear b6 V1 V2 CO2 e0 e1 e2 B5 BW
      have q1 : (T1.toList == T1.toList) = true := yes _
      have q2 : (T2 == T2) = true := by simp
      have q3 : (T3 == T3) = true := by simp
      have q4 : (O2 == O2) = true := by simp
      go_wp2_with fail
      refine CS.out.mono ?_
      rintro e w7 ⟨rfl, d, rfl⟩
      go_wp2_with fail
      go_ret
      exact ⟨rfl, below_draws B6.out d⟩
end Go.Proofs.YtfjmhnnjgjcmeaaGreatDoor
