/-
  For the laws of cells: CellsTurned returns true. Condition: the lexer's world.
-/
import Derived.Test.YtfjmhnnjgjcmeaaGreatDoorEd
namespace Go.Proofs.YtfjmhnnjgjcmeaaGreatDoor
open Go.RowKit Go.Shelf
set_option linter.unusedSimpArgs false
set_option linter.unusedVariables false

set_option maxRecDepth 100000 in
set_option maxHeartbeats 16000000 in
theorem cellsTurned_any (v0 v1 v2 : Value) (o a b : SL) (w : World) (hW : X.LexW w) (h0 : Sgs w v0 o) (h1 : Sgs w v1 a) (h2 : Sgs w v2 b) : Calls Tryz.prog 7 #[v0, v1, v2] w fun e w' => e = .returned (.bool true) ∧ Below w.heap.size w w' := by
  have hs : 4 ≤ w.heap.size := hW.size
  have CA := Lib.hid (cellsAwake_any w hW hs)
  have F0 := Lib.hid (fun W (hB : Below w.heap.size w W) => fewS_any v0 o W (h0.below hB))
  have F1 := Lib.hid (fun W (hB : Below w.heap.size w W) => fewS_any v1 a W (h1.below hB))
  have F2 := Lib.hid (fun W (hB : Below w.heap.size w W) => fewS_any v2 b W (h2.below hB))
  have Q0 := Lib.hid (@fewS_sizes o)
  have H0 := Lib.hid h0
  have Q1 := Lib.hid (@fewS_sizes a)
  have H1 := Lib.hid h1
  have Q2 := Lib.hid (@fewS_sizes b)
  have H2 := Lib.hid h2
  have HW := Lib.hid hW
  obtain ⟨z0, c0, rfl, -⟩ := h0
  obtain ⟨z1, c1, rfl, -⟩ := h1
  obtain ⟨z2, c2, rfl, -⟩ := h2
  obtain ⟨n0, hn0⟩ : ∃ n, Hid (o.length = n) := ⟨_, Lib.hid rfl⟩
  rw [hn0.out] at F0 H0 ⊢
  obtain ⟨n1, hn1⟩ : ∃ n, Hid (a.length = n) := ⟨_, Lib.hid rfl⟩
  rw [hn1.out] at F1 H1 ⊢
  obtain ⟨n2, hn2⟩ : ∃ n, Hid (b.length = n) := ⟨_, Lib.hid rfl⟩
  rw [hn2.out] at F2 H2 ⊢
  obtain ⟨d0, hd0⟩ : ∃ d, Hid (fewS o = d) := ⟨_, Lib.hid rfl⟩
  rw [hd0.out] at F0 Q0
  obtain ⟨d1, hd1⟩ : ∃ d, Hid (fewS a = d) := ⟨_, Lib.hid rfl⟩
  rw [hd1.out] at F1 Q1
  obtain ⟨d2, hd2⟩ : ∃ d, Hid (fewS b = d) := ⟨_, Lib.hid rfl⟩
  rw [hd2.out] at F2 Q2
  clear hW hd0 hd1 hd2
  go_enter Tryz.func7, Tryz.ntmps7
  go_wp2_with fail
  refine CA.out.mono ?_
  rintro e w1 ⟨rfl, b1⟩
  have B1 := Lib.hid b1
  clear b1
  go_wp2_with fail
  refine (F0.out _ B1.out).mono ?_
  rintro e w2 ⟨rfl, rfl⟩
  go_wp2_with fail
  refine (F1.out _ B1.out).mono ?_
  rintro e w3 ⟨rfl, rfl⟩
  go_wp2_with fail
  refine (F2.out _ B1.out).mono ?_
  rintro e w4 ⟨rfl, rfl⟩
  by_cases hall : (d0 && d1 && d2) = false
  · cases d0 <;> cases d1 <;> cases d2 <;> first
      | (exact absurd hall (by decide))
      | (clear hall Q0 Q1 Q2; go_wp2_with fail; go_ret; exact ⟨rfl, B1.out⟩)
  obtain rfl : d0 = true := by cases d0 <;> simp_all
  obtain rfl : d1 = true := by cases d1 <;> simp_all
  obtain rfl : d2 = true := by cases d2 <;> simp_all
  clear hall
  obtain ⟨l0, s0⟩ := Q0.out rfl
  obtain ⟨l1, s1⟩ := Q1.out rfl
  obtain ⟨l2, s2⟩ := Q2.out rfl
  have CX := Lib.hid (fun W (hB : Below w.heap.size w W) => Texts_any _ _ _ o a b W (HW.out.below hB hs) (Nat.le_trans hs hB.size) (H0.out.below hB) (H1.out.below hB) (H2.out.below hB) (by omega) (by omega) (by omega) s0 s1 s2)
  have CY := Lib.hid (fun W (hB : Below w.heap.size w W) => Texts_any _ _ _ o b a W (HW.out.below hB hs) (Nat.le_trans hs hB.size) (H0.out.below hB) (H2.out.below hB) (H1.out.below hB) (by omega) (by omega) (by omega) s0 s2 s1)
  have TT := texts_turned (fun p hp => (s0 p hp).2) (fun p hp => (s1 p hp).2) (fun p hp => (s2 p hp).2)
  obtain ⟨kx1, kx2⟩ := texts_ok s0 s1 s2
  obtain ⟨ky1, ky2⟩ := texts_ok s0 s2 s1
  obtain ⟨⟨R1, R2⟩, hR⟩ : ∃ r, textsP o a b = r := ⟨_, rfl⟩
  obtain ⟨⟨T1, T2⟩, hT⟩ : ∃ r, textsP o b a = r := ⟨_, rfl⟩
  rw [hR] at CX TT kx1 kx2
  rw [hT] at CY TT ky1 ky2
  dsimp only at CX CY TT kx1 kx2 ky1 ky2
  obtain ⟨t1, t2, t3, t4⟩ := TT
  obtain ⟨m1, hm1⟩ : ∃ n, Hid (R1.length = n) := ⟨_, Lib.hid rfl⟩
  obtain ⟨m2, hm2⟩ : ∃ n, Hid (R2.length = n) := ⟨_, Lib.hid rfl⟩
  have hm3 : Hid (T1.length = m1) := Lib.hid (by rw [← t1, hm1.out])
  have hm4 : Hid (T2.length = m2) := Lib.hid (by rw [← t2, hm2.out])
  rw [hm1.out, hm2.out] at CX
  rw [hm3.out, hm4.out] at CY
  have Kx2 := Lib.hid kx2
  have Ky2 := Lib.hid ky2
  have G3 := Lib.hid t3
  have G4 := Lib.hid t4
  obtain ⟨hl1, hl2⟩ := texts_len o a b
  rw [hR] at hl1 hl2
  dsimp only at hl1 hl2
  rw [hm1.out] at hl1
  rw [hm2.out] at hl2
  have hl1 : m1 ≤ 60 := by omega
  have hl2 : m2 ≤ 60 := by omega
  clear kx1 kx2 ky1 ky2 t1 t2 t3 t4 hR hT s0 s1 s2 l0 l1 l2 Q0 Q1 Q2 F0 F1 F2 CA
  go_wp2_with fail
  refine (CX.out _ B1.out).mono ?_
  rintro e w5 ⟨u1, u2, rfl, o1, o2, b5⟩
  have B5 := Lib.hid (B1.out.trans (b5.mono B1.out.size))
  have X1 := own_sgs o1
  have X2 := own_cfs o2
  obtain ⟨x1, y1, rfl⟩ := own_form o1
  obtain ⟨x2, y2, rfl⟩ := own_form o2
  clear o1 o2 b5
  go_wp2_with fail
  refine (CY.out _ B5.out).mono ?_
  rintro e w6 ⟨u3, u4, rfl, o1, o2, b6⟩
  have B6 := Lib.hid (B5.out.trans (b6.mono B5.out.size))
  have X1 := Lib.hid (sgs_at2 (X1.below b6))
  have X2 := Lib.hid (cfs_at2 (X2.below b6))
  have X3 := own_sgs o1
  obtain ⟨x3, y3, rfl⟩ := own_form o1
  obtain ⟨x4, y4, rfl⟩ := own_form o2
  have X4 := Lib.hid (cfs_at2 (own_cfs o2))
  have GT := Lib.hid (fun s W (hB : Below w6.heap.size w6 W) => Get_any _ T1 s W (X3.below hB))
  clear o1 o2 b6 CX CY X3
  have q1 : ((m1 : Int) != (m1 : Int)) = false := by simp
  have q2 : ((m2 : Int) != (m2 : Int)) = false := by simp
  go_wp2_with fail
  go_loopw [15] (fun i wr => ∃ k : Nat, k ≤ m1 ∧ i = .int .i64 k ∧ Hid (Below w6.heap.size w6 wr)) (fun i _ => m1 - (intOf i).toNat)
  case atStart => exact ⟨0, Nat.zero_le _, rfl, Lib.hid (Below.refl _ _)⟩
  case round =>
    obtain ⟨k, hk, rfl, hB0⟩ := hrel
    obtain ⟨wq, rfl⟩ : ∃ wo, wo = wr := ⟨wr, rfl⟩
    rcases Nat.lt_or_ge k m1 with hlt | hlt
    · obtain ⟨x, hx⟩ := get_lt (l := R1) (k := k) (by rw [hm1.out]; exact hlt)
      have hz := X1.out
      obtain ⟨b, f, haz, k1, k2⟩ := hz wq hB0.out k x hx
      subst haz
      have D := Lib.hid (GT.out x.1 wq hB0.out)
      rw [G3.out x (List.mem_of_getElem? hx)] at D
      obtain ⟨s1, s2⟩ := x
      dsimp only at k1 k2 D
      have f1 : decide (k < m1) = true := decide_eq_true hlt
      have f2 : (0 : Int) ≤ (k : Int) := by omega
      have f3 : (k : Int) < (m1 : Int) := by omega
      have f4 : (s2.toList != s2.toList) = false := by simp
      clear hx hz
      go_wp2_with fail
      refine D.out.mono ?_
      rintro e wa ⟨rfl, rfl⟩
      go_wp2_with fail
      exact ⟨⟨k + 1, by omega, by go_num, hB0⟩, by simp [intOf]; omega⟩
    · have f1 : decide (k < m1) = false := decide_eq_false (by omega)
      go_wp2_with fail
      go_loopw [18] (fun i wr => ∃ j : Nat, j ≤ m2 ∧ i = .int .i64 j ∧ Hid (Below w6.heap.size w6 wr)) (fun i _ => m2 - (intOf i).toNat)
      case atStart => exact ⟨0, Nat.zero_le _, rfl, hB0⟩
      case round =>
        obtain ⟨j, hj, rfl, hB⟩ := hrel
        obtain ⟨wo, rfl⟩ : ∃ wo, wo = wr := ⟨wr, rfl⟩
        clear f1 hlt hk
        rcases Nat.lt_or_ge j m2 with hjt | hjt
        · obtain ⟨x, hx⟩ := get_lt (l := R2) (k := j) (by rw [hm2.out]; exact hjt)
          have hz := X2.out
          obtain ⟨bc, fc, haz, -, -⟩ := hz _ (Below.refl _ _) j x hx
          subst haz
          have Hz : Hid (∀ wr, Below w6.heap.size w6 wr → wr.cell? ⟨bc, fc + j * 2, none⟩ = some (.int .i64 x.1) ∧ wr.cell? ⟨bc, fc + j * 2 + 1, none⟩ = some (.string x.2)) := Lib.hid (fun wr hB => by
            obtain ⟨b', f', e', k1, k2⟩ := hz wr hB j x hx
            cases e'
            exact ⟨k1, k2⟩)
          have Hc := Lib.hid (G4.out x (List.mem_of_getElem? hx))
          have Hw := Lib.hid (Kx2.out x (List.mem_of_getElem? hx))
          have f1 : decide (j < m2) = true := decide_eq_true hjt
          have f2 : (0 : Int) ≤ (j : Int) := by omega
          have f3 : (j : Int) < (m2 : Int) := by omega
          clear hx hz
          go_wp2_with fail
          go_loopw [19, 20] (fun c i wr => ∃ h : Nat, h ≤ m2 ∧ i = .int .i64 h ∧ (∃ cn : Nat, Hid (cntC (T2.take h) x = cn) ∧ cn ≤ h ∧ c = .int .i64 cn) ∧ Hid (Below w6.heap.size w6 wr)) (fun _ i _ => m2 - (intOf i).toNat)
          case atStart => exact ⟨0, Nat.zero_le _, rfl, ⟨0, Lib.hid rfl, Nat.le_refl _, rfl⟩, hB⟩
          case round =>
            obtain ⟨h, hh, rfl, ⟨cn, hcn, hch, rfl⟩, hB2⟩ := hrel
            obtain ⟨wp, rfl⟩ : ∃ wo, wo = wr := ⟨wr, rfl⟩
            rcases Nat.lt_or_ge h m2 with hht | hht
            · obtain ⟨y, hy⟩ := get_lt (l := T2) (k := h) (by rw [hm4.out]; exact hht)
              have hz2 := X4.out
              obtain ⟨bd, fd, haz, k3, k4⟩ := hz2 wp hB2.out h y hy
              subst haz
              obtain ⟨k1, k2⟩ := Hz.out wp hB2.out
              have EQ := eq55 (Ky2.out y (List.mem_of_getElem? hy)).1 (Ky2.out y (List.mem_of_getElem? hy)).2 Hw.out.1 Hw.out.2
              have hst := Lib.hid (cnt_take (x := x) hy)
              have f4 : decide (h < m2) = true := decide_eq_true hht
              have f5 : (0 : Int) ≤ (h : Int) := by omega
              have f6 : (h : Int) < (m2 : Int) := by omega
              clear hy hz2
              by_cases hxy : y = x
              · rw [decide_eq_true (by rw [hxy]; exact ⟨rfl, rfl⟩)] at EQ
                have hcn2 : Hid (cntC (T2.take (h + 1)) x = cn + 1) := Lib.hid (by rw [hst.out, hcn.out, if_pos hxy])
                clear hxy
                go_wp2_with fail
                go_quiet (fail)
                go_wp2_with fail
                exact ⟨⟨h + 1, by omega, by go_num, ⟨cn + 1, hcn2, by omega, by go_num⟩, Lib.hid (below_draws hB2.out nq)⟩, by simp [intOf]; omega⟩
              · rw [decide_eq_false (fun h => hxy (Prod.ext h.1 h.2))] at EQ
                have hcn2 : Hid (cntC (T2.take (h + 1)) x = cn) := Lib.hid (by rw [hst.out, hcn.out, if_neg hxy]; rfl)
                clear hxy
                go_wp2_with fail
                go_quiet (fail)
                go_wp2_with fail
                exact ⟨⟨h + 1, by omega, by go_num, ⟨cn, hcn2, by omega, rfl⟩, Lib.hid (below_draws hB2.out nq)⟩, by simp [intOf]; omega⟩
            · have f4 : decide (h < m2) = false := decide_eq_false (by omega)
              obtain rfl : cn = 1 := by
                have h1 := hcn.out
                rw [List.take_of_length_le (by rw [hm4.out]; exact hht), Hc.out] at h1
                exact h1.symm
              clear hcn hch
              go_wp2_with fail
              exact ⟨⟨j + 1, by omega, by go_num, hB2⟩, by simp [intOf]; omega⟩
        · have f1 : decide (j < m2) = false := decide_eq_false (by omega)
          go_wp2_with fail
          go_ret
          exact ⟨rfl, B6.out.trans (hB.out.mono B6.out.size)⟩
end Go.Proofs.YtfjmhnnjgjcmeaaGreatDoor
