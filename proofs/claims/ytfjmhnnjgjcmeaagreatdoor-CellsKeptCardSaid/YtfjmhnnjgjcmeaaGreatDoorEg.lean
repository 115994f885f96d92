/-
  For the laws of cells: CellsKept returns true. Condition: the lexer's world.
-/
import Derived.Test.YtfjmhnnjgjcmeaaGreatDoorEe
namespace Go.Proofs.YtfjmhnnjgjcmeaaGreatDoor
open Go.RowKit Go.Shelf
set_option linter.unusedSimpArgs false
set_option linter.unusedVariables false

set_option maxRecDepth 100000 in
set_option maxHeartbeats 16000000 in
theorem cellsKept_any (v0 v1 v2 : Value) (o a b : SL) (w : World) (hW : X.LexW w) (h0 : Sgs w v0 o) (h1 : Sgs w v1 a) (h2 : Sgs w v2 b) : Calls Tryz.prog 8 #[v0, v1, v2] w fun e w' => e = .returned (.bool true) ∧ Below w.heap.size w w' := by
  have hs : 4 ≤ w.heap.size := hW.size
  have CA := Lib.hid (cellsAwake_any w hW hs)
  have F0 := Lib.hid (fun W (hB : Below w.heap.size w W) => fewS_any v0 o W (h0.below hB))
  have F1 := Lib.hid (fun W (hB : Below w.heap.size w W) => fewS_any v1 a W (h1.below hB))
  have F2 := Lib.hid (fun W (hB : Below w.heap.size w W) => fewS_any v2 b W (h2.below hB))
  have Q0 := Lib.hid (@fewS_sizes o)
  have H0 := Lib.hid h0
  have Q1 := Lib.hid (@fewS_sizes a)
  have H1 := Lib.hid h1
  have Q2 := Lib.hid (@fewS_sizes b)
  have H2 := Lib.hid h2
  have HW := Lib.hid hW
  obtain ⟨z0, c0, rfl, -⟩ := h0
  obtain ⟨z1, c1, rfl, -⟩ := h1
  obtain ⟨z2, c2, rfl, -⟩ := h2
  obtain ⟨n0, hn0⟩ : ∃ n, Hid (o.length = n) := ⟨_, Lib.hid rfl⟩
  rw [hn0.out] at F0 H0 ⊢
  obtain ⟨n1, hn1⟩ : ∃ n, Hid (a.length = n) := ⟨_, Lib.hid rfl⟩
  rw [hn1.out] at F1 H1 ⊢
  obtain ⟨n2, hn2⟩ : ∃ n, Hid (b.length = n) := ⟨_, Lib.hid rfl⟩
  rw [hn2.out] at F2 H2 ⊢
  obtain ⟨d0, hd0⟩ : ∃ d, Hid (fewS o = d) := ⟨_, Lib.hid rfl⟩
  rw [hd0.out] at F0 Q0
  obtain ⟨d1, hd1⟩ : ∃ d, Hid (fewS a = d) := ⟨_, Lib.hid rfl⟩
  rw [hd1.out] at F1 Q1
  obtain ⟨d2, hd2⟩ : ∃ d, Hid (fewS b = d) := ⟨_, Lib.hid rfl⟩
  rw [hd2.out] at F2 Q2
  clear hW hd0 hd1 hd2
  go_enter Tryz.func8, Tryz.ntmps8
  go_wp2_with fail
  refine CA.out.mono ?_
  rintro e w1 ⟨rfl, b1⟩
  have B1 := Lib.hid b1
  clear b1
  go_wp2_with fail
  refine (F0.out _ B1.out).mono ?_
  rintro e w2 ⟨rfl, rfl⟩
  go_wp2_with fail
  refine (F1.out _ B1.out).mono ?_
  rintro e w3 ⟨rfl, rfl⟩
  go_wp2_with fail
  refine (F2.out _ B1.out).mono ?_
  rintro e w4 ⟨rfl, rfl⟩
  by_cases hall : (d0 && d1 && d2) = false
  · cases d0 <;> cases d1 <;> cases d2 <;> first
      | (exact absurd hall (by decide))
      | (clear hall Q0 Q1 Q2; go_wp2_with fail; go_ret; exact ⟨rfl, B1.out⟩)
  obtain rfl : d0 = true := by cases d0 <;> simp_all
  obtain rfl : d1 = true := by cases d1 <;> simp_all
  obtain rfl : d2 = true := by cases d2 <;> simp_all
  clear hall
  obtain ⟨l0, s0⟩ := Q0.out rfl
  obtain ⟨l1, s1⟩ := Q1.out rfl
  obtain ⟨l2, s2⟩ := Q2.out rfl
  have CX := Lib.hid (fun W (hB : Below w.heap.size w W) => Row_any _ _ _ o a b W (HW.out.below hB hs) (Nat.le_trans hs hB.size) (H0.out.below hB) (H1.out.below hB) (H2.out.below hB) (by omega) (by omega) (by omega) s0 s1 s2)
  have RS := Lib.hid (fun s => @row_sides o a b s)
  have RK := Lib.hid (fun s => @row_kept o a b s)
  have RN := Lib.hid (row_nodup o a b)
  have GA := Lib.hid (fun s W (hB : Below w.heap.size w W) => Get_any _ a s W (H1.out.below hB))
  have GB := Lib.hid (fun s W (hB : Below w.heap.size w W) => Get_any _ b s W (H2.out.below hB))
  have GO := Lib.hid (fun s W (hB : Below w.heap.size w W) => Get_any _ o s W (H0.out.below hB))
  have XO := Lib.hid (sgs_at2 H0.out)
  obtain ⟨⟨R1, R2⟩, hR⟩ : ∃ r, rowG o a b = r := ⟨_, rfl⟩
  have hml := (row_len o a b).1
  rw [hR] at CX RS RK RN hml
  dsimp only at CX RS RK RN hml
  obtain ⟨m1, hm1⟩ : ∃ n, Hid (R1.length = n) := ⟨_, Lib.hid rfl⟩
  obtain ⟨m2, hm2⟩ : ∃ n, Hid (R2.length = n) := ⟨_, Lib.hid rfl⟩
  rw [hm1.out, hm2.out] at CX
  rw [hm1.out] at hml
  have hml : m1 ≤ 200 := by omega
  rw [hn0.out] at l0
  clear hR s0 s1 s2 l1 l2 Q0 Q1 Q2 F0 F1 F2 CA
  go_wp2_with fail
  refine (CX.out _ B1.out).mono ?_
  rintro e w5 ⟨u1, u2, rfl, o1, o2, b5⟩
  have B5 := Lib.hid (B1.out.trans (b5.mono B1.out.size))
  have X1 := own_sgs o1
  obtain ⟨x1, y1, rfl⟩ := own_form o1
  obtain ⟨x2, y2, rfl⟩ := own_form o2
  have XR := Lib.hid (sgs_at2 X1)
  have GR := Lib.hid (fun s W (hB : Below w5.heap.size w5 W) => Get_any _ R1 s W (X1.below hB))
  clear o1 o2 b5 CX X1
  go_wp2_with fail
  go_loopw [13] (fun i wr => ∃ k : Nat, k ≤ m1 ∧ i = .int .i64 k ∧ Hid (Below w5.heap.size w5 wr)) (fun i _ => m1 - (intOf i).toNat)
  case atStart => exact ⟨0, Nat.zero_le _, rfl, Lib.hid (Below.refl _ _)⟩
  case round =>
    obtain ⟨k, hk, rfl, hB⟩ := hrel
    obtain ⟨wo, rfl⟩ : ∃ wo, wo = wr := ⟨wr, rfl⟩
    have BO := Lib.hid (B5.out.trans (hB.out.mono B5.out.size))
    rcases Nat.lt_or_ge k m1 with hlt | hlt
    · obtain ⟨x, hx⟩ := get_lt (l := R1) (k := k) (by rw [hm1.out]; exact hlt)
      have hz := XR.out
      obtain ⟨bc, fc, haz, k1, k2⟩ := hz _ hB.out k x hx
      subst haz
      have Hz : Hid (∀ wr, Below w5.heap.size w5 wr → ∀ (j : Nat) (y : ByteArray × ByteArray), R1[j]? = some y → wr.cell? ⟨bc, fc + j * 2, none⟩ = some (.string y.1)) := Lib.hid (fun wr hB j y hy => by
        obtain ⟨b', f', e', k1, k2⟩ := hz wr hB j y hy
        cases e'
        exact k1)
      have D1 := Lib.hid (GA.out x.1 wo BO.out)
      have D2 := Lib.hid (GB.out x.1 wo BO.out)
      have HS := Lib.hid (RS.out _ (List.mem_map_of_mem (List.mem_of_getElem? hx)))
      have Hx := Lib.hid hx
      obtain ⟨⟨ga, pa⟩, hga⟩ : ∃ g, getP a x.1 = g := ⟨_, rfl⟩
      obtain ⟨⟨gb, pb⟩, hgb⟩ : ∃ g, getP b x.1 = g := ⟨_, rfl⟩
      rw [hga] at D1 HS
      rw [hgb] at D2 HS
      dsimp only at D1 D2 HS
      have f1 : decide (k < m1) = true := decide_eq_true hlt
      have f2 : (0 : Int) ≤ (k : Int) := by omega
      have f3 : (k : Int) < (m1 : Int) := by omega
      clear hx hz hga hgb k2
      have hpq : Hid (pa = true ∨ (pa = false ∧ pb = true)) := Lib.hid (by
        rcases HS.out with h | h
        · exact .inl h
        · cases pa
          · exact .inr ⟨rfl, h⟩
          · exact .inl rfl)
      clear HS
      go_wp2_with fail
      refine D1.out.mono ?_
      rintro e wa ⟨rfl, rfl⟩
      go_wp2_with fail
      refine D2.out.mono ?_
      rintro e wb ⟨rfl, rfl⟩
      clear D1 D2
      rcases hpq.out with rfl | ⟨rfl, rfl⟩
      all_goals
        clear hpq
        go_wp2_with fail
        go_loopw [18] (fun i wr => ∃ j : Nat, j ≤ k ∧ i = .int .i64 j ∧ Hid (Below w5.heap.size w5 wr)) (fun i _ => k - (intOf i).toNat)
        case atStart => exact ⟨0, Nat.zero_le _, rfl, hB⟩
        case round =>
          obtain ⟨j, hj, rfl, hB2⟩ := hrel
          obtain ⟨wp, rfl⟩ : ∃ wo, wo = wr := ⟨wr, rfl⟩
          rcases Nat.lt_or_ge j k with hjt | hjt
          · obtain ⟨y, hy⟩ := get_lt (l := R1) (k := j) (by rw [hm1.out]; omega)
            have k3 := Hz.out wp hB2.out j y hy
            have k4 := Hz.out wp hB2.out k x Hx.out
            have hne : ¬ y.1 = x.1 := fun e => by
              have h1 : (R1.map Prod.fst)[j]? = some y.1 := by rw [List.getElem?_map, hy]; rfl
              have h2 : (R1.map Prod.fst)[k]? = some x.1 := by rw [List.getElem?_map, Hx.out]; rfl
              have h3 := (List.getElem?_inj (i := j) (j := k) (by rw [List.length_map, hm1.out]; omega) RN.out).1 (by rw [h1, h2, e])
              omega
            have f4 : (y.1.toList == x.1.toList) = false := by rw [eqB]; exact decide_eq_false hne
            have f5 : decide (j < k) = true := decide_eq_true hjt
            have f6 : (0 : Int) ≤ (j : Int) := by omega
            have f7 : (j : Int) < (m1 : Int) := by omega
            clear hy hne
            go_wp2_with fail
            go_quiet (fail)
            go_wp2_with fail
            exact ⟨⟨j + 1, by omega, by go_num, Lib.hid (below_draws hB2.out nq)⟩, by simp [intOf]; omega⟩
          · have f5 : decide (j < k) = false := decide_eq_false (by omega)
            go_wp2_with fail
            exact ⟨⟨k + 1, by omega, by go_num, hB2⟩, by simp [intOf]; omega⟩
    · have f1 : decide (k < m1) = false := decide_eq_false (by omega)
      go_wp2_with fail
      go_loopw [19] (fun i wr => ∃ j : Nat, j ≤ n0 ∧ i = .int .i64 j ∧ Hid (Below w5.heap.size w5 wr)) (fun i _ => n0 - (intOf i).toNat)
      case atStart => exact ⟨0, Nat.zero_le _, rfl, hB⟩
      case round =>
        obtain ⟨j, hj, rfl, hB3⟩ := hrel
        obtain ⟨wp, rfl⟩ : ∃ wo, wo = wr := ⟨wr, rfl⟩
        have BP := Lib.hid (B5.out.trans (hB3.out.mono B5.out.size))
        clear f1 hlt hk BO hB
        rcases Nat.lt_or_ge j n0 with hjt | hjt
        · obtain ⟨x, hx⟩ := get_lt (l := o) (k := j) (by rw [hn0.out]; exact hjt)
          have hz := XO.out
          obtain ⟨bc, fc, haz, k1, -⟩ := hz wp BP.out j x hx
          subst haz
          have hmem : x.1 ∈ o.map Prod.fst := List.mem_map_of_mem (List.mem_of_getElem? hx)
          have D0 := Lib.hid (GO.out x.1 wp BP.out)
          have D1 := Lib.hid (GA.out x.1 wp BP.out)
          have D2 := Lib.hid (GB.out x.1 wp BP.out)
          have D3 := Lib.hid (GR.out x.1 wp hB3.out)
          have HK := Lib.hid (RK.out _ hmem)
          obtain ⟨⟨go, po⟩, hgo⟩ : ∃ g, getP o x.1 = g := ⟨_, rfl⟩
          obtain ⟨⟨ga, pa⟩, hga⟩ : ∃ g, getP a x.1 = g := ⟨_, rfl⟩
          obtain ⟨⟨gb, pb⟩, hgb⟩ : ∃ g, getP b x.1 = g := ⟨_, rfl⟩
          rw [hgo, hga, hgb] at HK
          rw [hgo] at D0
          rw [hga] at D1
          rw [hgb] at D2
          dsimp only at D0 D1 D2 HK
          have f1 : decide (j < n0) = true := decide_eq_true hjt
          have f2 : (0 : Int) ≤ (j : Int) := by omega
          have f3 : (j : Int) < (n0 : Int) := by omega
          clear hx hz hgo hga hgb hmem
          go_wp2_with fail
          refine D0.out.mono ?_
          rintro e wa ⟨rfl, rfl⟩
          go_wp2_with fail
          refine D1.out.mono ?_
          rintro e wb ⟨rfl, rfl⟩
          go_wp2_with fail
          refine D2.out.mono ?_
          rintro e wc ⟨rfl, rfl⟩
          clear D0 D1 D2
          cases pa with
          | false =>
            clear D3 HK
            go_wp2_with fail
            exact ⟨⟨j + 1, by omega, by go_num, hB3⟩, by simp [intOf]; omega⟩
          | true =>
            cases pb with
            | false =>
              clear D3 HK
              go_wp2_with fail
              exact ⟨⟨j + 1, by omega, by go_num, hB3⟩, by simp [intOf]; omega⟩
            | true =>
              by_cases h1 : ga = go
              · have g1 : (ga.toList != go.toList) = false := by rw [bne, eqB, decide_eq_true h1]; rfl
                have g1' : (ga.toList == go.toList) = true := by rw [eqB, decide_eq_true h1]
                by_cases h2 : gb = go
                · have g2 : (gb.toList != go.toList) = false := by rw [bne, eqB, decide_eq_true h2]; rfl
                  have g2' : (gb.toList == go.toList) = true := by rw [eqB, decide_eq_true h2]
                  have g3 : (go.toList != go.toList) = false := by simp
                  have g3' : (go.toList == go.toList) = true := by simp
                  rw [HK.out rfl rfl h1 h2] at D3
                  clear h1 h2 HK
                  go_wp2_with fail
                  refine D3.out.mono ?_
                  rintro e wd ⟨rfl, rfl⟩
                  go_wp2_with fail
                  exact ⟨⟨j + 1, by omega, by go_num, hB3⟩, by simp [intOf]; omega⟩
                · have g2 : (gb.toList != go.toList) = true := by rw [bne, eqB, decide_eq_false h2]; rfl
                  have g2' : (gb.toList == go.toList) = false := by rw [eqB, decide_eq_false h2]
                  clear h1 h2 D3 HK
                  go_wp2_with fail
                  exact ⟨⟨j + 1, by omega, by go_num, hB3⟩, by simp [intOf]; omega⟩
              · have g1 : (ga.toList != go.toList) = true := by rw [bne, eqB, decide_eq_false h1]; rfl
                have g1' : (ga.toList == go.toList) = false := by rw [eqB, decide_eq_false h1]
                clear h1 D3 HK
                go_wp2_with fail
                exact ⟨⟨j + 1, by omega, by go_num, hB3⟩, by simp [intOf]; omega⟩
        · have f1 : decide (j < n0) = false := decide_eq_false (by omega)
          go_wp2_with fail
          go_ret
          exact ⟨rfl, BP.out⟩
end Go.Proofs.YtfjmhnnjgjcmeaaGreatDoor
