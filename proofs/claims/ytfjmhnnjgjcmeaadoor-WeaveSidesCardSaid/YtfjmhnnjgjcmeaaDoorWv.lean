/-
  For the laws of weave: WeaveSides returns true. Condition: the lexer's world.
-/
import Derived.Test.YtfjmhnnjgjcmeaaDoorWu
namespace Go.Proofs.YtfjmhnnjgjcmeaaDoor
open Go.RowKit Go.Shelf
set_option linter.unusedSimpArgs false
set_option linter.unusedVariables false

theorem bs_inj {x y : By} (h : bs x = bs y) : x = y := by rw [← tl_bs x, ← tl_bs y, h]
set_option maxRecDepth 100000 in
set_option maxHeartbeats 8000000 in
theorem weaveSides_any (o a b : ByteArray) (w : World) (hW : X.LexW w) : Calls Tryd.prog 4 #[.string o, .string a, .string b] w fun e w' => e = .returned (.bool true) ∧ Below w.heap.size w w' := by
  have hs : 4 ≤ w.heap.size := hW.size
  have CA := Lib.hid (awake_any w hW hs)
  cases hf : fewB o a b with
  | false =>
    have Hf := Lib.hid hf
    clear hf
    go_enter Tryd.func4, Tryd.ntmps4
    go_wp2_with fail
    refine CA.out.mono ?_
    rintro e w1 ⟨rfl, b1⟩
    have B1 := Lib.hid b1
    clear b1
    go_wp2_with fail
    refine (few_any o a b w1).mono ?_
    rw [Hf.out]
    rintro e w2 ⟨rfl, rfl⟩
    go_wp2_with fail
    go_ret
    exact ⟨rfl, B1.out⟩
  | true =>
    obtain ⟨h1, h2, h3⟩ := few_sizes hf
    have Hf := Lib.hid hf
    clear hf
    have CL := Lib.hid (fun W => Lines_any o a b W (by omega) (by omega) (by omega))
    have HS := Lib.hid (linesP_sides o a b h1 h2 h3)
    have HO := Lib.hid (linesP_o o a b h1 h2 h3)
    obtain ⟨n1, n2⟩ := linesP_ok o a b h1 h2 h3
    obtain ⟨L, hL⟩ : ∃ L, Hid (linesP o a b = L) := ⟨_, Lib.hid rfl⟩
    rw [hL.out] at CL HS HO n1 n2
    have HN := Lib.hid n2
    clear n2 hL h1 h2 h3
    go_enter Tryd.func4, Tryd.ntmps4
    go_wp2_with fail
    refine CA.out.mono ?_
    rintro e w1 ⟨rfl, b1⟩
    have B1 := Lib.hid b1
    clear b1
    go_wp2_with fail
    refine (few_any o a b w1).mono ?_
    rw [Hf.out]
    rintro e w2 ⟨rfl, rfl⟩
    go_wp2_with fail
    refine (CL.out _).mono ?_
    rintro e w3 ⟨v, rfl, hv, b3⟩
    have B3 := Lib.hid (B1.out.trans (b3.mono B1.out.size))
    have HV := Lib.hid hv
    clear b3
    obtain ⟨r, cap, rfl, hc, hm, hx⟩ := prts_at hv
    have HX := Lib.hid hx
    clear hx hv
    unfold maxLen at hm
    obtain ⟨n, hn⟩ : ∃ n, Hid (L.length = n) := ⟨_, Lib.hid rfl⟩
    rw [hn.out] at hc HV n1 ⊢
    go_wp2_with fail
    go_loopw [10, 11] (fun c u wr => ∃ k j : Nat, u = .int .i64 k ∧ c = .int .i64 j ∧ k ≤ n ∧ j ≤ k ∧ Hid (nCl (L.take k) = j) ∧ Hid (Below w3.heap.size w3 wr)) (fun _ u _ => n + 1 - (intOf u).toNat)
    case atStart => exact ⟨0, 0, rfl, rfl, Nat.zero_le _, Nat.zero_le _, Lib.hid rfl, Lib.hid (Below.refl _ _)⟩
    case round =>
      obtain ⟨k, j, rfl, rfl, hk, hjk, hj, hB⟩ := hrel
      rcases Nat.lt_or_ge k n with hkn | hkn
      · obtain ⟨p, hp⟩ := get_lt (l := L) (k := k) (by rw [hn.out]; exact hkn)
        obtain ⟨b, off, rfl, e0, e1, e2, e3⟩ := HX.out wr hB.out k p hp
        have d1 : decide ((k : Int) < (n : Int)) = true := decide_eq_true (by omega)
        have d2 : (0 : Int) ≤ (k : Int) := by omega
        have d3 : (k : Int) < (n : Int) := by omega
        have Hp := Lib.hid hp
        obtain ⟨sy, sn⟩ := HS.out k p hp
        have hnx := Lib.hid (nCl_take L k p hp)
        clear hp e1
        cases hcl : p.clash with
        | true =>
          have s1 := sy hcl
          rw [hcl] at e0
          have q1 : ((bs p.a).toList == (bs p.b).toList) = false := by rw [eqB]; exact decide_eq_false (fun h => s1 (bs_inj h))
          have q1' : (p.a == p.b) = false := beq_eq_false_iff_ne.2 s1
          have hnx2 : Hid (nCl (L.take (k + 1)) = j + 1) := Lib.hid (by rw [hnx.out, hj.out, hcl]; rfl)
          clear s1 sy sn hnx
          go_wp2_with fail
          go_quiet (fail)
          go_wp2_with fail
          exact ⟨⟨k + 1, j + 1, by go_num, by go_num, by omega, by omega, hnx2, Lib.hid (below_draws hB.out nq)⟩, by simp [intOf]; omega⟩
        | false =>
          obtain ⟨s1, s2⟩ := sn hcl
          have S2 := Lib.hid s2
          rw [hcl] at e0
          have q1 : ((bs p.a).toList != (bs p.b).toList) = false := by rw [s1]; simp
          have q1' : (p.a == p.b) = true := beq_iff_eq.2 s1
          have hnx2 : Hid (nCl (L.take (k + 1)) = j) := Lib.hid (by rw [hnx.out, hj.out, hcl]; rfl)
          clear s1 s2 sy sn hnx
          rcases Nat.eq_zero_or_pos k with hk0 | hk0
          · have q2 : decide ((k : Int) > 0) = false := decide_eq_false (by omega)
            have q2' : decide (0 < k) = false := decide_eq_false (by omega)
            clear hk0
            go_wp2_with fail
            go_quiet (fail)
            go_wp2_with fail
            exact ⟨⟨k + 1, j, by go_num, by go_num, by omega, by omega, hnx2, Lib.hid (below_draws hB.out nq)⟩, by simp [intOf]; omega⟩
          · have q2 : decide ((k : Int) > 0) = true := decide_eq_true (by omega)
            obtain ⟨q, hq⟩ := get_lt (l := L) (k := k - 1) (by rw [hn.out]; omega)
            have hqc := S2.out q hk0 hq
            obtain ⟨b', off', eb, f0, -, -, -⟩ := HX.out wr hB.out (k - 1) q hq
            cases eb
            rw [hqc] at f0
            obtain ⟨z, rfl⟩ : ∃ z, k = z + 1 := ⟨k - 1, by omega⟩
            rw [Nat.add_sub_cancel] at f0
            have q3 : IntKind.i64.wrap ((z : Int) + 1 - 1) = (z : Int) := by rw [Int.add_sub_cancel]; exact Go.IntWalk.i64_in _ (by omega)
            have q4 : (z : Int) < (n : Int) := by omega
            clear hq hqc
            go_wp2_with fail
            go_quiet (fail)
            go_wp2_with fail
            exact ⟨⟨z + 1 + 1, j, by go_num, by go_num, by omega, by omega, hnx2, Lib.hid (below_draws hB.out nq)⟩, by simp [intOf]; omega⟩
      · have d1 : decide ((k : Int) < (n : Int)) = false := decide_eq_false (by omega)
        have hjL : Hid (nCl L = j) := Lib.hid (by have h1 := hj.out; rwa [List.take_of_length_le (by rw [hn.out]; exact hkn)] at h1)
        have hL : L.length ≤ 100000 := by rw [hn.out]; omega
        have hv1 : Hid (Prts wr (.slice r n cap) L) := Lib.hid (HV.out.below hB.out)
        have hbw := Lib.hid (B3.out.trans (hB.out.mono B3.out.size))
        have CJ := Lib.hid (Join_any _ L hL HN.out wr hv1.out)
        have CS := Lib.hid (fun m W (h : Below wr.heap.size wr W) => Side_any _ L m hL HN.out W (hv1.out.below h))
        have CS0 : Hid (∀ W, Below wr.heap.size wr W → Calls Tryd.prog 10 #[.slice r n cap, .int .i64 0] W fun e w' => e = .returned (.string o) ∧ Below W.heap.size W w') := Lib.hid (fun W h => by
          have h1 := CS.out 0 W h
          rw [HO.out] at h1
          simpa only [bs_tl] using h1)
        have CS3 : Hid (∀ W, Below wr.heap.size wr W → Calls Tryd.prog 10 #[.slice r n cap, .int .i64 3] W fun e w' => e = .returned (.string (bs [])) ∧ Below W.heap.size W w') := Lib.hid (fun W h => by
          have h1 := CS.out 3 W h
          rwa [side3] at h1)
        have z0 : (o.toList == o.toList) = true := yes _
        have z1 : ((bs []).toList == (ByteArray.mk #[]).toList) = true := yes _
        cases hcb : clashP L with
        | true =>
          have hJ : joinP L = ([], false) := by unfold joinP; rw [hcb]; rfl
          have hj0 : ((j : Int) == 0) = false := by
            have : ¬ j = 0 := fun h => by
              have := (nCl_0 L).1 (hjL.out.trans h)
              rw [hcb] at this; cases this
            rw [beq_eq_false_iff_ne]; omega
          rw [hJ] at CJ
          dsimp only at CJ
          clear hJ hcb
          go_wp2_with fail
          refine CJ.out.mono ?_
          rintro e w4 ⟨rfl, b4⟩
          have B4 := Lib.hid b4
          clear b4
          go_wp2_with fail
          refine (CS0.out _ B4.out).mono ?_
          rintro e w5 ⟨rfl, b5⟩
          have B5 := Lib.hid (B4.out.trans (b5.mono B4.out.size))
          clear b5
          go_wp2_with fail
          refine (CS3.out _ B5.out).mono ?_
          rintro e w6 ⟨rfl, b6⟩
          have B6 := Lib.hid (B5.out.trans (b6.mono B5.out.size))
          clear b6
          go_wp2_with fail
          go_ret
          exact ⟨rfl, hbw.out.trans (B6.out.mono hbw.out.size)⟩
        | false =>
          have hJ : joinP L = (sideP L 1, true) := by unfold joinP; rw [hcb]; rfl
          have hj0 : ((j : Int) == 0) = true := by
            have : j = 0 := hjL.out.symm.trans ((nCl_0 L).2 hcb)
            rw [this]; rfl
          have h12 := join_ab HS.out hcb
          rw [hJ] at CJ
          dsimp only at CJ
          have CS1 := Lib.hid (CS.out 1)
          have CS2 := Lib.hid (CS.out 2)
          rw [← h12] at CS2
          obtain ⟨S, hS⟩ : ∃ S, Hid (sideP L 1 = S) := ⟨_, Lib.hid rfl⟩
          rw [hS.out] at CJ CS1 CS2
          have z2 : ((bs S).toList == (bs S).toList) = true := yes _
          clear hJ hcb h12
          go_wp2_with fail
          refine CJ.out.mono ?_
          rintro e w4 ⟨rfl, b4⟩
          have B4 := Lib.hid b4
          clear b4
          go_wp2_with fail
          refine (CS0.out _ B4.out).mono ?_
          rintro e w5 ⟨rfl, b5⟩
          have B5 := Lib.hid (B4.out.trans (b5.mono B4.out.size))
          clear b5
          go_wp2_with fail
          refine (CS1.out _ B5.out).mono ?_
          rintro e w6 ⟨rfl, b6⟩
          have B6 := Lib.hid (B5.out.trans (b6.mono B5.out.size))
          clear b6
          go_wp2_with fail
          refine (CS2.out _ B6.out).mono ?_
          rintro e w7 ⟨rfl, b7⟩
          have B7 := Lib.hid (B6.out.trans (b7.mono B6.out.size))
          clear b7
          go_wp2_with fail
          refine (CS3.out _ B7.out).mono ?_
          rintro e w8 ⟨rfl, b8⟩
          have B8 := Lib.hid (B7.out.trans (b8.mono B7.out.size))
          clear b8
          go_wp2_with fail
          go_ret
          exact ⟨rfl, hbw.out.trans (B8.out.mono hbw.out.size)⟩
end Go.Proofs.YtfjmhnnjgjcmeaaDoor
