/-
  For the laws of weave: the document's own Lines, Tokens and Text. Condition: texts of at most 600 bytes.
-/
import Derived.Test.YtfjmhnnjgjcmeaaGreatDoorWC
import Derived.Test.YtfjmhnnjgjcmeaaGreatDoorWB
import Derived.Test.YtfjmhnnjgjcmeaaGreatDoorPA
namespace Go.Proofs.YtfjmhnnjgjcmeaaGreatDoor
open Go.RowKit Go.Shelf
set_option linter.unusedSimpArgs false
set_option linter.unusedVariables false

set_option maxRecDepth 100000 in
theorem RefLines_any (o a b : ByteArray) (w : World) (h1 : o.size ≤ 1999) (h2 : a.size ≤ 1999) (h3 : b.size ≤ 1999) : Calls Tryz.prog 19 #[.string o, .string a, .string b] w (Gives2 w (linesP o a b)) := by
  have C1 := Lib.hid (fun W => S.RefSplit_any o (by omega) W)
  have C2 := Lib.hid (fun W => S.RefSplit_any a (by omega) W)
  have C3 := Lib.hid (fun W => S.RefSplit_any b (by omega) W)
  have C4 := Lib.hid (fun v1 v2 v3 W (g1 : L.Vals W v1 ((S.lns o).map .string)) (g2 : L.Vals W v2 ((S.lns a).map .string)) (g3 : L.Vals W v3 ((S.lns b).map .string)) => RefParts08_any v1 v2 v3 (S.lns o) (S.lns a) (S.lns b) W g1 g2 g3 (Nat.le_trans (S.lns_len o) (by omega)) (Nat.le_trans (S.lns_len a) (by omega)) (Nat.le_trans (S.lns_len b) (by omega)) (fun s hs => Nat.le_trans (lns_small o s hs) (by omega)) (fun s hs => Nat.le_trans (lns_small a s hs) (by omega)) (fun s hs => Nat.le_trans (lns_small b s hs) (by omega)))
  have hR : Hid (linesP o a b = wovenP (S.lns o) (S.lns a) (S.lns b)) := Lib.hid rfl
  rw [hR.out]
  obtain ⟨R, hR2⟩ : ∃ R, Hid (wovenP (S.lns o) (S.lns a) (S.lns b) = R) := ⟨_, Lib.hid rfl⟩
  rw [hR2.out] at C4 ⊢
  obtain ⟨x1, hx1⟩ : ∃ x, Hid ((S.lns o).map Value.string = x) := ⟨_, Lib.hid rfl⟩
  obtain ⟨x2, hx2⟩ : ∃ x, Hid ((S.lns a).map Value.string = x) := ⟨_, Lib.hid rfl⟩
  obtain ⟨x3, hx3⟩ : ∃ x, Hid ((S.lns b).map Value.string = x) := ⟨_, Lib.hid rfl⟩
  rw [hx1.out] at C1 C4
  rw [hx2.out] at C2 C4
  rw [hx3.out] at C3 C4
  unfold Gives2
  go_enter Tryz.func19, Tryz.ntmps19
  go_wp2_with fail
  refine (C1.out _).mono ?_
  rintro e w1 ⟨v1, rfl, g1, b1⟩
  have G1 := Lib.hid g1
  have B1 := Lib.hid b1
  obtain ⟨a1, c1, rfl, -⟩ := g1
  clear b1
  go_wp2_with fail
  refine (C2.out _).mono ?_
  rintro e w2 ⟨v2, rfl, g2, b2⟩
  have G12 := Lib.hid (G1.out.below b2)
  have G2 := Lib.hid g2
  have B2 := Lib.hid (B1.out.trans (b2.mono B1.out.size))
  obtain ⟨a2, c2, rfl, -⟩ := g2
  clear b2
  go_wp2_with fail
  refine (C3.out _).mono ?_
  rintro e w3 ⟨v3, rfl, g3, b3⟩
  have G13 := Lib.hid (G12.out.below b3)
  have G23 := Lib.hid (G2.out.below b3)
  have G3 := Lib.hid g3
  have B3 := Lib.hid (B2.out.trans (b3.mono B2.out.size))
  obtain ⟨a3, c3, rfl, -⟩ := g3
  clear b3
  go_wp2_with fail
  refine (C4.out _ _ _ _ G13.out G23.out G3.out).mono ?_
  rintro e w4 ⟨v4, rfl, g4, b4⟩
  have G4 := Lib.hid g4
  have B4 := Lib.hid (B3.out.trans (b4.mono B3.out.size))
  obtain ⟨a4, c4, rfl, -⟩ := g4
  clear b4
  go_wp2_with fail
  go_ret
  exact ⟨_, rfl, G4.out, B4.out⟩
set_option maxRecDepth 100000 in
set_option maxHeartbeats 2000000 in
theorem RefTokens_any (o a b : ByteArray) (w : World) (h1 : o.size ≤ 1999) (h2 : a.size ≤ 1999) (h3 : b.size ≤ 1999) : Calls Tryz.prog 12 #[.string o, .string a, .string b] w fun e w' => ∃ v, e = .returned (.tuple #[v, .bool (toksP o a b).2]) ∧ Prts w' v (toksP o a b).1 ∧ Below w.heap.size w w' := by
  have C1 := Lib.hid (fun W => RefUnits_any o W (by omega))
  have C2 := Lib.hid (fun W => RefUnits_any a W (by omega))
  have C3 := Lib.hid (fun W => RefUnits_any b W (by omega))
  have C4 := Lib.hid (fun v1 v2 v3 W (g1 : L.Vals W v1 ((unitsP (tl o)).1.map .string)) (g2 : L.Vals W v2 ((unitsP (tl a)).1.map .string)) (g3 : L.Vals W v3 ((unitsP (tl b)).1.map .string)) => RefParts08_any v1 v2 v3 (unitsP (tl o)).1 (unitsP (tl a)).1 (unitsP (tl b)).1 W g1 g2 g3 (Nat.le_trans (unitsP_len o) (by omega)) (Nat.le_trans (unitsP_len a) (by omega)) (Nat.le_trans (unitsP_len b) (by omega)) (fun s hs => Nat.le_trans (unitsP_mem o s hs) (by omega)) (fun s hs => Nat.le_trans (unitsP_mem a s hs) (by omega)) (fun s hs => Nat.le_trans (unitsP_mem b s hs) (by omega)))
  have hR : Hid (toksP o a b = if (unitsP (tl o)).2 && (unitsP (tl a)).2 && (unitsP (tl b)).2 then (wovenP (unitsP (tl o)).1 (unitsP (tl a)).1 (unitsP (tl b)).1, true) else ([], false)) := Lib.hid rfl
  obtain ⟨R, hR2⟩ : ∃ R, Hid (wovenP (unitsP (tl o)).1 (unitsP (tl a)).1 (unitsP (tl b)).1 = R) := ⟨_, Lib.hid rfl⟩
  rw [hR2.out] at C4 hR
  obtain ⟨x1, hx1⟩ : ∃ x, Hid ((unitsP (tl o)).1.map Value.string = x) := ⟨_, Lib.hid rfl⟩
  obtain ⟨x2, hx2⟩ : ∃ x, Hid ((unitsP (tl a)).1.map Value.string = x) := ⟨_, Lib.hid rfl⟩
  obtain ⟨x3, hx3⟩ : ∃ x, Hid ((unitsP (tl b)).1.map Value.string = x) := ⟨_, Lib.hid rfl⟩
  obtain ⟨q1, hq1⟩ : ∃ x, Hid ((unitsP (tl o)).2 = x) := ⟨_, Lib.hid rfl⟩
  obtain ⟨q2, hq2⟩ : ∃ x, Hid ((unitsP (tl a)).2 = x) := ⟨_, Lib.hid rfl⟩
  obtain ⟨q3, hq3⟩ : ∃ x, Hid ((unitsP (tl b)).2 = x) := ⟨_, Lib.hid rfl⟩
  unfold UnitGives at C1 C2 C3
  rw [hx1.out] at C1 C4
  rw [hx2.out] at C2 C4
  rw [hx3.out] at C3 C4
  rw [hq1.out] at C1 hR
  rw [hq2.out] at C2 hR
  rw [hq3.out] at C3 hR
  obtain ⟨⟨T, tb⟩, hT⟩ : ∃ T, Hid (toksP o a b = T) := ⟨_, Lib.hid rfl⟩
  rw [hT.out] at hR ⊢
  dsimp only
  go_enter Tryz.func12, Tryz.ntmps12
  go_wp2_with fail
  refine (C1.out _).mono ?_
  rintro e w1 ⟨v1, rfl, g1, b1⟩
  have G1 := Lib.hid g1
  have B1 := Lib.hid b1
  obtain ⟨a1, c1, rfl, -⟩ := g1
  clear b1
  go_wp2_with fail
  refine (C2.out _).mono ?_
  rintro e w2 ⟨v2, rfl, g2, b2⟩
  have G12 := Lib.hid (G1.out.below b2)
  have G2 := Lib.hid g2
  have B2 := Lib.hid (B1.out.trans (b2.mono B1.out.size))
  obtain ⟨a2, c2, rfl, -⟩ := g2
  clear b2
  go_wp2_with fail
  refine (C3.out _).mono ?_
  rintro e w3 ⟨v3, rfl, g3, b3⟩
  have G13 := Lib.hid (G12.out.below b3)
  have G23 := Lib.hid (G2.out.below b3)
  have G3 := Lib.hid g3
  have B3 := Lib.hid (B2.out.trans (b3.mono B2.out.size))
  obtain ⟨a3, c3, rfl, -⟩ := g3
  clear b3
  cases q1 with
  | false =>
    have hr : Hid (T = [] ∧ tb = false) := Lib.hid (by have h := hR.out; simpa using h)
    go_wp2_with fail
    go_ret2
    exact ⟨_, by rw [hr.out.2]; rfl, by rw [hr.out.1]; exact prts_nil _, B3.out⟩
  | true =>
    cases q2 with
    | false =>
      have hr : Hid (T = [] ∧ tb = false) := Lib.hid (by have h := hR.out; simpa using h)
      go_wp2_with fail
      go_ret2
      exact ⟨_, by rw [hr.out.2]; rfl, by rw [hr.out.1]; exact prts_nil _, B3.out⟩
    | true =>
      cases q3 with
      | false =>
        have hr : Hid (T = [] ∧ tb = false) := Lib.hid (by have h := hR.out; simpa using h)
        go_wp2_with fail
        go_ret2
        exact ⟨_, by rw [hr.out.2]; rfl, by rw [hr.out.1]; exact prts_nil _, B3.out⟩
      | true =>
        have hr : Hid (T = R ∧ tb = true) := Lib.hid (by have h := hR.out; simpa using h)
        go_wp2_with fail
        refine (C4.out _ _ _ _ G13.out G23.out G3.out).mono ?_
        rintro e w4 ⟨v4, rfl, g4, b4⟩
        have G4 := Lib.hid g4
        have B4 := Lib.hid (B3.out.trans (b4.mono B3.out.size))
        obtain ⟨a4, c4, rfl, -⟩ := g4
        clear b4
        go_wp2_with fail
        go_ret2
        exact ⟨_, by rw [hr.out.2]; rfl, by rw [hr.out.1]; exact G4.out, B4.out⟩
set_option maxRecDepth 100000 in
set_option maxHeartbeats 4000000 in
theorem RefText_any (o a b : ByteArray) (w : World) (h1 : o.size ≤ 600) (h2 : a.size ≤ 600) (h3 : b.size ≤ 600) : Calls Tryz.prog 16 #[.string o, .string a, .string b] w fun e w' => e = .returned (.tuple #[.string (bs (textP o a b).1), .bool (textP o a b).2]) ∧ Below w.heap.size w w' := by
  have CT := Lib.hid (RefTokens_any o a b w (by omega) (by omega) (by omega))
  have CL := Lib.hid (fun W => RefLines_any o a b W (by omega) (by omega) (by omega))
  obtain ⟨T, hT⟩ : ∃ T, Hid (toksP o a b = T) := ⟨_, Lib.hid rfl⟩
  obtain ⟨N, hN⟩ : ∃ N, Hid (linesP o a b = N) := ⟨_, Lib.hid rfl⟩
  obtain ⟨n1, n2⟩ := linesP_ok o a b h1 h2 h3
  obtain ⟨t1, t2⟩ := toksP_ok o a b h1 h2 h3
  rw [hT.out] at CT t1 t2
  rw [hN.out] at CL n1 n2
  have HT2 := Lib.hid t2
  have HN2 := Lib.hid n2
  clear t2 n2
  by_cases e1 : a = o
  · have d1 : (a.toList == o.toList) = true := by rw [eqB]; exact decide_eq_true e1
    have hr : Hid (textP o a b = (tl b, true)) := Lib.hid (by unfold textP; rw [if_pos e1])
    rw [hr.out]
    clear e1
    go_enter Tryz.func16, Tryz.ntmps16
    go_wp2_with fail
    go_ret2
    exact ⟨by rw [bs_tl]; rfl, Below.refl _ _⟩
  · have d1 : (a.toList == o.toList) = false := by rw [eqB]; exact decide_eq_false e1
    by_cases e2 : b = o ∨ b = a
    · have hr : Hid (textP o a b = (tl a, true)) := Lib.hid (by unfold textP; rw [if_neg e1, if_pos e2])
      rw [hr.out]
      clear e1
      by_cases e3 : b = o
      · have d2 : (b.toList == o.toList) = true := by rw [eqB]; exact decide_eq_true e3
        clear e2 e3
        go_enter Tryz.func16, Tryz.ntmps16
        go_wp2_with fail
        go_ret2
        exact ⟨by rw [bs_tl]; rfl, Below.refl _ _⟩
      · have d2 : (b.toList == o.toList) = false := by rw [eqB]; exact decide_eq_false e3
        have d3 : (a.toList == b.toList) = true := by rw [eqB]; exact decide_eq_true (e2.resolve_left e3).symm
        clear e2 e3
        go_enter Tryz.func16, Tryz.ntmps16
        go_wp2_with fail
        go_ret2
        exact ⟨by rw [bs_tl]; rfl, Below.refl _ _⟩
    · have d2 : (b.toList == o.toList) = false := by rw [eqB]; exact decide_eq_false (fun h => e2 (.inl h))
      have d3 : (a.toList == b.toList) = false := by rw [eqB]; exact decide_eq_false (fun h => e2 (.inr h.symm))
      have hr : Hid (textP o a b = if T.2 && !clashP T.1 then joinP T.1 else joinP N) := Lib.hid (by unfold textP; rw [if_neg e1, if_neg e2, hT.out, hN.out])
      clear e1 e2
      have last : Hid (∀ W, Below w.heap.size w W → Calls Tryz.prog 19 #[.string o, .string a, .string b] W (Gives2 W N)) := Lib.hid (fun W _ => CL.out W)
      go_enter Tryz.func16, Tryz.ntmps16
      go_wp2_with fail
      refine CT.out.mono ?_
      rintro e w1 ⟨v, rfl, hv, hb⟩
      have Hv := Lib.hid hv
      have Hb := Lib.hid hb
      have CJ := Lib.hid (RefJoin_any v T.1 t1 HT2.out w1 hv)
      obtain ⟨r, c, rfl, -⟩ := hv
      clear hb
      obtain ⟨nT, hnT⟩ : ∃ n, Hid (T.1.length = n) := ⟨_, Lib.hid rfl⟩
      rw [hnT.out] at CJ ⊢
      obtain ⟨cb, hcb⟩ : ∃ cb, Hid (clashP T.1 = cb) := ⟨_, Lib.hid rfl⟩
      obtain ⟨tb, htb⟩ : ∃ tb, Hid (T.2 = tb) := ⟨_, Lib.hid rfl⟩
      have hj : Hid (joinP T.1 = if cb then ([], false) else (sideP T.1 1, true)) := Lib.hid (by unfold joinP; rw [hcb.out])
      rw [htb.out]
      rw [hj.out] at CJ
      rw [hcb.out, htb.out, hj.out] at hr
      obtain ⟨SS, hSS⟩ : ∃ SS, Hid (sideP T.1 1 = SS) := ⟨_, Lib.hid rfl⟩
      rw [hSS.out] at CJ hr
      cases tb with
      | false =>
        go_wp2_with fail
        refine (last.out w1 Hb.out).mono ?_
        rintro e w3 ⟨v3, rfl, hv3, hb3⟩
        have CN := Lib.hid (RefJoin_any v3 N n1 HN2.out w3 hv3)
        have hb03 : Hid (Below w.heap.size w w3) := Lib.hid ((Hb.out).trans (hb3.mono (Hb.out).size))
        obtain ⟨r3, c3, rfl, -⟩ := hv3
        clear hb3
        obtain ⟨nN, hnN⟩ : ∃ n, Hid (N.length = n) := ⟨_, Lib.hid rfl⟩
        rw [hnN.out] at CN ⊢
        go_wp2_with fail
        refine CN.out.mono ?_
        rintro e w4 ⟨rfl, hb4⟩
        have Hb4 : Hid (Below w.heap.size w w4) := Lib.hid (hb03.out.trans (hb4.mono hb03.out.size))
        clear hb4
        go_wp2_with fail
        go_ret2
        exact ⟨by rw [hr.out]; rfl, Hb4.out⟩
      | true =>
        cases cb with
        | true =>
          go_wp2_with fail
          refine CJ.out.mono ?_
          rintro e w2 ⟨rfl, hb2⟩
          have Hb2 : Hid (Below w.heap.size w w2) := Lib.hid (Hb.out.trans (hb2.mono Hb.out.size))
          clear hb2
          go_wp2_with fail
          refine (last.out w2 Hb2.out).mono ?_
          rintro e w3 ⟨v3, rfl, hv3, hb3⟩
          have CN := Lib.hid (RefJoin_any v3 N n1 HN2.out w3 hv3)
          have hb03 : Hid (Below w.heap.size w w3) := Lib.hid ((Hb2.out).trans (hb3.mono (Hb2.out).size))
          obtain ⟨r3, c3, rfl, -⟩ := hv3
          clear hb3
          obtain ⟨nN, hnN⟩ : ∃ n, Hid (N.length = n) := ⟨_, Lib.hid rfl⟩
          rw [hnN.out] at CN ⊢
          go_wp2_with fail
          refine CN.out.mono ?_
          rintro e w4 ⟨rfl, hb4⟩
          have Hb4 : Hid (Below w.heap.size w w4) := Lib.hid (hb03.out.trans (hb4.mono hb03.out.size))
          clear hb4
          go_wp2_with fail
          go_ret2
          exact ⟨by rw [hr.out]; rfl, Hb4.out⟩
        | false =>
          go_wp2_with fail
          refine CJ.out.mono ?_
          rintro e w2 ⟨rfl, hb2⟩
          have Hb2 : Hid (Below w.heap.size w w2) := Lib.hid (Hb.out.trans (hb2.mono Hb.out.size))
          clear hb2
          go_wp2_with fail
          go_ret2
          exact ⟨by rw [hr.out]; rfl, Hb2.out⟩
set_option maxRecDepth 100000 in
set_option maxHeartbeats 2000000 in
theorem SameP_yes (v1 v2 : Value) (X : List Pt) (w : World) (h1 : Prts w v1 X) (h2 : Prts w v2 X) :
    Calls Tryz.prog 17 #[v1, v2] w fun e w' => e = .returned (.bool true) ∧ Below w.heap.size w w' := by
  obtain ⟨a1, c1, rfl, hc1, hm1, hat1⟩ := prts_at h1
  obtain ⟨a2, c2, rfl, hc2, hm2, hat2⟩ := prts_at h2
  unfold maxLen at hm1 hm2
  obtain ⟨n, hn⟩ : ∃ n, Hid (X.length = n) := ⟨_, Lib.hid rfl⟩
  rw [hn.out] at hc1 hc2 ⊢
  have Hat1 := Lib.hid hat1
  have Hat2 := Lib.hid hat2
  clear hat1 hat2 h1 h2
  go_enter Tryz.func17, Tryz.ntmps17
  go_wp2_with fail
  go_loopw [5] (fun i wr => ∃ k : Nat, k ≤ n ∧ i = .int .i64 k ∧ Hid (Below w.heap.size w wr)) (fun i _ => n + 1 - (intOf i).toNat)
  case atStart => exact ⟨0, Nat.zero_le _, rfl, Lib.hid (Below.refl _ _)⟩
  case round =>
    obtain ⟨k, hk, rfl, hB⟩ := hrel
    rcases Nat.lt_or_ge k n with hlt | hlt
    · obtain ⟨x, hx⟩ := get_lt (l := X) (k := k) (by rw [hn.out]; exact hlt)
      obtain ⟨b1, o1, rfl, e0, e1, e2, e3⟩ := Hat1.out wr hB.out k x hx
      obtain ⟨b2, o2, rfl, g0, g1, g2, g3⟩ := Hat2.out wr hB.out k x hx
      have d1 : decide ((k : Int) < (n : Int)) = true := decide_eq_true (by omega)
      have d2 : (0 : Int) ≤ (k : Int) := by omega
      have d3 : (k : Int) < (n : Int) := by omega
      clear hx
      go_wp2_with fail
      go_quiet (fail)
      go_wp2_with fail
      exact ⟨⟨k + 1, by omega, by go_num, Lib.hid (below_draws hB.out nq)⟩, by simp [intOf]; omega⟩
    · have d1 : decide ((k : Int) < (n : Int)) = false := decide_eq_false (by omega)
      go_wp2_with fail
      go_ret
      exact ⟨rfl, hB.out⟩
end Go.Proofs.YtfjmhnnjgjcmeaaGreatDoor
/-
  For the laws of weave: WeaveParts returns true. Condition: the lexer's world.
-/
namespace Go.Proofs.YtfjmhnnjgjcmeaaGreatDoor
open Go.RowKit Go.Shelf
set_option linter.unusedSimpArgs false
set_option linter.unusedVariables false

theorem few_sizes {o a b : ByteArray} (h : fewB o a b = true) : o.size ≤ 600 ∧ a.size ≤ 600 ∧ b.size ≤ 600 := by
  unfold fewB at h
  rw [Bool.and_eq_true, Bool.and_eq_true, decide_eq_true_eq, decide_eq_true_eq, decide_eq_true_eq] at h
  exact ⟨h.1.1, h.1.2, h.2⟩
set_option maxRecDepth 100000 in
set_option maxHeartbeats 8000000 in
theorem weaveParts_any (o a b : ByteArray) (w : World) (hW : X.LexW w) : Calls Tryz.prog 3 #[.string o, .string a, .string b] w fun e w' => e = .returned (.bool true) ∧ Below w.heap.size w w' := by
  have hs : 4 ≤ w.heap.size := hW.size
  have CA := Lib.hid (awake_any w hW hs)
  cases hf : fewB o a b with
  | false =>
    have Hf := Lib.hid hf
    clear hf
    go_enter Tryz.func3, Tryz.ntmps3
    go_wp2_with fail
    refine CA.out.mono ?_
    rintro e w1 ⟨rfl, b1⟩
    have B1 := Lib.hid b1
    clear b1
    go_wp2_with fail
    refine (few_any o a b w1).mono ?_
    rw [Hf.out]
    rintro e w2 ⟨rfl, rfl⟩
    go_wp2_with fail
    go_ret
    exact ⟨rfl, B1.out⟩
  | true =>
    obtain ⟨h1, h2, h3⟩ := few_sizes hf
    have Hf := Lib.hid hf
    clear hf
    have C1 := Lib.hid (fun W (hB : Below w.heap.size w W) => Tokens_any o a b W (hW.below hB hs) (Nat.le_trans hs hB.size) (by omega) (by omega) (by omega))
    have C2 := Lib.hid (fun W => RefTokens_any o a b W (by omega) (by omega) (by omega))
    have C3 := Lib.hid (fun W (hB : Below w.heap.size w W) => Units_any o W (hW.below hB hs) (by omega))
    have C4 := Lib.hid (fun W => RefUnits_any o W (by omega))
    have C5 := Lib.hid (fun W (hB : Below w.heap.size w W) => Text_any o a b W (hW.below hB hs) (Nat.le_trans hs hB.size) h1 h2 h3)
    have C6 := Lib.hid (fun W => RefText_any o a b W h1 h2 h3)
    have C7 := Lib.hid (fun W => Lines_any o a b W (by omega) (by omega) (by omega))
    have C8 := Lib.hid (fun W => RefLines_any o a b W (by omega) (by omega) (by omega))
    obtain ⟨⟨T, tb⟩, hT⟩ : ∃ T, Hid (toksP o a b = T) := ⟨_, Lib.hid rfl⟩
    obtain ⟨N, hN⟩ : ∃ N, Hid (linesP o a b = N) := ⟨_, Lib.hid rfl⟩
    obtain ⟨⟨us, ub⟩, hU⟩ : ∃ q, Hid (unitsP (tl o) = q) := ⟨_, Lib.hid rfl⟩
    obtain ⟨⟨S, is⟩, hS⟩ : ∃ q, Hid (textP o a b = q) := ⟨_, Lib.hid rfl⟩
    unfold UnitGives at C3 C4
    rw [hT.out] at C1 C2
    rw [hN.out] at C7 C8
    rw [hU.out] at C3 C4
    rw [hS.out] at C5 C6
    dsimp only at C1 C2 C3 C4 C5 C6
    obtain ⟨xs, hxs⟩ : ∃ xs, Hid (us.map Value.string = xs) := ⟨_, Lib.hid rfl⟩
    rw [hxs.out] at C3 C4
    have qs : ((bs S).toList == (bs S).toList) = true := yes _
    have q1 : (tb == tb) = true := beq_self_eq_true tb
    have q2 : (ub == ub) = true := beq_self_eq_true ub
    have q3 : (is == is) = true := beq_self_eq_true is
    clear h1 h2 h3
    go_enter Tryz.func3, Tryz.ntmps3
    go_wp2_with fail
    refine CA.out.mono ?_
    rintro e w1 ⟨rfl, b1⟩
    have B1 := Lib.hid b1
    clear b1
    go_wp2_with fail
    refine (few_any o a b w1).mono ?_
    rw [Hf.out]
    rintro e w2 ⟨rfl, rfl⟩
    go_wp2_with fail
    refine (C1.out _ B1.out).mono ?_
    rintro e w3 ⟨v3, rfl, g3, b3⟩
    have B3 := Lib.hid (B1.out.trans (b3.mono B1.out.size))
    have G3 := Lib.hid g3
    obtain ⟨a3, c3, rfl, -⟩ := g3
    clear b3
    go_wp2_with fail
    refine (C2.out w3).mono ?_
    rintro e w4 ⟨v4, rfl, g4, b4⟩
    have B4 := Lib.hid (B3.out.trans (b4.mono B3.out.size))
    have G34 := Lib.hid (G3.out.below b4)
    have G4 := Lib.hid g4
    obtain ⟨a4, c4, rfl, -⟩ := g4
    clear b4
    go_wp2_with fail
    refine (C3.out _ B4.out).mono ?_
    rintro e w5 ⟨v5, rfl, g5, b5⟩
    have B5 := Lib.hid (B4.out.trans (b5.mono B4.out.size))
    have G35 := Lib.hid (G34.out.below b5)
    have G45 := Lib.hid (G4.out.below b5)
    have G5 := Lib.hid g5
    obtain ⟨a5, c5, rfl, -⟩ := g5
    clear b5
    go_wp2_with fail
    refine (C4.out w5).mono ?_
    rintro e w6 ⟨v6, rfl, g6, b6⟩
    have B6 := Lib.hid (B5.out.trans (b6.mono B5.out.size))
    have G36 := Lib.hid (G35.out.below b6)
    have G46 := Lib.hid (G45.out.below b6)
    have G56 := Lib.hid (G5.out.below b6)
    have G6 := Lib.hid g6
    obtain ⟨a6, c6, rfl, -⟩ := g6
    clear b6
    go_wp2_with fail
    refine (C5.out _ B6.out).mono ?_
    rintro e w7 ⟨rfl, b7⟩
    have B7 := Lib.hid (B6.out.trans (b7.mono B6.out.size))
    have G37 := Lib.hid (G36.out.below b7)
    have G47 := Lib.hid (G46.out.below b7)
    have G57 := Lib.hid (G56.out.below b7)
    have G67 := Lib.hid (G6.out.below b7)
    clear b7
    go_wp2_with fail
    refine (C6.out w7).mono ?_
    rintro e w8 ⟨rfl, b8⟩
    have B8 := Lib.hid (B7.out.trans (b8.mono B7.out.size))
    have G38 := Lib.hid (G37.out.below b8)
    have G48 := Lib.hid (G47.out.below b8)
    have G58 := Lib.hid (G57.out.below b8)
    have G68 := Lib.hid (G67.out.below b8)
    clear b8
    go_wp2_with fail
    refine (C7.out w8).mono ?_
    rintro e w9 ⟨v9, rfl, g9, b9⟩
    have B9 := Lib.hid (B8.out.trans (b9.mono B8.out.size))
    have G39 := Lib.hid (G38.out.below b9)
    have G49 := Lib.hid (G48.out.below b9)
    have G59 := Lib.hid (G58.out.below b9)
    have G69 := Lib.hid (G68.out.below b9)
    have G9 := Lib.hid g9
    obtain ⟨a9, c9, rfl, -⟩ := g9
    clear b9
    go_wp2_with fail
    refine (C8.out w9).mono ?_
    rintro e wa ⟨va, rfl, ga, ba⟩
    have Ba := Lib.hid (B9.out.trans (ba.mono B9.out.size))
    have G3a := Lib.hid (G39.out.below ba)
    have G4a := Lib.hid (G49.out.below ba)
    have G5a := Lib.hid (G59.out.below ba)
    have G6a := Lib.hid (G69.out.below ba)
    have G9a := Lib.hid (G9.out.below ba)
    have Ga := Lib.hid ga
    obtain ⟨aa, ca, rfl, -⟩ := ga
    clear ba
    have D1 := Lib.hid (SameP_yes _ _ N wa G9a.out Ga.out)
    have D2 := Lib.hid (fun W (hB : Below wa.heap.size wa W) => SameP_yes _ _ T W (G3a.out.below hB) (G4a.out.below hB))
    have D3 := Lib.hid (fun W (hB : Below wa.heap.size wa W) => SameS_yes _ _ us W (by rw [hxs.out]; exact G5a.out.below hB) (by rw [hxs.out]; exact G6a.out.below hB))
    clear G3 G34 G35 G36 G37 G38 G39 G4 G45 G46 G47 G48 G49 G5 G56 G57 G58 G59 G6 G67 G68 G69 G9
    go_wp2_with fail
    refine D1.out.mono ?_
    rintro e wb ⟨rfl, bb⟩
    have Bb := Lib.hid bb
    clear bb
    go_wp2_with fail
    refine (D2.out _ Bb.out).mono ?_
    rintro e wc ⟨rfl, bc⟩
    have Bc := Lib.hid (Bb.out.trans (bc.mono Bb.out.size))
    clear bc
    go_wp2_with fail
    refine (D3.out _ Bc.out).mono ?_
    rintro e wd ⟨rfl, bd⟩
    have Bd := Lib.hid (Bc.out.trans (bd.mono Bc.out.size))
    clear bd
    go_wp2_with fail
    go_ret
    exact ⟨rfl, Ba.out.trans (Bd.out.mono Ba.out.size)⟩
end Go.Proofs.YtfjmhnnjgjcmeaaGreatDoor
