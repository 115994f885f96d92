/-
  For the laws of weave: Text. Condition: texts of at most 600 bytes.
-/
import Derived.Test.YtfjmhnnjgjcmeaaDoorWn
import Derived.Test.YtfjmhnnjgjcmeaaDoorWj
namespace Go.Proofs.YtfjmhnnjgjcmeaaDoor
open Go.RowKit Go.Shelf
set_option linter.unusedSimpArgs false
set_option linter.unusedVariables false

theorem toList_tl (s : ByteArray) : s.toList = tl s := by
  have h := bs_beq s s.toList
  rw [beq_self_eq_true] at h
  exact of_decide_eq_true h.symm
theorem eqB (a o : ByteArray) : (a.toList == o.toList) = decide (a = o) := by
  rw [bs_beq, toList_tl]
  exact decide_eq_decide.2 ⟨fun h => by rw [← bs_tl a, h, bs_tl], fun h => by rw [h]⟩
def textP (o a b : ByteArray) : By × Bool :=
  if a = o then (tl b, true) else if b = o ∨ b = a then (tl a, true) else if (toksP o a b).2 && !clashP (toksP o a b).1 then joinP (toksP o a b).1 else joinP (linesP o a b)
theorem join_fits {xs : TL} {n k : Nat} (h1 : xs.length ≤ n) (h2 : ∀ s ∈ xs, s.size ≤ k) (h3 : n * k ≤ 500000) : (joinT xs).length ≤ 500000 :=
  Nat.le_trans (joinT_len (o := xs) (b := xs) ⟨h1, fun s hs => .inl hs⟩ h2 h2) h3
theorem lns_fits (s : ByteArray) (h : s.size ≤ 600) : (joinT (S.lns s)).length ≤ 500000 := join_fits (n := 600) (k := 600) (Nat.le_trans (S.lns_len s) h) (fun x hx => Nat.le_trans (lns_small s x hx) h) (by decide)
theorem units_fits (s : ByteArray) (h : s.size ≤ 600) : (joinT (unitsP (tl s)).1).length ≤ 500000 := join_fits (n := 601) (k := 600) (Nat.le_trans (unitsP_len s) (by omega)) (fun x hx => Nat.le_trans (unitsP_mem s x hx) h) (by decide)
theorem wovenP_few (o a b : TL) (l1 : o.length ≤ 2000) (l2 : a.length ≤ 2000) (l3 : b.length ≤ 2000) : (wovenP o a b).length ≤ 100000 := by
  unfold wovenP
  rw [List.length_map]
  have h1 := combP_len o a b
  have h2 := chunksT_len (o := o) (a := a) (b := b)
  omega
theorem linesP_ok (o a b : ByteArray) (h1 : o.size ≤ 600) (h2 : a.size ≤ 600) (h3 : b.size ≤ 600) : (linesP o a b).length ≤ 100000 ∧ ∀ p ∈ linesP o a b, okS p := by
  have l1 := Nat.le_trans (S.lns_len o) h1
  have l2 := Nat.le_trans (S.lns_len a) h2
  have l3 := Nat.le_trans (S.lns_len b) h3
  exact ⟨wovenP_few _ _ _ (by omega) (by omega) (by omega), wovenP_ok (by omega) (by omega) (by omega) (lns_fits o h1) (lns_fits a h2) (lns_fits b h3)⟩
theorem toksP_ok (o a b : ByteArray) (h1 : o.size ≤ 600) (h2 : a.size ≤ 600) (h3 : b.size ≤ 600) : (toksP o a b).1.length ≤ 100000 ∧ ∀ p ∈ (toksP o a b).1, okS p := by
  have l1 := unitsP_len o
  have l2 := unitsP_len a
  have l3 := unitsP_len b
  unfold toksP wovenQ
  split
  · exact ⟨wovenP_few _ _ _ (by omega) (by omega) (by omega), wovenP_ok (by omega) (by omega) (by omega) (units_fits o h1) (units_fits a h2) (units_fits b h3)⟩
  · exact ⟨Nat.zero_le _, fun p hp => by cases hp⟩
set_option maxRecDepth 100000 in
set_option maxHeartbeats 4000000 in
theorem Text_any (o a b : ByteArray) (w : World) (hW : X.LexW w) (hs : 4 ≤ w.heap.size) (h1 : o.size ≤ 600) (h2 : a.size ≤ 600) (h3 : b.size ≤ 600) : Calls Tryd.prog 13 #[.string o, .string a, .string b] w fun e w' => e = .returned (.tuple #[.string (bs (textP o a b).1), .bool (textP o a b).2]) ∧ Below w.heap.size w w' := by
  have CT := Lib.hid (Tokens_any o a b w hW hs (by omega) (by omega) (by omega))
  have CL := Lib.hid (fun W => Lines_any o a b W (by omega) (by omega) (by omega))
  obtain ⟨T, hT⟩ : ∃ T, Hid (toksP o a b = T) := ⟨_, Lib.hid rfl⟩
  obtain ⟨N, hN⟩ : ∃ N, Hid (linesP o a b = N) := ⟨_, Lib.hid rfl⟩
  obtain ⟨n1, n2⟩ := linesP_ok o a b h1 h2 h3
  obtain ⟨t1, t2⟩ := toksP_ok o a b h1 h2 h3
  rw [hT.out] at CT t1 t2
  rw [hN.out] at CL n1 n2
  have HT2 := Lib.hid t2
  have HN2 := Lib.hid n2
  clear t2 n2
  by_cases e1 : a = o
  · have d1 : (a.toList == o.toList) = true := by rw [eqB]; exact decide_eq_true e1
    have hr : Hid (textP o a b = (tl b, true)) := Lib.hid (by unfold textP; rw [if_pos e1])
    rw [hr.out]
    clear e1
    go_enter Tryd.func13, Tryd.ntmps13
    go_wp2_with fail
    go_ret2
    exact ⟨by rw [bs_tl]; rfl, Below.refl _ _⟩
  · have d1 : (a.toList == o.toList) = false := by rw [eqB]; exact decide_eq_false e1
    by_cases e2 : b = o ∨ b = a
    · have hr : Hid (textP o a b = (tl a, true)) := Lib.hid (by unfold textP; rw [if_neg e1, if_pos e2])
      rw [hr.out]
      clear e1
      by_cases e3 : b = o
      · have d2 : (b.toList == o.toList) = true := by rw [eqB]; exact decide_eq_true e3
        clear e2 e3
        go_enter Tryd.func13, Tryd.ntmps13
        go_wp2_with fail
        go_ret2
        exact ⟨by rw [bs_tl]; rfl, Below.refl _ _⟩
      · have d2 : (b.toList == o.toList) = false := by rw [eqB]; exact decide_eq_false e3
        have d3 : (b.toList == a.toList) = true := by rw [eqB]; exact decide_eq_true (e2.resolve_left e3)
        clear e2 e3
        go_enter Tryd.func13, Tryd.ntmps13
        go_wp2_with fail
        go_ret2
        exact ⟨by rw [bs_tl]; rfl, Below.refl _ _⟩
    · have d2 : (b.toList == o.toList) = false := by rw [eqB]; exact decide_eq_false (fun h => e2 (.inl h))
      have d3 : (b.toList == a.toList) = false := by rw [eqB]; exact decide_eq_false (fun h => e2 (.inr h))
      have hr : Hid (textP o a b = if T.2 && !clashP T.1 then joinP T.1 else joinP N) := Lib.hid (by unfold textP; rw [if_neg e1, if_neg e2, hT.out, hN.out])
      clear e1 e2
      go_enter Tryd.func13, Tryd.ntmps13
      go_wp2_with fail
      refine CT.out.mono ?_
      rintro e w1 ⟨v, rfl, hv, hb⟩
      have Hv := Lib.hid hv
      have Hb := Lib.hid hb
      have CC := Lib.hid (clashes_any v T.1 w1 hv)
      have CJ := Lib.hid (fun W (h : Below w1.heap.size w1 W) => Join_any v T.1 t1 HT2.out W (hv.below h))
      obtain ⟨r, c, rfl, -⟩ := hv
      clear hb
      obtain ⟨nT, hnT⟩ : ∃ n, Hid (T.1.length = n) := ⟨_, Lib.hid rfl⟩
      rw [hnT.out] at CC CJ ⊢
      have last : Hid (∀ W, Below w.heap.size w W → Calls Tryd.prog 12 #[.string o, .string a, .string b] W (Gives2 W N)) := Lib.hid (fun W _ => CL.out W)
      obtain ⟨cb, hcb⟩ : ∃ cb, Hid (clashP T.1 = cb) := ⟨_, Lib.hid rfl⟩
      obtain ⟨tb, htb⟩ : ∃ tb, Hid (T.2 = tb) := ⟨_, Lib.hid rfl⟩
      rw [hcb.out] at CC
      rw [htb.out]
      cases tb with
      | false =>
        go_wp2_with fail
        refine (last.out w1 Hb.out).mono ?_
        rintro e w3 ⟨v3, rfl, hv3, hb3⟩
        have CN := Lib.hid (Join_any v3 N n1 HN2.out w3 hv3)
        have hb03 : Hid (Below w.heap.size w w3) := Lib.hid ((Hb.out).trans (hb3.mono (Hb.out).size))
        obtain ⟨r3, c3, rfl, -⟩ := hv3
        clear hb3
        obtain ⟨nN, hnN⟩ : ∃ n, Hid (N.length = n) := ⟨_, Lib.hid rfl⟩
        rw [hnN.out] at CN ⊢
        go_wp2_with fail
        refine CN.out.mono ?_
        rintro e w4 ⟨rfl, hb4⟩
        have Hb4 : Hid (Below w.heap.size w w4) := Lib.hid (hb03.out.trans (hb4.mono hb03.out.size))
        clear hb4
        go_wp2_with fail
        go_ret2
        exact ⟨by rw [hr.out, htb.out]; rfl, Hb4.out⟩
      | true =>
        go_wp2_with fail
        refine CC.out.mono ?_
        rintro e w2 ⟨rfl, hb2⟩
        have Hb2 : Hid (Below w.heap.size w w2) := Lib.hid (Hb.out.trans (hb2.mono Hb.out.size))
        have CJ2 := Lib.hid (CJ.out w2 hb2)
        clear hb2
        cases cb with
        | true =>
          go_wp2_with fail
          refine (last.out w2 Hb2.out).mono ?_
          rintro e w3 ⟨v3, rfl, hv3, hb3⟩
          have CN := Lib.hid (Join_any v3 N n1 HN2.out w3 hv3)
          have hb03 : Hid (Below w.heap.size w w3) := Lib.hid ((Hb2.out).trans (hb3.mono (Hb2.out).size))
          obtain ⟨r3, c3, rfl, -⟩ := hv3
          clear hb3
          obtain ⟨nN, hnN⟩ : ∃ n, Hid (N.length = n) := ⟨_, Lib.hid rfl⟩
          rw [hnN.out] at CN ⊢
          go_wp2_with fail
          refine CN.out.mono ?_
          rintro e w4 ⟨rfl, hb4⟩
          have Hb4 : Hid (Below w.heap.size w w4) := Lib.hid (hb03.out.trans (hb4.mono hb03.out.size))
          clear hb4
          go_wp2_with fail
          go_ret2
          exact ⟨by rw [hr.out, htb.out, hcb.out]; rfl, Hb4.out⟩
        | false =>
          go_wp2_with fail
          refine CJ2.out.mono ?_
          rintro e w4 ⟨rfl, hb4⟩
          have Hb4 : Hid (Below w.heap.size w w4) := Lib.hid (Hb2.out.trans (hb4.mono Hb2.out.size))
          clear hb4
          go_wp2_with fail
          go_ret2
          exact ⟨by rw [hr.out, htb.out, hcb.out]; rfl, Hb4.out⟩
end Go.Proofs.YtfjmhnnjgjcmeaaDoor
/-
  For the laws of weave: the law's own examples. Condition: the lexer's world.
-/
namespace Go.Proofs.YtfjmhnnjgjcmeaaDoor
open Go.RowKit Go.Shelf
set_option linter.unusedSimpArgs false
set_option linter.unusedVariables false

theorem ex0 : textP ⟨#[97, 61, 98, 43, 99, 59]⟩ ⟨#[120, 61, 98, 43, 99, 59]⟩ ⟨#[97, 61, 98, 43, 100, 59]⟩ = ([120, 61, 98, 43, 100, 59], true) := by decide +kernel
theorem ex1 : linesP ⟨#[97, 10]⟩ ⟨#[98, 10]⟩ ⟨#[99, 10]⟩ = [⟨true, [97, 10], [98, 10], [99, 10]⟩] := by decide +kernel
theorem ex2 : unitsP (tl ⟨#[97, 32, 98]⟩) = ([bs [97], bs [32, 98], bs []], true) := by decide +kernel
theorem ex3 : toksP ⟨#[97]⟩ ⟨#[97]⟩ ⟨#[98]⟩ = ([⟨false, [97], [98], [98]⟩], true) := by decide +kernel
theorem ex4 : joinP [⟨false, [97], [98], [98]⟩] = ([98], true) := by decide +kernel
theorem ex5 : sideP [⟨true, [97, 10], [98, 10], [99, 10]⟩] 1 = [98, 10] := by decide +kernel
theorem yes (x : ByteArray) : (x.toList == x.toList) = true := beq_self_eq_true _
set_option maxRecDepth 100000 in
set_option maxHeartbeats 4000000 in
theorem awake_any (w : World) (hW : X.LexW w) (hs : 4 ≤ w.heap.size) : Calls Tryd.prog 6 #[] w fun e w' => e = .returned (.bool true) ∧ Below w.heap.size w w' := by
  have C0 := Lib.hid (Text_any ⟨#[97, 61, 98, 43, 99, 59]⟩ ⟨#[120, 61, 98, 43, 99, 59]⟩ ⟨#[97, 61, 98, 43, 100, 59]⟩ w hW hs (by decide) (by decide) (by decide))
  have C1 := Lib.hid (fun W => Lines_any ⟨#[97, 10]⟩ ⟨#[98, 10]⟩ ⟨#[99, 10]⟩ W (by decide) (by decide) (by decide))
  have C2 := Lib.hid (fun W (h : Below w.heap.size w W) => Units_any ⟨#[97, 32, 98]⟩ W (hW.below h hs) (by decide))
  have C3 := Lib.hid (fun W (h : Below w.heap.size w W) => Tokens_any ⟨#[97]⟩ ⟨#[97]⟩ ⟨#[98]⟩ W (hW.below h hs) (Nat.le_trans hs h.size) (by decide) (by decide) (by decide))
  rw [ex0] at C0
  rw [ex1] at C1
  rw [ex2] at C2
  rw [ex3] at C3
  dsimp only at C0 C1 C2 C3
  go_enter Tryd.func6, Tryd.ntmps6
  go_wp2_with fail
  refine C0.out.mono ?_
  rintro e w1 ⟨rfl, b1⟩
  have B1 := Lib.hid b1
  clear b1
  go_wp2_with fail
  refine (C1.out w1).mono ?_
  rintro e w2 ⟨v2, rfl, hv2, b2⟩
  have B2 : Hid (Below w.heap.size w w2) := Lib.hid (B1.out.trans (b2.mono B1.out.size))
  have V2 := Lib.hid hv2
  obtain ⟨a2, c2, rfl, -⟩ := hv2
  clear b2
  go_wp2_with fail
  refine (C2.out w2 B2.out).mono ?_
  rintro e w3 ⟨v3, rfl, hv3, b3⟩
  have B3 : Hid (Below w.heap.size w w3) := Lib.hid (B2.out.trans (b3.mono B2.out.size))
  have V23 := Lib.hid (V2.out.below b3)
  have V3 := Lib.hid hv3
  obtain ⟨a3, c3, rfl, -⟩ := hv3
  clear b3
  go_wp2_with fail
  refine (C3.out w3 B3.out).mono ?_
  rintro e w4 ⟨v4, rfl, hv4, b4⟩
  have B4 : Hid (Below w.heap.size w w4) := Lib.hid (B3.out.trans (b4.mono B3.out.size))
  have V24 := Lib.hid (V23.out.below b4)
  have V34 := Lib.hid (V3.out.below b4)
  have CJ := Lib.hid (Join_any v4 _ (by decide) (by intro p hp; rw [List.mem_singleton] at hp; subst hp; exact ⟨by decide, by decide, by decide⟩) w4 hv4)
  rw [ex4] at CJ
  dsimp only at CJ
  obtain ⟨a4, c4, rfl, -⟩ := hv4
  clear b4
  go_wp2_with fail
  refine CJ.out.mono ?_
  rintro e w5 ⟨rfl, b5⟩
  have B5 : Hid (Below w.heap.size w w5) := Lib.hid (B4.out.trans (b5.mono B4.out.size))
  have V25 := Lib.hid (V24.out.below b5)
  have V35 := Lib.hid (V34.out.below b5)
  clear b5
  have CS := Lib.hid (Side_any (.slice a2 1 c2) _ 1 (by decide) (by intro p hp; rw [List.mem_singleton] at hp; subst hp; exact ⟨by decide, by decide, by decide⟩) w5 V25.out)
  rw [ex5] at CS
  obtain ⟨_, _, e2, -, -, hx2⟩ := V25.out
  cases e2
  obtain ⟨bb, off, rfl, hl, z0, z1, z2, z3⟩ := hx2 0 _ rfl
  obtain ⟨_, _, e3, -, -, hx3⟩ := V35.out
  cases e3
  rcases hx3 with hx3 | ⟨bc, of3, rfl, hl3, hx3⟩
  · cases hx3
  have y1 := hx3 1 _ rfl
  have q1 : ((bs [120, 61, 98, 43, 100, 59]).toList == (ByteArray.mk #[120, 61, 98, 43, 100, 59]).toList) = true := yes _
  have q2 : ((bs [99, 10]).toList == (ByteArray.mk #[99, 10]).toList) = true := yes _
  have q3 : ((bs [32, 98]).toList == (ByteArray.mk #[32, 98]).toList) = true := yes _
  have q4 : ((bs [98]).toList == (ByteArray.mk #[98]).toList) = true := yes _
  have q5 : ((bs [98, 10]).toList == (ByteArray.mk #[98, 10]).toList) = true := yes _
  simp only [Nat.zero_mul, Nat.add_zero] at z0 z3
  go_wp2_with fail
  refine CS.out.mono ?_
  rintro e w6 ⟨rfl, b6⟩
  have B6 : Hid (Below w.heap.size w w6) := Lib.hid (B5.out.trans (b6.mono B5.out.size))
  clear b6
  go_wp2_with fail
  go_ret
  exact ⟨rfl, B6.out⟩
end Go.Proofs.YtfjmhnnjgjcmeaaDoor
