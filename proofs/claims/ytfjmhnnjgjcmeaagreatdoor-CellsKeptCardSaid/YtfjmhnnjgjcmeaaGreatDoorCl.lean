/-
  For the laws of cells: the order of three rows of keys, by the program. Condition: at most 100 keys a row.
-/
import Derived.Test.YtfjmhnnjgjcmeaaGreatDoorCk
import Derived.Test.YtfjmhnnjgjcmeaaGreatDoorCj
namespace Go.Proofs.YtfjmhnnjgjcmeaaGreatDoor
open Go.RowKit Go.Shelf Go.Maps Go.WideMaps
set_option linter.unusedSimpArgs false
set_option linter.unusedVariables false

theorem vals_form {W : World} {v : Value} {xs : TL} (h : L.Vals W v (xs.map .string)) : ∃ a n c, v = .slice a n c ∧ Hid (n = xs.length) := by
  obtain ⟨a, c, rfl, -⟩ := h
  exact ⟨a, _, c, rfl, Lib.hid (List.length_map ..)⟩
/-- A row of keys: without doubles, few, none too long. -/
def kyT (l : TL) : Prop := l.Nodup ∧ l.length ≤ 100 ∧ ∀ s ∈ l, s.size ≤ maxLen
theorem kyT.uniq {l : TL} (h1 : l.length ≤ 100) (h2 : ∀ s ∈ l, s.size ≤ maxLen) : kyT (uniqT l) :=
  ⟨uniq_nodup l, Nat.le_trans (uniq_len l) h1, fun s hs => h2 s (uniq_mem.1 hs)⟩
theorem kyT.no {l : TL} (h : kyT l) (G : TL) : kyT (noT G l) :=
  ⟨h.1.sublist List.filter_sublist, Nat.le_trans (no_len G l) h.2.1, fun s hs => h.2.2 s (List.mem_filter.1 hs).1⟩
theorem ordU_eq {o a b : TL} : ordU o a b = if b = o then (a, true) else if a = o then (b, true) else
    match ordF (noT (goneT o a b) a) (noT (goneT o a b) b) (L.chunksT (noT (goneT o a b) o) (noT (goneT o a b) a) (noT (goneT o a b) b)) with
    | none => ([], false)
    | some l => if (uniqT l).length = l.length then (l, true) else ([], false) := by
  unfold ordU
  rw [keep_gone a o a b, keep_gone b o a b, keep_gone o o a b]
  rfl
theorem ordC_len {y z : TL} {l l' : TL} {c : L.Ck} (h : ordC y z (some l) c = some l') : l'.length ≤ l.length + (y.length + z.length) := by
  have h1 : (L.slc y c.p.a c.q.a).length ≤ y.length := by unfold L.slc; rw [List.length_take, List.length_drop]; omega
  have h2 : (L.slc z c.p.b c.q.b).length ≤ z.length := by unfold L.slc; rw [List.length_take, List.length_drop]; omega
  have h3 : ((L.slc z c.p.b c.q.b).filter (fun s => !decide (s ∈ L.slc y c.p.a c.q.a))).length ≤ z.length := Nat.le_trans (List.length_filter_le _ _) h2
  unfold ordC at h
  simp only at h
  split at h
  · simp only [Option.some.injEq] at h
    rw [← h, List.length_append]; omega
  · split at h
    · simp only [Option.some.injEq] at h
      rw [← h, List.length_append]; omega
    · split at h
      · cases h
      · simp only [Option.some.injEq] at h
        rw [← h, List.length_append, List.length_append]; omega
theorem ordC_mem {y z l l' : TL} {c : L.Ck} (h : ordC y z (some l) c = some l') : ∀ s ∈ l', s ∈ l ∨ s ∈ y ∨ s ∈ z := by
  intro s hs
  unfold ordC at h
  simp only at h
  split at h
  · simp only [Option.some.injEq] at h
    rw [← h] at hs
    rcases List.mem_append.1 hs with h1 | h1
    · exact .inl h1
    · exact .inr (.inr (slc_mem h1))
  · split at h
    · simp only [Option.some.injEq] at h
      rw [← h] at hs
      rcases List.mem_append.1 hs with h1 | h1
      · exact .inl h1
      · exact .inr (.inl (slc_mem h1))
    · split at h
      · cases h
      · simp only [Option.some.injEq] at h
        rw [← h] at hs
        rcases List.mem_append.1 hs with h1 | h1
        · exact .inl h1
        · rcases List.mem_append.1 h1 with h1 | h1
          · exact .inr (.inl (slc_mem h1))
          · exact .inr (.inr (slc_mem (List.mem_filter.1 h1).1))
theorem ordF_mem {y z : TL} : ∀ (cs : List L.Ck) (l r : TL), cs.foldl (ordC y z) (some l) = some r → ∀ s ∈ r, s ∈ l ∨ s ∈ y ∨ s ∈ z
  | [], l, r, h, s, hs => by
    simp only [List.foldl_nil, Option.some.injEq] at h
    exact .inl (h ▸ hs)
  | c :: cs, l, r, h, s, hs => by
    rw [List.foldl_cons] at h
    cases hc : ordC y z (some l) c with
    | none =>
      rw [hc] at h
      have h2 := ordF_none (y := y) (z := z) (l := c :: cs) (k := 0)
      have : ∀ m : List L.Ck, m.foldl (ordC y z) none = none := by
        intro m
        induction m with
        | nil => rfl
        | cons c m ih => rw [List.foldl_cons]; exact ih
      rw [this] at h
      cases h
    | some l2 =>
      rw [hc] at h
      rcases ordF_mem cs l2 r h s hs with h1 | h1
      · exact ordC_mem hc s h1
      · exact .inr h1
theorem ordF_all {y z : TL} {l : List L.Ck} {k : Nat} (h : l.length ≤ k) : ordF y z (l.take k) = ordF y z l := by rw [List.take_of_length_le h]
theorem strs_one (l : TL) : ∀ u ∈ l.map Value.string, u.oneCell' = true := str_one l
set_option maxRecDepth 100000 in
set_option maxHeartbeats 16000000 in
theorem Order_any (v0 v1 v2 : Value) (o a b : TL) (w : World) (h0 : L.Vals w v0 (o.map .string)) (h1 : L.Vals w v1 (a.map .string)) (h2 : L.Vals w v2 (b.map .string)) (l0 : o.length ≤ 100) (l1 : a.length ≤ 100) (l2 : b.length ≤ 100) (s0 : ∀ s ∈ o, s.size ≤ maxLen) (s1 : ∀ s ∈ a, s.size ≤ maxLen) (s2 : ∀ s ∈ b, s.size ≤ maxLen) :
    Calls Tryz.prog 31 #[v0, v1, v2] w fun e w' => ∃ v', e = .returned (.tuple #[v', .bool (orderP o a b).2]) ∧ w'.ownsRow w.heap.size 9 1 v' (orderP o a b).1.length ((orderP o a b).1.map .string) ∧ Below w.heap.size w w' := by
  obtain ⟨i9, hi9, hy0, hy1, hy2⟩ := info_parts S.try_info9
  have C0 := Lib.hid (unique_any v0 o w h0 (by omega) s0)
  have C1 := Lib.hid (fun W hB => unique_any v1 a W (h1.below hB) (by omega) s1)
  have C2 := Lib.hid (fun W hB => unique_any v2 b W (h2.below hB) (by omega) s2)
  have kO := Lib.hid (kyT.uniq l0 s0)
  have kA := Lib.hid (kyT.uniq l1 s1)
  have kB := Lib.hid (kyT.uniq l2 s2)
  unfold orderP
  obtain ⟨O, hO⟩ : ∃ O, uniqT o = O := ⟨_, rfl⟩
  obtain ⟨A, hA⟩ : ∃ O, uniqT a = O := ⟨_, rfl⟩
  obtain ⟨B, hB⟩ : ∃ O, uniqT b = O := ⟨_, rfl⟩
  rw [hO] at C0 kO ⊢
  rw [hA] at C1 kA ⊢
  rw [hB] at C2 kB ⊢
  obtain ⟨z0, n0, c0, rfl, -⟩ := vals_form h0
  obtain ⟨z1, n1, c1, rfl, -⟩ := vals_form h1
  obtain ⟨z2, n2, c2, rfl, -⟩ := vals_form h2
  clear h0 h1 h2 l0 l1 l2 s0 s1 s2 hO hA hB
  obtain ⟨R, hR⟩ : ∃ R, Hid (ordU O A B = R) := ⟨_, Lib.hid rfl⟩
  rw [hR.out]
  go_enter Tryz.func31, Tryz.ntmps31
  go_wp2_with fail
  refine C0.out.mono ?_
  rintro e w1 ⟨u0, rfl, ho0, hb1⟩
  have U0 := L.own_vals ho0
  have B1 := Lib.hid hb1
  clear ho0 hb1
  go_wp2_with fail
  refine (C1.out w1 B1.out).mono ?_
  rintro e w2 ⟨u1, rfl, ho1, hb2⟩
  have U1 := L.own_vals ho1
  have U0 := U0.below hb2
  have P1 := Lib.hid (L.own_low ho1 B1.out.size)
  have B2 := Lib.hid (B1.out.trans (hb2.mono B1.out.size))
  clear ho1 hb2
  go_wp2_with fail
  refine (C2.out w2 B2.out).mono ?_
  rintro e w3 ⟨u2, rfl, ho2, hb3⟩
  have U2 := L.own_vals ho2
  have U1 := U1.below hb3
  have U0 := U0.below hb3
  have P1 := Lib.hid (own_below P1.out hb3)
  have P2 := Lib.hid (L.own_low ho2 B2.out.size)
  have B3 := Lib.hid (B2.out.trans (hb3.mono B2.out.size))
  clear ho2 hb3 C0 C1 C2 B1 B2
  obtain ⟨x0, m0, e0, rfl, hm0⟩ := vals_form U0
  obtain ⟨x1, m1, e1, rfl, hm1⟩ := vals_form U1
  obtain ⟨x2, m2, e2, rfl, hm2⟩ := vals_form U2
  have V0 := Lib.hid U0
  have V1 := Lib.hid U1
  have V2 := Lib.hid U2
  have E1 := Lib.hid (EqualS_any _ _ B O w3 V2.out V0.out)
  have E2 := Lib.hid (fun q => EqualS_any _ _ A O (w3.drewN q) (V1.out.below (below_draws (Below.refl _ _) q)) (V0.out.below (below_draws (Below.refl _ _) q)))
  clear U0 U1 U2
  obtain ⟨d1, hd1⟩ : ∃ d, Hid (decide (B = O) = d) := ⟨_, Lib.hid rfl⟩
  obtain ⟨d2, hd2⟩ : ∃ d, Hid (decide (A = O) = d) := ⟨_, Lib.hid rfl⟩
  rw [hd1.out] at E1
  rw [hd2.out] at E2
  go_wp2_with fail
  refine E1.out.mono ?_
  rintro e w4 ⟨rfl, q1, rfl⟩
  cases d1 with
  | true =>
    have hRR : Hid (R = (A, true)) := Lib.hid (by rw [← hR.out]; unfold ordU; rw [if_pos (of_decide_eq_true hd1.out)])
    go_wp2_with fail
    go_ret2
    refine ⟨.slice x1 m1 e1, by rw [hRR.out]; rfl, ?_, below_draws B3.out q1⟩
    rw [hRR.out]
    have h := own_below P1.out (below_draws (Below.refl _ _) q1)
    exact h
  | false =>
    go_wp2_with fail
    refine (E2.out q1).mono ?_
    rintro e w4 ⟨rfl, q2, rfl⟩
    cases d2 with
    | true =>
      have hRR : Hid (R = (B, true)) := Lib.hid (by rw [← hR.out]; unfold ordU; rw [if_neg (of_decide_eq_false hd1.out), if_pos (of_decide_eq_true hd2.out)])
      go_wp2_with fail
      go_ret2
      refine ⟨.slice x2 m2 e2, by rw [hRR.out]; rfl, ?_, below_draws B3.out (q1 + q2)⟩
      rw [hRR.out]
      have h := own_below P2.out (below_draws (Below.refl _ _) (q1 + q2))
      exact h
    | false =>
      obtain ⟨W4, hW4⟩ : ∃ W, (w3.drewN q1).drewN q2 = W := ⟨_, rfl⟩
      rw [hW4]
      have b4 : Below w3.heap.size w3 W4 := by rw [← hW4]; exact below_draws (below_draws (Below.refl _ _) q1) q2
      have B4 := Lib.hid (B3.out.trans (b4.mono B3.out.size))
      have X0 := Lib.hid (V0.out.below b4)
      have X1 := Lib.hid (V1.out.below b4)
      have X2 := Lib.hid (V2.out.below b4)
      clear b4 hW4 V0 V1 V2 B3 E1 E2
      obtain ⟨G, hG⟩ : ∃ G, Hid (goneT O A B = G) := ⟨_, Lib.hid rfl⟩
      have hRR : Hid (R = match ordF (noT G A) (noT G B) (L.chunksT (noT G O) (noT G A) (noT G B)) with
        | none => ([], false)
        | some l => if (uniqT l).length = l.length then (l, true) else ([], false)) := Lib.hid (by
          rw [← hR.out, ordU_eq, if_neg (of_decide_eq_false hd1.out), if_neg (of_decide_eq_false hd2.out), hG.out])
      go_wp2_with fail
      refine calls_gen (fun W => Ess W (.slice (some ⟨W4.heap.size, 0, none⟩) 2 2) [A, B] ∧ Below W4.heap.size W4 W) ?_ ?_
      · have hb : Below W4.heap.size W4 (W4.alloc (.cells #[.slice x1 m1 e1, .slice x2 m2 e2] 27)) := (Below.refl _ W4).alloc (Nat.le_refl _) _
        exact ⟨ess_two (RowAt.new W4 27 _) (X1.out.below hb) (X2.out.below hb), hb⟩
      rintro W5 ⟨hE, b5⟩
      have Y0 := X0.out.below b5
      have CM := missing_any _ _ O [A, B] W5 Y0 hE (by have := kO.out.2.1; omega) (by simp) (by intro l hl; simp only [List.mem_cons, List.not_mem_nil, or_false] at hl; rcases hl with rfl | rfl; exact Nat.le_trans kA.out.2.1 (by omega); exact Nat.le_trans kB.out.2.1 (by omega)) kO.out.2.2 (by intro l hl; simp only [List.mem_cons, List.not_mem_nil, or_false] at hl; rcases hl with rfl | rfl; exact kA.out.2.2; exact kB.out.2.2)
      refine CM.mono ?_
      rintro e w6 ⟨rfl, hS, b6⟩
      obtain ⟨M, hM⟩ : ∃ M, W5.heap.size = M := ⟨_, rfl⟩
      rw [hM] at hS ⊢
      have b46 := b5.trans (b6.mono b5.size)
      have HS : Hid (SetOf w6 M 100000 (fun t => t ∈ G)) := Lib.hid (hS.iff (fun s => by
        rw [← hG.out]
        unfold goneT
        rw [List.mem_filter]
        simp only [List.mem_cons, List.not_mem_nil, or_false, exists_eq_or_imp, exists_eq_left, Bool.not_eq_true', Bool.and_eq_false_iff, decide_eq_false_iff_not]))
      have B6 := Lib.hid (B4.out.trans (b46.mono B4.out.size))
      have Y0 := Lib.hid (X0.out.below b46)
      have Y1 := Lib.hid (X1.out.below b46)
      have Y2 := Lib.hid (X2.out.below b46)
      clear X0 X1 X2 b46 b5 b6 hS hE CM B4
      have W1c := Lib.hid (without_any _ O M 100000 G w6 Y0.out HS.out kO.out.2.2 (by have := kO.out.2.1; omega))
      go_wp2_with fail
      refine W1c.out.mono ?_
      rintro e w7 ⟨t0, rfl, hT0, b7⟩
      have HS7 := Lib.hid (HS.out.same (b7.block M HS.out.lt))
      have B7 := Lib.hid (B6.out.trans (b7.mono B6.out.size))
      have Y1 := Lib.hid (Y1.out.below b7)
      have Y2 := Lib.hid (Y2.out.below b7)
      clear HS B6 Y0 W1c b7
      have W1c := Lib.hid (without_any _ A M 100000 G w7 Y1.out HS7.out kA.out.2.2 (by have := kA.out.2.1; omega))
      go_wp2_with fail
      refine W1c.out.mono ?_
      rintro e w8 ⟨t1, rfl, hT1, b8⟩
      have hT0 := hT0.below b8
      have HS8 := Lib.hid (HS7.out.same (b8.block M HS7.out.lt))
      have B8 := Lib.hid (B7.out.trans (b8.mono B7.out.size))
      have Y2 := Lib.hid (Y2.out.below b8)
      clear HS7 B7 Y1 W1c b8
      have W1c := Lib.hid (without_any _ B M 100000 G w8 Y2.out HS8.out kB.out.2.2 (by have := kB.out.2.1; omega))
      go_wp2_with fail
      refine W1c.out.mono ?_
      rintro e w9 ⟨t2, rfl, hT2, b9⟩
      have hT0 := hT0.below b9
      have hT1 := hT1.below b9
      have B9 := Lib.hid (B8.out.trans (b9.mono B8.out.size))
      clear HS8 B8 Y2 W1c b9
      have ky := Lib.hid (kA.out.no G)
      have kx := Lib.hid (kO.out.no G)
      have kz := Lib.hid (kB.out.no G)
      obtain ⟨x, hx⟩ : ∃ x, noT G O = x := ⟨_, rfl⟩
      obtain ⟨y, hy⟩ : ∃ x, noT G A = x := ⟨_, rfl⟩
      obtain ⟨z, hz⟩ : ∃ x, noT G B = x := ⟨_, rfl⟩
      rw [hx] at hT0 kx hRR
      rw [hy] at hT1 ky hRR
      rw [hz] at hT2 kz hRR
      clear hx hy hz hG hd1 hd2 hR kO kA kB hm0 hm1 hm2
      obtain ⟨p0, r0, f0, rfl, -⟩ := vals_form hT0
      obtain ⟨p1, r1, f1, rfl, -⟩ := vals_form hT1
      obtain ⟨p2, r2, f2, rfl, -⟩ := vals_form hT2
      have T1 := Lib.hid hT1
      have T2 := Lib.hid hT2
      have CP := Lib.hid (L.Parts_any _ _ _ x y z w9 hT0 hT1 hT2 (Nat.le_trans kx.out.2.1 (by omega)) (Nat.le_trans ky.out.2.1 (by omega)) (Nat.le_trans kz.out.2.1 (by omega)) kx.out.2.2 ky.out.2.2 kz.out.2.2)
      have Hok := Lib.hid (chunksT_ok (o := x) (a := y) (b := z) (Nat.le_trans kx.out.2.1 (by omega)) (Nat.le_trans ky.out.2.1 (by omega)) (Nat.le_trans kz.out.2.1 (by omega)))
      have hcl : (L.chunksT x y z).length ≤ 300 := by
        have h := chunksT_len (o := x) (a := y) (b := z)
        have := kx.out.2.1
        have := ky.out.2.1
        have := kz.out.2.1
        omega
      obtain ⟨CK, hCK⟩ : ∃ CK, L.chunksT x y z = CK := ⟨_, rfl⟩
      rw [hCK] at CP hRR Hok hcl
      clear hT0 hT1 hT2 hCK
      go_wp2_with fail
      refine CP.out.mono ?_
      rintro e w10 ⟨v, rfl, hown, hb10⟩
      obtain ⟨ac, cc, rfl, hn, hc1, hc2, hx⟩ := cks_at hown
      have HX := Lib.hid hx
      have T1 := Lib.hid (T1.out.below hb10)
      have T2 := Lib.hid (T2.out.below hb10)
      have B10 := Lib.hid (B9.out.trans (hb10.mono B9.out.size))
      clear hx hown hb10 CP B9
      unfold maxLen at hc2
      obtain ⟨n, hnn⟩ : ∃ n, Hid (CK.length = n) := ⟨_, Lib.hid rfl⟩
      rw [hnn.out] at hc1 hcl
      rw [hnn.out]
      have hlen : Hid (y.length + z.length ≤ 200) := Lib.hid (by have := ky.out.2.1; have := kz.out.2.1; omega)
      go_wp2_with fail
      go_loopw [9, 49] (fun ov c wr => ∃ k : Nat, c = .int .i64 k ∧ k ≤ n ∧ ∃ l : TL, Hid (ordF y z (CK.take k) = some l) ∧ l.length ≤ 200 * k ∧ Hid (wr.ownsRow w10.heap.size 9 1 ov l.length (l.map .string)) ∧ Hid (Below w10.heap.size w10 wr)) (fun _ c _ => n - (intOf c).toNat)
      case atStart => exact ⟨0, rfl, Nat.zero_le _, [], Lib.hid rfl, Nat.le_refl _, Lib.hid (World.ownsRow_nil _ _ _ _), Lib.hid (Below.refl _ _)⟩
      case round =>
        obtain ⟨k, rfl, hk, l, hF, hll, hOw, hB⟩ := hrel
        obtain ⟨wo, rfl⟩ : ∃ wo, wo = wr := ⟨wr, rfl⟩
        have hbs := hB.out.size
        obtain ⟨ao, co, rfl⟩ := own_form hOw.out
        obtain ⟨nl, hnl⟩ : ∃ m, Hid (l.length = m) := ⟨_, Lib.hid rfl⟩
        rw [hnl.out] at hll hOw
        rw [hnl.out]
        rcases Nat.lt_or_ge k n with hlt | hlt
        · obtain ⟨c, hc⟩ := get_lt (l := CK) (k := k) (by rw [hnn.out]; exact hlt)
          obtain ⟨g, rfl, e0, e1, e2, e3, e4, e5, e6⟩ := HX.out wo hB.out k c hc
          obtain ⟨-, ⟨p3, p4⟩, p5, p6⟩ := Hok.out c (List.mem_of_getElem? hc)
          have hst : Hid (ordF y z (CK.take (k + 1)) = ordC y z (some l) c) := Lib.hid (by rw [ordF_take hc, hF.out])
          clear hc
          have d1 : decide (k < n) = true := decide_eq_true hlt
          have d2 : (0 : Int) ≤ (k : Int) := by omega
          have d3 : (k : Int) < (n : Int) := by omega
          obtain ⟨sy, hsy, fy⟩ := vals_cut (n1 := w10.heap.size) T1.out (Nat.le_refl _) c.p.a c.q.a p3 p4
          obtain ⟨sz, hsz, fz⟩ := vals_cut (n1 := w10.heap.size) T2.out (Nat.le_refl _) c.p.b c.q.b p5 p6
          have Fy := Lib.hid (fun U hU => (fy 0 U hU).vals)
          have Fz := Lib.hid (fun U hU => (fz 0 U hU).vals)
          obtain ⟨sya, syc, rfl, -⟩ := fy 0 w10 (Below.refl _ _)
          obtain ⟨sza, szc, rfl, -⟩ := fz 0 w10 (Below.refl _ _)
          obtain ⟨YS, hYS⟩ : ∃ l, L.slc y c.p.a c.q.a = l := ⟨_, rfl⟩
          obtain ⟨ZS, hZS⟩ : ∃ l, L.slc z c.p.b c.q.b = l := ⟨_, rfl⟩
          have ndY : Hid (YS.Nodup) := Lib.hid (by rw [← hYS]; exact nodup_slc ky.out.1 _ _)
          have ndZ : Hid (ZS.Nodup) := Lib.hid (by rw [← hZS]; exact nodup_slc kz.out.1 _ _)
          have szY : Hid (∀ s ∈ YS, s.size ≤ maxLen) := Lib.hid (by rw [← hYS]; exact fun s hs => ky.out.2.2 s (slc_mem hs))
          have szZ : Hid (∀ s ∈ ZS, s.size ≤ maxLen) := Lib.hid (by rw [← hZS]; exact fun s hs => kz.out.2.2 s (slc_mem hs))
          have lY : YS.length ≤ 100 := by rw [← hYS, slc_len p4]; have := ky.out.2.1; omega
          have lZ : ZS.length ≤ 100 := by rw [← hZS, slc_len p6]; have := kz.out.2.1; omega
          have HYS := Lib.hid hYS
          have HZS := Lib.hid hZS
          rw [hYS] at hsy Fy
          rw [hZS] at hsz Fz
          obtain ⟨ny, hny⟩ : ∃ m, Hid (YS.length = m) := ⟨_, Lib.hid rfl⟩
          obtain ⟨nz, hnz⟩ : ∃ m, Hid (ZS.length = m) := ⟨_, Lib.hid rfl⟩
          rw [hny.out] at hsy Fy lY
          rw [hnz.out] at hsz Fz lZ
          clear fy fz hYS hZS
          go_upto_region 12 with fail
          obtain ⟨W2, hW2⟩ : ∃ W2, Hid (wo.alloc (.cells #[.int .i64 c.kind, .int .i64 (c.p.o : Nat), .int .i64 (c.q.o : Nat), .int .i64 (c.p.a : Nat), .int .i64 (c.q.a : Nat), .int .i64 (c.p.b : Nat), .int .i64 (c.q.b : Nat)] 96) = W2) := ⟨_, Lib.hid rfl⟩
          have R2 : RowAt W2 wo.heap.size 96 #[.int .i64 c.kind, .int .i64 (c.p.o : Nat), .int .i64 (c.q.o : Nat), .int .i64 (c.p.a : Nat), .int .i64 (c.q.a : Nat), .int .i64 (c.p.b : Nat), .int .i64 (c.q.b : Nat)] := by rw [← hW2.out]; exact RowAt.new wo 96 _
          have y0 : W2.cell? ⟨wo.heap.size, 0, none⟩ = some (.int .i64 c.kind) := R2.cell rfl
          have y1 : W2.cell? ⟨wo.heap.size, 1, none⟩ = some (.int .i64 (c.p.o : Nat)) := R2.cell rfl
          have y2 : W2.cell? ⟨wo.heap.size, 2, none⟩ = some (.int .i64 (c.q.o : Nat)) := R2.cell rfl
          have y3 : W2.cell? ⟨wo.heap.size, 3, none⟩ = some (.int .i64 (c.p.a : Nat)) := R2.cell rfl
          have y4 : W2.cell? ⟨wo.heap.size, 4, none⟩ = some (.int .i64 (c.q.a : Nat)) := R2.cell rfl
          have y5 : W2.cell? ⟨wo.heap.size, 5, none⟩ = some (.int .i64 (c.p.b : Nat)) := R2.cell rfl
          have y6 : W2.cell? ⟨wo.heap.size, 6, none⟩ = some (.int .i64 (c.q.b : Nat)) := R2.cell rfl
          have B2 : Hid (Below wo.heap.size wo W2) := Lib.hid (by rw [← hW2.out]; exact (Below.refl _ wo).alloc (Nat.le_refl _) _)
          rw [hW2.out]
          clear e0 e1 e2 e3 e4 e5 e6
          go_quiet (fail)
          obtain ⟨V, hV⟩ : ∃ V, Hid (W2.drewN nq = V) := ⟨_, Lib.hid rfl⟩
          have bV : Below wo.heap.size wo V := by rw [← hV.out]; exact below_draws B2.out nq
          have BV : Hid (Below w10.heap.size w10 V) := Lib.hid (hB.out.trans (bV.mono hbs))
          have OV := Lib.hid (own_below hOw.out bV)
          have RV : RowAt V wo.heap.size 96 #[.int .i64 c.kind, .int .i64 (c.p.o : Nat), .int .i64 (c.q.o : Nat), .int .i64 (c.p.a : Nat), .int .i64 (c.q.a : Nat), .int .i64 (c.p.b : Nat), .int .i64 (c.q.b : Nat)] := by rw [← hV.out]; exact R2
          have z0 : V.cell? ⟨wo.heap.size, 0, none⟩ = some (.int .i64 c.kind) := RV.cell rfl
          have z1 : V.cell? ⟨wo.heap.size, 1, none⟩ = some (.int .i64 (c.p.o : Nat)) := RV.cell rfl
          have z2 : V.cell? ⟨wo.heap.size, 2, none⟩ = some (.int .i64 (c.q.o : Nat)) := RV.cell rfl
          have hVs := BV.out.size
          rw [hV.out]
          clear y0 y1 y2 y3 y4 y5 y6 hV R2 B2 hW2 RV bV hB hOw
          have FY := Lib.hid (Fy.out V BV.out)
          have FZ := Lib.hid (Fz.out V BV.out)
          clear Fy Fz hsy hsz
          by_cases h2 : c.kind = 2
          · have f2 : (c.kind == 2) = true := by simpa using h2
            have hC : Hid (ordC y z (some l) c = some (l ++ ZS)) := Lib.hid (by unfold ordC; simp only; rw [if_pos h2, HZS.out])
            clear h2
            go_wp2_with (at_builtin; refine L.wpList_append_vals rfl _ _ 27 9 rfl w10.heap.size i9 (.string ⟨#[]⟩) 16 Tryz.underlying27 hi9 hy0 hy1 hy2 rfl _ _ _ _ ((ZS).map .string) rfl OV.out rfl FZ.out (str_one _) (by rw [List.length_map, hnz.out]; omega) (by decide) hVs ?_; intro v' w11 hown' hg4)
            have hb4 := BV.out.grown hg4 hVs (fun j e => (OV.out.lt j e).1)
            have ho2 : Hid (w11.ownsRow w10.heap.size 9 1 v' (l ++ ZS).length ((l ++ ZS).map .string)) := Lib.hid (by
              rw [List.map_append, List.length_append, hnl.out]; rw [List.length_map] at hown'; exact hown')
            have hF2 : Hid (ordF y z (CK.take (k + 1)) = some (l ++ ZS)) := Lib.hid (by rw [hst.out]; exact hC.out)
            have hl2 : (l ++ ZS).length ≤ 200 * (k + 1) := by rw [List.length_append, hnl.out, hnz.out]; omega
            have Hb4 := Lib.hid hb4
            clear hown' hg4 hb4
            go_wp2_with fail
            exact ⟨⟨k + 1, by go_num, by omega, _, hF2, hl2, ho2, Hb4⟩, by simp [intOf]; omega⟩
          · have f2 : (c.kind == 2) = false := by simpa using h2
            by_cases h4 : c.kind = 4
            · have f4 : (c.kind == 4) = true := by simpa using h4
              have f4' : (c.kind != 4) = false := by rw [bne, f4]; rfl
              by_cases hlo : c.p.o < c.q.o
              · have f5 : decide (c.p.o < c.q.o) = true := decide_eq_true hlo
                have hC : Hid (ordF y z CK = none) := Lib.hid (ordF_none (k := k + 1) (by rw [hst.out]; unfold ordC; simp only; rw [if_neg h2, if_neg (by simpa using h4), if_pos hlo]))
                have hR2 : Hid (R = ([], false)) := Lib.hid (by rw [hRR.out, hC.out])
                clear h2 h4 hlo
                go_wp2_with fail
                go_ret2
                refine ⟨.slice none 0 0, by rw [hR2.out]; rfl, ?_, B10.out.trans (BV.out.mono B10.out.size)⟩
                rw [hR2.out]
                exact World.ownsRow_nil _ _ _ _
              · have f5 : decide (c.p.o < c.q.o) = false := decide_eq_false hlo
                have hC : Hid (ordC y z (some l) c = some (l ++ uniqT (YS ++ ZS))) := Lib.hid (by
                  unfold ordC
                  simp only
                  rw [if_neg h2, if_neg (by simpa using h4), if_neg hlo, HYS.out, HZS.out, uniq_app ndY.out ndZ.out])
                clear h2 h4 hlo
                go_wp2_with fail
                refine calls_gen (fun W => Ess W (.slice (some ⟨V.heap.size, 0, none⟩) 2 2) [YS, ZS] ∧ Below V.heap.size V W) ?_ ?_
                · have hb : Below V.heap.size V (V.alloc (.cells #[.slice sya ny syc, .slice sza nz szc] 27)) := (Below.refl _ V).alloc (Nat.le_refl _) _
                  exact ⟨ess_two (RowAt.new V 27 _) (FY.out.below hb) (FZ.out.below hb), hb⟩
                rintro W5 ⟨hE, b5⟩
                refine (Concat_any _ [YS, ZS] W5 hE (by simp only [List.flatten_cons, List.flatten_nil, List.append_nil, List.length_append]; rw [hny.out, hnz.out]; omega)).mono ?_
                rintro e w6 ⟨u, rfl, hu, b6⟩
                rw [show [YS, ZS].flatten = YS ++ ZS by simp] at hu
                have b56 := b5.trans (b6.mono b5.size)
                have CU := Lib.hid (unique_any u (YS ++ ZS) w6 hu (by rw [List.length_append, hny.out, hnz.out]; omega) (by intro s hs; rcases List.mem_append.1 hs with h | h; exact szY.out s h; exact szZ.out s h))
                obtain ⟨ua, un, uc, rfl, -⟩ := vals_form hu
                have B56 := Lib.hid b56
                clear b5 b6 b56 hE hu
                go_wp2_with fail
                refine CU.out.mono ?_
                rintro e w7 ⟨x, rfl, hx, b7⟩
                have b57 := B56.out.trans (b7.mono B56.out.size)
                have OV := Lib.hid (own_below OV.out b57)
                have BV := Lib.hid (BV.out.trans (b57.mono hVs))
                have hVs := BV.out.size
                have FU := Lib.hid (L.own_vals hx)
                have hul := uniq_len (YS ++ ZS)
                obtain ⟨US, hUS⟩ : ∃ U, uniqT (YS ++ ZS) = U := ⟨_, rfl⟩
                rw [hUS] at FU hC hul
                rw [List.length_append, hny.out, hnz.out] at hul
                obtain ⟨nu, hnu⟩ : ∃ m, Hid (US.length = m) := ⟨_, Lib.hid rfl⟩
                rw [hnu.out] at hul
                obtain ⟨xa, xn, xc, rfl, -⟩ := vals_form FU.out
                clear hx b7 b57 B56 CU hUS
                go_wp2_with (at_builtin; refine L.wpList_append_vals rfl _ _ 27 9 rfl w10.heap.size i9 (.string ⟨#[]⟩) 16 Tryz.underlying27 hi9 hy0 hy1 hy2 rfl _ _ _ _ ((US).map .string) rfl OV.out rfl FU.out (str_one _) (by rw [List.length_map, hnu.out]; omega) (by decide) hVs ?_; intro v' w11 hown' hg4)
                have hb4 := BV.out.grown hg4 hVs (fun j e => (OV.out.lt j e).1)
                have ho2 : Hid (w11.ownsRow w10.heap.size 9 1 v' (l ++ US).length ((l ++ US).map .string)) := Lib.hid (by
                  rw [List.map_append, List.length_append, hnl.out]; rw [List.length_map] at hown'; exact hown')
                have hF2 : Hid (ordF y z (CK.take (k + 1)) = some (l ++ US)) := Lib.hid (by rw [hst.out]; exact hC.out)
                have hl2 : (l ++ US).length ≤ 200 * (k + 1) := by rw [List.length_append, hnl.out, hnu.out]; omega
                have Hb4 := Lib.hid hb4
                clear hown' hg4 hb4
                go_wp2_with fail
                exact ⟨⟨k + 1, by go_num, by omega, _, hF2, hl2, ho2, Hb4⟩, by simp [intOf]; omega⟩
            · have f4 : (c.kind == 4) = false := by simpa using h4
              have f4' : (c.kind != 4) = true := by rw [bne, f4]; rfl
              have hC : Hid (ordC y z (some l) c = some (l ++ YS)) := Lib.hid (by unfold ordC; simp only; rw [if_neg h2, if_pos h4, HYS.out])
              clear h2 h4
              go_wp2_with (at_builtin; refine L.wpList_append_vals rfl _ _ 27 9 rfl w10.heap.size i9 (.string ⟨#[]⟩) 16 Tryz.underlying27 hi9 hy0 hy1 hy2 rfl _ _ _ _ ((YS).map .string) rfl OV.out rfl FY.out (str_one _) (by rw [List.length_map, hny.out]; omega) (by decide) hVs ?_; intro v' w11 hown' hg4)
              have hb4 := BV.out.grown hg4 hVs (fun j e => (OV.out.lt j e).1)
              have ho2 : Hid (w11.ownsRow w10.heap.size 9 1 v' (l ++ YS).length ((l ++ YS).map .string)) := Lib.hid (by
                rw [List.map_append, List.length_append, hnl.out]; rw [List.length_map] at hown'; exact hown')
              have hF2 : Hid (ordF y z (CK.take (k + 1)) = some (l ++ YS)) := Lib.hid (by rw [hst.out]; exact hC.out)
              have hl2 : (l ++ YS).length ≤ 200 * (k + 1) := by rw [List.length_append, hnl.out, hny.out]; omega
              have Hb4 := Lib.hid hb4
              clear hown' hg4 hb4
              go_wp2_with fail
              exact ⟨⟨k + 1, by go_num, by omega, _, hF2, hl2, ho2, Hb4⟩, by simp [intOf]; omega⟩
        · have d1 : decide (k < n) = false := decide_eq_false (by omega)
          have hFA : Hid (ordF y z CK = some l) := Lib.hid (by have h := hF.out; rwa [ordF_all (by rw [hnn.out]; exact hlt)] at h)
          have hR2 : Hid (R = if (uniqT l).length = l.length then (l, true) else ([], false)) := Lib.hid (by rw [hRR.out, hFA.out])
          have hml : Hid (∀ s ∈ l, s.size ≤ maxLen) := Lib.hid (fun s hs => by
            rcases ordF_mem CK [] l hFA.out s hs with h | h | h
            · cases h
            · exact ky.out.2.2 s h
            · exact kz.out.2.2 s h)
          have VL := L.own_vals hOw.out
          have CU := Lib.hid (unique_any _ l wo VL (by rw [hnl.out]; omega) hml.out)
          have VL := Lib.hid VL
          have hul := uniq_len l
          obtain ⟨US, hUS⟩ : ∃ U, uniqT l = U := ⟨_, rfl⟩
          rw [hUS] at CU hul hR2
          obtain ⟨nu, hnu⟩ : ∃ m, Hid (US.length = m) := ⟨_, Lib.hid rfl⟩
          rw [hnl.out, hnu.out] at hul hR2
          rw [hnu.out] at CU
          clear hUS
          go_wp2_with fail
          refine CU.out.mono ?_
          rintro e w11 ⟨u, rfl, hu, b11⟩
          have BE : Hid (Below w.heap.size w w11) := Lib.hid ((B10.out.trans (hB.out.mono B10.out.size)).trans (b11.mono (Nat.le_trans B10.out.size hbs)))
          have VL := Lib.hid (VL.out.below b11)
          have PO := Lib.hid (L.own_low (own_below hOw.out b11) B10.out.size)
          obtain ⟨ua, uc, rfl⟩ := own_form hu
          clear hu b11 CU
          by_cases hlt2 : nu < nl
          · have f1 : decide (nu < nl) = true := decide_eq_true hlt2
            have hR3 : Hid (R = ([], false)) := Lib.hid (by rw [hR2.out, if_neg (by omega)])
            clear hlt2
            go_wp2_with fail
            go_ret2
            refine ⟨.slice none 0 0, by rw [hR3.out]; rfl, ?_, BE.out⟩
            rw [hR3.out]
            exact World.ownsRow_nil _ _ _ _
          · have f1 : decide (nu < nl) = false := decide_eq_false hlt2
            have hR3 : Hid (R = (l, true)) := Lib.hid (by rw [hR2.out, if_pos (by omega)])
            clear hlt2
            go_wp2_with fail
            go_ret2
            refine ⟨.slice ao nl co, by rw [hR3.out]; rfl, ?_, BE.out⟩
            rw [hR3.out]
            dsimp only
            rw [hnl.out]
            exact PO.out
end Go.Proofs.YtfjmhnnjgjcmeaaGreatDoor
