/-
  For the laws of cells: the order of three rows of keys, by the document. Condition: at most 100 keys a row.
-/
import Derived.Test.YtfjmhnnjgjcmeaaGreatDoorCl
import Derived.Deep.AppendLies
namespace Go.Proofs.YtfjmhnnjgjcmeaaGreatDoor
open Go.RowKit Go.Shelf Go.Maps Go.WideMaps
set_option linter.unusedSimpArgs false
set_option linter.unusedVariables false

/-- A row of the call's own, with what another slice holds behind it, in a region that draws. -/
theorem step_append_vals {w : World} {ops : Array Oper} {o : Oper} {a : Act} {K : Act → World → Prop} {Q : Exit → Act → World → Prop} {E : Prop} (hgd : o.guard = none) (s x : Operand) (t e : TypeId)
    (ho : o.op = .call { callee := .builtin .append, args := #[s, x], argTypes := #[t, t] }) (base : Nat) (i0 : TypeInfo) (z : Value) (bytes : Nat)
    (ht : Tryz.prog.underlying t = some (.slice e)) (hi : Tryz.prog.info? e = some i0) (hz0 : i0.zero = some z) (hz1 : i0.size = 1) (hz2 : i0.bytes = bytes) (hzs : z.cells.size = 1)
    (v vx : Value) (n : Nat) (xs ys : List Value) (hs : a.eval s = v) (hown : w.ownsRow base e 1 v n xs) (hx : a.eval x = vx) (hst : L.Vals w vx ys) (h1 : ∀ u ∈ ys, u.oneCell' = true)
    (hn : n + ys.length ≤ 1000000) (hby : bytes ≤ 100000) (hbase : base ≤ w.heap.size)
    (h : ∀ v' w', w'.ownsRow base e 1 v' (n + ys.length) (xs ++ ys) → w.grownBy w' v.ownBlock → K (a.put o.dst v') w') :
    if Region.wanted o (yielded ops a.tmps) = true then Oper.wp Tryz.prog o a w K Q else E := by
  have hbb : (n + ys.length) * bytes ≤ 140737488355328 := Nat.le_trans (Nat.mul_le_mul hn hby) (by decide)
  have hw : Region.wanted o (yielded ops a.tmps) = true := by simp [Region.wanted, hgd]
  rw [if_pos hw]
  obtain ⟨ad, cap, rfl, hc, hm, hv⟩ := hst
  by_cases h0 : ys.length = 0
  · have hy : ys = [] := List.eq_nil_of_length_eq_zero h0
    subst hy
    have hl0 : ∀ p, (loadCells p 0).run Tryz.prog w = .ok #[] w := fun p => by first | rfl | simp [loadCells]
    have hrun : (Builtin.append_ #[t, t] o.type #[v, .slice ad 0 cap]).run Tryz.prog w = .ok v w := by
      rcases hown.2 with ⟨rfl, rfl⟩ | ⟨g, cp, cur, rfl, _, _, hnc, _⟩
      · cases ad <;> simp [Builtin.append_, run_underlying ht, sizeOf, typeInfo, hi, Builtin.lenOf, Builtin.firstCells, hl0]
      · cases ad <;> simp [Builtin.append_, run_underlying ht, sizeOf, typeInfo, hi, Builtin.lenOf, Builtin.firstCells, hnc, storeCells, hl0]
    have hx' : a.eval x = .slice ad 0 cap := hx
    unfold Oper.wp
    simp [execOp, ho, resolve, invoke, builtin, hs, hx', hrun, Result.andThen]
    exact h v w (by simpa using hown) (World.grownBy.refl w _)
  · rcases hv with hv | ⟨b, off, rfl, hb, hcell⟩
    · exact absurd (by rw [hv]; rfl) h0
    · refine wp_append_lies w s x t ho base e i0 z 1 bytes ht hi hz0 hz1 hz2 hzs (by decide) v n xs hs hown ⟨b, off, none⟩ ys.length cap ys hx (by simp) ?_ h1 (by omega) (by unfold maxLen; omega) hbb hbase w.heap.size rfl (fun g cap w' h1 h2 _ _ => h _ w' h1 h2)
      intro j u hj
      have e2 : (⟨b, off, none⟩ : Addr).add j = ⟨b, off + j, none⟩ := by
        by_cases h0 : j = 0 <;> simp [Addr.add, h0]
      rw [e2]
      exact hcell j u hj
theorem own_ne {W : World} {base b n : Nat} {v : Value} {xs : List Value} {cs : Array Value} (h : W.ownsRow base 9 1 v n xs) (hr : RowAt W b 96 cs) : some b = v.ownBlock → False := by
  intro e
  rcases h.2 with ⟨rfl, -⟩ | ⟨g, cap, cur, rfl, -, hg, -⟩
  · cases e
  · obtain rfl : b = g := by injection e
    have h2 := hg.symm.trans hr
    injection h2 with h2
    injection h2 with _ h3
    exact absurd h3 (by decide)
theorem kyT.keep {l o a b : TL} (h : kyT l) : kyT (keepT l o a b) :=
  ⟨h.1.sublist List.filter_sublist, Nat.le_trans (keep_len l o a b) h.2.1, fun s hs => h.2.2 s (List.mem_filter.1 hs).1⟩
set_option maxRecDepth 100000 in
set_option maxHeartbeats 16000000 in
theorem RefOrder_any (v0 v1 v2 : Value) (o a b : TL) (w : World) (h0 : L.Vals w v0 (o.map .string)) (h1 : L.Vals w v1 (a.map .string)) (h2 : L.Vals w v2 (b.map .string)) (l0 : o.length ≤ 100) (l1 : a.length ≤ 100) (l2 : b.length ≤ 100) (s0 : ∀ s ∈ o, s.size ≤ maxLen) (s1 : ∀ s ∈ a, s.size ≤ maxLen) (s2 : ∀ s ∈ b, s.size ≤ maxLen) :
    Calls Tryz.prog 32 #[v0, v1, v2] w fun e w' => ∃ v', e = .returned (.tuple #[v', .bool (orderP o a b).2]) ∧ L.Vals w' v' ((orderP o a b).1.map .string) ∧ Below w.heap.size w w' := by
  obtain ⟨i9, hi9, hy0, hy1, hy2⟩ := info_parts S.try_info9
  have C0 := Lib.hid (RefOnce_any v0 o w h0 (by omega))
  have C1 := Lib.hid (fun W hB => RefOnce_any v1 a W (h1.below hB) (by omega))
  have C2 := Lib.hid (fun W hB => RefOnce_any v2 b W (h2.below hB) (by omega))
  have kO := Lib.hid (kyT.uniq l0 s0)
  have kA := Lib.hid (kyT.uniq l1 s1)
  have kB := Lib.hid (kyT.uniq l2 s2)
  unfold orderP
  obtain ⟨O, hO⟩ : ∃ O, uniqT o = O := ⟨_, rfl⟩
  obtain ⟨A, hA⟩ : ∃ O, uniqT a = O := ⟨_, rfl⟩
  obtain ⟨B, hB⟩ : ∃ O, uniqT b = O := ⟨_, rfl⟩
  rw [hO] at C0 kO ⊢
  rw [hA] at C1 kA ⊢
  rw [hB] at C2 kB ⊢
  obtain ⟨z0, n0, c0, rfl, -⟩ := vals_form h0
  obtain ⟨z1, n1, c1, rfl, -⟩ := vals_form h1
  obtain ⟨z2, n2, c2, rfl, -⟩ := vals_form h2
  clear h0 h1 h2 l0 l1 l2 s0 s1 s2 hO hA hB
  obtain ⟨R, hR⟩ : ∃ R, Hid (ordU O A B = R) := ⟨_, Lib.hid rfl⟩
  rw [hR.out]
  go_enter Tryz.func32, Tryz.ntmps32
  go_wp2_with fail
  refine C0.out.mono ?_
  rintro e w1 ⟨u0, rfl, ho0, hb1⟩
  have U0 := L.own_vals ho0
  have B1 := Lib.hid hb1
  clear ho0 hb1
  go_wp2_with fail
  refine (C1.out w1 B1.out).mono ?_
  rintro e w2 ⟨u1, rfl, ho1, hb2⟩
  have U1 := L.own_vals ho1
  have U0 := U0.below hb2
  have B2 := Lib.hid (B1.out.trans (hb2.mono B1.out.size))
  clear ho1 hb2
  go_wp2_with fail
  refine (C2.out w2 B2.out).mono ?_
  rintro e w3 ⟨u2, rfl, ho2, hb3⟩
  have U2 := L.own_vals ho2
  have U1 := U1.below hb3
  have U0 := U0.below hb3
  have B3 := Lib.hid (B2.out.trans (hb3.mono B2.out.size))
  clear ho2 hb3 C0 C1 C2 B1 B2
  obtain ⟨x0, m0, e0, rfl, hm0⟩ := vals_form U0
  obtain ⟨x1, m1, e1, rfl, hm1⟩ := vals_form U1
  obtain ⟨x2, m2, e2, rfl, hm2⟩ := vals_form U2
  have V0 := Lib.hid U0
  have V1 := Lib.hid U1
  have V2 := Lib.hid U2
  have E1 := Lib.hid (SameS_any _ _ B O w3 V2.out V0.out)
  have E2 := Lib.hid (fun q => SameS_any _ _ A O (w3.drewN q) (V1.out.below (below_draws (Below.refl _ _) q)) (V0.out.below (below_draws (Below.refl _ _) q)))
  clear U0 U1 U2
  obtain ⟨d1, hd1⟩ : ∃ d, Hid (decide (B = O) = d) := ⟨_, Lib.hid rfl⟩
  obtain ⟨d2, hd2⟩ : ∃ d, Hid (decide (A = O) = d) := ⟨_, Lib.hid rfl⟩
  rw [hd1.out] at E1
  rw [hd2.out] at E2
  go_wp2_with fail
  refine E1.out.mono ?_
  rintro e w4 ⟨rfl, q1, rfl⟩
  cases d1 with
  | true =>
    have hRR : Hid (R = (A, true)) := Lib.hid (by rw [← hR.out]; unfold ordU; rw [if_pos (of_decide_eq_true hd1.out)])
    go_wp2_with fail
    go_ret2
    refine ⟨.slice x1 m1 e1, by rw [hRR.out]; rfl, ?_, below_draws B3.out q1⟩
    rw [hRR.out]
    exact V1.out.below (below_draws (Below.refl _ _) q1)
  | false =>
    go_wp2_with fail
    refine (E2.out q1).mono ?_
    rintro e w4 ⟨rfl, q2, rfl⟩
    cases d2 with
    | true =>
      have hRR : Hid (R = (B, true)) := Lib.hid (by rw [← hR.out]; unfold ordU; rw [if_neg (of_decide_eq_false hd1.out), if_pos (of_decide_eq_true hd2.out)])
      go_wp2_with fail
      go_ret2
      refine ⟨.slice x2 m2 e2, by rw [hRR.out]; rfl, ?_, below_draws B3.out (q1 + q2)⟩
      rw [hRR.out]
      exact V2.out.below (below_draws (Below.refl _ _) (q1 + q2))
    | false =>
      obtain ⟨W4, hW4⟩ : ∃ W, (w3.drewN q1).drewN q2 = W := ⟨_, rfl⟩
      rw [hW4]
      have b4 : Below w3.heap.size w3 W4 := by rw [← hW4]; exact below_draws (below_draws (Below.refl _ _) q1) q2
      have B4 := Lib.hid (B3.out.trans (b4.mono B3.out.size))
      have X0 := Lib.hid (V0.out.below b4)
      have X1 := Lib.hid (V1.out.below b4)
      have X2 := Lib.hid (V2.out.below b4)
      clear b4 hW4 V0 V1 V2 B3 E1 E2
      have hRR : Hid (R = match ordF (keepT A O A B) (keepT B O A B) (L.chunksT (keepT O O A B) (keepT A O A B) (keepT B O A B)) with
        | none => ([], false)
        | some l => if (uniqT l).length = l.length then (l, true) else ([], false)) := Lib.hid (by
          rw [← hR.out]
          unfold ordU
          rw [if_neg (of_decide_eq_false hd1.out), if_neg (of_decide_eq_false hd2.out)]
          rfl)
      have KC := Lib.hid (RefKept_any _ _ _ _ O O A B W4 X0.out X0.out X1.out X2.out (Nat.le_trans kO.out.2.1 (by omega)))
      go_wp2_with fail
      refine KC.out.mono ?_
      rintro e w7 ⟨t0, rfl, ho, b7⟩
      have hT0 := L.own_vals ho
      have B7 := Lib.hid (B4.out.trans (b7.mono B4.out.size))
      have X0 := Lib.hid (X0.out.below b7)
      have X1 := Lib.hid (X1.out.below b7)
      have X2 := Lib.hid (X2.out.below b7)
      clear ho b7 B4 KC
      have KC := Lib.hid (RefKept_any _ _ _ _ A O A B w7 X1.out X0.out X1.out X2.out (Nat.le_trans kA.out.2.1 (by omega)))
      go_wp2_with fail
      refine KC.out.mono ?_
      rintro e w8 ⟨t1, rfl, ho, b8⟩
      have hT1 := L.own_vals ho
      have hT0 := hT0.below b8
      have B8 := Lib.hid (B7.out.trans (b8.mono B7.out.size))
      have X0 := Lib.hid (X0.out.below b8)
      have X1 := Lib.hid (X1.out.below b8)
      have X2 := Lib.hid (X2.out.below b8)
      clear ho b8 B7 KC
      have KC := Lib.hid (RefKept_any _ _ _ _ B O A B w8 X2.out X0.out X1.out X2.out (Nat.le_trans kB.out.2.1 (by omega)))
      go_wp2_with fail
      refine KC.out.mono ?_
      rintro e w9 ⟨t2, rfl, ho, b9⟩
      have hT2 := L.own_vals ho
      have hT0 := hT0.below b9
      have hT1 := hT1.below b9
      have B9 := Lib.hid (B8.out.trans (b9.mono B8.out.size))
      clear ho b9 B8 KC X0 X1 X2
      have kx : Hid (kyT (keepT O O A B)) := Lib.hid kO.out.keep
      have ky : Hid (kyT (keepT A O A B)) := Lib.hid kA.out.keep
      have kz : Hid (kyT (keepT B O A B)) := Lib.hid kB.out.keep
      obtain ⟨x, hx⟩ : ∃ x, keepT O O A B = x := ⟨_, rfl⟩
      obtain ⟨y, hy⟩ : ∃ x, keepT A O A B = x := ⟨_, rfl⟩
      obtain ⟨z, hz⟩ : ∃ x, keepT B O A B = x := ⟨_, rfl⟩
      rw [hx] at hT0 kx hRR
      rw [hy] at hT1 ky hRR
      rw [hz] at hT2 kz hRR
      clear hx hy hz hd1 hd2 hR kO kA kB hm0 hm1 hm2
      obtain ⟨p0, r0, f0, rfl, -⟩ := vals_form hT0
      obtain ⟨p1, r1, f1, rfl, -⟩ := vals_form hT1
      obtain ⟨p2, r2, f2, rfl, -⟩ := vals_form hT2
      have T1 := Lib.hid hT1
      have T2 := Lib.hid hT2
      have CP := Lib.hid (L.RefParts_any _ _ _ x y z w9 hT0 hT1 hT2 (Nat.le_trans kx.out.2.1 (by omega)) (Nat.le_trans ky.out.2.1 (by omega)) (Nat.le_trans kz.out.2.1 (by omega)) kx.out.2.2 ky.out.2.2 kz.out.2.2)
      have Hok := Lib.hid (chunksT_ok (o := x) (a := y) (b := z) (Nat.le_trans kx.out.2.1 (by omega)) (Nat.le_trans ky.out.2.1 (by omega)) (Nat.le_trans kz.out.2.1 (by omega)))
      have hcl : (L.chunksT x y z).length ≤ 300 := by
        have h := chunksT_len (o := x) (a := y) (b := z)
        have := kx.out.2.1
        have := ky.out.2.1
        have := kz.out.2.1
        omega
      obtain ⟨CK, hCK⟩ : ∃ CK, L.chunksT x y z = CK := ⟨_, rfl⟩
      rw [hCK] at CP hRR Hok hcl
      clear hT0 hT1 hT2 hCK
      go_wp2_with fail
      refine CP.out.mono ?_
      rintro e w10 ⟨v, rfl, hown, hb10⟩
      obtain ⟨ac, cc, rfl, hn, hc1, hc2, hx⟩ := cks_at hown
      have HX := Lib.hid hx
      have T1 := Lib.hid (T1.out.below hb10)
      have T2 := Lib.hid (T2.out.below hb10)
      have B10 := Lib.hid (B9.out.trans (hb10.mono B9.out.size))
      clear hx hown hb10 CP B9
      unfold maxLen at hc2
      obtain ⟨n, hnn⟩ : ∃ n, Hid (CK.length = n) := ⟨_, Lib.hid rfl⟩
      rw [hnn.out] at hc1 hcl
      rw [hnn.out]
      have hlen : Hid (y.length + z.length ≤ 200) := Lib.hid (by have := ky.out.2.1; have := kz.out.2.1; omega)
      go_wp2_with fail
      go_loopw [12, 13] (fun ov c wr => ∃ k : Nat, c = .int .i64 k ∧ k ≤ n ∧ ∃ l : TL, Hid (ordF y z (CK.take k) = some l) ∧ l.length ≤ 200 * k ∧ Hid (wr.ownsRow w10.heap.size 9 1 ov l.length (l.map .string)) ∧ Hid (Below w10.heap.size w10 wr)) (fun _ c _ => n - (intOf c).toNat)
      case atStart => exact ⟨0, rfl, Nat.zero_le _, [], Lib.hid rfl, Nat.le_refl _, Lib.hid (World.ownsRow_nil _ _ _ _), Lib.hid (Below.refl _ _)⟩
      case round =>
        obtain ⟨k, rfl, hk, l, hF, hll, hOw, hB⟩ := hrel
        obtain ⟨wo, rfl⟩ : ∃ wo, wo = wr := ⟨wr, rfl⟩
        have hbs := hB.out.size
        obtain ⟨ao, co, rfl⟩ := own_form hOw.out
        obtain ⟨nl, hnl⟩ : ∃ m, Hid (l.length = m) := ⟨_, Lib.hid rfl⟩
        rw [hnl.out] at hll hOw
        rw [hnl.out]
        rcases Nat.lt_or_ge k n with hlt | hlt
        · obtain ⟨c, hc⟩ := get_lt (l := CK) (k := k) (by rw [hnn.out]; exact hlt)
          obtain ⟨g, rfl, e0, e1, e2, e3, e4, e5, e6⟩ := HX.out wo hB.out k c hc
          obtain ⟨-, ⟨p3, p4⟩, p5, p6⟩ := Hok.out c (List.mem_of_getElem? hc)
          have hst : Hid (ordF y z (CK.take (k + 1)) = ordC y z (some l) c) := Lib.hid (by rw [ordF_take hc, hF.out])
          clear hc
          have d1 : decide (k < n) = true := decide_eq_true hlt
          have d2 : (0 : Int) ≤ (k : Int) := by omega
          have d3 : (k : Int) < (n : Int) := by omega
          obtain ⟨sy, hsy, fy⟩ := vals_cut (n1 := w10.heap.size) T1.out (Nat.le_refl _) c.p.a c.q.a p3 p4
          obtain ⟨sz, hsz, fz⟩ := vals_cut (n1 := w10.heap.size) T2.out (Nat.le_refl _) c.p.b c.q.b p5 p6
          have Fy := Lib.hid (fun U hU => (fy 0 U hU).vals)
          have Fz := Lib.hid (fun U hU => (fz 0 U hU).vals)
          obtain ⟨sya, syc, rfl, -⟩ := fy 0 w10 (Below.refl _ _)
          obtain ⟨sza, szc, rfl, -⟩ := fz 0 w10 (Below.refl _ _)
          obtain ⟨YS, hYS⟩ : ∃ l, L.slc y c.p.a c.q.a = l := ⟨_, rfl⟩
          obtain ⟨ZS, hZS⟩ : ∃ l, L.slc z c.p.b c.q.b = l := ⟨_, rfl⟩
          have ndY : Hid (YS.Nodup) := Lib.hid (by rw [← hYS]; exact nodup_slc ky.out.1 _ _)
          have ndZ : Hid (ZS.Nodup) := Lib.hid (by rw [← hZS]; exact nodup_slc kz.out.1 _ _)
          have szY : Hid (∀ s ∈ YS, s.size ≤ maxLen) := Lib.hid (by rw [← hYS]; exact fun s hs => ky.out.2.2 s (slc_mem hs))
          have szZ : Hid (∀ s ∈ ZS, s.size ≤ maxLen) := Lib.hid (by rw [← hZS]; exact fun s hs => kz.out.2.2 s (slc_mem hs))
          have lY : YS.length ≤ 100 := by rw [← hYS, slc_len p4]; have := ky.out.2.1; omega
          have lZ : ZS.length ≤ 100 := by rw [← hZS, slc_len p6]; have := kz.out.2.1; omega
          have HYS := Lib.hid hYS
          have HZS := Lib.hid hZS
          rw [hYS] at hsy Fy
          rw [hZS] at hsz Fz
          obtain ⟨ny, hny⟩ : ∃ m, Hid (YS.length = m) := ⟨_, Lib.hid rfl⟩
          obtain ⟨nz, hnz⟩ : ∃ m, Hid (ZS.length = m) := ⟨_, Lib.hid rfl⟩
          rw [hny.out] at hsy Fy lY
          rw [hnz.out] at hsz Fz lZ
          clear fy fz hYS hZS
          obtain ⟨V, hW2⟩ : ∃ W2, Hid (wo.alloc (.cells #[.int .i64 c.kind, .int .i64 (c.p.o : Nat), .int .i64 (c.q.o : Nat), .int .i64 (c.p.a : Nat), .int .i64 (c.q.a : Nat), .int .i64 (c.p.b : Nat), .int .i64 (c.q.b : Nat)] 96) = W2) := ⟨_, Lib.hid rfl⟩
          have R2 : RowAt V wo.heap.size 96 #[.int .i64 c.kind, .int .i64 (c.p.o : Nat), .int .i64 (c.q.o : Nat), .int .i64 (c.p.a : Nat), .int .i64 (c.q.a : Nat), .int .i64 (c.p.b : Nat), .int .i64 (c.q.b : Nat)] := by rw [← hW2.out]; exact RowAt.new wo 96 _
          have y0 : V.cell? ⟨wo.heap.size, 0, none⟩ = some (.int .i64 c.kind) := R2.cell rfl
          have y1 : V.cell? ⟨wo.heap.size, 1, none⟩ = some (.int .i64 (c.p.o : Nat)) := R2.cell rfl
          have y2 : V.cell? ⟨wo.heap.size, 2, none⟩ = some (.int .i64 (c.q.o : Nat)) := R2.cell rfl
          have y3 : V.cell? ⟨wo.heap.size, 3, none⟩ = some (.int .i64 (c.p.a : Nat)) := R2.cell rfl
          have y4 : V.cell? ⟨wo.heap.size, 4, none⟩ = some (.int .i64 (c.q.a : Nat)) := R2.cell rfl
          have y5 : V.cell? ⟨wo.heap.size, 5, none⟩ = some (.int .i64 (c.p.b : Nat)) := R2.cell rfl
          have y6 : V.cell? ⟨wo.heap.size, 6, none⟩ = some (.int .i64 (c.q.b : Nat)) := R2.cell rfl
          have bV : Below wo.heap.size wo V := by rw [← hW2.out]; exact (Below.refl _ wo).alloc (Nat.le_refl _) _
          have BV : Hid (Below w10.heap.size w10 V) := Lib.hid (hB.out.trans (bV.mono hbs))
          have OV := Lib.hid (own_below hOw.out bV)
          have hVs := BV.out.size
          have FY := Lib.hid (Fy.out V BV.out)
          have FZ := Lib.hid (Fz.out V BV.out)
          have hlt0 : Hid (∀ j, (Value.slice ao nl co).ownBlock = some j → j < wo.heap.size) := Lib.hid (fun j e => (hOw.out.lt j e).2)
          have hwV : wo.heap.size < V.heap.size := R2.lt
          have HR2 := Lib.hid R2
          clear R2 bV hB hOw
          by_cases h2 : c.kind = 2
          · have f2 : (c.kind == 2) = true := by simpa using h2
            have f2' : (c.kind != 2) = false := by rw [bne, f2]; rfl
            have f4 : (c.kind == 4) = false := by simp [h2]
            have hC : Hid (ordC y z (some l) c = some (l ++ ZS)) := Lib.hid (by unfold ordC; simp only; rw [if_pos h2, HZS.out])
            clear h2
            go_upto_region 17 with fail
            rw [hW2.out]
            clear e0 e1 e2 e3 e4 e5 e6
            go_wp2_with (at_builtin; refine L.wpList_append_vals rfl _ _ 27 9 rfl w10.heap.size i9 (.string ⟨#[]⟩) 16 Tryz.underlying27 hi9 hy0 hy1 hy2 rfl _ _ _ _ ((ZS).map .string) rfl OV.out rfl FZ.out (str_one _) (by rw [List.length_map, hnz.out]; omega) (by decide) hVs ?_; intro v' w11 hown' hg4; have hg5 : V.grownBy w11 (Value.slice ao nl co).ownBlock := hg4; have yn : w11.cell? ⟨wo.heap.size, 0, none⟩ = some (.int .i64 c.kind) := (World.cell?_of_block (a := ⟨wo.heap.size, 0, none⟩) (hg5.block wo.heap.size hwV (by intro e; have := hlt0.out _ e.symm; omega))).trans y0; clear hg5)
            have hb4 := BV.out.grown hg4 hVs (fun j e => (OV.out.lt j e).1)
            have ho2 : Hid (w11.ownsRow w10.heap.size 9 1 v' (l ++ ZS).length ((l ++ ZS).map .string)) := Lib.hid (by
              rw [List.map_append, List.length_append, hnl.out]; rw [List.length_map] at hown'; exact hown')
            have hF2 : Hid (ordF y z (CK.take (k + 1)) = some (l ++ ZS)) := Lib.hid (by rw [hst.out]; exact hC.out)
            have hl2 : (l ++ ZS).length ≤ 200 * (k + 1) := by rw [List.length_append, hnl.out, hnz.out]; omega
            have Hb4 := Lib.hid hb4
            clear hown' hg4 hb4
            go_wp2_with fail
            exact ⟨⟨k + 1, by go_num, by omega, _, hF2, hl2, ho2, Hb4⟩, by simp [intOf]; omega⟩
          · have f2 : (c.kind == 2) = false := by simpa using h2
            have f2' : (c.kind != 2) = true := by rw [bne, f2]; rfl
            by_cases h4 : c.kind = 4
            · have f4 : (c.kind == 4) = true := by simpa using h4
              by_cases hlo : c.p.o < c.q.o
              · have f5 : decide (c.p.o < c.q.o) = true := decide_eq_true hlo
                have hC : Hid (ordF y z CK = none) := Lib.hid (ordF_none (k := k + 1) (by rw [hst.out]; unfold ordC; simp only; rw [if_neg h2, if_neg (by simpa using h4), if_pos hlo]))
                have hR2 : Hid (R = ([], false)) := Lib.hid (by rw [hRR.out, hC.out])
                clear h2 h4 hlo
                go_upto_region 17 with fail
                rw [hW2.out]
                clear e0 e1 e2 e3 e4 e5 e6
                go_wp2_with fail
                go_ret2
                refine ⟨.slice none 0 0, by rw [hR2.out]; rfl, ?_, B10.out.trans (BV.out.mono B10.out.size)⟩
                rw [hR2.out]
                exact L.vals_nil V
              · have f5 : decide (c.p.o < c.q.o) = false := decide_eq_false hlo
                have hC : Hid (ordC y z (some l) c = some (l ++ (YS ++ noT YS ZS))) := Lib.hid (by
                  unfold ordC
                  simp only
                  rw [if_neg h2, if_neg (by simpa using h4), if_neg hlo, HYS.out, HZS.out]
                  rfl)
                have CW := Lib.hid (fun W (hW : Below w10.heap.size w10 W) => RefWithout_any (.slice sza nz szc) (.slice sya ny syc) ZS YS W (Fz.out W hW) (Fy.out W hW) (by rw [hnz.out]; omega))
                obtain ⟨US, hUS⟩ : ∃ U, noT YS ZS = U := ⟨_, rfl⟩
                have hul := no_len YS ZS
                rw [hUS] at CW hC hul
                rw [hnz.out] at hul
                obtain ⟨nu, hnu⟩ : ∃ m, Hid (US.length = m) := ⟨_, Lib.hid rfl⟩
                rw [hnu.out] at hul
                clear h2 h4 hlo hUS
                go_upto_region 17 with fail
                rw [hW2.out]
                clear e0 e1 e2 e3 e4 e5 e6
                go_wp2_with (at_builtin; refine L.wpList_append_vals rfl _ _ 27 9 rfl w10.heap.size i9 (.string ⟨#[]⟩) 16 Tryz.underlying27 hi9 hy0 hy1 hy2 rfl _ _ _ _ (YS.map .string) rfl OV.out rfl FY.out (str_one _) (by rw [List.length_map, hny.out]; omega) (by decide) hVs ?_; intro v' w11 hown' hg4; have hg5 : V.grownBy w11 (Value.slice ao nl co).ownBlock := hg4; have R11 : RowAt w11 wo.heap.size 96 #[.int .i64 c.kind, .int .i64 (c.p.o : Nat), .int .i64 (c.q.o : Nat), .int .i64 (c.p.a : Nat), .int .i64 (c.q.a : Nat), .int .i64 (c.p.b : Nat), .int .i64 (c.q.b : Nat)] := HR2.out.same (hg5.block wo.heap.size hwV (by intro e; have := hlt0.out _ e.symm; omega)); clear hg5; have x0 : w11.cell? ⟨wo.heap.size, 0, none⟩ = some (.int .i64 c.kind) := R11.cell rfl; have x1 : w11.cell? ⟨wo.heap.size, 1, none⟩ = some (.int .i64 (c.p.o : Nat)) := R11.cell rfl; have x2 : w11.cell? ⟨wo.heap.size, 2, none⟩ = some (.int .i64 (c.q.o : Nat)) := R11.cell rfl; have x3 : w11.cell? ⟨wo.heap.size, 3, none⟩ = some (.int .i64 (c.p.a : Nat)) := R11.cell rfl; have x4 : w11.cell? ⟨wo.heap.size, 4, none⟩ = some (.int .i64 (c.q.a : Nat)) := R11.cell rfl; have x5 : w11.cell? ⟨wo.heap.size, 5, none⟩ = some (.int .i64 (c.p.b : Nat)) := R11.cell rfl; have x6 : w11.cell? ⟨wo.heap.size, 6, none⟩ = some (.int .i64 (c.q.b : Nat)) := R11.cell rfl)
                have Bb := Lib.hid (BV.out.grown hg4 hVs (fun j e => (OV.out.lt j e).1))
                have OVb : Hid (w11.ownsRow w10.heap.size 9 1 v' (nl + ny) (l.map .string ++ YS.map .string)) := Lib.hid (by rw [List.length_map, hny.out] at hown'; exact hown')
                have hVs := Bb.out.size
                have HR11 : Hid (∀ W, Below w11.heap.size w11 W → RowAt W wo.heap.size 96 #[.int .i64 c.kind, .int .i64 (c.p.o : Nat), .int .i64 (c.q.o : Nat), .int .i64 (c.p.a : Nat), .int .i64 (c.q.a : Nat), .int .i64 (c.p.b : Nat), .int .i64 (c.q.b : Nat)]) := Lib.hid (fun W hW => R11.later hW)
                have HRk : Hid (∀ W, Below w11.heap.size w11 W → W.cell? ⟨wo.heap.size, 5, none⟩ = some (.int .i64 (c.p.b : Nat)) ∧ W.cell? ⟨wo.heap.size, 6, none⟩ = some (.int .i64 (c.q.b : Nat)) ∧ W.cell? ⟨wo.heap.size, 3, none⟩ = some (.int .i64 (c.p.a : Nat)) ∧ W.cell? ⟨wo.heap.size, 4, none⟩ = some (.int .i64 (c.q.a : Nat))) := Lib.hid (fun W hW => ⟨(R11.later hW).cell rfl, (R11.later hW).cell rfl, (R11.later hW).cell rfl, (R11.later hW).cell rfl⟩)
                clear hown' hg4 y0 y1 y2 y3 y4 y5 y6 OV BV FY FZ R11 HR2
                obtain ⟨ab, cb, rfl⟩ := own_form OVb.out
                go_wp2_with fail
                go_region_held_law (fun W => W.cell? ⟨wo.heap.size, 5, none⟩ = some (.int .i64 (c.p.b : Nat)) ∧ W.cell? ⟨wo.heap.size, 6, none⟩ = some (.int .i64 (c.q.b : Nat)) ∧ W.cell? ⟨wo.heap.size, 3, none⟩ = some (.int .i64 (c.p.a : Nat)) ∧ W.cell? ⟨wo.heap.size, 4, none⟩ = some (.int .i64 (c.q.a : Nat))) (first | go_keep | exact HRk.out _ B9k.out | exact HKn.out)
                  (first
                    | (refine step_append_vals (by rfl) _ _ 27 9 (by rfl) w10.heap.size i9 (.string ⟨#[]⟩) 16 Tryz.underlying27 hi9 hy0 hy1 hy2 rfl _ _ _ _ (US.map .string) (by rfl) OV9.out (by rfl) FU.out (str_one _) (by rw [List.length_map, hnu.out]; omega) (by decide) hVs9 ?_; intro v' w12 hown' hg4; have R9 := HR11.out _ B9k.out; have hg5 : w9.grownBy w12 (Value.slice ab (nl + ny) cb).ownBlock := hg4; have R12 := R9.same (hg5.block wo.heap.size R9.lt (fun e => own_ne OV9.out R9 e)); have HKn : Hid (w12.cell? ⟨wo.heap.size, 5, none⟩ = some (.int .i64 (c.p.b : Nat)) ∧ w12.cell? ⟨wo.heap.size, 6, none⟩ = some (.int .i64 (c.q.b : Nat)) ∧ w12.cell? ⟨wo.heap.size, 3, none⟩ = some (.int .i64 (c.p.a : Nat)) ∧ w12.cell? ⟨wo.heap.size, 4, none⟩ = some (.int .i64 (c.q.a : Nat))) := Lib.hid ⟨R12.cell rfl, R12.cell rfl, R12.cell rfl, R12.cell rfl⟩; clear hg5 R9 R12)
                    | (go_at_call 61; refine (CW.out _ (by first | exact Bb.out | exact below_draws Bb.out _)).mono ?_; rintro e w9 ⟨u9, rfl, hu9, b9⟩; have b9' : Below w11.heap.size w11 w9 := (by first | exact b9 | exact (below_draws (Below.refl _ _) _).trans b9); have OV9 := Lib.hid (own_below OVb.out b9'); have FU := Lib.hid (L.own_vals hu9); have hVs9 : w10.heap.size ≤ w9.heap.size := Nat.le_trans hVs b9'.size; have B9p := Lib.hid (Bb.out.trans (b9'.mono hVs)); have B9k := Lib.hid b9'; obtain ⟨xa, xc, rfl⟩ := own_form hu9; clear hu9 b9 b9'))
                have hb4 := B9p.out.grown hg4 hVs9 (fun j e => (OV9.out.lt j e).1)
                have ho2 : Hid (w12.ownsRow w10.heap.size 9 1 v' (l ++ (YS ++ US)).length ((l ++ (YS ++ US)).map .string)) := Lib.hid (by
                  rw [List.map_append, List.map_append, List.length_append, List.length_append, hnl.out, hny.out, ← Nat.add_assoc, ← List.append_assoc]; rw [List.length_map] at hown'; exact hown')
                have hF2 : Hid (ordF y z (CK.take (k + 1)) = some (l ++ (YS ++ US))) := Lib.hid (by rw [hst.out]; exact hC.out)
                have hl2 : (l ++ (YS ++ US)).length ≤ 200 * (k + 1) := by rw [List.length_append, List.length_append, hnl.out, hny.out, hnu.out]; omega
                have Hb4 := Lib.hid hb4
                clear hown' hg4 hb4
                go_wp2_with fail
                exact ⟨⟨k + 1, by go_num, by omega, _, hF2, hl2, ho2, Hb4⟩, by simp [intOf]; omega⟩
            · have f4 : (c.kind == 4) = false := by simpa using h4
              have hC : Hid (ordC y z (some l) c = some (l ++ YS)) := Lib.hid (by unfold ordC; simp only; rw [if_neg h2, if_pos h4, HYS.out])
              clear h2 h4
              go_upto_region 17 with fail
              rw [hW2.out]
              clear e0 e1 e2 e3 e4 e5 e6
              go_wp2_with (at_builtin; refine L.wpList_append_vals rfl _ _ 27 9 rfl w10.heap.size i9 (.string ⟨#[]⟩) 16 Tryz.underlying27 hi9 hy0 hy1 hy2 rfl _ _ _ _ ((YS).map .string) rfl OV.out rfl FY.out (str_one _) (by rw [List.length_map, hny.out]; omega) (by decide) hVs ?_; intro v' w11 hown' hg4; have hg5 : V.grownBy w11 (Value.slice ao nl co).ownBlock := hg4; have yn : w11.cell? ⟨wo.heap.size, 0, none⟩ = some (.int .i64 c.kind) := (World.cell?_of_block (a := ⟨wo.heap.size, 0, none⟩) (hg5.block wo.heap.size hwV (by intro e; have := hlt0.out _ e.symm; omega))).trans y0; clear hg5)
              have hb4 := BV.out.grown hg4 hVs (fun j e => (OV.out.lt j e).1)
              have ho2 : Hid (w11.ownsRow w10.heap.size 9 1 v' (l ++ YS).length ((l ++ YS).map .string)) := Lib.hid (by
                rw [List.map_append, List.length_append, hnl.out]; rw [List.length_map] at hown'; exact hown')
              have hF2 : Hid (ordF y z (CK.take (k + 1)) = some (l ++ YS)) := Lib.hid (by rw [hst.out]; exact hC.out)
              have hl2 : (l ++ YS).length ≤ 200 * (k + 1) := by rw [List.length_append, hnl.out, hny.out]; omega
              have Hb4 := Lib.hid hb4
              clear hown' hg4 hb4
              go_wp2_with fail
              exact ⟨⟨k + 1, by go_num, by omega, _, hF2, hl2, ho2, Hb4⟩, by simp [intOf]; omega⟩
        · have d1 : decide (k < n) = false := decide_eq_false (by omega)
          have hFA : Hid (ordF y z CK = some l) := Lib.hid (by have h := hF.out; rwa [ordF_all (by rw [hnn.out]; exact hlt)] at h)
          have hR2 : Hid (R = if (uniqT l).length = l.length then (l, true) else ([], false)) := Lib.hid (by rw [hRR.out, hFA.out])
          have hml : Hid (∀ s ∈ l, s.size ≤ maxLen) := Lib.hid (fun s hs => by
            rcases ordF_mem CK [] l hFA.out s hs with h | h | h
            · cases h
            · exact ky.out.2.2 s h
            · exact kz.out.2.2 s h)
          have VL := L.own_vals hOw.out
          have CU := Lib.hid (RefOnce_any _ l wo VL (by rw [hnl.out]; omega))
          have VL := Lib.hid VL
          have hul := uniq_len l
          obtain ⟨US, hUS⟩ : ∃ U, uniqT l = U := ⟨_, rfl⟩
          rw [hUS] at CU hul hR2
          obtain ⟨nu, hnu⟩ : ∃ m, Hid (US.length = m) := ⟨_, Lib.hid rfl⟩
          rw [hnl.out, hnu.out] at hul hR2
          rw [hnu.out] at CU
          clear hUS
          go_wp2_with fail
          refine CU.out.mono ?_
          rintro e w11 ⟨u, rfl, hu, b11⟩
          have BE : Hid (Below w.heap.size w w11) := Lib.hid ((B10.out.trans (hB.out.mono B10.out.size)).trans (b11.mono (Nat.le_trans B10.out.size hbs)))
          have VL := Lib.hid (VL.out.below b11)
          obtain ⟨ua, uc, rfl⟩ := own_form hu
          clear hu b11 CU
          by_cases hlt2 : nu < nl
          · have f1 : (nu != nl) = true := by simp; omega
            have hR3 : Hid (R = ([], false)) := Lib.hid (by rw [hR2.out, if_neg (by omega)])
            clear hlt2
            go_wp2_with fail
            go_ret2
            refine ⟨.slice none 0 0, by rw [hR3.out]; rfl, ?_, BE.out⟩
            rw [hR3.out]
            exact L.vals_nil w11
          · have f1 : (nu != nl) = false := by simp; omega
            have hR3 : Hid (R = (l, true)) := Lib.hid (by rw [hR2.out, if_pos (by omega)])
            clear hlt2
            go_wp2_with fail
            go_ret2
            refine ⟨.slice ao nl co, by rw [hR3.out]; rfl, ?_, BE.out⟩
            rw [hR3.out]
            exact VL.out
end Go.Proofs.YtfjmhnnjgjcmeaaGreatDoor
