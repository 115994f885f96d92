/-
  For the laws of cells: a row of three rows of segments, by the document. Condition: at most 100 segments a row, keys and texts of at most 600 bytes.
-/
import Derived.Test.YtfjmhnnjgjcmeaaGreatDoorCz
namespace Go.Proofs.YtfjmhnnjgjcmeaaGreatDoor
open Go.RowKit Go.Shelf Go.Maps Go.WideMaps
set_option linter.unusedSimpArgs false
set_option linter.unusedVariables false

theorem sgs_at2 {w : World} {a : Option Addr} {n c : Nat} {L : SL} (h : Sgs w (.slice a n c) L) : ∀ (wr : World), Below w.heap.size w wr → ∀ (k : Nat) (p : ByteArray × ByteArray), L[k]? = some p → ∃ b off, a = some ⟨b, off, none⟩ ∧ wr.cell? ⟨b, off + k * 2, none⟩ = some (.string p.1) ∧ wr.cell? ⟨b, off + k * 2 + 1, none⟩ = some (.string p.2) := by
  obtain ⟨a', c', e, -, -, hz⟩ := sgs_at h
  cases e
  exact hz
theorem cfs_at2 {w : World} {a : Option Addr} {n c : Nat} {L : CL} (h : Cfs w (.slice a n c) L) : ∀ (wr : World), Below w.heap.size w wr → ∀ (k : Nat) (p : Int × ByteArray), L[k]? = some p → ∃ b off, a = some ⟨b, off, none⟩ ∧ wr.cell? ⟨b, off + k * 2, none⟩ = some (.int .i64 p.1) ∧ wr.cell? ⟨b, off + k * 2 + 1, none⟩ = some (.string p.2) := by
  obtain ⟨a', c', e, -, -, hz⟩ := cfs_at h
  cases e
  exact hz
theorem fil_take {T : SL} {r : TL} {k : Nat} {p : ByteArray × ByteArray} (h : T[k]? = some p) : (T.take (k + 1)).filter (fun p => !decide (p.1 ∈ r)) = (T.take k).filter (fun p => !decide (p.1 ∈ r)) ++ (if p.1 ∈ r then [] else [p]) := by
  rw [List.take_add_one, h, List.filter_append]
  congr 1
  by_cases e : p.1 ∈ r <;> simp [e]
set_option maxRecDepth 100000 in
set_option maxHeartbeats 16000000 in
theorem RefRow_any (v0 v1 v2 : Value) (o a b : SL) (w : World) (h0 : Sgs w v0 o) (h1 : Sgs w v1 a) (h2 : Sgs w v2 b) (l0 : o.length ≤ 100) (l1 : a.length ≤ 100) (l2 : b.length ≤ 100) (s0 : ∀ p ∈ o, p.1.size ≤ 600 ∧ p.2.size ≤ 600) (s1 : ∀ p ∈ a, p.1.size ≤ 600 ∧ p.2.size ≤ 600) (s2 : ∀ p ∈ b, p.1.size ≤ 600 ∧ p.2.size ≤ 600) :
    Calls Tryz.prog 24 #[v0, v1, v2] w fun e w' => ∃ u1 u2, e = .returned (.tuple #[u1, u2]) ∧ w'.ownsRow w.heap.size 49 2 u1 (rowG o a b).1.length (sv (rowG o a b).1) ∧ w'.ownsRow w.heap.size 55 2 u2 (rowG o a b).2.length (cv (rowG o a b).2) ∧ Below w.heap.size w w' := by
  have m6 : 600 ≤ maxLen := by unfold maxLen; omega
  have CT := Lib.hid (RefTexts_any v0 v1 v2 o a b w h0 h1 h2 l0 l1 l2 (fun p hp => (s0 p hp).2) (fun p hp => (s1 p hp).2) (fun p hp => (s2 p hp).2))
  have K0 := Lib.hid (fun W (hB : Below w.heap.size w W) => RefKeys_any v0 o W (h0.below hB) (by omega))
  have K1 := Lib.hid (fun W (hB : Below w.heap.size w W) => RefKeys_any v1 a W (h1.below hB) (by omega))
  have K2 := Lib.hid (fun W (hB : Below w.heap.size w W) => RefKeys_any v2 b W (h2.below hB) (by omega))
  have hTs := Lib.hid (texts_size (n := 600) (fun p hp => (s0 p hp).1) (fun p hp => (s1 p hp).1) (fun p hp => (s2 p hp).1))
  have hTn := Lib.hid (texts_nodup o a b)
  have kS : ∀ {L : SL}, (∀ p ∈ L, p.1.size ≤ 600 ∧ p.2.size ≤ 600) → ∀ s ∈ L.map Prod.fst, s.size ≤ 600 := by
    intro L h s hs
    obtain ⟨p, hp, rfl⟩ := List.mem_map.1 hs
    exact (h p hp).1
  have CO := Lib.hid (fun u0 u1 u2 W (g0 : L.Vals W u0 ((o.map Prod.fst).map .string)) (g1 : L.Vals W u1 ((a.map Prod.fst).map .string)) (g2 : L.Vals W u2 ((b.map Prod.fst).map .string)) => RefOrder_any u0 u1 u2 (o.map Prod.fst) (a.map Prod.fst) (b.map Prod.fst) W g0 g1 g2 (by rw [List.length_map]; exact l0) (by rw [List.length_map]; exact l1) (by rw [List.length_map]; exact l2) (fun s hs => Nat.le_trans (kS s0 s hs) m6) (fun s hs => Nat.le_trans (kS s1 s hs) m6) (fun s hs => Nat.le_trans (kS s2 s hs) m6))
  have hRs : Hid (∀ s ∈ (orderP (o.map Prod.fst) (a.map Prod.fst) (b.map Prod.fst)).1, s.size ≤ 600) := Lib.hid (fun s hs => by
    rcases order_mem s hs with h | h
    · exact kS s1 s h
    · exact kS s2 s h)
  have hRl : (orderP (o.map Prod.fst) (a.map Prod.fst) (b.map Prod.fst)).1.length ≤ 200 := by
    have h := order_len (o.map Prod.fst) (a.map Prod.fst) (b.map Prod.fst)
    rw [List.length_map, List.length_map] at h
    omega
  obtain ⟨hTl, hCl⟩ := texts_len o a b
  have hTl : (textsP o a b).1.length ≤ 300 := by omega
  have hCl : (textsP o a b).2.length ≤ 300 := by omega
  rw [rowG_ref]
  obtain ⟨z0, c0, rfl, -⟩ := h0
  obtain ⟨z1, c1, rfl, -⟩ := h1
  obtain ⟨z2, c2, rfl, -⟩ := h2
  obtain ⟨n0, hn0⟩ : ∃ n, Hid (o.length = n) := ⟨_, Lib.hid rfl⟩
  obtain ⟨n1, hn1⟩ : ∃ n, Hid (a.length = n) := ⟨_, Lib.hid rfl⟩
  obtain ⟨n2, hn2⟩ : ∃ n, Hid (b.length = n) := ⟨_, Lib.hid rfl⟩
  rw [hn0.out] at CT K0 ⊢
  rw [hn1.out] at CT K1 ⊢
  rw [hn2.out] at CT K2 ⊢
  obtain ⟨T, hT⟩ : ∃ T, (textsP o a b).1 = T := ⟨_, rfl⟩
  obtain ⟨C, hC⟩ : ∃ C, (textsP o a b).2 = C := ⟨_, rfl⟩
  obtain ⟨R, hR⟩ : ∃ R, orderP (o.map Prod.fst) (a.map Prod.fst) (b.map Prod.fst) = R := ⟨_, rfl⟩
  rw [hT] at CT hTs hTn hTl ⊢
  rw [hC] at CT hCl ⊢
  rw [hR] at CO hRs hRl ⊢
  clear hT hC hR l0 l1 l2 s0 s1 s2 kS
  obtain ⟨nt, hnt⟩ : ∃ n, Hid (T.length = n) := ⟨_, Lib.hid rfl⟩
  obtain ⟨nc, hnc⟩ : ∃ n, Hid (C.length = n) := ⟨_, Lib.hid rfl⟩
  obtain ⟨nr, hnr⟩ : ∃ n, Hid (R.1.length = n) := ⟨_, Lib.hid rfl⟩
  rw [hnt.out] at CT hTl
  rw [hnc.out] at CT hCl
  rw [hnr.out] at hRl
  obtain ⟨i9, hi9, hy0, hy1, hy2⟩ := info_parts S.try_info9
  obtain ⟨is, his, hs0, hs1, hs2⟩ := info49
  obtain ⟨ic, hic, hc0, hc1, hc2⟩ := info55
  go_enter Tryz.func24, Tryz.ntmps24
  go_wp2_with fail
  refine CT.out.mono ?_
  rintro e w1 ⟨u1, u2, rfl, ho1, ho2, b1⟩
  have O1 := Lib.hid ho1
  have O2 := Lib.hid ho2
  have B1 := Lib.hid b1
  obtain ⟨x1, e1, rfl⟩ := own_form ho1
  obtain ⟨x2, e2, rfl⟩ := own_form ho2
  clear ho1 ho2 b1 CT
  go_wp2_with fail
  refine (K0.out w1 B1.out).mono ?_
  rintro e w2 ⟨y0, rfl, q0, b2⟩
  have U0 := L.own_vals q0
  have O1 := Lib.hid (own_below O1.out b2)
  have O2 := Lib.hid (own_below O2.out b2)
  have B2 := Lib.hid (B1.out.trans (b2.mono B1.out.size))
  clear q0 b2 B1
  go_wp2_with fail
  refine (K1.out w2 B2.out).mono ?_
  rintro e w3 ⟨y1, rfl, q1, b3⟩
  have U1 := L.own_vals q1
  have U0 := U0.below b3
  have O1 := Lib.hid (own_below O1.out b3)
  have O2 := Lib.hid (own_below O2.out b3)
  have B3 := Lib.hid (B2.out.trans (b3.mono B2.out.size))
  clear q1 b3 B2
  go_wp2_with fail
  refine (K2.out w3 B3.out).mono ?_
  rintro e w4 ⟨y2, rfl, q2, b4⟩
  have U2 := L.own_vals q2
  have U1 := U1.below b4
  have U0 := U0.below b4
  have O1 := Lib.hid (own_below O1.out b4)
  have O2 := Lib.hid (own_below O2.out b4)
  have B4 := Lib.hid (B3.out.trans (b4.mono B3.out.size))
  clear q2 b4 B3 K0 K1 K2
  have CR := Lib.hid (CO.out y0 y1 y2 w4 U0 U1 U2)
  obtain ⟨f0, g0, d0, rfl, -⟩ := vals_form U0
  obtain ⟨f1, g1, d1, rfl, -⟩ := vals_form U1
  obtain ⟨f2, g2, d2, rfl, -⟩ := vals_form U2
  clear U0 U1 U2 CO
  go_wp2_with fail
  refine CR.out.mono ?_
  rintro e w5 ⟨v, rfl, ho3, b5⟩
  have O1 := Lib.hid (own_below O1.out b5)
  have O2 := Lib.hid (own_below O2.out b5)
  have B5 := Lib.hid (B4.out.trans (b5.mono B4.out.size))
  have V3 := Lib.hid ho3
  obtain ⟨x3, nx, e3, rfl, -⟩ := vals_form ho3
  clear ho3 b5 B4 CR
  have hws := B5.out.size
  obtain ⟨r1, r2⟩ := R
  dsimp only at hRs hRl hnr V3 ⊢
  cases r2 with
  | false =>
    go_wp2_with (at_builtin; refine wpList_append_own _ rfl _ _ 37 rfl w.heap.size 55 ic (.agg #[.int .i64 0, .string ⟨#[]⟩]) 2 24 Tryz.underlying37 hic hc0 hc1 hc2 rfl (by decide) _ _ _ rfl (O2.out.alloc _) ⟨w5.heap.size, 0, none⟩ 1 1 [.int .i64 2, .string ⟨#[]⟩] rfl rfl (con_new _ _ _) (by simp [Value.oneCell']) (by unfold maxLen; omega) (by omega) (by simp; omega) ?_; intro v' w6 hown' hgrow _)
    have P2 : Hid (w6.ownsRow w.heap.size 55 2 v' (C ++ [((2 : Int), (⟨#[]⟩ : ByteArray))]).length (cv (C ++ [((2 : Int), (⟨#[]⟩ : ByteArray))]))) := Lib.hid (by rw [List.length_append, cv_append, hnc.out]; exact hown')
    have P1 : Hid (w6.ownsRow w.heap.size 49 2 (.slice x1 nt e1) T.length (sv T)) := Lib.hid (by rw [hnt.out]; exact own_apart (O1.out.alloc _) (O2.out.alloc _) (by decide) hgrow)
    have hb := Lib.hid (below_grown2 B5.out O2.out hgrow)
    clear hown' hgrow
    go_wp2_with fail
    go_ret2
    exact ⟨_, _, rfl, P1.out, P2.out, hb.out⟩
  | true =>
    have hrow : Hid (rowR T C (r1, true) = (pickT T r1 ++ T.filter (fun p => !decide (p.1 ∈ r1)), C)) := Lib.hid rfl
    have HT := Lib.hid (own_sgs O1.out)
    obtain ⟨xk, ck, ek, hck, hcm, hxk⟩ := V3.out.at
    rw [List.length_map, hnr.out] at ek hck
    injection ek with ek1 ek2 ek3
    subst x3 nx e3
    have HX := Lib.hid hxk
    have GT := Lib.hid (fun s W (hB : Below w5.heap.size w5 W) => Get_any _ T s W (HT.out.below hB))
    have HS := Lib.hid (fun s W (hB : Below w5.heap.size w5 W) => has_any _ r1 s W (V3.out.below hB))
    have HT2 := Lib.hid (sgs_at2 HT.out)
    unfold maxLen at hcm
    clear hxk
    go_wp2_with fail
    go_loopw [12, 13] (fun ov i wr => ∃ k : Nat, k ≤ nr ∧ i = .int .i64 k ∧ ∃ acc : SL, Hid (pickT T (r1.take k) = acc) ∧ acc.length ≤ k ∧ Hid (wr.ownsRow w5.heap.size 49 2 ov acc.length (sv acc)) ∧ Hid (Below w5.heap.size w5 wr)) (fun _ i _ => nr - (intOf i).toNat)
    case atStart => exact ⟨0, Nat.zero_le _, rfl, [], Lib.hid rfl, Nat.le_refl _, Lib.hid (World.ownsRow_nil _ _ _ _), Lib.hid (Below.refl _ _)⟩
    case round =>
      obtain ⟨k, hk, rfl, A, hF, hl1, hO, hB⟩ := hrel
      obtain ⟨wo, rfl⟩ : ∃ wo, wo = wr := ⟨wr, rfl⟩
      obtain ⟨a1, c1', rfl⟩ := own_form hO.out
      obtain ⟨m1, hm1⟩ : ∃ n, Hid (A.length = n) := ⟨_, Lib.hid rfl⟩
      rw [hm1.out] at hl1 hO ⊢
      have hwo := hB.out.size
      rcases Nat.lt_or_ge k nr with hlt | hlt
      · obtain ⟨x, hx⟩ := get_lt (l := r1) (k := k) (by rw [hnr.out]; exact hlt)
        obtain ⟨bk, off, rfl, hbl, e0⟩ := HX.out k (.string x) (by rw [List.getElem?_map, hx]; rfl)
        have c1 : wo.cell? ⟨bk, off + k, none⟩ = some (.string x) := (hB.out.cell (p := ⟨bk, off + k, none⟩) hbl).trans e0
        have hst : Hid (pickT T (r1.take (k + 1)) = A ++ (if (getP T x).2 then [(x, (getP T x).1)] else [])) := Lib.hid (by rw [pick_take hx, hF.out])
        have d1 : decide (k < nr) = true := decide_eq_true hlt
        have d2 : (0 : Int) ≤ (k : Int) := by omega
        have d3 : (k : Int) < (nr : Int) := by omega
        have D := Lib.hid (GT.out x wo hB.out)
        obtain ⟨⟨g, p⟩, hg⟩ : ∃ g, getP T x = g := ⟨_, rfl⟩
        rw [hg] at D hst
        dsimp only at D hst
        clear hx e0 hF hg
        go_wp2_with fail
        refine D.out.mono ?_
        rintro e wa ⟨rfl, rfl⟩
        cases p with
        | true =>
          have hF2 : Hid (pickT T (r1.take (k + 1)) = A ++ [(x, g)]) := Lib.hid (by rw [hst.out]; rfl)
          clear hst D
          go_wp2_with (at_builtin; refine wpList_append_own _ rfl _ _ 35 rfl w5.heap.size 49 is (.agg #[.string ⟨#[]⟩, .string ⟨#[]⟩]) 2 32 Tryz.underlying35 his hs0 hs1 hs2 rfl (by decide) _ _ _ rfl (hO.out.alloc _) ⟨wa.heap.size, 0, none⟩ 1 1 [.string x, .string g] rfl rfl (seg_new _ _ _) (by simp [Value.oneCell']) (by unfold maxLen; omega) (by omega) (by simp; omega) ?_; intro v' w10 hown' hgrow _)
          have hO1' : Hid (w10.ownsRow w5.heap.size 49 2 v' (A ++ [(x, g)]).length (sv (A ++ [(x, g)]))) := Lib.hid (by rw [List.length_append, sv_append, hm1.out]; exact hown')
          have hb := Lib.hid (below_grown2 hB.out hO.out hgrow)
          clear hown' hgrow
          go_wp2_with fail
          exact ⟨⟨k + 1, by omega, by go_num, A ++ [(x, g)], hF2, by rw [List.length_append, hm1.out]; simp; omega, hO1', hb⟩, by simp [intOf]; omega⟩
        | false =>
          have hF2 : Hid (pickT T (r1.take (k + 1)) = A) := Lib.hid (by rw [hst.out]; simp)
          clear hst D
          go_wp2_with fail
          exact ⟨⟨k + 1, by omega, by go_num, A, hF2, by rw [hm1.out]; omega, by rw [hm1.out]; exact hO, hB⟩, by simp [intOf]; omega⟩
      · have d1 : decide (k < nr) = false := decide_eq_false (by omega)
        have hR : Hid (pickT T r1 = A) := Lib.hid (by have h := hF.out; rwa [List.take_of_length_le (by rw [hnr.out]; exact hlt)] at h)
        rw [hR.out] at hrow
        have hlA : m1 ≤ 200 := by omega
        clear hF d1
        have d1 : decide (k < nr) = false := decide_eq_false (by omega)
        go_wp2_with fail
        go_loopw [12, 16] (fun ov i wr => ∃ j : Nat, j ≤ nt ∧ i = .int .i64 j ∧ ∃ acc : SL, Hid (A ++ (T.take j).filter (fun p => !decide (p.1 ∈ r1)) = acc) ∧ acc.length ≤ 200 + j ∧ Hid (wr.ownsRow w5.heap.size 49 2 ov acc.length (sv acc)) ∧ Hid (Below w5.heap.size w5 wr)) (fun _ i _ => nt - (intOf i).toNat)
        case atStart => exact ⟨0, Nat.zero_le _, rfl, A, Lib.hid (by simp), by rw [hm1.out]; omega, by rw [hm1.out]; exact hO, hB⟩
        case round =>
          obtain ⟨j, hj, rfl, A2, hF2, hl2, hO2, hB2⟩ := hrel
          obtain ⟨w6, rfl⟩ : ∃ w6, w6 = wr := ⟨wr, rfl⟩
          obtain ⟨a2, c2', rfl⟩ := own_form hO2.out
          obtain ⟨m2, hm2⟩ : ∃ n, Hid (A2.length = n) := ⟨_, Lib.hid rfl⟩
          rw [hm2.out] at hl2 hO2 ⊢
          have hw6 := hB2.out.size
          clear hO hB hwo
          rcases Nat.lt_or_ge j nt with hjt | hjt
          · obtain ⟨x, hx⟩ := get_lt (l := T) (k := j) (by rw [hnt.out]; exact hjt)
            have hz := HT2.out
            obtain ⟨b, f, haz, k1, k2⟩ := hz w6 hB2.out j x hx
            subst haz
            have f1 : decide (j < nt) = true := decide_eq_true hjt
            have f2 : (0 : Int) ≤ (j : Int) := by omega
            have f3 : (j : Int) < (nt : Int) := by omega
            have D := Lib.hid (HS.out x.1 w6 hB2.out)
            have hst : Hid (A ++ (T.take (j + 1)).filter (fun p => !decide (p.1 ∈ r1)) = A2 ++ (if x.1 ∈ r1 then [] else [x])) := Lib.hid (by rw [fil_take hx, ← List.append_assoc, hF2.out])
            obtain ⟨s1, s2⟩ := x
            dsimp only at k1 k2 D hst
            clear hx hF2 hz
            by_cases hm : s1 ∈ r1
            · rw [decide_eq_true hm] at D
              have hF3 : Hid (A ++ (T.take (j + 1)).filter (fun p => !decide (p.1 ∈ r1)) = A2) := Lib.hid (by rw [hst.out, if_pos hm, List.append_nil])
              clear hst hm
              go_wp2_with fail
              refine D.out.mono ?_
              rintro e wa ⟨rfl, rfl⟩
              go_wp2_with fail
              exact ⟨⟨j + 1, by omega, by go_num, A2, hF3, by rw [hm2.out]; omega, by rw [hm2.out]; exact hO2, hB2⟩, by simp [intOf]; omega⟩
            · rw [decide_eq_false hm] at D
              have hF3 : Hid (A ++ (T.take (j + 1)).filter (fun p => !decide (p.1 ∈ r1)) = A2 ++ [(s1, s2)]) := Lib.hid (by rw [hst.out, if_neg hm])
              clear hst hm
              go_wp2_with fail
              refine D.out.mono ?_
              rintro e wa ⟨rfl, rfl⟩
              go_wp2_with (at_builtin; refine wpList_append_own _ rfl _ _ 35 rfl w5.heap.size 49 is (.agg #[.string ⟨#[]⟩, .string ⟨#[]⟩]) 2 32 Tryz.underlying35 his hs0 hs1 hs2 rfl (by decide) _ _ _ rfl (hO2.out.alloc _) ⟨wa.heap.size, 0, none⟩ 1 1 [.string s1, .string s2] rfl rfl (seg_new _ _ _) (by simp [Value.oneCell']) (by unfold maxLen; omega) (by omega) (by simp; omega) ?_; intro v' w10 hown' hgrow _)
              have hO1' : Hid (w10.ownsRow w5.heap.size 49 2 v' (A2 ++ [(s1, s2)]).length (sv (A2 ++ [(s1, s2)]))) := Lib.hid (by rw [List.length_append, sv_append, hm2.out]; exact hown')
              have hb := Lib.hid (below_grown2 hB2.out hO2.out hgrow)
              clear hown' hgrow
              go_wp2_with fail
              exact ⟨⟨j + 1, by omega, by go_num, A2 ++ [(s1, s2)], hF3, by rw [List.length_append, hm2.out]; simp; omega, hO1', hb⟩, by simp [intOf]; omega⟩
          · have f1 : decide (j < nt) = false := decide_eq_false (by omega)
            have hR2 : Hid (A ++ T.filter (fun p => !decide (p.1 ∈ r1)) = A2) := Lib.hid (by have h := hF2.out; rwa [List.take_of_length_le (by rw [hnt.out]; exact hjt)] at h)
            go_wp2_with fail
            go_ret2
            refine ⟨_, _, rfl, ?_⟩
            rw [hrow.out]
            dsimp only
            rw [hR2.out, hnc.out]
            rw [hm2.out]
            exact ⟨L.own_low hO2.out B5.out.size, own_below O2.out hB2.out, B5.out.trans (hB2.out.mono B5.out.size)⟩
end Go.Proofs.YtfjmhnnjgjcmeaaGreatDoor
