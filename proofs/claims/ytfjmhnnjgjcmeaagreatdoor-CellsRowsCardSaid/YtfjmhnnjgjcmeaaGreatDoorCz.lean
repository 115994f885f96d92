/-
  For the laws of cells: a row of three rows of segments, by the program. Condition: at most 100 segments a row, keys and texts of at most 600 bytes.
-/
import Derived.Test.YtfjmhnnjgjcmeaaGreatDoorCy
import Derived.Test.YtfjmhnnjgjcmeaaGreatDoorCw
namespace Go.Proofs.YtfjmhnnjgjcmeaaGreatDoor
open Go.RowKit Go.Shelf Go.Maps Go.WideMaps
set_option linter.unusedSimpArgs false
set_option linter.unusedVariables false

theorem pick_take {l : SL} {K : TL} {k : Nat} {s : ByteArray} (h : K[k]? = some s) : pickT l (K.take (k + 1)) = pickT l (K.take k) ++ (if (getP l s).2 then [(s, (getP l s).1)] else []) := by
  unfold pickT
  rw [List.take_add_one, h, List.filterMap_append]
  congr 1
  simp only [Option.toList_some, List.filterMap_cons, List.filterMap_nil]
  have e : pkF l s = if (getP l s).2 then some (s, (getP l s).1) else none := rfl
  rw [e]
  cases (getP l s).2 <;> rfl
theorem allK_len (o a b : SL) : (allK o a b).length ≤ o.length + a.length + b.length := by
  have h := uniq_len (a.map Prod.fst ++ o.map Prod.fst ++ b.map Prod.fst)
  rw [List.length_append, List.length_append, List.length_map, List.length_map, List.length_map] at h
  unfold allK
  omega
theorem texts_len (o a b : SL) : (textsP o a b).1.length ≤ o.length + a.length + b.length ∧ (textsP o a b).2.length ≤ o.length + a.length + b.length := by
  have h := allK_len o a b
  rw [texts_eq]
  exact ⟨Nat.le_trans (List.length_filterMap_le _ _) h, Nat.le_trans (List.length_filterMap_le _ _) h⟩
theorem allK_size {o a b : SL} {n : Nat} (h0 : ∀ p ∈ o, p.1.size ≤ n) (h1 : ∀ p ∈ a, p.1.size ≤ n) (h2 : ∀ p ∈ b, p.1.size ≤ n) : ∀ s ∈ allK o a b, s.size ≤ n := by
  intro s hs
  rcases allK_mem.1 hs with (h | h) | h
  · obtain ⟨p, hp, rfl⟩ := List.mem_map.1 h; exact h1 p hp
  · obtain ⟨p, hp, rfl⟩ := List.mem_map.1 h; exact h0 p hp
  · obtain ⟨p, hp, rfl⟩ := List.mem_map.1 h; exact h2 p hp
theorem texts_size {o a b : SL} {n : Nat} (h0 : ∀ p ∈ o, p.1.size ≤ n) (h1 : ∀ p ∈ a, p.1.size ≤ n) (h2 : ∀ p ∈ b, p.1.size ≤ n) : ∀ p ∈ (textsP o a b).1, p.1.size ≤ n :=
  fun p hp => allK_size h0 h1 h2 p.1 (texts_mem.1 hp).1
theorem order_mem {o a b : TL} : ∀ s ∈ (orderP o a b).1, s ∈ a ∨ s ∈ b := by
  intro s hs
  unfold orderP ordU at hs
  split at hs
  · exact .inl (uniq_mem.1 hs)
  · split at hs
    · exact .inr (uniq_mem.1 hs)
    · split at hs
      · cases hs
      · rename_i l e
        split at hs
        · rcases ordF_mem _ _ _ e s hs with h | h | h
          · cases h
          · exact .inl (uniq_mem.1 (List.mem_filter.1 h).1)
          · exact .inr (uniq_mem.1 (List.mem_filter.1 h).1)
        · cases hs
theorem order_len (o a b : TL) : (orderP o a b).1.length ≤ a.length + b.length := by
  by_cases h : (orderP o a b).2 = true
  · have h1 := order_nodup h
    have h2 := h1.length_le_of_subset (l₂ := a ++ b) (fun s hs => List.mem_append.2 (order_mem s hs))
    rwa [List.length_append] at h2
  · unfold orderP ordU at h ⊢
    split
    · rename_i h1; rw [if_pos h1] at h; exact absurd rfl h
    · rename_i h1
      rw [if_neg h1] at h
      split
      · rename_i h2; rw [if_pos h2] at h; exact absurd rfl h
      · rename_i h2
        rw [if_neg h2] at h
        split
        · exact Nat.zero_le _
        · rename_i l e
          rw [e] at h
          simp only at h
          split
          · rename_i h3; rw [if_pos h3] at h; exact absurd rfl h
          · exact Nat.zero_le _

theorem fst_apart {W W' : World} {b n base e s m : Nat} {K : TL} {u : Value} {ys : List Value} (h : FstM W b K n) (k : W.ownsRow base e s u m ys) (hg : W.grownBy W' u.ownBlock) : FstM W' b K n := by
  refine h.same (hg.block b h.lt ?_)
  intro hb
  obtain ⟨D, ⟨es, cl, h1, -⟩, -⟩ := h
  rcases k.2 with ⟨rfl, -⟩ | ⟨g', cap', cur', rfl, -, hgb', -⟩
  · cases hb
  · obtain rfl : b = g' := by injection hb
    have h2 := h1.symm.trans hgb'
    injection h2 with h2
    cases h2
set_option maxRecDepth 100000 in
set_option maxHeartbeats 16000000 in
theorem Row_any (v0 v1 v2 : Value) (o a b : SL) (w : World) (hW : X.LexW w) (hs : 4 ≤ w.heap.size) (h0 : Sgs w v0 o) (h1 : Sgs w v1 a) (h2 : Sgs w v2 b) (l0 : o.length ≤ 100) (l1 : a.length ≤ 100) (l2 : b.length ≤ 100) (s0 : ∀ p ∈ o, p.1.size ≤ 600 ∧ p.2.size ≤ 600) (s1 : ∀ p ∈ a, p.1.size ≤ 600 ∧ p.2.size ≤ 600) (s2 : ∀ p ∈ b, p.1.size ≤ 600 ∧ p.2.size ≤ 600) :
    Calls Tryz.prog 23 #[v0, v1, v2] w fun e w' => ∃ u1 u2, e = .returned (.tuple #[u1, u2]) ∧ w'.ownsRow w.heap.size 49 2 u1 (rowG o a b).1.length (sv (rowG o a b).1) ∧ w'.ownsRow w.heap.size 55 2 u2 (rowG o a b).2.length (cv (rowG o a b).2) ∧ Below w.heap.size w w' := by
  have m6 : 600 ≤ maxLen := by unfold maxLen; omega
  have CT := Lib.hid (Texts_any v0 v1 v2 o a b w hW hs h0 h1 h2 l0 l1 l2 s0 s1 s2)
  have K0 := Lib.hid (fun W (hB : Below w.heap.size w W) => keys_any v0 o W (h0.below hB) (by omega))
  have K1 := Lib.hid (fun W (hB : Below w.heap.size w W) => keys_any v1 a W (h1.below hB) (by omega))
  have K2 := Lib.hid (fun W (hB : Below w.heap.size w W) => keys_any v2 b W (h2.below hB) (by omega))
  have hTs := Lib.hid (texts_size (n := 600) (fun p hp => (s0 p hp).1) (fun p hp => (s1 p hp).1) (fun p hp => (s2 p hp).1))
  have hTn := Lib.hid (texts_nodup o a b)
  have kS : ∀ {L : SL}, (∀ p ∈ L, p.1.size ≤ 600 ∧ p.2.size ≤ 600) → ∀ s ∈ L.map Prod.fst, s.size ≤ 600 := by
    intro L h s hs
    obtain ⟨p, hp, rfl⟩ := List.mem_map.1 hs
    exact (h p hp).1
  have CO := Lib.hid (fun u0 u1 u2 W (g0 : L.Vals W u0 ((o.map Prod.fst).map .string)) (g1 : L.Vals W u1 ((a.map Prod.fst).map .string)) (g2 : L.Vals W u2 ((b.map Prod.fst).map .string)) => Order_any u0 u1 u2 (o.map Prod.fst) (a.map Prod.fst) (b.map Prod.fst) W g0 g1 g2 (by rw [List.length_map]; exact l0) (by rw [List.length_map]; exact l1) (by rw [List.length_map]; exact l2) (fun s hs => Nat.le_trans (kS s0 s hs) m6) (fun s hs => Nat.le_trans (kS s1 s hs) m6) (fun s hs => Nat.le_trans (kS s2 s hs) m6))
  have hRs : Hid (∀ s ∈ (orderP (o.map Prod.fst) (a.map Prod.fst) (b.map Prod.fst)).1, s.size ≤ 600) := Lib.hid (fun s hs => by
    rcases order_mem s hs with h | h
    · exact kS s1 s h
    · exact kS s2 s h)
  have hRl : (orderP (o.map Prod.fst) (a.map Prod.fst) (b.map Prod.fst)).1.length ≤ 200 := by
    have h := order_len (o.map Prod.fst) (a.map Prod.fst) (b.map Prod.fst)
    rw [List.length_map, List.length_map] at h
    omega
  obtain ⟨hTl, hCl⟩ := texts_len o a b
  have hTl : (textsP o a b).1.length ≤ 300 := by omega
  have hCl : (textsP o a b).2.length ≤ 300 := by omega
  unfold rowG
  obtain ⟨z0, c0, rfl, -⟩ := h0
  obtain ⟨z1, c1, rfl, -⟩ := h1
  obtain ⟨z2, c2, rfl, -⟩ := h2
  obtain ⟨n0, hn0⟩ : ∃ n, Hid (o.length = n) := ⟨_, Lib.hid rfl⟩
  obtain ⟨n1, hn1⟩ : ∃ n, Hid (a.length = n) := ⟨_, Lib.hid rfl⟩
  obtain ⟨n2, hn2⟩ : ∃ n, Hid (b.length = n) := ⟨_, Lib.hid rfl⟩
  rw [hn0.out] at CT K0 ⊢
  rw [hn1.out] at CT K1 ⊢
  rw [hn2.out] at CT K2 ⊢
  obtain ⟨T, hT⟩ : ∃ T, (textsP o a b).1 = T := ⟨_, rfl⟩
  obtain ⟨C, hC⟩ : ∃ C, (textsP o a b).2 = C := ⟨_, rfl⟩
  obtain ⟨R, hR⟩ : ∃ R, orderP (o.map Prod.fst) (a.map Prod.fst) (b.map Prod.fst) = R := ⟨_, rfl⟩
  rw [hT] at CT hTs hTn hTl ⊢
  rw [hC] at CT hCl ⊢
  rw [hR] at CO hRs hRl ⊢
  clear hT hC hR l0 l1 l2 s0 s1 s2 hW kS
  obtain ⟨nt, hnt⟩ : ∃ n, Hid (T.length = n) := ⟨_, Lib.hid rfl⟩
  obtain ⟨nc, hnc⟩ : ∃ n, Hid (C.length = n) := ⟨_, Lib.hid rfl⟩
  obtain ⟨nr, hnr⟩ : ∃ n, Hid (R.1.length = n) := ⟨_, Lib.hid rfl⟩
  rw [hnt.out] at CT hTl
  rw [hnc.out] at CT hCl
  rw [hnr.out] at CO hRl
  obtain ⟨i9, hi9, hy0, hy1, hy2⟩ := info_parts S.try_info9
  obtain ⟨is, his, hs0, hs1, hs2⟩ := info49
  obtain ⟨ic, hic, hc0, hc1, hc2⟩ := info55
  go_enter Tryz.func23, Tryz.ntmps23
  go_wp2_with fail
  refine CT.out.mono ?_
  rintro e w1 ⟨u1, u2, rfl, ho1, ho2, b1⟩
  have O1 := Lib.hid ho1
  have O2 := Lib.hid ho2
  have B1 := Lib.hid b1
  obtain ⟨x1, e1, rfl⟩ := own_form ho1
  obtain ⟨x2, e2, rfl⟩ := own_form ho2
  clear ho1 ho2 b1 CT
  go_wp2_with fail
  refine (K0.out w1 B1.out).mono ?_
  rintro e w2 ⟨y0, rfl, q0, b2⟩
  have U0 := L.own_vals q0
  have O1 := Lib.hid (own_below O1.out b2)
  have O2 := Lib.hid (own_below O2.out b2)
  have B2 := Lib.hid (B1.out.trans (b2.mono B1.out.size))
  clear q0 b2 B1
  go_wp2_with fail
  refine (K1.out w2 B2.out).mono ?_
  rintro e w3 ⟨y1, rfl, q1, b3⟩
  have U1 := L.own_vals q1
  have U0 := U0.below b3
  have O1 := Lib.hid (own_below O1.out b3)
  have O2 := Lib.hid (own_below O2.out b3)
  have B3 := Lib.hid (B2.out.trans (b3.mono B2.out.size))
  clear q1 b3 B2
  go_wp2_with fail
  refine (K2.out w3 B3.out).mono ?_
  rintro e w4 ⟨y2, rfl, q2, b4⟩
  have U2 := L.own_vals q2
  have U1 := U1.below b4
  have U0 := U0.below b4
  have O1 := Lib.hid (own_below O1.out b4)
  have O2 := Lib.hid (own_below O2.out b4)
  have B4 := Lib.hid (B3.out.trans (b4.mono B3.out.size))
  clear q2 b4 B3 K0 K1 K2
  have CR := Lib.hid (CO.out y0 y1 y2 w4 U0 U1 U2)
  obtain ⟨f0, g0, d0, rfl, -⟩ := vals_form U0
  obtain ⟨f1, g1, d1, rfl, -⟩ := vals_form U1
  obtain ⟨f2, g2, d2, rfl, -⟩ := vals_form U2
  clear U0 U1 U2 CO
  go_wp2_with fail
  refine CR.out.mono ?_
  rintro e w5 ⟨v, rfl, ho3, b5⟩
  have O1 := Lib.hid (own_below O1.out b5)
  have O2 := Lib.hid (own_below O2.out b5)
  have B5 := Lib.hid (B4.out.trans (b5.mono B4.out.size))
  have O3 := Lib.hid (L.own_low ho3 B4.out.size)
  obtain ⟨x3, e3, rfl⟩ := own_form ho3
  clear ho3 b5 B4 CR
  have hws := B5.out.size
  obtain ⟨r1, r2⟩ := R
  dsimp only at hRs hRl hnr O3 ⊢
  cases r2 with
  | false =>
    go_wp2_with (at_builtin; refine wpList_append_own _ rfl _ _ 37 rfl w.heap.size 55 ic (.agg #[.int .i64 0, .string ⟨#[]⟩]) 2 24 Tryz.underlying37 hic hc0 hc1 hc2 rfl (by decide) _ _ _ rfl (O2.out.alloc _) ⟨w5.heap.size, 0, none⟩ 1 1 [.int .i64 2, .string ⟨#[]⟩] rfl rfl (con_new _ _ _) (by simp [Value.oneCell']) (by unfold maxLen; omega) (by omega) (by simp; omega) ?_; intro v' w6 hown' hgrow _)
    have P2 : Hid (w6.ownsRow w.heap.size 55 2 v' (C ++ [((2 : Int), (⟨#[]⟩ : ByteArray))]).length (cv (C ++ [((2 : Int), (⟨#[]⟩ : ByteArray))]))) := Lib.hid (by rw [List.length_append, cv_append, hnc.out]; exact hown')
    have P1 : Hid (w6.ownsRow w.heap.size 49 2 (.slice x1 nt e1) T.length (sv T)) := Lib.hid (by rw [hnt.out]; exact own_apart (O1.out.alloc _) (O2.out.alloc _) (by decide) hgrow)
    have hb := Lib.hid (below_grown2 B5.out O2.out hgrow)
    clear hown' hgrow
    go_wp2_with fail
    go_ret2
    exact ⟨_, _, rfl, P1.out, P2.out, hb.out⟩
  | true =>
    have FT := Lib.hid (first_any _ T w5 (own_sgs O1.out) (by rw [hnt.out]; omega) (fun p hp => Nat.le_trans (hTs.out p hp) m6))
    go_wp2_with fail
    refine FT.out.mono ?_
    rintro e w6 ⟨rfl, hM, b6⟩
    obtain ⟨M, hMe⟩ : ∃ M, w5.heap.size = M := ⟨_, rfl⟩
    rw [hMe] at hM b6 ⊢
    have O1 := Lib.hid (own_below O1.out (by rw [hMe]; exact b6))
    have O2 := Lib.hid (own_below O2.out (by rw [hMe]; exact b6))
    have O3 := Lib.hid (own_below O3.out (by rw [hMe]; exact b6))
    have B6 := Lib.hid (B5.out.trans (b6.mono (by rw [← hMe]; exact hws)))
    have QM := Lib.hid hM
    clear hM b6 B5 FT hws hMe
    have KT := Lib.hid (keys_any _ T w6 (own_sgs O1.out) (by rw [hnt.out]; omega))
    go_wp2_with fail
    refine KT.out.mono ?_
    rintro e w7 ⟨y, rfl, q, b7⟩
    have U := Lib.hid (L.own_vals q)
    have O1 := Lib.hid (own_below O1.out b7)
    have O2 := Lib.hid (own_below O2.out b7)
    have O3 := Lib.hid (own_below O3.out b7)
    have QM := Lib.hid (QM.out.below b7)
    have B7 := Lib.hid (B6.out.trans (b7.mono B6.out.size))
    obtain ⟨f3, d3, rfl⟩ := own_form q
    clear q b7 B6 KT
    go_wp2_with (at_builtin; refine L.wpList_append_vals rfl _ _ 27 9 rfl w.heap.size i9 (.string ⟨#[]⟩) 16 Tryz.underlying27 hi9 hy0 hy1 hy2 rfl _ _ nr (r1.map .string) ((T.map Prod.fst).map .string) rfl O3.out rfl U.out (str_one _) (by rw [List.length_map, List.length_map, hnt.out]; omega) (by decide) B7.out.size ?_; intro vb w8 hown' hg4)
    have P3 : Hid (w8.ownsRow w.heap.size 9 1 vb (nr + nt) ((r1 ++ T.map Prod.fst).map .string)) := Lib.hid (by rw [List.length_map, List.length_map, hnt.out] at hown'; rw [List.map_append]; exact hown')
    have O1 := Lib.hid (own_apart O1.out O3.out (by decide) hg4)
    have O2 := Lib.hid (own_apart O2.out O3.out (by decide) hg4)
    have QM := Lib.hid (fst_apart QM.out O3.out hg4)
    have B8 := Lib.hid (B7.out.grown hg4 B7.out.size (fun j e => (O3.out.lt j e).1))
    have hKm : ∀ s ∈ r1 ++ T.map Prod.fst, s.size ≤ 600 := by
      intro s hs
      rcases List.mem_append.1 hs with h | h
      · exact hRs.out s h
      · obtain ⟨p, hp, rfl⟩ := List.mem_map.1 h
        exact hTs.out p hp
    have CU := Lib.hid (unique_any vb (r1 ++ T.map Prod.fst) w8 (L.own_vals P3.out) (by rw [List.length_append, List.length_map, hnt.out, hnr.out]; omega) (fun s hs => Nat.le_trans (hKm s hs) m6))
    have hKl : (uniqT (r1 ++ T.map Prod.fst)).length ≤ 500 := by
      have h := uniq_len (r1 ++ T.map Prod.fst)
      rw [List.length_append, List.length_map, hnt.out, hnr.out] at h
      omega
    have hKs : ∀ s ∈ uniqT (r1 ++ T.map Prod.fst), s.size ≤ 600 := fun s hs => hKm s (uniq_mem.1 hs)
    obtain ⟨f4, d4, rfl⟩ := own_form P3.out
    obtain ⟨KK, hKK⟩ : ∃ KK, uniqT (r1 ++ T.map Prod.fst) = KK := ⟨_, rfl⟩
    have hrow : Hid (rowU T C (r1, true) = (pickT T KK, C)) := Lib.hid (by rw [← hKK]; rfl)
    rw [hKK] at CU hKl hKs
    have HKs := Lib.hid hKs
    clear hown' hg4 hKK hKs hKm O3 U B7
    go_wp2_with fail
    refine CU.out.mono ?_
    rintro e w9 ⟨u, rfl, hu, b9⟩
    have O1 := Lib.hid (own_below O1.out b9)
    have O2 := Lib.hid (own_below O2.out b9)
    have QM := Lib.hid (QM.out.below b9)
    have B9 := Lib.hid (B8.out.trans (b9.mono B8.out.size))
    obtain ⟨xk, ck, rfl, hck, hcm, hxk⟩ := (L.own_vals hu).at
    rw [List.length_map] at hck ⊢
    have HX := Lib.hid hxk
    obtain ⟨n, hn⟩ : ∃ n, Hid (KK.length = n) := ⟨_, Lib.hid rfl⟩
    rw [hn.out] at hck hKl ⊢
    unfold maxLen at hcm
    have HT := Lib.hid (own_sgs O1.out)
    clear hu b9 hxk CU B8 P3
    go_wp2_with fail
    go_loopw [13, 50] (fun ov i wr => ∃ k : Nat, k ≤ n ∧ i = .int .i64 k ∧ ∃ acc : SL, Hid (pickT T (KK.take k) = acc) ∧ acc.length ≤ k ∧ Hid (wr.ownsRow w9.heap.size 49 2 ov acc.length (sv acc)) ∧ Hid (Below w9.heap.size w9 wr)) (fun _ i _ => n - (intOf i).toNat)
    case atStart => exact ⟨0, Nat.zero_le _, rfl, [], Lib.hid rfl, Nat.le_refl _, Lib.hid (World.ownsRow_nil _ _ _ _), Lib.hid (Below.refl _ _)⟩
    case round =>
      obtain ⟨k, hk, rfl, A, hF, hl1, hO, hB⟩ := hrel
      obtain ⟨wo, rfl⟩ : ∃ wo, wo = wr := ⟨wr, rfl⟩
      rcases Nat.lt_or_ge k n with hlt | hlt
      · obtain ⟨x, hx⟩ := get_lt (l := KK) (k := k) (by rw [hn.out]; exact hlt)
        obtain ⟨bk, off, rfl, hbl, e0⟩ := HX.out k (.string x) (by rw [List.getElem?_map, hx]; rfl)
        have c1 : wo.cell? ⟨bk, off + k, none⟩ = some (.string x) := (hB.out.cell (p := ⟨bk, off + k, none⟩) hbl).trans e0
        have hst : Hid (pickT T (KK.take (k + 1)) = A ++ (if (getP T x).2 then [(x, (getP T x).1)] else [])) := Lib.hid (by rw [pick_take hx, hF.out])
        have hxs := Nat.le_trans (HKs.out x (List.mem_of_getElem? hx)) m6
        have d1 : decide (k < n) = true := decide_eq_true hlt
        have d2 : (0 : Int) ≤ (k : Int) := by omega
        have d3 : (k : Int) < (n : Int) := by omega
        have hwo := hB.out.size
        obtain ⟨a1, c1', rfl⟩ := own_form hO.out
        obtain ⟨m1, hm1⟩ : ∃ n, Hid (A.length = n) := ⟨_, Lib.hid rfl⟩
        rw [hm1.out] at hl1 hO ⊢
        obtain ⟨g, p, hg, hj⟩ := seg_at HT.out x
        rcases hj with ⟨rfl, hg1, hm, q, hq, hqn, b, f, rfl, hc⟩ | ⟨rfl, hm, rfl⟩
        · have look := (QM.out.below hB.out).yes hxs hm
          rw [hq] at look
          obtain ⟨k1, k2⟩ := hc wo hB.out
          rw [hg1] at k1
          have hF2 : Hid (pickT T (KK.take (k + 1)) = A ++ [(x, g.2)]) := Lib.hid (by rw [hst.out, hg]; rfl)
          have d4 : (0 : Int) ≤ (q : Int) := by omega
          have d5 : (q : Int) < (nt : Int) := by omega
          clear hx e0 hst hF hq hg1 hg hc hm hxs
          go_wp2_with (at_builtin; refine wpList_append_own _ rfl _ _ 35 rfl w9.heap.size 49 is (.agg #[.string ⟨#[]⟩, .string ⟨#[]⟩]) 2 32 Tryz.underlying35 his hs0 hs1 hs2 rfl (by decide) _ _ _ rfl (hO.out.alloc _) ⟨wo.heap.size, 0, none⟩ 1 1 [.string x, .string g.2] rfl rfl (seg_new _ _ _) (by simp [Value.oneCell']) (by unfold maxLen; omega) (by omega) (by simp; omega) ?_; intro v' w10 hown' hgrow _)
          have hO1' : Hid (w10.ownsRow w9.heap.size 49 2 v' (A ++ [(x, g.2)]).length (sv (A ++ [(x, g.2)]))) := Lib.hid (by rw [List.length_append, sv_append, hm1.out]; exact hown')
          have hb := Lib.hid (below_grown2 hB.out hO.out hgrow)
          clear hown' hgrow
          go_wp2_with fail
          exact ⟨⟨k + 1, by omega, by go_num, A ++ [(x, g.2)], hF2, by rw [List.length_append, hm1.out]; simp; omega, hO1', hb⟩, by simp [intOf]; omega⟩
        · have look := (QM.out.below hB.out).no hxs hm
          have hF2 : Hid (pickT T (KK.take (k + 1)) = A) := Lib.hid (by rw [hst.out, hg]; simp)
          clear hx e0 hst hF hg hm hxs
          go_wp2_with fail
          exact ⟨⟨k + 1, by omega, by go_num, A, hF2, by rw [hm1.out]; omega, by rw [hm1.out]; exact hO, hB⟩, by simp [intOf]; omega⟩
      · have d1 : decide (k < n) = false := decide_eq_false (by omega)
        have hR : Hid (pickT T KK = A) := Lib.hid (by have h := hF.out; rwa [List.take_of_length_le (by rw [hn.out]; exact hlt)] at h)
        go_wp2_with fail
        go_ret2
        refine ⟨_, _, rfl, ?_⟩
        rw [hrow.out]
        dsimp only
        rw [hR.out, hnc.out]
        exact ⟨L.own_low hO.out B9.out.size, own_below O2.out hB.out, B9.out.trans (hB.out.mono B9.out.size)⟩
end Go.Proofs.YtfjmhnnjgjcmeaaGreatDoor
