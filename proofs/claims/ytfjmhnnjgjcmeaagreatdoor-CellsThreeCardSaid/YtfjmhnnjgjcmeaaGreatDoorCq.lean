/-
  For the laws of cells: the texts of three rows of segments, key by key, by the document. Condition: at most 100 segments a row, texts of at most 600 bytes.
-/
import Derived.Test.YtfjmhnnjgjcmeaaGreatDoorCo
namespace Go.Proofs.YtfjmhnnjgjcmeaaGreatDoor
open Go.RowKit Go.Shelf Go.Maps Go.WideMaps
set_option linter.unusedSimpArgs false
set_option linter.unusedVariables false

abbrev CL := List (Int × ByteArray)
def cv (L : CL) : List Value := L.flatMap fun s => [.int .i64 s.1, .string s.2]
theorem cv_len (L : CL) : (cv L).length = L.length * 2 := by
  unfold cv
  induction L with
  | nil => rfl
  | cons x L ih => rw [List.flatMap_cons, List.length_append, ih, List.length_cons]; simp; omega
theorem cv_append (A B : CL) : cv (A ++ B) = cv A ++ cv B := by unfold cv; rw [List.flatMap_append]
/-- A row of the call's own stays as it is where another of another type grows. -/
theorem own_apart {W W' : World} {base e e' s s' n m : Nat} {v u : Value} {xs ys : List Value} (h : W.ownsRow base e s v n xs) (k : W.ownsRow base e' s' u m ys) (hne : e ≠ e') (hg : W.grownBy W' u.ownBlock) : W'.ownsRow base e s v n xs := by
  refine ⟨h.1, ?_⟩
  rcases h.2 with h0 | ⟨g, cap, cur, e1, h1, hgb, h2, h3, h4, h5⟩
  · exact .inl h0
  · refine .inr ⟨g, cap, cur, e1, h1, ?_, h2, h3, h4, h5⟩
    have hl : g < W.heap.size := (Array.getElem?_eq_some_iff.1 hgb).1
    refine (hg.block g hl ?_).trans hgb
    intro hb
    rcases k.2 with ⟨rfl, -⟩ | ⟨g', cap', cur', rfl, -, hgb', -⟩
    · cases hb
    · obtain rfl : g = g' := by injection hb
      have h2 := hgb.symm.trans hgb'
      injection h2 with h2
      injection h2 with _ h3
      exact hne h3
theorem info49 : ∃ i0, Tryz.prog.info? 49 = some i0 ∧ i0.zero = some (.agg #[.string ⟨#[]⟩, .string ⟨#[]⟩]) ∧ i0.size = 2 ∧ i0.bytes = 32 := info_parts (by kernel_rfl)
theorem info55 : ∃ i0, Tryz.prog.info? 55 = some i0 ∧ i0.zero = some (.agg #[.int .i64 0, .string ⟨#[]⟩]) ∧ i0.size = 2 ∧ i0.bytes = 24 := info_parts (by kernel_rfl)
/-- One key more. -/
def tx1 (o a b : SL) (acc : SL × CL) (s : ByteArray) : SL × CL :=
  (if (threeP (getP o s).1 (getP a s).1 (getP b s).1 (getP o s).2 (getP a s).2 (getP b s).2).2.1 then acc.1 ++ [(s, (threeP (getP o s).1 (getP a s).1 (getP b s).1 (getP o s).2 (getP a s).2 (getP b s).2).1)] else acc.1,
   if (threeP (getP o s).1 (getP a s).1 (getP b s).1 (getP o s).2 (getP a s).2 (getP b s).2).2.2 = 0 then acc.2 else acc.2 ++ [((threeP (getP o s).1 (getP a s).1 (getP b s).1 (getP o s).2 (getP a s).2 (getP b s).2).2.2, s)])
theorem tx1_eq (o a b : SL) (acc : SL × CL) (s : ByteArray) : tx1 o a b acc s = (if (threeP (getP o s).1 (getP a s).1 (getP b s).1 (getP o s).2 (getP a s).2 (getP b s).2).2.1 then acc.1 ++ [(s, (threeP (getP o s).1 (getP a s).1 (getP b s).1 (getP o s).2 (getP a s).2 (getP b s).2).1)] else acc.1,
   if (threeP (getP o s).1 (getP a s).1 (getP b s).1 (getP o s).2 (getP a s).2 (getP b s).2).2.2 = 0 then acc.2 else acc.2 ++ [((threeP (getP o s).1 (getP a s).1 (getP b s).1 (getP o s).2 (getP a s).2 (getP b s).2).2.2, s)]) := rfl
theorem below_grown2 {w wr w1 : World} {e sz n : Nat} {o : Value} {xs : List Value} {tmp : Obj} (hB : Below w.heap.size w wr) (hown : wr.ownsRow w.heap.size e sz o n xs) (hgrow : (wr.alloc tmp).grownBy w1 o.ownBlock) : Below w.heap.size w w1 :=
  (hB.alloc hB.size tmp).grown hgrow (by have := hB.size; simp; omega) fun k e => (hown.lt k e).1
def allK (o a b : SL) : TL := uniqT (a.map Prod.fst ++ o.map Prod.fst ++ b.map Prod.fst)
/-- The segments that are there, key by key, and what doesn't go together. -/
def textsP (o a b : SL) : SL × CL := (allK o a b).foldl (tx1 o a b) ([], [])
theorem tx_take {o a b : SL} {l : TL} {k : Nat} {s : ByteArray} (h : l[k]? = some s) : (l.take (k + 1)).foldl (tx1 o a b) ([], []) = tx1 o a b ((l.take k).foldl (tx1 o a b) ([], [])) s := by
  rw [List.take_add_one, h, List.foldl_append]
  rfl
theorem getP_le {L : SL} {s : ByteArray} {n : Nat} (h : ∀ p ∈ L, p.2.size ≤ n) : (getP L s).1.size ≤ n := by
  unfold getP
  split
  · rename_i p hp
    exact h p (List.mem_of_find?_eq_some hp)
  · exact Nat.zero_le _
theorem seg_new (W : World) (x y : ByteArray) : ∀ j u, ([.string x, .string y] : List Value)[j]? = some u → (W.alloc (.cells #[.string x, .string y] 49)).cell? ((⟨W.heap.size, 0, none⟩ : Addr).add j) = some u := by
  intro j u hj
  have e2 : (⟨W.heap.size, 0, none⟩ : Addr).add j = ⟨W.heap.size, j, none⟩ := by by_cases h0 : j = 0 <;> simp [Addr.add, h0]
  rw [e2]
  match j, hj with
  | 0, hj => simp at hj; subst hj; exact (RowAt.new W 49 _).cell rfl
  | 1, hj => simp at hj; subst hj; exact (RowAt.new W 49 _).cell rfl
  | j + 2, hj => simp at hj
theorem con_new (W : World) (x : Int) (y : ByteArray) : ∀ j u, ([.int .i64 x, .string y] : List Value)[j]? = some u → (W.alloc (.cells #[.int .i64 x, .string y] 55)).cell? ((⟨W.heap.size, 0, none⟩ : Addr).add j) = some u := by
  intro j u hj
  have e2 : (⟨W.heap.size, 0, none⟩ : Addr).add j = ⟨W.heap.size, j, none⟩ := by by_cases h0 : j = 0 <;> simp [Addr.add, h0]
  rw [e2]
  match j, hj with
  | 0, hj => simp at hj; subst hj; exact (RowAt.new W 55 _).cell rfl
  | 1, hj => simp at hj; subst hj; exact (RowAt.new W 55 _).cell rfl
  | j + 2, hj => simp at hj
set_option maxRecDepth 100000 in
set_option maxHeartbeats 16000000 in
theorem RefTexts_any (v0 v1 v2 : Value) (o a b : SL) (w : World) (h0 : Sgs w v0 o) (h1 : Sgs w v1 a) (h2 : Sgs w v2 b) (l0 : o.length ≤ 100) (l1 : a.length ≤ 100) (l2 : b.length ≤ 100) (s0 : ∀ p ∈ o, p.2.size ≤ 600) (s1 : ∀ p ∈ a, p.2.size ≤ 600) (s2 : ∀ p ∈ b, p.2.size ≤ 600) :
    Calls Tryz.prog 26 #[v0, v1, v2] w fun e w' => ∃ u1 u2, e = .returned (.tuple #[u1, u2]) ∧ w'.ownsRow w.heap.size 49 2 u1 (textsP o a b).1.length (sv (textsP o a b).1) ∧ w'.ownsRow w.heap.size 55 2 u2 (textsP o a b).2.length (cv (textsP o a b).2) ∧ Below w.heap.size w w' := by
  obtain ⟨i9, hi9, hy0, hy1, hy2⟩ := info_parts S.try_info9
  obtain ⟨is, his, hs0, hs1, hs2⟩ := info49
  obtain ⟨ic, hic, hc0, hc1, hc2⟩ := info55
  have H0 := Lib.hid h0
  have H1 := Lib.hid h1
  have H2 := Lib.hid h2
  have S0 := Lib.hid s0
  have S1 := Lib.hid s1
  have S2 := Lib.hid s2
  have K0 := Lib.hid (fun W (hB : Below w.heap.size w W) => RefKeys_any v0 o W (h0.below hB) (by omega))
  have K1 := Lib.hid (RefKeys_any v1 a w h1 (by omega))
  have K2 := Lib.hid (fun W (hB : Below w.heap.size w W) => RefKeys_any v2 b W (h2.below hB) (by omega))
  have G0 := Lib.hid (fun s W (hB : Below w.heap.size w W) => Get_any v0 o s W (h0.below hB))
  have G1 := Lib.hid (fun s W (hB : Below w.heap.size w W) => Get_any v1 a s W (h1.below hB))
  have G2 := Lib.hid (fun s W (hB : Below w.heap.size w W) => Get_any v2 b s W (h2.below hB))
  obtain ⟨z0, c0, rfl, -⟩ := h0
  obtain ⟨z1, c1, rfl, -⟩ := h1
  obtain ⟨z2, c2, rfl, -⟩ := h2
  clear s0 s1 s2
  obtain ⟨n0, hn0⟩ : ∃ n, Hid (o.length = n) := ⟨_, Lib.hid rfl⟩
  obtain ⟨n1, hn1⟩ : ∃ n, Hid (a.length = n) := ⟨_, Lib.hid rfl⟩
  obtain ⟨n2, hn2⟩ : ∃ n, Hid (b.length = n) := ⟨_, Lib.hid rfl⟩
  rw [hn0.out] at l0 K0 G0 ⊢
  rw [hn1.out] at l1 K1 G1 ⊢
  rw [hn2.out] at l2 K2 G2 ⊢
  clear H0 H1 H2
  have hla : (a.map Prod.fst).length = n1 := by rw [List.length_map, hn1.out]
  have hlo : (o.map Prod.fst).length = n0 := by rw [List.length_map, hn0.out]
  have hlb : (b.map Prod.fst).length = n2 := by rw [List.length_map, hn2.out]
  have Hla := Lib.hid hla
  have Hlo := Lib.hid hlo
  have Hlb := Lib.hid hlb
  clear hla hlo hlb
  unfold textsP
  have hKl : (allK o a b).length ≤ 300 := by
    have h := uniq_len (a.map Prod.fst ++ o.map Prod.fst ++ b.map Prod.fst)
    rw [List.length_append, List.length_append, Hla.out, Hlo.out, Hlb.out] at h
    unfold allK
    omega
  obtain ⟨KK, hKK⟩ : ∃ KK, allK o a b = KK := ⟨_, rfl⟩
  have hKK2 : Hid (uniqT (a.map Prod.fst ++ o.map Prod.fst ++ b.map Prod.fst) = KK) := Lib.hid hKK
  rw [hKK] at hKl ⊢
  clear hKK
  go_enter Tryz.func26, Tryz.ntmps26
  go_wp2_with fail
  refine K1.out.mono ?_
  rintro e w1 ⟨u1, rfl, ho1, hb1⟩
  have U1 := Lib.hid (L.own_vals ho1)
  have B1 := Lib.hid hb1
  obtain ⟨x1, e1, rfl⟩ := own_form ho1
  clear ho1 hb1 K1
  have hN := Lib.hid (World.ownsRow_nil w1 w.heap.size 9 1)
  go_wp2_with (at_builtin; refine L.wpList_append_vals rfl _ _ 27 9 rfl w.heap.size i9 (.string ⟨#[]⟩) 16 Tryz.underlying27 hi9 hy0 hy1 hy2 rfl _ _ 0 [] ((a.map Prod.fst).map .string) rfl hN.out rfl U1.out (str_one _) (by rw [List.length_map, Hla.out]; omega) (by decide) B1.out.size ?_; intro va w2 hown' hg4)
  have O2 : Hid (w2.ownsRow w.heap.size 9 1 va n1 ((a.map Prod.fst).map .string)) := Lib.hid (by rw [List.length_map, Hla.out, Nat.zero_add, List.nil_append] at hown'; exact hown')
  have B2 := Lib.hid (B1.out.grown hg4 B1.out.size (fun j e => by cases e))
  obtain ⟨xa, ca, rfl⟩ := own_form O2.out
  clear hown' hg4 U1 B1 hN
  go_wp2_with fail
  refine (K0.out w2 B2.out).mono ?_
  rintro e w3 ⟨u2, rfl, ho2, hb2⟩
  have U2 := Lib.hid (L.own_vals ho2)
  have O3 := Lib.hid (own_below O2.out hb2)
  have B3 := Lib.hid (B2.out.trans (hb2.mono B2.out.size))
  obtain ⟨x2, e2, rfl⟩ := own_form ho2
  clear ho2 hb2 K0 O2 B2
  go_wp2_with (at_builtin; refine L.wpList_append_vals rfl _ _ 27 9 rfl w.heap.size i9 (.string ⟨#[]⟩) 16 Tryz.underlying27 hi9 hy0 hy1 hy2 rfl _ _ n1 ((a.map Prod.fst).map .string) ((o.map Prod.fst).map .string) rfl O3.out rfl U2.out (str_one _) (by rw [List.length_map, Hlo.out]; omega) (by decide) B3.out.size ?_; intro vb w4 hown' hg4)
  have O4 : Hid (w4.ownsRow w.heap.size 9 1 vb (n1 + n0) ((a.map Prod.fst ++ o.map Prod.fst).map .string)) := Lib.hid (by rw [List.length_map, Hlo.out] at hown'; rw [List.map_append]; exact hown')
  have B4 := Lib.hid (B3.out.grown hg4 B3.out.size (fun j e => (O3.out.lt j e).1))
  obtain ⟨xb, cb, rfl⟩ := own_form O4.out
  clear hown' hg4 U2 O3 B3
  go_wp2_with fail
  refine (K2.out w4 B4.out).mono ?_
  rintro e w5 ⟨u3, rfl, ho3, hb3⟩
  have U3 := Lib.hid (L.own_vals ho3)
  have O5 := Lib.hid (own_below O4.out hb3)
  have B5 := Lib.hid (B4.out.trans (hb3.mono B4.out.size))
  obtain ⟨x3, e3, rfl⟩ := own_form ho3
  clear ho3 hb3 K2 O4 B4
  go_wp2_with (at_builtin; refine L.wpList_append_vals rfl _ _ 27 9 rfl w.heap.size i9 (.string ⟨#[]⟩) 16 Tryz.underlying27 hi9 hy0 hy1 hy2 rfl _ _ (n1 + n0) ((a.map Prod.fst ++ o.map Prod.fst).map .string) ((b.map Prod.fst).map .string) rfl O5.out rfl U3.out (str_one _) (by rw [List.length_map, Hlb.out]; omega) (by decide) B5.out.size ?_; intro vc w6 hown' hg4)
  have O6 : Hid (w6.ownsRow w.heap.size 9 1 vc (n1 + n0 + n2) ((a.map Prod.fst ++ o.map Prod.fst ++ b.map Prod.fst).map .string)) := Lib.hid (by rw [List.length_map, Hlb.out] at hown'; rw [List.map_append]; exact hown')
  have B6 := Lib.hid (B5.out.grown hg4 B5.out.size (fun j e => (O5.out.lt j e).1))
  have CO := Lib.hid (RefOnce_any _ _ w6 (L.own_vals O6.out) (by rw [List.length_append, List.length_append, Hla.out, Hlo.out, Hlb.out]; omega))
  obtain ⟨xc, cc, rfl⟩ := own_form O6.out
  clear hown' hg4 U3 O5 B5
  rw [hKK2.out] at CO
  go_wp2_with fail
  refine CO.out.mono ?_
  rintro e w7 ⟨u4, rfl, ho4, hb4⟩
  have B7 := Lib.hid (B6.out.trans (hb4.mono B6.out.size))
  obtain ⟨xk, ck, rfl, hck, hcm, hxk⟩ := (L.own_vals ho4).at
  rw [List.length_map] at hck ⊢
  have HX := Lib.hid hxk
  obtain ⟨n, hn⟩ : ∃ n, Hid (KK.length = n) := ⟨_, Lib.hid rfl⟩
  rw [hn.out] at hck hKl ⊢
  unfold maxLen at hcm
  clear ho4 hb4 hxk CO O6 B6
  go_wp2_with fail
  go_loopw [9, 10, 11] (fun ov bv i wr => ∃ k : Nat, k ≤ n ∧ i = .int .i64 k ∧ ∃ acc : SL × CL, Hid ((KK.take k).foldl (tx1 o a b) ([], []) = acc) ∧ acc.1.length ≤ k ∧ acc.2.length ≤ k ∧ Hid (wr.ownsRow w7.heap.size 49 2 ov acc.1.length (sv acc.1)) ∧ Hid (wr.ownsRow w7.heap.size 55 2 bv acc.2.length (cv acc.2)) ∧ Hid (Below w7.heap.size w7 wr)) (fun _ _ i _ => n - (intOf i).toNat)
  case atStart => exact ⟨0, Nat.zero_le _, rfl, ([], []), Lib.hid rfl, Nat.le_refl _, Nat.le_refl _, Lib.hid (World.ownsRow_nil _ _ _ _), Lib.hid (World.ownsRow_nil _ _ _ _), Lib.hid (Below.refl _ _)⟩
  case round =>
    obtain ⟨k, hk, rfl, ⟨A1, A2⟩, hF, hl1, hl2, hO1, hO2, hB⟩ := hrel
    obtain ⟨wo, rfl⟩ : ∃ wo, wo = wr := ⟨wr, rfl⟩
    dsimp only at hl1 hl2 hO1 hO2
    rcases Nat.lt_or_ge k n with hlt | hlt
    · obtain ⟨x, hx⟩ := get_lt (l := KK) (k := k) (by rw [hn.out]; exact hlt)
      obtain ⟨bk, off, rfl, hbl, e0⟩ := HX.out k (.string x) (by rw [List.getElem?_map, hx]; rfl)
      have e1 : wo.cell? ⟨bk, off + k, none⟩ = some (.string x) := (hB.out.cell (p := ⟨bk, off + k, none⟩) hbl).trans e0
      have hst : Hid ((KK.take (k + 1)).foldl (tx1 o a b) ([], []) = tx1 o a b (A1, A2) x) := Lib.hid (by rw [tx_take hx, hF.out])
      have d1 : decide (k < n) = true := decide_eq_true hlt
      have d2 : (0 : Int) ≤ (k : Int) := by omega
      have d3 : (k : Int) < (n : Int) := by omega
      have E1 : Hid (∀ W, Below w7.heap.size w7 W → W.cell? ⟨bk, off + k, none⟩ = some (.string x)) := Lib.hid (fun W hW => (hW.cell (p := ⟨bk, off + k, none⟩) hbl).trans e0)
      clear hx e0
      have BW := Lib.hid (B7.out.trans (hB.out.mono B7.out.size))
      have CT := Lib.hid (RefThree_any (getP o x).1 (getP a x).1 (getP b x).1 (getP o x).2 (getP a x).2 (getP b x).2 wo (getP_le S0.out) (getP_le S1.out) (getP_le S2.out))
      have D0 := Lib.hid (G0.out x wo BW.out)
      have D1 := Lib.hid (G1.out x wo BW.out)
      have D2 := Lib.hid (G2.out x wo BW.out)
      have htx := Lib.hid (tx1_eq o a b (A1, A2) x)
      obtain ⟨⟨g0, t0⟩, hg0⟩ : ∃ g, Hid (getP o x = g) := ⟨_, Lib.hid rfl⟩
      obtain ⟨⟨g1, t1⟩, hg1⟩ : ∃ g, Hid (getP a x = g) := ⟨_, Lib.hid rfl⟩
      obtain ⟨⟨g2, t2⟩, hg2⟩ : ∃ g, Hid (getP b x = g) := ⟨_, Lib.hid rfl⟩
      rw [hg0.out] at D0 CT htx
      rw [hg1.out] at D1 CT htx
      rw [hg2.out] at D2 CT htx
      dsimp only at D0 D1 D2 CT htx
      obtain ⟨⟨R1, R2, R3⟩, hR⟩ : ∃ g, Hid (threeP g0 g1 g2 t0 t1 t2 = g) := ⟨_, Lib.hid rfl⟩
      rw [hR.out] at CT htx
      dsimp only at CT htx
      obtain ⟨a1, c1', rfl⟩ := own_form hO1.out
      obtain ⟨a2, c2', rfl⟩ := own_form hO2.out
      obtain ⟨m1, hm1⟩ : ∃ n, Hid (A1.length = n) := ⟨_, Lib.hid rfl⟩
      obtain ⟨m2, hm2⟩ : ∃ n, Hid (A2.length = n) := ⟨_, Lib.hid rfl⟩
      rw [hm1.out] at hl1 hO1 ⊢
      rw [hm2.out] at hl2 hO2 ⊢
      go_wp2_with fail
      refine D0.out.mono ?_
      rintro e wa ⟨rfl, rfl⟩
      go_wp2_with fail
      refine D1.out.mono ?_
      rintro e wb ⟨rfl, rfl⟩
      go_wp2_with fail
      refine D2.out.mono ?_
      rintro e wc ⟨rfl, rfl⟩
      go_wp2_with fail
      refine CT.out.mono ?_
      rintro e wd ⟨rfl, bd⟩
      have hO1 := Lib.hid (own_below hO1.out bd)
      have hO2 := Lib.hid (own_below hO2.out bd)
      have hB := Lib.hid (hB.out.trans (bd.mono hB.out.size))
      have f1 := E1.out wd hB.out
      have hws := hB.out.size
      clear bd D0 D1 D2 CT BW e1 hF
      by_cases h3 : R3 = 0
      · have q3 : (R3 != 0) = false := by simp [h3]
        cases R2 with
        | false =>
          have hF2 : Hid ((KK.take (k + 1)).foldl (tx1 o a b) ([], []) = (A1, A2)) := Lib.hid (by rw [hst.out, htx.out]; simp [h3])
          clear h3
          go_wp2_with fail
          exact ⟨⟨k + 1, by omega, by go_num, (A1, A2), hF2, by show A1.length ≤ k + 1; rw [hm1.out]; omega, by show A2.length ≤ k + 1; rw [hm2.out]; omega, by dsimp only; rw [hm1.out]; exact hO1, by dsimp only; rw [hm2.out]; exact hO2, hB⟩, by simp [intOf]; omega⟩
        | true =>
          have hF2 : Hid ((KK.take (k + 1)).foldl (tx1 o a b) ([], []) = (A1 ++ [(x, R1)], A2)) := Lib.hid (by rw [hst.out, htx.out]; simp [h3])
          clear h3
          go_wp2_with (at_builtin; refine wpList_append_own _ rfl _ _ 35 rfl w7.heap.size 49 is (.agg #[.string ⟨#[]⟩, .string ⟨#[]⟩]) 2 32 Tryz.underlying35 his hs0 hs1 hs2 rfl (by decide) _ _ _ rfl (hO1.out.alloc _) ⟨wd.heap.size, 0, none⟩ 1 1 [.string x, .string R1] rfl rfl (seg_new _ _ _) (by simp [Value.oneCell']) (by unfold maxLen; omega) (by omega) (by simp; omega) ?_; intro v' w5 hown' hgrow _)
          have hO1' : Hid (w5.ownsRow w7.heap.size 49 2 v' (A1 ++ [(x, R1)]).length (sv (A1 ++ [(x, R1)]))) := Lib.hid (by rw [List.length_append, sv_append, hm1.out]; exact hown')
          have hO2' : Hid (w5.ownsRow w7.heap.size 55 2 (.slice a2 m2 c2') A2.length (cv A2)) := Lib.hid (by rw [hm2.out]; exact own_apart (hO2.out.alloc _) (hO1.out.alloc _) (by decide) hgrow)
          have hb := Lib.hid (below_grown2 hB.out hO1.out hgrow)
          clear hown' hgrow
          go_wp2_with fail
          exact ⟨⟨k + 1, by omega, by go_num, (A1 ++ [(x, R1)], A2), hF2, by show (A1 ++ [(x, R1)]).length ≤ k + 1; rw [List.length_append, hm1.out]; simp; omega, by show A2.length ≤ k + 1; rw [hm2.out]; omega, hO1', hO2', hb⟩, by simp [intOf]; omega⟩
      · have q3 : (R3 != 0) = true := by simp [h3]
        cases R2 with
        | false =>
          have hF2 : Hid ((KK.take (k + 1)).foldl (tx1 o a b) ([], []) = (A1, A2 ++ [(R3, x)])) := Lib.hid (by rw [hst.out, htx.out]; simp [h3])
          clear h3
          go_wp2_with (at_builtin; refine wpList_append_own _ rfl _ _ 37 rfl w7.heap.size 55 ic (.agg #[.int .i64 0, .string ⟨#[]⟩]) 2 24 Tryz.underlying37 hic hc0 hc1 hc2 rfl (by decide) _ _ _ rfl (hO2.out.alloc _) ⟨wd.heap.size, 0, none⟩ 1 1 [.int .i64 R3, .string x] rfl rfl (con_new _ _ _) (by simp [Value.oneCell']) (by unfold maxLen; omega) (by omega) (by simp; omega) ?_; intro v' w5 hown' hgrow _)
          have hO2' : Hid (w5.ownsRow w7.heap.size 55 2 v' (A2 ++ [(R3, x)]).length (cv (A2 ++ [(R3, x)]))) := Lib.hid (by rw [List.length_append, cv_append, hm2.out]; exact hown')
          have hO1' : Hid (w5.ownsRow w7.heap.size 49 2 (.slice a1 m1 c1') A1.length (sv A1)) := Lib.hid (by rw [hm1.out]; exact own_apart (hO1.out.alloc _) (hO2.out.alloc _) (by decide) hgrow)
          have hb := Lib.hid (below_grown2 hB.out hO2.out hgrow)
          clear hown' hgrow
          go_wp2_with fail
          exact ⟨⟨k + 1, by omega, by go_num, (A1, A2 ++ [(R3, x)]), hF2, by show A1.length ≤ k + 1; rw [hm1.out]; omega, by show (A2 ++ [(R3, x)]).length ≤ k + 1; rw [List.length_append, hm2.out]; simp; omega, hO1', hO2', hb⟩, by simp [intOf]; omega⟩
        | true =>
          have hF2 : Hid ((KK.take (k + 1)).foldl (tx1 o a b) ([], []) = (A1 ++ [(x, R1)], A2 ++ [(R3, x)])) := Lib.hid (by rw [hst.out, htx.out]; simp [h3])
          clear h3
          go_wp2_with (at_builtin; first | (refine wpList_append_own _ rfl _ _ 37 rfl w7.heap.size 55 ic (.agg #[.int .i64 0, .string ⟨#[]⟩]) 2 24 Tryz.underlying37 hic hc0 hc1 hc2 rfl (by decide) _ _ _ rfl (hO2.out.alloc _) ⟨wd.heap.size, 0, none⟩ 1 1 [.int .i64 R3, .string x] rfl rfl (con_new _ _ _) (by simp [Value.oneCell']) (by unfold maxLen; omega) (by omega) (by simp; omega) ?_; intro v' w5 hown' hgrow _; have hO2' : Hid (w5.ownsRow w7.heap.size 55 2 v' (A2 ++ [(R3, x)]).length (cv (A2 ++ [(R3, x)]))) := Lib.hid (by rw [List.length_append, cv_append, hm2.out]; exact hown'); have hO1' : Hid (w5.ownsRow w7.heap.size 49 2 (.slice a1 m1 c1') m1 (sv A1)) := Lib.hid (own_apart (hO1.out.alloc _) (hO2.out.alloc _) (by decide) hgrow); have hb := Lib.hid (below_grown2 hB.out hO2.out hgrow); have f2 := E1.out w5 hb.out; have hws5 := hb.out.size; clear hown' hgrow) | (refine wpList_append_own _ rfl _ _ 35 rfl w7.heap.size 49 is (.agg #[.string ⟨#[]⟩, .string ⟨#[]⟩]) 2 32 Tryz.underlying35 his hs0 hs1 hs2 rfl (by decide) _ _ _ rfl (hO1'.out.alloc _) ⟨w5.heap.size, 0, none⟩ 1 1 [.string x, .string R1] rfl rfl (seg_new _ _ _) (by simp [Value.oneCell']) (by unfold maxLen; omega) (by omega) (by simp; omega) ?_; intro v2 w8 hown' hgrow _))
          have hO1'' : Hid (w8.ownsRow w7.heap.size 49 2 v2 (A1 ++ [(x, R1)]).length (sv (A1 ++ [(x, R1)]))) := Lib.hid (by rw [List.length_append, sv_append, hm1.out]; exact hown')
          have hO2'' : Hid (w8.ownsRow w7.heap.size 55 2 v' (A2 ++ [(R3, x)]).length (cv (A2 ++ [(R3, x)]))) := Lib.hid (own_apart (hO2'.out.alloc _) (hO1'.out.alloc _) (by decide) hgrow)
          have hb8 := Lib.hid (below_grown2 hb.out hO1'.out hgrow)
          clear hown' hgrow
          go_wp2_with fail
          exact ⟨⟨k + 1, by omega, by go_num, (A1 ++ [(x, R1)], A2 ++ [(R3, x)]), hF2, by show (A1 ++ [(x, R1)]).length ≤ k + 1; rw [List.length_append, hm1.out]; simp; omega, by show (A2 ++ [(R3, x)]).length ≤ k + 1; rw [List.length_append, hm2.out]; simp; omega, hO1'', hO2'', hb8⟩, by simp [intOf]; omega⟩
    · have d1 : decide (k < n) = false := decide_eq_false (by omega)
      have hR : Hid (KK.foldl (tx1 o a b) ([], []) = (A1, A2)) := Lib.hid (by have h := hF.out; rwa [List.take_of_length_le (by rw [hn.out]; exact hlt)] at h)
      go_wp2_with fail
      go_ret2
      refine ⟨_, _, rfl, ?_⟩
      rw [hR.out]
      exact ⟨L.own_low hO1.out B7.out.size, L.own_low hO2.out B7.out.size, B7.out.trans (hB.out.mono B7.out.size)⟩
end Go.Proofs.YtfjmhnnjgjcmeaaGreatDoor
