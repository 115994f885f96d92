/-
  For the laws of cells: the texts of three rows of segments, key by key, by the program. Condition: at most 100 segments a row, texts of at most 600 bytes.
-/
import Derived.Test.YtfjmhnnjgjcmeaaGreatDoorCv
namespace Go.Proofs.YtfjmhnnjgjcmeaaGreatDoor
open Go.RowKit Go.Shelf Go.Maps Go.WideMaps
set_option linter.unusedSimpArgs false
set_option linter.unusedVariables false

/-- What a round of the loop over the three rows leaves. -/
def thR (p q r : Bool) : Nat → Array Value
  | 0 => #[.bool false, .bool false, .bool false]
  | 1 => #[.bool p, .bool false, .bool false]
  | 2 => #[.bool p, .bool q, .bool false]
  | _ => #[.bool p, .bool q, .bool r]
def sgR (x y z : ByteArray × ByteArray) : Nat → Array Value
  | 0 => #[.string ⟨#[]⟩, .string ⟨#[]⟩, .string ⟨#[]⟩, .string ⟨#[]⟩, .string ⟨#[]⟩, .string ⟨#[]⟩]
  | 1 => #[.string x.1, .string x.2, .string ⟨#[]⟩, .string ⟨#[]⟩, .string ⟨#[]⟩, .string ⟨#[]⟩]
  | 2 => #[.string x.1, .string x.2, .string y.1, .string y.2, .string ⟨#[]⟩, .string ⟨#[]⟩]
  | _ => #[.string x.1, .string x.2, .string y.1, .string y.2, .string z.1, .string z.2]
/-- The first segment of a key, in memory, or that there is none. -/
theorem seg_at {w : World} {a : Option Addr} {n c : Nat} {L : SL} (h : Sgs w (.slice a n c) L) (s : ByteArray) : ∃ (g : ByteArray × ByteArray) (p : Bool), getP L s = (g.2, p) ∧ ((p = true ∧ g.1 = s ∧ s ∈ L.map Prod.fst ∧ ∃ q, ixT (L.map Prod.fst) s = q ∧ q < n ∧ ∃ b off, a = some ⟨b, off, none⟩ ∧ ∀ wr, Below w.heap.size w wr → wr.cell? ⟨b, off + q * 2, none⟩ = some (.string g.1) ∧ wr.cell? ⟨b, off + q * 2 + 1, none⟩ = some (.string g.2)) ∨ (p = false ∧ s ∉ L.map Prod.fst ∧ g = (⟨#[]⟩, ⟨#[]⟩))) := by
  by_cases hm : s ∈ L.map Prod.fst
  · obtain ⟨p, h1, h2, h3⟩ := getP_ix hm
    obtain ⟨a', c', e, hc, hcm, hx⟩ := h
    cases e
    obtain ⟨b, off, rfl, hl, k1, k2⟩ := hx _ p h1
    exact ⟨p, true, h3, .inl ⟨rfl, h2, hm, _, rfl, (List.getElem?_eq_some_iff.1 h1).1, b, off, rfl, fun wr hB => ⟨(hB.cell (p := ⟨b, off + _, none⟩) hl).trans k1, (hB.cell (p := ⟨b, off + _ + 1, none⟩) hl).trans k2⟩⟩⟩
  · exact ⟨(⟨#[]⟩, ⟨#[]⟩), false, getP_none hm, .inr ⟨rfl, hm, rfl⟩⟩

set_option maxRecDepth 100000 in
set_option maxHeartbeats 16000000 in
theorem Texts_any (v0 v1 v2 : Value) (o a b : SL) (w : World) (hW : X.LexW w) (hs : 4 ≤ w.heap.size) (h0 : Sgs w v0 o) (h1 : Sgs w v1 a) (h2 : Sgs w v2 b) (l0 : o.length ≤ 100) (l1 : a.length ≤ 100) (l2 : b.length ≤ 100) (s0 : ∀ p ∈ o, p.1.size ≤ 600 ∧ p.2.size ≤ 600) (s1 : ∀ p ∈ a, p.1.size ≤ 600 ∧ p.2.size ≤ 600) (s2 : ∀ p ∈ b, p.1.size ≤ 600 ∧ p.2.size ≤ 600) :
    Calls Tryz.prog 25 #[v0, v1, v2] w fun e w' => ∃ u1 u2, e = .returned (.tuple #[u1, u2]) ∧ w'.ownsRow w.heap.size 49 2 u1 (textsP o a b).1.length (sv (textsP o a b).1) ∧ w'.ownsRow w.heap.size 55 2 u2 (textsP o a b).2.length (cv (textsP o a b).2) ∧ Below w.heap.size w w' := by
  have m6 : 600 ≤ maxLen := by unfold maxLen; omega
  have HW := Lib.hid hW
  have F0 := Lib.hid (fun W (hB : Below w.heap.size w W) => first_any v0 o W (h0.below hB) (by omega) (fun p hp => Nat.le_trans (s0 p hp).1 m6))
  have F1 := Lib.hid (fun W (hB : Below w.heap.size w W) => first_any v1 a W (h1.below hB) (by omega) (fun p hp => Nat.le_trans (s1 p hp).1 m6))
  have F2 := Lib.hid (fun W (hB : Below w.heap.size w W) => first_any v2 b W (h2.below hB) (by omega) (fun p hp => Nat.le_trans (s2 p hp).1 m6))
  have K0 := Lib.hid (fun W (hB : Below w.heap.size w W) => keys_any v0 o W (h0.below hB) (by omega))
  have K1 := Lib.hid (fun W (hB : Below w.heap.size w W) => keys_any v1 a W (h1.below hB) (by omega))
  have K2 := Lib.hid (fun W (hB : Below w.heap.size w W) => keys_any v2 b W (h2.below hB) (by omega))
  have H0 := Lib.hid h0
  have H1 := Lib.hid h1
  have H2 := Lib.hid h2
  have S0 := Lib.hid s0
  have S1 := Lib.hid s1
  have S2 := Lib.hid s2
  obtain ⟨z0, c0, rfl, -⟩ := h0
  obtain ⟨z1, c1, rfl, -⟩ := h1
  obtain ⟨z2, c2, rfl, -⟩ := h2
  clear s0 s1 s2 hW
  obtain ⟨n0, hn0⟩ : ∃ n, Hid (o.length = n) := ⟨_, Lib.hid rfl⟩
  obtain ⟨n1, hn1⟩ : ∃ n, Hid (a.length = n) := ⟨_, Lib.hid rfl⟩
  obtain ⟨n2, hn2⟩ : ∃ n, Hid (b.length = n) := ⟨_, Lib.hid rfl⟩
  rw [hn0.out] at l0 F0 K0 H0 ⊢
  rw [hn1.out] at l1 F1 K1 H1 ⊢
  rw [hn2.out] at l2 F2 K2 H2 ⊢
  obtain ⟨is, his, hs0, hs1, hs2⟩ := info49
  obtain ⟨ic, hic, hc0, hc1, hc2⟩ := info55
  unfold textsP
  have hKl : (allK o a b).length ≤ 300 := by
    have h := uniq_len (a.map Prod.fst ++ o.map Prod.fst ++ b.map Prod.fst)
    rw [List.length_append, List.length_append, List.length_map, List.length_map, List.length_map, hn0.out, hn1.out, hn2.out] at h
    unfold allK
    omega
  have hKs : ∀ s ∈ allK o a b, s.size ≤ 600 := by
    intro s hs
    have hs := uniq_mem.1 hs
    simp only [List.mem_append, List.mem_map] at hs
    rcases hs with (⟨p, hp, rfl⟩ | ⟨p, hp, rfl⟩) | ⟨p, hp, rfl⟩
    · exact (S1.out p hp).1
    · exact (S0.out p hp).1
    · exact (S2.out p hp).1
  obtain ⟨KK, hKK⟩ : ∃ KK, allK o a b = KK := ⟨_, rfl⟩
  have hKK2 : Hid (uniqT (a.map Prod.fst ++ o.map Prod.fst ++ b.map Prod.fst) = KK) := Lib.hid hKK
  rw [hKK] at hKl hKs ⊢
  have HKs := Lib.hid hKs
  clear hKK hKs
  go_enter Tryz.func25, Tryz.ntmps25
  go_wp2_with fail
  refine calls_gen (fun W => RowAt W w.heap.size 80 #[.slice z0 n0 c0, .slice z1 n1 c1, .slice z2 n2 c2] ∧ Below w.heap.size w W ∧ w.heap.size < W.heap.size) ?_ ?_
  · exact ⟨RowAt.new w 80 _, (Below.refl _ _).alloc (Nat.le_refl _) _, by simp⟩
  rintro W1 ⟨R1, B1, L1⟩
  have HB1 := Lib.hid B1
  refine (F0.out W1 HB1.out).mono ?_
  rintro e w2 ⟨rfl, hM0, b2⟩
  obtain ⟨M0, hM0e⟩ : ∃ M, W1.heap.size = M := ⟨_, rfl⟩
  rw [hM0e] at hM0 ⊢
  have R2 := R1.later b2
  have HB2 := Lib.hid (HB1.out.trans (b2.mono HB1.out.size))
  have Q0 := Lib.hid hM0
  clear R1 b2 B1 hM0
  go_wp2_with fail
  refine (F1.out w2 HB2.out).mono ?_
  rintro e w3 ⟨rfl, hM1, b3⟩
  obtain ⟨M1, hM1e⟩ : ∃ M, w2.heap.size = M := ⟨_, rfl⟩
  rw [hM1e] at hM1 ⊢
  have R3 := R2.later b3
  have HB3 := Lib.hid (HB2.out.trans (b3.mono HB2.out.size))
  have Q0 := Lib.hid (Q0.out.below b3)
  have Q1 := Lib.hid hM1
  clear R2 b3 hM1
  go_wp2_with fail
  refine (F2.out w3 HB3.out).mono ?_
  rintro e w4 ⟨rfl, hM2, b4⟩
  obtain ⟨M2, hM2e⟩ : ∃ M, w3.heap.size = M := ⟨_, rfl⟩
  rw [hM2e] at hM2 ⊢
  have R4 := Lib.hid (R3.later b4)
  have HB4 := Lib.hid (HB3.out.trans (b4.mono HB3.out.size))
  have Q0 := Lib.hid (Q0.out.below b4)
  have Q1 := Lib.hid (Q1.out.below b4)
  have Q2 := Lib.hid hM2
  clear R3 b4 hM2 hM0e hM1e hM2e
  go_wp2_with fail
  refine calls_gen (fun W => RowAt W w4.heap.size 81 #[.map (some M0), .map (some M1), .map (some M2)] ∧ Below w4.heap.size w4 W) ?_ ?_
  · exact ⟨RowAt.new w4 81 _, (Below.refl _ _).alloc (Nat.le_refl _) _⟩
  rintro W5 ⟨P5, b5⟩
  have R5 := R4.out.later b5
  have HB5 := Lib.hid (HB4.out.trans (b5.mono HB4.out.size))
  have Q0 := Lib.hid (Q0.out.below b5)
  have Q1 := Lib.hid (Q1.out.below b5)
  have Q2 := Lib.hid (Q2.out.below b5)
  clear b5
  refine (K1.out W5 HB5.out).mono ?_
  rintro e w6 ⟨u1, rfl, ho1, b6⟩
  have U1 := L.own_vals ho1
  have HB6 := Lib.hid (HB5.out.trans (b6.mono HB5.out.size))
  have A6 := b6
  clear ho1 b6
  go_wp2_with fail
  refine (K0.out w6 HB6.out).mono ?_
  rintro e w7 ⟨u0, rfl, ho0, b7⟩
  have U0 := L.own_vals ho0
  have U1 := U1.below b7
  have HB7 := Lib.hid (HB6.out.trans (b7.mono HB6.out.size))
  have A7 := A6.trans (b7.mono A6.size)
  clear ho0 b7 A6
  go_wp2_with fail
  refine (K2.out w7 HB7.out).mono ?_
  rintro e w8 ⟨u2, rfl, ho2, b8⟩
  have U2 := L.own_vals ho2
  have U1 := U1.below b8
  have U0 := U0.below b8
  have HB8 := Lib.hid (HB7.out.trans (b8.mono HB7.out.size))
  have A8 := A7.trans (b8.mono A7.size)
  clear ho2 b8 A7
  obtain ⟨y0, r0, g0, rfl, -⟩ := vals_form U0
  obtain ⟨y1, r1, g1, rfl, -⟩ := vals_form U1
  obtain ⟨y2, r2, g2, rfl, -⟩ := vals_form U2
  have V0 := Lib.hid U0
  have V1 := Lib.hid U1
  have V2 := Lib.hid U2
  have A8 := Lib.hid A8
  have P5 := Lib.hid P5
  have R5 := Lib.hid R5
  clear U0 U1 U2
  go_wp2_with fail
  refine calls_gen (fun W => Ess W (.slice (some ⟨w8.heap.size, 0, none⟩) 3 3) [a.map Prod.fst, o.map Prod.fst, b.map Prod.fst] ∧ Below w8.heap.size w8 W) ?_ ?_
  · have hb : Below w8.heap.size w8 (w8.alloc (.cells #[.slice y1 r1 g1, .slice y0 r0 g0, .slice y2 r2 g2] 27)) := (Below.refl _ w8).alloc (Nat.le_refl _) _
    exact ⟨ess_three (RowAt.new w8 27 _) (V1.out.below hb) (V0.out.below hb) (V2.out.below hb), hb⟩
  rintro W9 ⟨hE, b9⟩
  refine (Concat_any _ _ W9 hE (by simp only [List.flatten_cons, List.flatten_nil, List.append_nil, List.length_append, List.length_map]; rw [hn0.out, hn1.out, hn2.out]; omega)).mono ?_
  rintro e w10 ⟨u, rfl, hu, b10⟩
  rw [show [a.map Prod.fst, o.map Prod.fst, b.map Prod.fst].flatten = a.map Prod.fst ++ o.map Prod.fst ++ b.map Prod.fst by simp] at hu
  have B910 := b9.trans (b10.mono b9.size)
  have HB10 := Lib.hid (HB8.out.trans (B910.mono HB8.out.size))
  have A10 := Lib.hid (A8.out.trans (B910.mono A8.out.size))
  have CU := Lib.hid (unique_any u _ w10 hu (by rw [List.length_append, List.length_append, List.length_map, List.length_map, List.length_map, hn0.out, hn1.out, hn2.out]; omega) (by
    intro s hs
    simp only [List.mem_append, List.mem_map] at hs
    rcases hs with (⟨p, hp, rfl⟩ | ⟨p, hp, rfl⟩) | ⟨p, hp, rfl⟩
    · exact Nat.le_trans (S1.out p hp).1 m6
    · exact Nat.le_trans (S0.out p hp).1 m6
    · exact Nat.le_trans (S2.out p hp).1 m6))
  obtain ⟨yu, ru, gu, rfl, -⟩ := vals_form hu
  clear hu b9 b10 hE B910
  go_wp2_with fail
  refine CU.out.mono ?_
  rintro e w11 ⟨u, rfl, hu, b11⟩
  rw [hKK2.out] at hu
  have HB11 := Lib.hid (HB10.out.trans (b11.mono HB10.out.size))
  have A11 := Lib.hid (A10.out.trans (b11.mono A10.out.size))
  obtain ⟨xk, ck, rfl, hck, hcm, hxk⟩ := (L.own_vals hu).at
  rw [List.length_map] at hck ⊢
  have HX := Lib.hid hxk
  obtain ⟨n, hn⟩ : ∃ n, Hid (KK.length = n) := ⟨_, Lib.hid rfl⟩
  rw [hn.out] at hck hKl ⊢
  unfold maxLen at hcm
  clear hu b11 hxk CU HB10 A10
  go_wp2_with fail
  go_loopw [10, 11, 43] (fun ov bv i wr => ∃ k : Nat, k ≤ n ∧ i = .int .i64 k ∧ ∃ acc : SL × CL, Hid ((KK.take k).foldl (tx1 o a b) ([], []) = acc) ∧ acc.1.length ≤ k ∧ acc.2.length ≤ k ∧ Hid (wr.ownsRow w11.heap.size 49 2 ov acc.1.length (sv acc.1)) ∧ Hid (wr.ownsRow w11.heap.size 55 2 bv acc.2.length (cv acc.2)) ∧ Hid (Below w11.heap.size w11 wr)) (fun _ _ i _ => n - (intOf i).toNat)
  case atStart => exact ⟨0, Nat.zero_le _, rfl, ([], []), Lib.hid rfl, Nat.le_refl _, Nat.le_refl _, Lib.hid (World.ownsRow_nil _ _ _ _), Lib.hid (World.ownsRow_nil _ _ _ _), Lib.hid (Below.refl _ _)⟩
  case round =>
    obtain ⟨k, hk, rfl, ⟨A1, A2⟩, hF, hl1, hl2, hO1, hO2, hB⟩ := hrel
    obtain ⟨wo, rfl⟩ : ∃ wo, wo = wr := ⟨wr, rfl⟩
    dsimp only at hl1 hl2 hO1 hO2
    rcases Nat.lt_or_ge k n with hlt | hlt
    · obtain ⟨x, hx⟩ := get_lt (l := KK) (k := k) (by rw [hn.out]; exact hlt)
      obtain ⟨bk, off, rfl, hbl, e0⟩ := HX.out k (.string x) (by rw [List.getElem?_map, hx]; rfl)
      have e1 : wo.cell? ⟨bk, off + k, none⟩ = some (.string x) := (hB.out.cell (p := ⟨bk, off + k, none⟩) hbl).trans e0
      have hst : Hid ((KK.take (k + 1)).foldl (tx1 o a b) ([], []) = tx1 o a b (A1, A2) x) := Lib.hid (by rw [tx_take hx, hF.out])
      have hxs := HKs.out x (List.mem_of_getElem? hx)
      have d1 : decide (k < n) = true := decide_eq_true hlt
      have d2 : (0 : Int) ≤ (k : Int) := by omega
      have d3 : (k : Int) < (n : Int) := by omega
      clear hx e0
      have BO := Lib.hid (A11.out.trans (hB.out.mono A11.out.size))
      have hz4 : Hid (w4.heap.size < w11.heap.size) := Lib.hid (by have h1 := P5.out.lt; have h2 := A11.out.size; omega)
      have hzw : Hid (w.heap.size < w4.heap.size) := Lib.hid R4.out.lt
      have hows := hB.out.size
      obtain ⟨W2, hW2⟩ : ∃ W2, Hid ((wo.alloc (.cells #[.bool false, .bool false, .bool false] 44)).alloc (.cells #[.string ⟨#[]⟩, .string ⟨#[]⟩, .string ⟨#[]⟩, .string ⟨#[]⟩, .string ⟨#[]⟩, .string ⟨#[]⟩] 83) = W2) := ⟨_, Lib.hid rfl⟩
      have T1 : Hid (RowAt W2 wo.heap.size 44 #[.bool false, .bool false, .bool false]) := Lib.hid (by rw [← hW2.out]; exact (RowAt.new wo 44 _).alloc _)
      have T2 : Hid (RowAt W2 (wo.heap.size + 1) 83 #[.string ⟨#[]⟩, .string ⟨#[]⟩, .string ⟨#[]⟩, .string ⟨#[]⟩, .string ⟨#[]⟩, .string ⟨#[]⟩]) := Lib.hid (by rw [← hW2.out]; exact row_new (by simp))
      have T3 : Hid (RowAt W2 w4.heap.size 81 #[.map (some M0), .map (some M1), .map (some M2)]) := Lib.hid (by rw [← hW2.out]; exact ((P5.out.later BO.out).alloc _).alloc _)
      have T4 : Hid (RowAt W2 w.heap.size 80 #[.slice z0 n0 c0, .slice z1 n1 c1, .slice z2 n2 c2]) := Lib.hid (by rw [← hW2.out]; exact ((R5.out.later BO.out).alloc _).alloc _)
      have r0 : W2.cell? ⟨w4.heap.size, 0, none⟩ = some (.map (some M0)) := T3.out.cell rfl
      have r1 : W2.cell? ⟨w4.heap.size, 1, none⟩ = some (.map (some M1)) := T3.out.cell rfl
      have r2 : W2.cell? ⟨w4.heap.size, 2, none⟩ = some (.map (some M2)) := T3.out.cell rfl
      have BW2 : Hid (Below wo.heap.size wo W2) := Lib.hid (by rw [← hW2.out]; exact ((Below.refl _ wo).alloc (Nat.le_refl _) _).alloc (by simp) _)
      obtain ⟨g0, p0, hg0, j0⟩ := seg_at H0.out x
      obtain ⟨g1, p1, hg1, j1⟩ := seg_at H1.out x
      obtain ⟨g2, p2, hg2, j2⟩ := seg_at H2.out x
      have J0 := Lib.hid j0
      have J1 := Lib.hid j1
      have J2 := Lib.hid j2
      have G0 := Lib.hid hg0
      have G1 := Lib.hid hg1
      have G2 := Lib.hid hg2
      have T1 : Hid (RowAt W2 wo.heap.size 44 (thR p0 p1 p2 0)) := T1
      have T2 : Hid (RowAt W2 (wo.heap.size + 1) 83 (sgR g0 g1 g2 0)) := T2
      have Hx := Lib.hid hxs
      clear j0 j1 j2 hg0 hg1 hg2 hxs T3 T4
      go_wp2_with fail
      rw [hW2.out]
      go_loopw [47] (fun i wr => ∃ j : Nat, j ≤ 3 ∧ i = .int .i64 j ∧ Hid (RowAt wr wo.heap.size 44 (thR p0 p1 p2 j)) ∧ Hid (RowAt wr (wo.heap.size + 1) 83 (sgR g0 g1 g2 j)) ∧ Hid (Below wo.heap.size wo wr)) (fun i _ => 3 - (intOf i).toNat)
      case atStart => exact ⟨0, Nat.zero_le _, rfl, T1, T2, BW2⟩
      case round =>
        obtain ⟨j, hj, rfl, t1, t2, bw⟩ := hrel
        have BF : Hid (Below w11.heap.size w11 wr) := Lib.hid (hB.out.trans (bw.out.mono hows))
        have BA : Hid (Below W5.heap.size W5 wr) := Lib.hid (A11.out.trans (BF.out.mono A11.out.size))
        have BW : Hid (Below w.heap.size w wr) := Lib.hid (HB11.out.trans (BF.out.mono HB11.out.size))
        have hz4 := hz4.out
        have hzw := hzw.out
        obtain rfl | rfl | rfl | rfl : j = 0 ∨ j = 1 ∨ j = 2 ∨ j = 3 := by omega
        · have r1 : wr.cell? ⟨w4.heap.size, 0, none⟩ = some (.map (some M0)) := (P5.out.later BA.out).cell rfl
          rcases J0.out with ⟨rfl, hg1, hm, q, hq, hqn, b, f, rfl, hc⟩ | ⟨rfl, hm, rfl⟩
          · have look := ((Q0.out.below BA.out).yes (Nat.le_trans Hx.out m6) hm)
            rw [hq] at look
            have r2 : wr.cell? ⟨w.heap.size, 0, none⟩ = some (.slice (some ⟨b, f, none⟩) n0 c0) := (R5.out.later BA.out).cell rfl
            obtain ⟨k1, k2⟩ := hc wr BW.out
            have u1 : wr.cell? ⟨wo.heap.size + 1, 0, none⟩ = some (.string ⟨#[]⟩) := t2.out.cell rfl
            have u2 : wr.cell? ⟨wo.heap.size + 1, 1, none⟩ = some (.string ⟨#[]⟩) := t2.out.cell rfl
            have u3 : wr.cell? ⟨wo.heap.size, 0, none⟩ = some (.bool false) := t1.out.cell rfl
            have v1 : wr.frozen? ⟨wo.heap.size + 1, 0, none⟩ = false := t2.out.frozen _
            have v2 : wr.frozen? ⟨wo.heap.size + 1, 1, none⟩ = false := t2.out.frozen _
            have v3 : wr.frozen? ⟨wo.heap.size, 0, none⟩ = false := t1.out.frozen _
            have d4 : (0 : Int) ≤ (q : Int) := by omega
            have d5 : (q : Int) < (n0 : Int) := by omega
            clear hq hm hc hg1
            go_wp2_with fail
            exact ⟨⟨1, by omega, rfl, Lib.hid ((((t1.out.other (by omega) _ _).other (by omega) _ _).set 0 (.bool true))), Lib.hid ((((t2.out.set 0 _).set 1 _).other (by omega) _ _)), Lib.hid (((bw.out.setCell (p := ⟨wo.heap.size + 1, 0, none⟩) (Nat.le_succ _) _).setCell (p := ⟨wo.heap.size + 1, 1, none⟩) (Nat.le_succ _) _).setCell (p := ⟨wo.heap.size, 0, none⟩) (Nat.le_refl _) _)⟩, by simp [intOf]⟩
          · have look := ((Q0.out.below BA.out).no (Nat.le_trans Hx.out m6) hm)
            clear hm
            go_wp2_with fail
            exact ⟨⟨1, by omega, rfl, t1, t2, bw⟩, by simp [intOf]⟩
        · have r1 : wr.cell? ⟨w4.heap.size, 1, none⟩ = some (.map (some M1)) := (P5.out.later BA.out).cell rfl
          rcases J1.out with ⟨rfl, hg1, hm, q, hq, hqn, b, f, rfl, hc⟩ | ⟨rfl, hm, rfl⟩
          · have look := ((Q1.out.below BA.out).yes (Nat.le_trans Hx.out m6) hm)
            rw [hq] at look
            have r2 : wr.cell? ⟨w.heap.size, 1, none⟩ = some (.slice (some ⟨b, f, none⟩) n1 c1) := (R5.out.later BA.out).cell rfl
            obtain ⟨k1, k2⟩ := hc wr BW.out
            have u1 : wr.cell? ⟨wo.heap.size + 1, 2, none⟩ = some (.string ⟨#[]⟩) := t2.out.cell rfl
            have u2 : wr.cell? ⟨wo.heap.size + 1, 3, none⟩ = some (.string ⟨#[]⟩) := t2.out.cell rfl
            have u3 : wr.cell? ⟨wo.heap.size, 1, none⟩ = some (.bool false) := t1.out.cell rfl
            have v1 : wr.frozen? ⟨wo.heap.size + 1, 2, none⟩ = false := t2.out.frozen _
            have v2 : wr.frozen? ⟨wo.heap.size + 1, 3, none⟩ = false := t2.out.frozen _
            have v3 : wr.frozen? ⟨wo.heap.size, 1, none⟩ = false := t1.out.frozen _
            have d4 : (0 : Int) ≤ (q : Int) := by omega
            have d5 : (q : Int) < (n1 : Int) := by omega
            clear hq hm hc hg1
            go_wp2_with fail
            exact ⟨⟨2, by omega, rfl, Lib.hid ((((t1.out.other (by omega) _ _).other (by omega) _ _).set 1 (.bool true))), Lib.hid ((((t2.out.set 2 _).set 3 _).other (by omega) _ _)), Lib.hid (((bw.out.setCell (p := ⟨wo.heap.size + 1, 2, none⟩) (Nat.le_succ _) _).setCell (p := ⟨wo.heap.size + 1, 3, none⟩) (Nat.le_succ _) _).setCell (p := ⟨wo.heap.size, 1, none⟩) (Nat.le_refl _) _)⟩, by simp [intOf]⟩
          · have look := ((Q1.out.below BA.out).no (Nat.le_trans Hx.out m6) hm)
            clear hm
            go_wp2_with fail
            exact ⟨⟨2, by omega, rfl, t1, t2, bw⟩, by simp [intOf]⟩
        · have r1 : wr.cell? ⟨w4.heap.size, 2, none⟩ = some (.map (some M2)) := (P5.out.later BA.out).cell rfl
          rcases J2.out with ⟨rfl, hg1, hm, q, hq, hqn, b, f, rfl, hc⟩ | ⟨rfl, hm, rfl⟩
          · have look := ((Q2.out.below BA.out).yes (Nat.le_trans Hx.out m6) hm)
            rw [hq] at look
            have r2 : wr.cell? ⟨w.heap.size, 2, none⟩ = some (.slice (some ⟨b, f, none⟩) n2 c2) := (R5.out.later BA.out).cell rfl
            obtain ⟨k1, k2⟩ := hc wr BW.out
            have u1 : wr.cell? ⟨wo.heap.size + 1, 4, none⟩ = some (.string ⟨#[]⟩) := t2.out.cell rfl
            have u2 : wr.cell? ⟨wo.heap.size + 1, 5, none⟩ = some (.string ⟨#[]⟩) := t2.out.cell rfl
            have u3 : wr.cell? ⟨wo.heap.size, 2, none⟩ = some (.bool false) := t1.out.cell rfl
            have v1 : wr.frozen? ⟨wo.heap.size + 1, 4, none⟩ = false := t2.out.frozen _
            have v2 : wr.frozen? ⟨wo.heap.size + 1, 5, none⟩ = false := t2.out.frozen _
            have v3 : wr.frozen? ⟨wo.heap.size, 2, none⟩ = false := t1.out.frozen _
            have d4 : (0 : Int) ≤ (q : Int) := by omega
            have d5 : (q : Int) < (n2 : Int) := by omega
            clear hq hm hc hg1
            go_wp2_with fail
            exact ⟨⟨3, by omega, rfl, Lib.hid ((((t1.out.other (by omega) _ _).other (by omega) _ _).set 2 (.bool true))), Lib.hid ((((t2.out.set 4 _).set 5 _).other (by omega) _ _)), Lib.hid (((bw.out.setCell (p := ⟨wo.heap.size + 1, 4, none⟩) (Nat.le_succ _) _).setCell (p := ⟨wo.heap.size + 1, 5, none⟩) (Nat.le_succ _) _).setCell (p := ⟨wo.heap.size, 2, none⟩) (Nat.le_refl _) _)⟩, by simp [intOf]⟩
          · have look := ((Q2.out.below BA.out).no (Nat.le_trans Hx.out m6) hm)
            clear hm
            go_wp2_with fail
            exact ⟨⟨3, by omega, rfl, t1, t2, bw⟩, by simp [intOf]⟩
        · have y0 : wr.cell? ⟨wo.heap.size + 1, 0, none⟩ = some (.string g0.1) := t2.out.cell rfl
          have y1 : wr.cell? ⟨wo.heap.size + 1, 1, none⟩ = some (.string g0.2) := t2.out.cell rfl
          have y2 : wr.cell? ⟨wo.heap.size + 1, 2, none⟩ = some (.string g1.1) := t2.out.cell rfl
          have y3 : wr.cell? ⟨wo.heap.size + 1, 3, none⟩ = some (.string g1.2) := t2.out.cell rfl
          have y4 : wr.cell? ⟨wo.heap.size + 1, 4, none⟩ = some (.string g2.1) := t2.out.cell rfl
          have y5 : wr.cell? ⟨wo.heap.size + 1, 5, none⟩ = some (.string g2.2) := t2.out.cell rfl
          have z0' : wr.cell? ⟨wo.heap.size, 0, none⟩ = some (.bool p0) := t1.out.cell rfl
          have z1' : wr.cell? ⟨wo.heap.size, 1, none⟩ = some (.bool p1) := t1.out.cell rfl
          have z2' : wr.cell? ⟨wo.heap.size, 2, none⟩ = some (.bool p2) := t1.out.cell rfl
          go_wp2_with fail
          have CT3 := Lib.hid (Three_any g0.1 g1.1 g2.1 g0.2 g1.2 g2.2 p0 p1 p2 wr (HW.out.below BW.out hs) (Nat.le_trans hs BW.out.size) (by have h := getP_le (s := x) (fun p hp => (S0.out p hp).2); rw [G0.out] at h; exact h) (by have h := getP_le (s := x) (fun p hp => (S1.out p hp).2); rw [G1.out] at h; exact h) (by have h := getP_le (s := x) (fun p hp => (S2.out p hp).2); rw [G2.out] at h; exact h))
          have htx := Lib.hid (tx1_eq o a b (A1, A2) x)
          rw [G0.out, G1.out, G2.out] at htx
          dsimp only at htx
          obtain ⟨⟨R1, R2, R3⟩, hR⟩ : ∃ g, Hid (threeP g0.2 g1.2 g2.2 p0 p1 p2 = g) := ⟨_, Lib.hid rfl⟩
          rw [hR.out] at CT3 htx
          dsimp only at CT3 htx
          have hO1 := Lib.hid (own_below hO1.out bw.out)
          have hO2 := Lib.hid (own_below hO2.out bw.out)
          obtain ⟨a1, c1', rfl⟩ := own_form hO1.out
          obtain ⟨a2, c2', rfl⟩ := own_form hO2.out
          obtain ⟨m1, hm1⟩ : ∃ n, Hid (A1.length = n) := ⟨_, Lib.hid rfl⟩
          obtain ⟨m2, hm2⟩ : ∃ n, Hid (A2.length = n) := ⟨_, Lib.hid rfl⟩
          rw [hm1.out] at hl1 hO1 ⊢
          rw [hm2.out] at hl2 hO2 ⊢
          clear y0 y1 y2 y3 y4 y5 z0' z1' z2' J0 J1 J2 G0 G1 G2 t1 t2 T1 T2 r0 r1 r2 BW2 hW2 hz4 hzw
          refine CT3.out.mono ?_
          rintro e wd ⟨rfl, bd⟩
          have hO1 := Lib.hid (own_below hO1.out bd)
          have hO2 := Lib.hid (own_below hO2.out bd)
          have hB := Lib.hid (BF.out.trans (bd.mono BF.out.size))
          have hws := hB.out.size
          clear bd CT3 e1 hF BA BF BW bw BO hows hR
          by_cases h3 : R3 = 0
          · have q3 : (R3 != 0) = false := by simp [h3]
            cases R2 with
            | false =>
              have hF2 : Hid ((KK.take (k + 1)).foldl (tx1 o a b) ([], []) = (A1, A2)) := Lib.hid (by rw [hst.out, htx.out]; simp [h3])
              clear h3
              go_wp2_with fail
              exact ⟨⟨k + 1, by omega, by go_num, (A1, A2), hF2, by show A1.length ≤ k + 1; rw [hm1.out]; omega, by show A2.length ≤ k + 1; rw [hm2.out]; omega, by dsimp only; rw [hm1.out]; exact hO1, by dsimp only; rw [hm2.out]; exact hO2, hB⟩, by simp [intOf]; omega⟩
            | true =>
              have hF2 : Hid ((KK.take (k + 1)).foldl (tx1 o a b) ([], []) = (A1 ++ [(x, R1)], A2)) := Lib.hid (by rw [hst.out, htx.out]; simp [h3])
              clear h3
              go_wp2_with (at_builtin; refine wpList_append_own _ rfl _ _ 35 rfl w11.heap.size 49 is (.agg #[.string ⟨#[]⟩, .string ⟨#[]⟩]) 2 32 Tryz.underlying35 his hs0 hs1 hs2 rfl (by decide) _ _ _ rfl (hO1.out.alloc _) ⟨wd.heap.size, 0, none⟩ 1 1 [.string x, .string R1] rfl rfl (seg_new _ _ _) (by simp [Value.oneCell']) (by unfold maxLen; omega) (by omega) (by simp; omega) ?_; intro v' w5 hown' hgrow _)
              have hO1' : Hid (w5.ownsRow w11.heap.size 49 2 v' (A1 ++ [(x, R1)]).length (sv (A1 ++ [(x, R1)]))) := Lib.hid (by rw [List.length_append, sv_append, hm1.out]; exact hown')
              have hO2' : Hid (w5.ownsRow w11.heap.size 55 2 (.slice a2 m2 c2') A2.length (cv A2)) := Lib.hid (by rw [hm2.out]; exact own_apart (hO2.out.alloc _) (hO1.out.alloc _) (by decide) hgrow)
              have hb := Lib.hid (below_grown2 hB.out hO1.out hgrow)
              clear hown' hgrow
              go_wp2_with fail
              exact ⟨⟨k + 1, by omega, by go_num, (A1 ++ [(x, R1)], A2), hF2, by show (A1 ++ [(x, R1)]).length ≤ k + 1; rw [List.length_append, hm1.out]; simp; omega, by show A2.length ≤ k + 1; rw [hm2.out]; omega, hO1', hO2', hb⟩, by simp [intOf]; omega⟩
          · have q3 : (R3 != 0) = true := by simp [h3]
            cases R2 with
            | false =>
              have hF2 : Hid ((KK.take (k + 1)).foldl (tx1 o a b) ([], []) = (A1, A2 ++ [(R3, x)])) := Lib.hid (by rw [hst.out, htx.out]; simp [h3])
              clear h3
              go_wp2_with (at_builtin; refine wpList_append_own _ rfl _ _ 37 rfl w11.heap.size 55 ic (.agg #[.int .i64 0, .string ⟨#[]⟩]) 2 24 Tryz.underlying37 hic hc0 hc1 hc2 rfl (by decide) _ _ _ rfl (hO2.out.alloc _) ⟨wd.heap.size, 0, none⟩ 1 1 [.int .i64 R3, .string x] rfl rfl (con_new _ _ _) (by simp [Value.oneCell']) (by unfold maxLen; omega) (by omega) (by simp; omega) ?_; intro v' w5 hown' hgrow _)
              have hO2' : Hid (w5.ownsRow w11.heap.size 55 2 v' (A2 ++ [(R3, x)]).length (cv (A2 ++ [(R3, x)]))) := Lib.hid (by rw [List.length_append, cv_append, hm2.out]; exact hown')
              have hO1' : Hid (w5.ownsRow w11.heap.size 49 2 (.slice a1 m1 c1') A1.length (sv A1)) := Lib.hid (by rw [hm1.out]; exact own_apart (hO1.out.alloc _) (hO2.out.alloc _) (by decide) hgrow)
              have hb := Lib.hid (below_grown2 hB.out hO2.out hgrow)
              clear hown' hgrow
              go_wp2_with fail
              exact ⟨⟨k + 1, by omega, by go_num, (A1, A2 ++ [(R3, x)]), hF2, by show A1.length ≤ k + 1; rw [hm1.out]; omega, by show (A2 ++ [(R3, x)]).length ≤ k + 1; rw [List.length_append, hm2.out]; simp; omega, hO1', hO2', hb⟩, by simp [intOf]; omega⟩
            | true =>
              have hF2 : Hid ((KK.take (k + 1)).foldl (tx1 o a b) ([], []) = (A1 ++ [(x, R1)], A2 ++ [(R3, x)])) := Lib.hid (by rw [hst.out, htx.out]; simp [h3])
              clear h3
              go_wp2_with (at_builtin; first | (refine wpList_append_own _ rfl _ _ 35 rfl w11.heap.size 49 is (.agg #[.string ⟨#[]⟩, .string ⟨#[]⟩]) 2 32 Tryz.underlying35 his hs0 hs1 hs2 rfl (by decide) _ _ _ rfl (hO1.out.alloc _) ⟨wd.heap.size, 0, none⟩ 1 1 [.string x, .string R1] rfl rfl (seg_new _ _ _) (by simp [Value.oneCell']) (by unfold maxLen; omega) (by omega) (by simp; omega) ?_; intro v' w5 hown' hgrow _; have hO1' : Hid (w5.ownsRow w11.heap.size 49 2 v' (A1 ++ [(x, R1)]).length (sv (A1 ++ [(x, R1)]))) := Lib.hid (by rw [List.length_append, sv_append, hm1.out]; exact hown'); have hO2' : Hid (w5.ownsRow w11.heap.size 55 2 (.slice a2 m2 c2') m2 (cv A2)) := Lib.hid (own_apart (hO2.out.alloc _) (hO1.out.alloc _) (by decide) hgrow); have hb := Lib.hid (below_grown2 hB.out hO1.out hgrow); have hws5 := hb.out.size; clear hown' hgrow) | (refine wpList_append_own _ rfl _ _ 37 rfl w11.heap.size 55 ic (.agg #[.int .i64 0, .string ⟨#[]⟩]) 2 24 Tryz.underlying37 hic hc0 hc1 hc2 rfl (by decide) _ _ _ rfl (hO2'.out.alloc _) ⟨w5.heap.size, 0, none⟩ 1 1 [.int .i64 R3, .string x] rfl rfl (con_new _ _ _) (by simp [Value.oneCell']) (by unfold maxLen; omega) (by omega) (by simp; omega) ?_; intro v2 w8' hown' hgrow _))
              have hO2'' : Hid (w8'.ownsRow w11.heap.size 55 2 v2 (A2 ++ [(R3, x)]).length (cv (A2 ++ [(R3, x)]))) := Lib.hid (by rw [List.length_append, cv_append, hm2.out]; exact hown')
              have hO1'' : Hid (w8'.ownsRow w11.heap.size 49 2 v' (A1 ++ [(x, R1)]).length (sv (A1 ++ [(x, R1)]))) := Lib.hid (own_apart (hO1'.out.alloc _) (hO2'.out.alloc _) (by decide) hgrow)
              have hb8 := Lib.hid (below_grown2 hb.out hO2'.out hgrow)
              clear hown' hgrow
              go_wp2_with fail
              exact ⟨⟨k + 1, by omega, by go_num, (A1 ++ [(x, R1)], A2 ++ [(R3, x)]), hF2, by show (A1 ++ [(x, R1)]).length ≤ k + 1; rw [List.length_append, hm1.out]; simp; omega, by show (A2 ++ [(R3, x)]).length ≤ k + 1; rw [List.length_append, hm2.out]; simp; omega, hO1'', hO2'', hb8⟩, by simp [intOf]; omega⟩
    · have d1 : decide (k < n) = false := decide_eq_false (by omega)
      have hR : Hid (KK.foldl (tx1 o a b) ([], []) = (A1, A2)) := Lib.hid (by have h := hF.out; rwa [List.take_of_length_le (by rw [hn.out]; exact hlt)] at h)
      go_wp2_with fail
      go_ret2
      refine ⟨_, _, rfl, ?_⟩
      rw [hR.out]
      exact ⟨L.own_low hO1.out HB11.out.size, L.own_low hO2.out HB11.out.size, HB11.out.trans (hB.out.mono HB11.out.size)⟩
end Go.Proofs.YtfjmhnnjgjcmeaaGreatDoor
