/-
  For the laws of marker: MarkerPrints returns true. Condition: the program's table of marks is as it is laid.
-/
import Derived.Test.YtpnfjiglphogoaaDoorWake
namespace Go.Proofs.YtpnfjiglphogoaaDoor
open Go.RowKit Go.Shelf
set_option linter.unusedSimpArgs false

/-- Both sides' texts of parts. -/
def tx2 (L : List Pt) : List By := L.flatMap fun p => [p.a, p.b]
theorem tx2_len (L : List Pt) : (tx2 L).length = 2 * L.length := by
  unfold tx2
  induction L with
  | nil => rfl
  | cons x L ih => rw [List.flatMap_cons, List.length_append, ih, List.length_cons]; simp; omega
theorem tx2_take {L : List Pt} {k : Nat} {p : Pt} (h : L[k]? = some p) : tx2 (L.take (k + 1)) = tx2 (L.take k) ++ [p.a, p.b] := by
  unfold tx2
  rw [List.take_add_one, h, List.flatMap_append]; simp
theorem tx2_mem {L : List Pt} (h : ∀ p ∈ L, okH p) : ∀ x ∈ (tx2 L).map bs, x.size ≤ 50000 := by
  intro x hx
  obtain ⟨y, hy, rfl⟩ := List.mem_map.1 hx
  unfold tx2 at hy
  obtain ⟨p, hp, hy⟩ := List.mem_flatMap.1 hy
  obtain ⟨h1, h2, h3⟩ := h p hp
  rw [bs_size]
  simp at hy
  rcases hy with rfl | rfl <;> assumption
theorem strz_tx2 {W : World} {base : Nat} {v : Value} {L : List Pt} (h : W.ownsRow base 9 1 v (tx2 L).length (strV (tx2 L))) : Strz W v ((tx2 L).map bs) := by
  refine strz_of_owns (base := base) ?_
  rw [List.length_map, List.map_map]
  exact h
theorem two_new1 (W : World) (x y : By) (t : TypeId) : ∀ j u, ([.string (bs x), .string (bs y)] : List Value)[j]? = some u → (W.alloc (.cells #[.string (bs x), .string (bs y)] t)).cell? ((⟨W.heap.size, 0, none⟩ : Addr).add j) = some u := by
  intro j u hj
  rw [add_flat, Nat.zero_add, Lib.cell_of_heap (World.alloc_heap_new W _)]
  simpa using hj
theorem two_one (x y : By) : ∀ u ∈ ([.string (bs x), .string (bs y)] : List Value), u.oneCell' = true := by
  intro u hu
  simp at hu
  rcases hu with rfl | rfl <;> rfl
theorem few_ok {L : List Pt} (h : fewP L = true) : L.length ≤ 30 ∧ ∀ p ∈ L, okH p := by
  unfold fewP at h
  rw [Bool.and_eq_true, decide_eq_true_eq, List.all_eq_true] at h
  refine ⟨h.1, fun p hp => ?_⟩
  have h2 := of_decide_eq_true (h.2 p hp)
  exact ⟨by omega, by omega, by omega⟩
set_option maxRecDepth 100000 in
set_option maxHeartbeats 16000000 in
theorem markerPrints_any (v : Value) (L : List Pt) (n : Int) (old : Bool) (w : World) (hv : Prts w v L) (hW : MkW w) : Calls Tryd.prog 3 #[v, .int .i64 n, .bool old] w fun e w' => e = .returned (.bool true) ∧ Below w.heap.size w w' := by
  have HW := Lib.hid hW
  have HV := Lib.hid hv
  have hW1 := hW.size
  obtain ⟨a, cap, rfl, hc, hcm, hat⟩ := hv
  unfold maxLen at hcm
  have Hat := Lib.hid hat
  clear hW hat
  cases hf : fewP L with
  | false =>
    have Hf := Lib.hid hf
    clear hf
    go_enter Tryd.func3, Tryd.ntmps3
    go_wp2_with fail
    refine (awake_any _ HW.out).mono ?_
    rintro e w1 ⟨rfl, b1⟩
    have B1 := Lib.hid b1
    have V1 := Lib.hid (HV.out.below b1)
    have hs1 := b1.size
    clear b1
    go_wp2_with fail
    refine (few_any _ L _ V1.out).mono ?_
    rw [Hf.out]
    rintro e w2 ⟨rfl, b2⟩
    have B2 := Lib.hid (B1.out.trans (b2.mono hs1))
    clear b2
    go_wp2_with fail
    go_ret
    exact ⟨rfl, B2.out⟩
  | true =>
    have Hf := Lib.hid hf
    obtain ⟨hl, hok⟩ := few_ok hf
    have Hok := Lib.hid hok
    clear hf hok
    by_cases hn : n ≤ 200
    · have f1 : decide (n > 200) = false := decide_eq_false (by omega)
      obtain ⟨m, hm⟩ : ∃ m : Nat, Hid (max n 1 = (m : Int)) := ⟨(max n 1).toNat, Lib.hid (by omega)⟩
      have hm2 : m ≤ 200 := by have := hm.out; omega
      obtain ⟨i0, hi0, hz0, hz1, hz2⟩ := info_parts infoStr
      obtain ⟨N, hN⟩ : ∃ N, Hid (showN L = N) := ⟨_, Lib.hid rfl⟩
      obtain ⟨S, hS⟩ : ∃ S, Hid (printM L N old = S) := ⟨_, Lib.hid rfl⟩
      obtain ⟨P, hP⟩ : ∃ P, Hid (printM L m old = P) := ⟨_, Lib.hid rfl⟩
      obtain ⟨M, hM⟩ : ∃ M, Hid (lenL 7 (allL ((tx2 L).map bs)) = M) := ⟨_, Lib.hid rfl⟩
      go_enter Tryd.func3, Tryd.ntmps3
      go_wp2_with fail
      refine (awake_any _ HW.out).mono ?_
      rintro e w1 ⟨rfl, b1⟩
      have B1 := Lib.hid b1
      have V1 := Lib.hid (HV.out.below b1)
      have hs1 := b1.size
      clear b1
      go_wp2_with fail
      refine (few_any _ L _ V1.out).mono ?_
      rw [Hf.out]
      rintro e w2 ⟨rfl, b2⟩
      have B2 := Lib.hid (B1.out.trans (b2.mono hs1))
      have V2 := Lib.hid (V1.out.below b2)
      have hs2 := B2.out.size
      clear b2
      go_wp2_with fail
      refine (Show_any _ L old (by omega) Hok.out _ (HW.out.below B2.out hW1) V2.out).mono ?_
      rw [hN.out, hS.out]
      rintro e w3 ⟨rfl, b3⟩
      have B3 := Lib.hid (B2.out.trans (b3.mono hs2))
      have V3 := Lib.hid (V2.out.below b3)
      have hs3 := B3.out.size
      clear b3
      go_wp2_with fail
      refine (RefShow_any _ L old (by omega) Hok.out _ V3.out).mono ?_
      rw [hN.out, hS.out]
      rintro e w4 ⟨rfl, b4⟩
      have B4 := Lib.hid (B3.out.trans (b4.mono hs3))
      have V4 := Lib.hid (V3.out.below b4)
      have hs4 := B4.out.size
      clear b4
      have hat4 : Hid (∀ (wr : World), Below w.heap.size w wr → ∀ k (p : Pt), L[k]? = some p → ∃ b off, a = some ⟨b, off, none⟩ ∧ b < w.heap.size ∧ wr.cell? ⟨b, off + k * 4 + 2, none⟩ = some (.string (bs p.a)) ∧ wr.cell? ⟨b, off + k * 4 + 3, none⟩ = some (.string (bs p.b))) := Lib.hid fun wr hb k p hp => by
        obtain ⟨b, off, e, hbl, -, -, l2, l3⟩ := Hat.out k p hp
        exact ⟨b, off, e, hbl, (hb.cell (p := ⟨b, off + k * 4 + 2, none⟩) hbl).trans l2, (hb.cell (p := ⟨b, off + k * 4 + 3, none⟩) hbl).trans l3⟩
      go_wp2_with fail
      go_loopw [13, 14] (fun u c wr => ∃ k : Nat, c = .int .i64 k ∧ k ≤ L.length ∧ Hid (wr.ownsRow w4.heap.size 9 1 u (tx2 (L.take k)).length (strV (tx2 (L.take k)))) ∧ Hid (Below w4.heap.size w4 wr)) (fun _ c _ => L.length - (intOf c).toNat)
      case atStart => exact ⟨0, rfl, by omega, Lib.hid (World.ownsRow_nil _ _ _ _), Lib.hid (Below.refl _ _)⟩
      case round =>
        obtain ⟨k, rfl, hk, hown, hB⟩ := hrel
        have hbs := hB.out.size
        have hBw := Lib.hid (B4.out.trans (hB.out.mono hs4))
        by_cases hlt : k < L.length
        · obtain ⟨p, hp⟩ : ∃ p, L[k]? = some p := ⟨_, List.getElem?_eq_getElem hlt⟩
          obtain ⟨b, off, rfl, hbl, c2, c3⟩ := hat4.out wr hBw.out k p hp
          have Hl : Hid (∀ W', Below w4.heap.size w4 W' → W'.cell? ⟨b, off + k * 4 + 2, none⟩ = some (.string (bs p.a)) ∧ W'.cell? ⟨b, off + k * 4 + 3, none⟩ = some (.string (bs p.b))) := Lib.hid fun W' hb => by
            obtain ⟨b', off', e, -, x2, x3⟩ := hat4.out W' (B4.out.trans (hb.mono hs4)) k p hp
            cases e
            exact ⟨x2, x3⟩
          have hnx : Hid (tx2 (L.take (k + 1)) = tx2 (L.take k) ++ [p.a, p.b]) := Lib.hid (tx2_take hp)
          have hle : (tx2 (L.take k)).length ≤ 3000 := by rw [tx2_len, List.length_take]; omega
          obtain ⟨n0, hn0⟩ : ∃ n0, Hid ((tx2 (L.take k)).length = n0) := ⟨_, Lib.hid rfl⟩
          rw [hn0.out] at hown hle
          have q0 : (0 : Int) ≤ (k : Int) := by omega
          have q1 : (k : Int) < (L.length : Int) := by omega
          clear hp
          go_wp2_with fail
          go_region_held_law (fun W => W.cell? ⟨b, off + k * 4 + 2, none⟩ = some (.string (bs p.a)) ∧ W.cell? ⟨b, off + k * 4 + 3, none⟩ = some (.string (bs p.b)))
            (first | go_keep | exact Hl.out _ HB2.out)
            ((refine step_append_lies _ (by rfl) _ _ _ (by rfl) w4.heap.size 9 i0 _ 1 16 Tryd.underlying27 hi0 hz0 hz1 hz2 rfl (by decide) _ n0 _ (by rfl) (hown.out.alloc _) ⟨wr.heap.size, 0, none⟩ 2 2 [.string (bs p.a), .string (bs p.b)] (by rfl) rfl (fun j u hj => two_new1 wr p.a p.b 9 j u hj) (two_one _ _) (by omega) (by unfold maxLen; omega) (by omega) (by simp; omega) (wr.heap.size + 1) (by simp) ?_; intro g cap' w2 hown' hgrow _ _; have HB2 : Hid (Below w4.heap.size w4 w2) := by first | exact Lib.hid (Below.grown (hB.out.alloc hbs _) hgrow (by simp; omega) (fun k hk => (hown.out.lt k hk).1)) | exact Lib.hid (Below.grown (below_drew (hB.out.alloc hbs _)) hgrow (by simp; omega) (fun k hk => (hown.out.lt k hk).1)) | exact Lib.hid (Below.grown ((below_drew hB.out).alloc hbs _) hgrow (by simp; omega) (fun k hk => (hown.out.lt k hk).1)) | exact Lib.hid (Below.grown (below_draws (hB.out.alloc hbs _) _) hgrow (by simp; omega) (fun k hk => (hown.out.lt k hk).1)) | exact Lib.hid (Below.grown ((below_draws hB.out _).alloc hbs _) hgrow (by simp; omega) (fun k hk => (hown.out.lt k hk).1)) | (trace_state; fail)))
          have ho2 : Hid (w2.ownsRow w4.heap.size 9 1 (.slice (some ⟨g, 0, none⟩) (n0 + 2) cap') (tx2 (L.take (k + 1))).length (strV (tx2 (L.take (k + 1))))) := by
            rw [hnx.out, strV_app, List.length_append, hn0.out]
            exact Lib.hid hown'
          clear hown' hgrow hown hB
          go_wp2_with fail
          exact ⟨⟨k + 1, by go_num, by omega, ho2, HB2⟩, by simp [intOf]; omega⟩
        · obtain rfl : k = L.length := by omega
          rw [List.take_length] at hown
          have hs : Hid (Strz wr u13 ((tx2 L).map bs)) := Lib.hid (strz_tx2 hown.out)
          have V5 := Lib.hid (V4.out.below hB.out)
          have hs5 := hBw.out.size
          go_wp2_with fail
          refine (Print_any _ L n m hm.out (by omega) old (by omega) (fun p hp => (Hok.out p hp).okS) _ (HW.out.below hBw.out hW1) V5.out).mono ?_
          rw [hP.out]
          rintro e w6 ⟨rfl, b6⟩
          have B6 := Lib.hid (hBw.out.trans (b6.mono hs5))
          have V6 := Lib.hid (V5.out.below b6)
          have S6 := Lib.hid (hs.out.below b6)
          have hs6 := B6.out.size
          clear b6
          go_wp2_with fail
          refine (RefPrint_any _ L n m hm.out (by omega) old (by omega) (fun p hp => (Hok.out p hp).okS) _ V6.out).mono ?_
          rw [hP.out]
          rintro e w7 ⟨rfl, b7⟩
          have B7 := Lib.hid (B6.out.trans (b7.mono hs6))
          have S7 := Lib.hid (S6.out.below b7)
          have hs7 := B7.out.size
          clear b7
          go_wp2_with fail
          refine (Length_any _ _ (fun x hx => Nat.le_trans (tx2_mem Hok.out x hx) (by omega)) _ S7.out).mono ?_
          rw [hM.out]
          rintro e w8 ⟨rfl, b8⟩
          have B8 := Lib.hid (B7.out.trans (b8.mono hs7))
          have S8 := Lib.hid (S7.out.below b8)
          have hs8 := B8.out.size
          clear b8
          go_wp2_with fail
          refine (RefLength_any _ _ (fun x hx => Nat.le_trans (tx2_mem Hok.out x hx) (by omega)) _ S8.out).mono ?_
          rw [hM.out]
          rintro e w9 ⟨rfl, b9⟩
          have B9 := Lib.hid (B8.out.trans (b9.mono hs8))
          clear b9
          go_wp2_with fail
          go_ret
          exact ⟨rfl, B9.out⟩
    · have f1 : decide (n > 200) = true := decide_eq_true (by omega)
      clear hn
      go_enter Tryd.func3, Tryd.ntmps3
      go_wp2_with fail
      refine (awake_any _ HW.out).mono ?_
      rintro e w1 ⟨rfl, b1⟩
      have B1 := Lib.hid b1
      have V1 := Lib.hid (HV.out.below b1)
      have hs1 := b1.size
      clear b1
      go_wp2_with fail
      refine (few_any _ L _ V1.out).mono ?_
      rw [Hf.out]
      rintro e w2 ⟨rfl, b2⟩
      have B2 := Lib.hid (B1.out.trans (b2.mono hs1))
      clear b2
      go_wp2_with fail
      go_ret
      exact ⟨rfl, B2.out⟩
end Go.Proofs.YtpnfjiglphogoaaDoor
