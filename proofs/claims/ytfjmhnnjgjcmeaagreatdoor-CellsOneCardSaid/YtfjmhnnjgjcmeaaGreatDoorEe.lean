/-
  For the laws of cells: CellsOne returns true. Condition: the lexer's world.
-/
import Derived.Test.YtfjmhnnjgjcmeaaGreatDoorEd
namespace Go.Proofs.YtfjmhnnjgjcmeaaGreatDoor
open Go.RowKit Go.Shelf
set_option linter.unusedSimpArgs false
set_option linter.unusedVariables false

theorem row_len (o a b : SL) : (rowG o a b).1.length ≤ 2 * (o.length + a.length + b.length) + (a.length + b.length) ∧ (rowG o a b).2.length ≤ o.length + a.length + b.length + 1 := by
  obtain ⟨h1, h2⟩ := texts_len o a b
  unfold rowG rowU
  split
  · refine ⟨?_, Nat.le_succ_of_le h2⟩
    have h3 := uniq_len ((orderP (o.map Prod.fst) (a.map Prod.fst) (b.map Prod.fst)).1 ++ (textsP o a b).1.map Prod.fst)
    have h4 := order_len (o.map Prod.fst) (a.map Prod.fst) (b.map Prod.fst)
    have h5 : (pickT (textsP o a b).1 (uniqT ((orderP (o.map Prod.fst) (a.map Prod.fst) (b.map Prod.fst)).1 ++ (textsP o a b).1.map Prod.fst))).length ≤ _ := List.length_filterMap_le _ _
    rw [List.length_append, List.length_map] at h3
    rw [List.length_map, List.length_map] at h4
    dsimp only
    omega
  · refine ⟨by dsimp only; omega, ?_⟩
    dsimp only
    rw [List.length_append, List.length_singleton]
    omega
theorem once_ok {a : SL} (h : sz6 a) : okL (onceS a) := by
  intro p hp
  rw [onceS_eq] at hp
  obtain ⟨k, hk, rfl⟩ := List.mem_map.1 hp
  have h1 := h _ (getP_in (getP_mem.2 (uniq_mem.1 hk)))
  dsimp only at h1 ⊢
  have m6 : 600 ≤ maxLen := by unfold maxLen; omega
  omega
set_option maxRecDepth 100000 in
set_option maxHeartbeats 16000000 in
theorem cellsOne_any (v0 v1 : Value) (o a : SL) (w : World) (hW : X.LexW w) (h0 : Sgs w v0 o) (h1 : Sgs w v1 a) : Calls Tryz.prog 6 #[v0, v1] w fun e w' => e = .returned (.bool true) ∧ Below w.heap.size w w' := by
  have hs : 4 ≤ w.heap.size := hW.size
  have CA := Lib.hid (cellsAwake_any w hW hs)
  have F0 := Lib.hid (fun W (hB : Below w.heap.size w W) => fewS_any v0 o W (h0.below hB))
  have F1 := Lib.hid (fun W (hB : Below w.heap.size w W) => fewS_any v1 a W (h1.below hB))
  have Q0 := Lib.hid (@fewS_sizes o)
  have H0 := Lib.hid h0
  have Q1 := Lib.hid (@fewS_sizes a)
  have H1 := Lib.hid h1
  have HW := Lib.hid hW
  obtain ⟨z0, c0, rfl, -⟩ := h0
  obtain ⟨z1, c1, rfl, -⟩ := h1
  obtain ⟨n0, hn0⟩ : ∃ n, Hid (o.length = n) := ⟨_, Lib.hid rfl⟩
  rw [hn0.out] at F0 H0 ⊢
  obtain ⟨n1, hn1⟩ : ∃ n, Hid (a.length = n) := ⟨_, Lib.hid rfl⟩
  rw [hn1.out] at F1 H1 ⊢
  obtain ⟨d0, hd0⟩ : ∃ d, Hid (fewS o = d) := ⟨_, Lib.hid rfl⟩
  rw [hd0.out] at F0 Q0
  obtain ⟨d1, hd1⟩ : ∃ d, Hid (fewS a = d) := ⟨_, Lib.hid rfl⟩
  rw [hd1.out] at F1 Q1
  clear hW hd0 hd1
  go_enter Tryz.func6, Tryz.ntmps6
  go_wp2_with fail
  refine CA.out.mono ?_
  rintro e w1 ⟨rfl, b1⟩
  have B1 := Lib.hid b1
  clear b1
  go_wp2_with fail
  refine (F0.out _ B1.out).mono ?_
  rintro e w2 ⟨rfl, rfl⟩
  go_wp2_with fail
  refine (F1.out _ B1.out).mono ?_
  rintro e w3 ⟨rfl, rfl⟩
  by_cases hall : (d0 && d1) = false
  · cases d0 <;> cases d1 <;> first
      | (exact absurd hall (by decide))
      | (clear hall Q0 Q1; go_wp2_with fail; go_ret; exact ⟨rfl, B1.out⟩)
  obtain rfl : d0 = true := by cases d0 <;> simp_all
  obtain rfl : d1 = true := by cases d1 <;> simp_all
  clear hall
  obtain ⟨l0, s0⟩ := Q0.out rfl
  obtain ⟨l1, s1⟩ := Q1.out rfl
  have CX := Lib.hid (fun W (hB : Below w.heap.size w W) => Row_any _ _ _ o o a W (HW.out.below hB hs) (Nat.le_trans hs hB.size) (H0.out.below hB) (H0.out.below hB) (H1.out.below hB) (by omega) (by omega) (by omega) s0 s0 s1)
  have CY := Lib.hid (fun W (hB : Below w.heap.size w W) => Row_any _ _ _ o a o W (HW.out.below hB hs) (Nat.le_trans hs hB.size) (H0.out.below hB) (H1.out.below hB) (H0.out.below hB) (by omega) (by omega) (by omega) s0 s1 s0)
  have CZ := Lib.hid (fun W (hB : Below w.heap.size w W) => Row_any _ _ _ o a a W (HW.out.below hB hs) (Nat.le_trans hs hB.size) (H0.out.below hB) (H1.out.below hB) (H1.out.below hB) (by omega) (by omega) (by omega) s0 s1 s1)
  have CO := Lib.hid (fun W (hB : Below w.heap.size w W) => OnceS_any _ a W (H1.out.below hB) (by omega))
  have KO := Lib.hid (once_ok s1)
  obtain ⟨e1, e2⟩ := row_oaa o a
  rw [row_oob] at CX
  rw [row_oao] at CY
  obtain ⟨⟨R1, R2⟩, hR⟩ : ∃ r, rowG o a a = r := ⟨_, rfl⟩
  rw [hR] at CZ e1 e2
  obtain ⟨O, hO⟩ : ∃ r, onceS a = r := ⟨_, rfl⟩
  rw [hO] at CX CY CO KO e1
  dsimp only at CX CY CZ e1 e2
  obtain ⟨m, hm⟩ : ∃ n, Hid (O.length = n) := ⟨_, Lib.hid rfl⟩
  obtain ⟨m2, hm2⟩ : ∃ n, Hid (R2.length = n) := ⟨_, Lib.hid rfl⟩
  rw [hm.out] at CX CY CO e1
  rw [e1, hm2.out] at CZ
  simp only [List.length_nil] at CX CY
  have E2 := Lib.hid e2
  have hm2l : m2 ≤ 100 := by
    have h := (row_len o a a).2
    rw [hR] at h
    dsimp only at h
    rw [hm2.out] at h
    omega
  clear e1 e2 hR hO s0 s1 l0 l1 Q0 Q1 F0 F1 CA
  go_wp2_with fail
  refine (CO.out _ B1.out).mono ?_
  rintro e w4 ⟨u0, rfl, o0, b4⟩
  have B4 := Lib.hid (B1.out.trans (b4.mono B1.out.size))
  have X0 := own_sgs o0
  obtain ⟨x0, y0, rfl⟩ := own_form o0
  clear o0 b4
  go_wp2_with fail
  refine (CX.out _ B4.out).mono ?_
  rintro e w5 ⟨u1, u2, rfl, o1, o2, b5⟩
  have B5 := Lib.hid (B4.out.trans (b5.mono B4.out.size))
  have X0 := X0.below b5
  have X1 := own_sgs o1
  obtain ⟨x1, y1, rfl⟩ := own_form o1
  obtain ⟨x2, y2, rfl⟩ := own_form o2
  clear o1 o2 b5
  go_wp2_with fail
  refine (CY.out _ B5.out).mono ?_
  rintro e w6 ⟨u3, u4, rfl, o1, o2, b6⟩
  have B6 := Lib.hid (B5.out.trans (b6.mono B5.out.size))
  have X0 := X0.below b6
  have X1 := X1.below b6
  have X3 := own_sgs o1
  obtain ⟨x3, y3, rfl⟩ := own_form o1
  obtain ⟨x4, y4, rfl⟩ := own_form o2
  clear o1 o2 b6
  go_wp2_with fail
  refine (CZ.out _ B6.out).mono ?_
  rintro e w7 ⟨u5, u6, rfl, o1, o2, b7⟩
  have B7 := Lib.hid (B6.out.trans (b7.mono B6.out.size))
  have X0 := Lib.hid (X0.below b7)
  have X1 := Lib.hid (X1.below b7)
  have X3 := Lib.hid (X3.below b7)
  have X6 := own_cfs o2
  obtain ⟨x5, y5, rfl⟩ := own_form o1
  obtain ⟨x6, y6, rfl⟩ := own_form o2
  have X6 := Lib.hid (cfs_at2 X6)
  clear o1 o2 b7 CX CY CZ CO
  go_wp2_with fail
  refine (segsame_self _ _ O w7 X1.out X0.out KO.out).mono ?_
  rintro e w8 ⟨rfl, b8⟩
  have E8 := Lib.hid b8
  clear b8
  go_wp2_with fail
  refine (segsame_self _ _ O w8 (X3.out.below E8.out) (X0.out.below E8.out) KO.out).mono ?_
  rintro e w9 ⟨rfl, b9⟩
  have E9 := Lib.hid (E8.out.trans (b9.mono E8.out.size))
  have B9 := Lib.hid (B7.out.trans (E9.out.mono B7.out.size))
  clear b9 E8
  go_wp2_with fail
  go_loopw [15] (fun i wr => ∃ k : Nat, k ≤ m2 ∧ i = .int .i64 k ∧ Hid (Below w9.heap.size w9 wr)) (fun i _ => m2 - (intOf i).toNat)
  case atStart => exact ⟨0, Nat.zero_le _, rfl, Lib.hid (Below.refl _ _)⟩
  case round =>
    obtain ⟨k, hk, rfl, hB⟩ := hrel
    rcases Nat.lt_or_ge k m2 with hlt | hlt
    · obtain ⟨x, hx⟩ := get_lt (l := R2) (k := k) (by rw [hm2.out]; exact hlt)
      have hz := X6.out
      obtain ⟨b, f, haz, k1, k2⟩ := hz wr (E9.out.trans (hB.out.mono E9.out.size)) k x hx
      subst haz
      have hx2 := E2.out x (List.mem_of_getElem? hx)
      rw [hx2] at k1
      have f1 : decide (k < m2) = true := decide_eq_true hlt
      have f2 : (0 : Int) ≤ (k : Int) := by omega
      have f3 : (k : Int) < (m2 : Int) := by omega
      clear hx hx2 hz
      go_wp2_with fail
      exact ⟨⟨k + 1, by omega, by go_num, hB⟩, by simp [intOf]; omega⟩
    · have f1 : decide (k < m2) = false := decide_eq_false (by omega)
      go_wp2_with fail
      go_ret
      exact ⟨by simp, B9.out.trans (hB.out.mono B9.out.size)⟩
end Go.Proofs.YtfjmhnnjgjcmeaaGreatDoor
