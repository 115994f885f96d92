/-
  For the laws of cells: rows of conflicts, as they lie; whether two are the same. Condition: kinds that are numbers of 64 bits, keys no longer than any text may be.
-/
import Derived.Test.YtfjmhnnjgjcmeaaGreatDoorCr
namespace Go.Proofs.YtfjmhnnjgjcmeaaGreatDoor
open Go.RowKit Go.Shelf Go.Maps Go.WideMaps
set_option linter.unusedSimpArgs false
set_option linter.unusedVariables false

/-- The value v is a slice that reads as the conflicts L: keys and texts. -/
def Cfs (W : World) (v : Value) (L : CL) : Prop :=
  ∃ (a : Option Addr) (cap : Nat), v = .slice a L.length cap ∧ L.length ≤ cap ∧ cap ≤ maxLen ∧ ∀ k (p : Int × ByteArray), L[k]? = some p → ∃ b off, a = some ⟨b, off, none⟩ ∧ b < W.heap.size ∧ W.cell? ⟨b, off + k * 2, none⟩ = some (.int .i64 p.1) ∧ W.cell? ⟨b, off + k * 2 + 1, none⟩ = some (.string p.2)
theorem Cfs.below {W W' : World} {v : Value} {L : CL} (h : Cfs W v L) (hb : Below W.heap.size W W') : Cfs W' v L := by
  obtain ⟨a, cap, rfl, hc, hm, hx⟩ := h
  refine ⟨a, cap, rfl, hc, hm, fun k x hk => ?_⟩
  obtain ⟨b, off, rfl, hl, h1, h2⟩ := hx k x hk
  exact ⟨b, off, rfl, by have := hb.size; omega, (hb.cell (p := ⟨b, off + k * 2, none⟩) hl).trans h1, (hb.cell (p := ⟨b, off + k * 2 + 1, none⟩) hl).trans h2⟩
theorem cv_get {L : CL} {k : Nat} {x : Int × ByteArray} (h : L[k]? = some x) : (cv L)[k * 2]? = some (.int .i64 x.1) ∧ (cv L)[k * 2 + 1]? = some (.string x.2) := by
  have e : L = L.take k ++ x :: L.drop (k + 1) := by
    rw [← drop_at h, List.take_append_drop]
  have hl : (cv (L.take k)).length = k * 2 := by
    rw [cv_len, List.length_take, Nat.min_eq_left (Nat.le_of_lt (List.getElem?_eq_some_iff.1 h).1)]
  have e2 : cv L = cv (L.take k) ++ ([.int .i64 x.1, .string x.2] ++ cv (L.drop (k + 1))) := by
    conv => lhs; rw [e]
    unfold cv
    rw [List.flatMap_append, List.flatMap_cons]
  rw [e2]
  refine ⟨?_, ?_⟩
  · rw [List.getElem?_append_right (by omega), hl, Nat.sub_self]; rfl
  · rw [List.getElem?_append_right (by omega), hl, Nat.add_sub_cancel_left]; rfl
theorem own_cfs {W : World} {base n : Nat} {v : Value} {L : CL} (h : W.ownsRow base 55 2 v n (cv L)) : Cfs W v L := by
  have hl := h.1
  rw [cv_len] at hl
  obtain rfl : n = L.length := by omega
  rcases h.2 with ⟨rfl, h0⟩ | ⟨g, cap, cur, rfl, _, hg, h1, h2, h3, h4⟩
  · obtain rfl : L = [] := List.eq_nil_of_length_eq_zero h0
    exact ⟨none, 0, rfl, Nat.le_refl _, Nat.zero_le _, by simp⟩
  · refine ⟨_, cap, rfl, h1, h2, fun k x hk => ⟨g, 0, rfl, (Array.getElem?_eq_some_iff.1 hg).1, ?_⟩⟩
    have hkl := (List.getElem?_eq_some_iff.1 hk).1
    obtain ⟨g1, g2⟩ := cv_get hk
    rw [Nat.zero_add]
    refine ⟨?_, ?_⟩
    · rw [← g1, ← h4, List.getElem?_take_of_lt (by omega)]
      simp [World.cell?, hg]
    · rw [← g2, ← h4, List.getElem?_take_of_lt (by omega)]
      simp [World.cell?, hg]
theorem cfs_nil (W : World) : Cfs W (.slice none 0 0) [] := ⟨none, 0, rfl, Nat.le_refl _, Nat.zero_le _, by simp⟩
theorem cfs_at {w : World} {v : Value} {L : CL} (h : Cfs w v L) : ∃ (a : Option Addr) (cap : Nat), v = .slice a L.length cap ∧ L.length ≤ cap ∧ cap ≤ maxLen ∧ ∀ (wr : World), Below w.heap.size w wr → ∀ (k : Nat) (p : Int × ByteArray), L[k]? = some p → ∃ b off, a = some ⟨b, off, none⟩ ∧ wr.cell? ⟨b, off + k * 2, none⟩ = some (.int .i64 p.1) ∧ wr.cell? ⟨b, off + k * 2 + 1, none⟩ = some (.string p.2) := by
  obtain ⟨a, cap, rfl, hc, hm, hx⟩ := h
  refine ⟨a, cap, rfl, hc, hm, fun wr hB k p hk => ?_⟩
  obtain ⟨b, off, rfl, hl, h1, h2⟩ := hx k p hk
  exact ⟨b, off, rfl, (hB.cell (p := ⟨b, off + k * 2, none⟩) hl).trans h1, (hB.cell (p := ⟨b, off + k * 2 + 1, none⟩) hl).trans h2⟩
theorem kl3 (d : Nat) {n : Int} (h : (Lit.int .i64 n).wf = true) : Tryz.prog.keyLits (d + 1) 3 [.int .i64 n] = some [.int .i64 n] := by
  unfold Program.keyLits
  rw [Tryz.underlying3]
  simp only
  rw [if_pos ⟨trivial, h⟩]
theorem kl55 {a : Int} {b : ByteArray} (ha : (Lit.int .i64 a).wf = true) (hb : b.size ≤ maxLen) : Tryz.prog.keyLits 5 55 (Value.agg #[.int .i64 a, .string b]).cells.toList = some [.int .i64 a, .string b.data.toList] := by
  have h : Tryz.prog.keyLits 5 55 (Value.agg #[.int .i64 a, .string b]).cells.toList = chain2 (Tryz.prog.keyLits 4 3 [.int .i64 a]) (Tryz.prog.keyLits 4 9 [.string b]) := by kernel_rfl
  rw [h, kl3 3 ha, kl9 3 hb]
  rfl
theorem eq55 {a0 b0 : Int} {a1 b1 : ByteArray} (h1 : (Lit.int .i64 a0).wf = true) (h2 : a1.size ≤ maxLen) (h3 : (Lit.int .i64 b0).wf = true) (h4 : b1.size ≤ maxLen) (W : World) : (Op.equalIn 10000 55 (.agg #[.int .i64 a0, .string a1]) (.agg #[.int .i64 b0, .string b1])).run Tryz.prog W = .ok (decide (a0 = b0 ∧ a1 = b1)) W := by
  obtain ⟨r, h, e⟩ := run_equalIn_deep (P := Tryz.prog) 9990 10 55 (by kernel_rfl) W 5 5 (.agg #[.int .i64 a0, .string a1]) (.agg #[.int .i64 b0, .string b1]) _ _ (by kernel_rfl) (by kernel_rfl) (kl55 h1 h2) (kl55 h3 h4)
  have e2 : r = decide (a0 = b0 ∧ a1 = b1) := by
    rw [Bool.eq_iff_iff, e, decide_eq_true_iff]
    simp only [List.cons.injEq, and_true, Lit.string.injEq, Lit.int.injEq, true_and, dl]
  rw [← e2]
  exact h
theorem take_eq_stepC {A B : CL} {k : Nat} {x y : Int × ByteArray} (hx : A[k]? = some x) (hy : B[k]? = some y) : A.take (k + 1) = B.take (k + 1) ↔ (A.take k = B.take k ∧ x = y) := by
  have la := (List.getElem?_eq_some_iff.1 hx).1
  have lb := (List.getElem?_eq_some_iff.1 hy).1
  rw [List.take_add_one, List.take_add_one, hx, hy]
  constructor
  · intro h
    have h2 := List.append_inj h (by rw [List.length_take, List.length_take]; omega)
    exact ⟨h2.1, by simpa using h2.2⟩
  · rintro ⟨h1, h2⟩
    rw [h1, h2]
set_option maxRecDepth 100000 in
set_option maxHeartbeats 4000000 in
theorem ConSame_any (v1 v2 : Value) (A B : CL) (w : World) (h1 : Cfs w v1 A) (h2 : Cfs w v2 B) (z1 : ∀ p ∈ A, (Lit.int .i64 p.1).wf = true ∧ p.2.size ≤ maxLen) (z2 : ∀ p ∈ B, (Lit.int .i64 p.1).wf = true ∧ p.2.size ≤ maxLen) :
    Calls Tryz.prog 28 #[v1, v2] w fun e w' => e = .returned (.bool (decide (A = B))) ∧ ∃ q, w' = w.drewN q := by
  obtain ⟨a1, c1, rfl, hc1, hm1, hat1⟩ := cfs_at h1
  obtain ⟨a2, c2, rfl, hc2, hm2, hat2⟩ := cfs_at h2
  unfold maxLen at hm1 hm2
  obtain ⟨n, hn⟩ : ∃ n, Hid (A.length = n) := ⟨_, Lib.hid rfl⟩
  obtain ⟨m, hm⟩ : ∃ n, Hid (B.length = n) := ⟨_, Lib.hid rfl⟩
  obtain ⟨d, hd⟩ : ∃ d, Hid (decide (A = B) = d) := ⟨_, Lib.hid rfl⟩
  rw [hd.out]
  rw [hn.out] at hc1 ⊢
  rw [hm.out] at hc2 ⊢
  have Hat1 := Lib.hid hat1
  have Hat2 := Lib.hid hat2
  have Z1 := Lib.hid z1
  have Z2 := Lib.hid z2
  clear hat1 hat2 h1 h2 z1 z2
  by_cases hnm : n = m
  · subst hnm
    have d0 : ((n : Int) != (n : Int)) = false := by simp
    go_enter Tryz.func28, Tryz.ntmps28
    go_wp2_with fail
    go_loopw [5] (fun i wr => ∃ k : Nat, k ≤ n ∧ i = .int .i64 k ∧ Hid (A.take k = B.take k) ∧ ∃ q, Hid (wr = w.drewN q)) (fun i _ => n + 1 - (intOf i).toNat)
    case atStart => exact ⟨0, Nat.zero_le _, rfl, Lib.hid rfl, 0, Lib.hid rfl⟩
    case round =>
      obtain ⟨k, hk, rfl, hE, q, hq⟩ := hrel
      rcases Nat.lt_or_ge k n with hlt | hlt
      · obtain ⟨x, hx⟩ := get_lt (l := A) (k := k) (by rw [hn.out]; exact hlt)
        obtain ⟨y, hy⟩ := get_lt (l := B) (k := k) (by rw [hm.out]; exact hlt)
        obtain ⟨b1, o1, rfl, e1, g1⟩ := Hat1.out (w.drewN q) (below_draws (Below.refl _ _) q) k x hx
        obtain ⟨b2, o2, rfl, e2, g2⟩ := Hat2.out (w.drewN q) (below_draws (Below.refl _ _) q) k y hy
        have f1 : wr.cell? ⟨b1, o1 + k * 2, none⟩ = some (.int .i64 x.1) := by rw [hq.out]; exact e1
        have f1' : wr.cell? ⟨b1, o1 + k * 2 + 1, none⟩ = some (.string x.2) := by rw [hq.out]; exact g1
        have f2 : wr.cell? ⟨b2, o2 + k * 2, none⟩ = some (.int .i64 y.1) := by rw [hq.out]; exact e2
        have f2' : wr.cell? ⟨b2, o2 + k * 2 + 1, none⟩ = some (.string y.2) := by rw [hq.out]; exact g2
        have EQ := eq55 (Z1.out x (List.mem_of_getElem? hx)).1 (Z1.out x (List.mem_of_getElem? hx)).2 (Z2.out y (List.mem_of_getElem? hy)).1 (Z2.out y (List.mem_of_getElem? hy)).2
        have d1 : decide ((k : Int) < (n : Int)) = true := decide_eq_true (by omega)
        have d2 : (0 : Int) ≤ (k : Int) := by omega
        have d3 : (k : Int) < (n : Int) := by omega
        have hst := Lib.hid (take_eq_stepC hx hy)
        have hne : Hid (x ≠ y → A ≠ B) := Lib.hid (fun h e => by subst e; rw [hx] at hy; exact h (by simpa using hy))
        clear hx hy e1 e2 g1 g2
        by_cases hxy : x = y
        · rw [decide_eq_true (by rw [hxy]; exact ⟨rfl, rfl⟩)] at EQ
          have hE2 : Hid (A.take (k + 1) = B.take (k + 1)) := Lib.hid (hst.out.2 ⟨hE.out, hxy⟩)
          clear hxy
          go_wp2_with fail
          go_quiet (fail)
          go_wp2_with fail
          exact ⟨⟨k + 1, by omega, by go_num, hE2, q + nq, Lib.hid (by rw [hq.out, World.drewN_drewN])⟩, by simp [intOf]; omega⟩
        · rw [decide_eq_false (fun h => hxy (Prod.ext h.1 h.2))] at EQ
          have hdd : Hid (d = false) := Lib.hid (by rw [← hd.out]; exact decide_eq_false (hne.out hxy))
          clear hxy
          go_wp2_with fail
          go_quiet (fail)
          go_wp2_with fail
          go_ret
          exact ⟨by rw [hdd.out]; rfl, q + nq, by rw [hq.out, World.drewN_drewN]⟩
      · have d1 : decide ((k : Int) < (n : Int)) = false := decide_eq_false (by omega)
        have hdd : Hid (d = true) := Lib.hid (by
          have h := hE.out
          rw [List.take_of_length_le (by rw [hn.out]; exact hlt), List.take_of_length_le (by rw [hm.out]; exact hlt)] at h
          rw [← hd.out]; exact decide_eq_true h)
        go_wp2_with fail
        go_ret
        exact ⟨by rw [hdd.out]; rfl, q, hq.out⟩
  · have d0 : ((n : Int) != (m : Int)) = true := by simp; omega
    have d0' : ((n : Int) == (m : Int)) = false := by simp; omega
    have hdd : Hid (d = false) := Lib.hid (by rw [← hd.out]; exact decide_eq_false (fun e => hnm (by rw [← hn.out, ← hm.out, e])))
    go_enter Tryz.func28, Tryz.ntmps28
    go_wp2_with fail
    go_ret
    exact ⟨by rw [hdd.out]; rfl, 0, rfl⟩
end Go.Proofs.YtfjmhnnjgjcmeaaGreatDoor
