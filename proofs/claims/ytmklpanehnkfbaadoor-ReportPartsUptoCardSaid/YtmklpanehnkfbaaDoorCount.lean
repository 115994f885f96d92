/-
  For the laws of report: how many conflicts of each kind there are, by the program and by the document. Condition: at most 1,000 conflicts.
-/
import Derived.Test.YtmklpanehnkfbaaDoorWord
namespace Go.Proofs.YtmklpanehnkfbaaDoor
open Go.RowKit Go.Shelf

structure Cf where
  kind : Int
  key : List UInt8
/-- The value v is a slice that reads as the conflicts L. -/
def Cfs (W : World) (v : Value) (L : List Cf) : Prop :=
  ∃ (a : Option Addr) (cap : Nat), v = .slice a L.length cap ∧ L.length ≤ cap ∧ cap ≤ maxLen ∧ ∀ k (x : Cf), L[k]? = some x → ∃ b off, a = some ⟨b, off, none⟩ ∧ b < W.heap.size ∧ W.cell? ⟨b, off + k * 2, none⟩ = some (.int .i64 x.kind) ∧ W.cell? ⟨b, off + k * 2 + 1, none⟩ = some (.string (bs x.key))
theorem Cfs.below {W W' : World} {v : Value} {L : List Cf} (h : Cfs W v L) (hb : Below W.heap.size W W') : Cfs W' v L := by
  obtain ⟨a, cap, rfl, hc, hm, hx⟩ := h
  refine ⟨a, cap, rfl, hc, hm, fun k x hk => ?_⟩
  obtain ⟨b, off, rfl, hl, h1, h2⟩ := hx k x hk
  exact ⟨b, off, rfl, by have := hb.size; omega, (hb.cell (p := ⟨b, off + k * 2, none⟩) hl).trans h1, (hb.cell (p := ⟨b, off + k * 2 + 1, none⟩) hl).trans h2⟩
/-- How many are of kind j + 1. -/
def cnt (L : List Cf) (j : Nat) : Int := (L.countP fun c => decide (c.kind = (j : Int) + 1) : Nat)
def rowC (f : Nat → Int) : Array Value := #[.int .i64 (f 0), .int .i64 (f 1), .int .i64 (f 2), .int .i64 (f 3), .int .i64 (f 4)]
theorem cnt_le (L : List Cf) (j : Nat) : 0 ≤ cnt L j ∧ cnt L j ≤ L.length := by
  unfold cnt
  have := List.countP_le_length (p := fun c : Cf => decide (c.kind = (j : Int) + 1)) (l := L)
  omega
theorem cnt_take {L : List Cf} {k : Nat} {c : Cf} (h : L[k]? = some c) (j : Nat) : cnt (L.take (k + 1)) j = cnt (L.take k) j + if c.kind = (j : Int) + 1 then 1 else 0 := by
  unfold cnt
  rw [List.take_add_one, h, List.countP_append]
  simp only [Option.toList_some, List.countP_cons, List.countP_nil, decide_eq_true_eq]
  split <;> simp
/-- The value v is a slice of the five counts. -/
def Five (W : World) (v : Value) (f : Nat → Int) : Prop := ∃ b t, v = .slice (some ⟨b, 0, none⟩) 5 5 ∧ RowAt W b t (rowC f)
theorem Five.below {W W' : World} {v : Value} {f : Nat → Int} (h : Five W v f) (hb : Below W.heap.size W W') : Five W' v f := by
  obtain ⟨b, t, e, hr⟩ := h
  exact ⟨b, t, e, hr.later hb⟩
theorem five_cell {W : World} {b : Nat} {t : TypeId} {f : Nat → Int} (h : RowAt W b t (rowC f)) {j : Nat} (hj : j < 5) : W.cell? ⟨b, j, none⟩ = some (.int .i64 (f j)) := by
  match j, hj with
  | 0, _ => exact h.cell (j := 0) rfl
  | 1, _ => exact h.cell (j := 1) rfl
  | 2, _ => exact h.cell (j := 2) rfl
  | 3, _ => exact h.cell (j := 3) rfl
  | 4, _ => exact h.cell (j := 4) rfl
theorem five_set {W : World} {b : Nat} {t : TypeId} {f : Nat → Int} (h : RowAt W b t (rowC f)) (j : Nat) (hj : j < 5) {g : Nat → Int} (hg : ∀ i, i < 5 → g i = f i + if i = j then 1 else 0) : RowAt (W.setCell ⟨b, j, none⟩ (.int .i64 (f j + 1))) b t (rowC g) := by
  have h2 := h.set j (.int .i64 (f j + 1))
  have e : (rowC f).setIfInBounds j (.int .i64 (f j + 1)) = rowC g := by
    have g0 := hg 0 (by omega)
    have g1 := hg 1 (by omega)
    have g2 := hg 2 (by omega)
    have g3 := hg 3 (by omega)
    have g4 := hg 4 (by omega)
    match j, hj with
    | 0, _ => simp at g0 g1 g2 g3 g4; simp [rowC, g0, g1, g2, g3, g4]
    | 1, _ => simp at g0 g1 g2 g3 g4; simp [rowC, g0, g1, g2, g3, g4]
    | 2, _ => simp at g0 g1 g2 g3 g4; simp [rowC, g0, g1, g2, g3, g4]
    | 3, _ => simp at g0 g1 g2 g3 g4; simp [rowC, g0, g1, g2, g3, g4]
    | 4, _ => simp at g0 g1 g2 g3 g4; simp [rowC, g0, g1, g2, g3, g4]
  rw [← e]
  exact h2
theorem rowC_ext {f g : Nat → Int} (h : ∀ i, i < 5 → g i = f i) : rowC g = rowC f := by
  simp [rowC, h 0 (by omega), h 1 (by omega), h 2 (by omega), h 3 (by omega), h 4 (by omega)]
theorem five_same {W : World} {b : Nat} {t : TypeId} {f : Nat → Int} (h : RowAt W b t (rowC f)) {g : Nat → Int} (hg : ∀ i, i < 5 → g i = f i) : RowAt W b t (rowC g) := by
  rw [rowC_ext hg]; exact h
set_option maxRecDepth 100000 in
set_option maxHeartbeats 8000000 in
theorem Count_any (v : Value) (L : List Cf) (w : World) (h1 : Cfs w v L) (hL : L.length ≤ 1000) : Calls Tryd.prog 17 #[v] w fun e w' => (∃ v', e = .returned v' ∧ Five w' v' (cnt L)) ∧ Below w.heap.size w w' := by
  obtain ⟨a, cap, rfl, hc, hm, hat⟩ := h1
  have Hat := Lib.hid hat; clear hat
  unfold maxLen at hm
  obtain ⟨W1, hW1⟩ : ∃ W1, Hid (w.alloc (.cells #[.int .i64 0, .int .i64 0, .int .i64 0, .int .i64 0, .int .i64 0] 57) = W1) := ⟨_, Lib.hid rfl⟩
  have hr1 : Hid (RowAt W1 w.heap.size 57 (rowC (cnt []))) := by rw [← hW1.out]; exact Lib.hid (RowAt.new w 57 _)
  have hb1 : Hid (Below w.heap.size w W1) := by rw [← hW1.out]; exact Lib.hid ((Below.refl _ w).alloc (Nat.le_refl _) _)
  have hs1 : w.heap.size + 1 ≤ W1.heap.size := by rw [← hW1.out]; simp
  go_enter Tryd.func17, Tryd.ntmps17
  go_wp2_with fail
  rw [hW1.out]
  go_loopw [8] (fun c wr => ∃ k : Nat, c = .int .i64 k ∧ k ≤ L.length ∧ Hid (Below w.heap.size w wr) ∧ Hid (RowAt wr w.heap.size 57 (rowC (cnt (L.take k))))) (fun c _ => L.length - (intOf c).toNat)
  case atStart => exact ⟨0, rfl, by omega, hb1, hr1⟩
  case round =>
    obtain ⟨k, rfl, hk, hB, hR⟩ := hrel
    have hlt0 := hR.out.lt
    by_cases hlt : k < L.length
    · obtain ⟨x, hx⟩ : ∃ x, L[k]? = some x := ⟨_, List.getElem?_eq_getElem hlt⟩
      obtain ⟨b, off, rfl, hbl, hl0, hl1⟩ := Hat.out k x hx
      have c0 : wr.cell? ⟨b, off + k * 2, none⟩ = some (.int .i64 x.kind) := (hB.out.cell (p := ⟨b, off + k * 2, none⟩) hbl).trans hl0
      have c1 : wr.cell? ⟨b, off + k * 2 + 1, none⟩ = some (.string (bs x.key)) := (hB.out.cell (p := ⟨b, off + k * 2 + 1, none⟩) hbl).trans hl1
      have Hnx := Lib.hid (cnt_take hx)
      have hRa := Lib.hid (hR.out.alloc (.cells #[.int .i64 x.kind, .string (bs x.key)] 23))
      have hBa := Lib.hid (hB.out.alloc (by omega) (.cells #[.int .i64 x.kind, .string (bs x.key)] 23))
      clear hl0 hl1 hx
      by_cases y1 : 1 ≤ x.kind
      · have d1 : decide (1 ≤ x.kind) = true := by simpa using y1
        by_cases y5 : x.kind ≤ 5
        · have d5 : decide (x.kind ≤ 5) = true := by simpa using y5
          obtain ⟨m, hm5, hkm⟩ : ∃ m : Nat, m < 5 ∧ x.kind = (m : Int) + 1 := ⟨(x.kind - 1).toNat, by omega, by omega⟩
          have hcell := five_cell hRa.out hm5
          have hfz := hRa.out.frozen m
          have hset := Lib.hid ((five_set hR.out m hm5 (g := cnt (L.take (k + 1))) (fun i hi => by
            rw [Hnx.out i, hkm]
            by_cases e : i = m
            · subst e; simp
            · have e2 : ¬ ((m : Int) + 1 = (i : Int) + 1) := by omega
              rw [if_neg e, if_neg e2])).alloc (.cells #[.int .i64 x.kind, .string (bs x.key)] 23))
          have hb := cnt_le (L.take k) m
          have hb2 : (L.take k).length ≤ L.length := List.length_take_le' _ _
          have i1 : IntKind.i64.wrap (cnt (L.take k) m + 1) = cnt (L.take k) m + 1 := Go.IntWalk.i64_in _ (by omega)
          generalize cnt (L.take k) m = cm at *
          generalize x.kind = xk at *
          subst hkm
          have i2 : IntKind.i64.wrap ((m : Int) + 1 - 1) = (m : Int) := by rw [Go.IntWalk.i64_in _ (by omega)]; omega
          have i3 : (m : Int) + 1 - 1 = (m : Int) := by omega
          have i4 : (m : Int) < 5 := by omega
          have i5 : (0 : Int) ≤ (m : Int) := by omega
          have hBs := Lib.hid ((hB.out.setCell (p := ⟨w.heap.size, m, none⟩) (Nat.le_refl _) (.int .i64 (cm + 1))).alloc (by simp; omega) (.cells #[.int .i64 ((m : Int) + 1), .string (bs x.key)] 23))
          clear y1 y5
          go_wp2_with fail
          exact ⟨⟨k + 1, by go_num, by omega, hBs, hset⟩, by simp [intOf]; omega⟩
        · have d5 : decide (x.kind ≤ 5) = false := by simpa using y5
          have hset := Lib.hid (five_same hRa.out (g := cnt (L.take (k + 1))) (fun i hi => by rw [Hnx.out i, if_neg (by omega)]; omega))
          clear y1 y5
          go_wp2_with fail
          exact ⟨⟨k + 1, by go_num, by omega, hBa, hset⟩, by simp [intOf]; omega⟩
      · have d1 : decide (1 ≤ x.kind) = false := by simpa using y1
        have hset := Lib.hid (five_same hRa.out (g := cnt (L.take (k + 1))) (fun i hi => by rw [Hnx.out i, if_neg (by omega)]; omega))
        clear y1
        go_wp2_with fail
        exact ⟨⟨k + 1, by go_num, by omega, hBa, hset⟩, by simp [intOf]; omega⟩
    · obtain rfl : k = L.length := by omega
      rw [List.take_length] at hR
      go_wp2_with fail
      go_ret
      exact ⟨⟨_, rfl, _, _, rfl, hR.out⟩, hB.out⟩
set_option maxRecDepth 100000 in
set_option maxHeartbeats 8000000 in
theorem RefCount_any (v : Value) (L : List Cf) (w : World) (h1 : Cfs w v L) (hL : L.length ≤ 1000) : Calls Tryd.prog 18 #[v] w fun e w' => (∃ v', e = .returned v' ∧ Five w' v' (cnt L)) ∧ Below w.heap.size w w' := by
  obtain ⟨a, cap, rfl, hc, hm, hat⟩ := h1
  have Hat := Lib.hid hat; clear hat
  unfold maxLen at hm
  obtain ⟨W1, hW1⟩ : ∃ W1, Hid (w.alloc (.cells #[.int .i64 0, .int .i64 0, .int .i64 0, .int .i64 0, .int .i64 0] 3) = W1) := ⟨_, Lib.hid rfl⟩
  have hr1 : Hid (RowAt W1 w.heap.size 3 (rowC (cnt []))) := by rw [← hW1.out]; exact Lib.hid (RowAt.new w 3 _)
  have hb1 : Hid (Below w.heap.size w W1) := by rw [← hW1.out]; exact Lib.hid ((Below.refl _ w).alloc (Nat.le_refl _) _)
  have hs1 : w.heap.size + 1 ≤ W1.heap.size := by rw [← hW1.out]; simp
  go_enter Tryd.func18, Tryd.ntmps18
  go_wp2_with fail
  rw [hW1.out]
  go_loopw [4] (fun c wr => ∃ k : Nat, c = .int .i64 k ∧ k ≤ L.length ∧ Hid (Below w.heap.size w wr) ∧ Hid (RowAt wr w.heap.size 3 (rowC (cnt (L.take k))))) (fun c _ => L.length - (intOf c).toNat)
  case atStart => exact ⟨0, rfl, by omega, hb1, hr1⟩
  case round =>
    obtain ⟨k, rfl, hk, hB, hR⟩ := hrel
    have hlt0 := hR.out.lt
    by_cases hlt : k < L.length
    · obtain ⟨x, hx⟩ : ∃ x, L[k]? = some x := ⟨_, List.getElem?_eq_getElem hlt⟩
      obtain ⟨b, off, rfl, hbl, hl0, hl1⟩ := Hat.out k x hx
      have c0 : wr.cell? ⟨b, off + k * 2, none⟩ = some (.int .i64 x.kind) := (hB.out.cell (p := ⟨b, off + k * 2, none⟩) hbl).trans hl0
      have Hnx := Lib.hid (cnt_take hx)
      clear hl0 hl1 hx
      by_cases y1 : 1 ≤ x.kind
      · have d1 : decide (1 ≤ x.kind) = true := by simpa using y1
        by_cases y5 : x.kind ≤ 5
        · have d5 : decide (x.kind ≤ 5) = true := by simpa using y5
          obtain ⟨m, hm5, hkm⟩ : ∃ m : Nat, m < 5 ∧ x.kind = (m : Int) + 1 := ⟨(x.kind - 1).toNat, by omega, by omega⟩
          have hcell := five_cell hR.out hm5
          have hfz := hR.out.frozen m
          have hset := Lib.hid (five_set hR.out m hm5 (g := cnt (L.take (k + 1))) (fun i hi => by
            rw [Hnx.out i, hkm]
            by_cases e : i = m
            · subst e; simp
            · have e2 : ¬ ((m : Int) + 1 = (i : Int) + 1) := by omega
              rw [if_neg e, if_neg e2]))
          have hb := cnt_le (L.take k) m
          have hb2 : (L.take k).length ≤ L.length := List.length_take_le' _ _
          have i1 : IntKind.i64.wrap (cnt (L.take k) m + 1) = cnt (L.take k) m + 1 := Go.IntWalk.i64_in _ (by omega)
          generalize cnt (L.take k) m = cm at *
          generalize x.kind = xk at *
          subst hkm
          have i2 : IntKind.i64.wrap ((m : Int) + 1 - 1) = (m : Int) := by rw [Go.IntWalk.i64_in _ (by omega)]; omega
          have i3 : (m : Int) + 1 - 1 = (m : Int) := by omega
          have i4 : (m : Int) < 5 := by omega
          have i5 : (0 : Int) ≤ (m : Int) := by omega
          have hBs := Lib.hid (hB.out.setCell (p := ⟨w.heap.size, m, none⟩) (Nat.le_refl _) (.int .i64 (cm + 1)))
          clear y1 y5
          go_wp2_with fail
          exact ⟨⟨k + 1, by go_num, by omega, hBs, hset⟩, by simp [intOf]; omega⟩
        · have d5 : decide (x.kind ≤ 5) = false := by simpa using y5
          have hset := Lib.hid (five_same hR.out (g := cnt (L.take (k + 1))) (fun i hi => by rw [Hnx.out i, if_neg (by omega)]; omega))
          clear y1 y5
          go_wp2_with fail
          exact ⟨⟨k + 1, by go_num, by omega, hB, hset⟩, by simp [intOf]; omega⟩
      · have d1 : decide (1 ≤ x.kind) = false := by simpa using y1
        have hset := Lib.hid (five_same hR.out (g := cnt (L.take (k + 1))) (fun i hi => by rw [Hnx.out i, if_neg (by omega)]; omega))
        clear y1
        go_wp2_with fail
        exact ⟨⟨k + 1, by go_num, by omega, hB, hset⟩, by simp [intOf]; omega⟩
    · obtain rfl : k = L.length := by omega
      rw [List.take_length] at hR
      go_wp2_with fail
      go_ret
      exact ⟨⟨_, rfl, _, _, rfl, hR.out⟩, hB.out⟩
set_option maxRecDepth 100000 in
set_option maxHeartbeats 8000000 in
theorem SameFive_any (v u : Value) (f : Nat → Int) (w : World) (h1 : Five w v f) (h2 : Five w u f) : Calls Tryd.prog 16 #[v, u] w fun e w' => e = .returned (.bool true) ∧ Below w.heap.size w w' := by
  obtain ⟨b, t, rfl, hr⟩ := h1
  obtain ⟨b', t', rfl, hr'⟩ := h2
  have Hr := Lib.hid hr
  have Hr' := Lib.hid hr'
  clear hr hr'
  go_enter Tryd.func16, Tryd.ntmps16
  go_wp2_with fail
  go_loopw [5] (fun c wr => ∃ k q : Nat, Hid (wr = w.drewN q) ∧ c = .int .i64 k ∧ k ≤ 5) (fun c _ => 5 - (intOf c).toNat)
  case atStart => exact ⟨0, 0, Lib.hid rfl, rfl, by omega⟩
  case round =>
    obtain ⟨k, q, hq, rfl, hk⟩ := hrel
    by_cases hlt : k < 5
    · have c0 : wr.cell? ⟨b, k, none⟩ = some (.int .i64 (f k)) := by rw [hq.out]; exact five_cell Hr.out hlt
      have d0 : wr.cell? ⟨b', k, none⟩ = some (.int .i64 (f k)) := by rw [hq.out]; exact five_cell Hr'.out hlt
      go_wp2_with fail
      go_quiet (fail)
      go_wp2_with fail
      exact ⟨⟨k + 1, q + nq, Lib.hid (by rw [hq.out, World.drewN_drewN]), by go_num, by omega⟩, by simp [intOf]; omega⟩
    · obtain rfl : k = 5 := by omega
      go_wp2_with fail
      go_ret
      exact ⟨rfl, by rw [hq.out]; exact below_draws (Below.refl _ _) q⟩
end Go.Proofs.YtmklpanehnkfbaaDoor
