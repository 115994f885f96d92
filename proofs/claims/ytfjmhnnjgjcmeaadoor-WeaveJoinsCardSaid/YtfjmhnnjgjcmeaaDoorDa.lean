/-
  For the laws of weave: where a chunk ends (stable, unstable), and its kind. Condition: rows of at most 1,000,000 things.
-/
import Derived.Test.YtfjmhnnjgjcmeaaDoorDm
import Derived.Laws.Rows
namespace Go.Proofs.YtfjmhnnjgjcmeaaDoor.L
open Go.RowKit
set_option linter.unusedVariables false
set_option linter.unusedSimpArgs false

abbrev p3v (p : P3) : Array Value := #[.int .i64 p.o, .int .i64 p.a, .int .i64 p.b]
/-- Three cells of a row. -/
theorem row3 {W : World} {b : Nat} {t : TypeId} {x y z : Value} (h : RowAt W b t #[x, y, z]) : W.cell? ⟨b, 0, none⟩ = some x ∧ W.cell? ⟨b, 1, none⟩ = some y ∧ W.cell? ⟨b, 2, none⟩ = some z ∧ W.frozen? ⟨b, 0, none⟩ = false ∧ W.frozen? ⟨b, 1, none⟩ = false ∧ W.frozen? ⟨b, 2, none⟩ = false :=
  ⟨h.cell rfl, h.cell rfl, h.cell rfl, h.frozen 0, h.frozen 1, h.frozen 2⟩
theorem row3_set {W : World} {b : Nat} {t : TypeId} {x y z : Value} (h : RowAt W b t #[x, y, z]) (x' y' z' : Value) : RowAt (((W.setCell ⟨b, 0, none⟩ x').setCell ⟨b, 1, none⟩ y').setCell ⟨b, 2, none⟩ z') b t #[x', y', z'] := by
  simpa using ((h.set 0 x').set 1 y').set 2 z'
theorem ints_at {w : World} {v : Value} {xs : List Int} (h : Ints w .i64 v xs) : ∃ (a : Option Addr) (cap : Nat), v = .slice a xs.length cap ∧ xs.length ≤ cap ∧ cap ≤ maxLen ∧ ∀ (wr : World), Below w.heap.size w wr → ∀ (k : Nat) (x : Int), xs[k]? = some x → ∃ b off, a = some ⟨b, off, none⟩ ∧ wr.cell? ⟨b, off + k, none⟩ = some (.int .i64 x) := by
  obtain ⟨a, cap, rfl, h1, h2, h3⟩ := h
  refine ⟨a, cap, rfl, h1, h2, fun wr hB k x hk => ?_⟩
  rcases h3 with h | ⟨b, off, rfl, hb, hx⟩
  · rw [h] at hk; simp at hk
  · exact ⟨b, off, rfl, (hB.cell (p := ⟨b, off + k, none⟩) hb).trans (hx k _ hk)⟩
theorem get_lt {α : Type} {l : List α} {k : Nat} (h : k < l.length) : ∃ x, l[k]? = some x := ⟨_, List.getElem?_eq_getElem h⟩

set_option maxRecDepth 100000 in
set_option maxHeartbeats 4000000 in
theorem stable_any (v1 v2 : Value) (L R : List Int) (p : P3) (w : World) (h1 : Ints w .i64 v1 L) (h2 : Ints w .i64 v2 R) (hLR : L.length = R.length) (hL : L.length ≤ 1000000) (ho : p.o ≤ L.length) (ha : p.a ≤ 1000000) (hb : p.b ≤ 1000000) (S : Nat) (hS : stab (L.drop p.o) (R.drop p.o) p.a p.b = S) :
    Calls Tryd.prog 56 #[.agg (p3v p), v1, v2] w fun e w' => e = .returned (.agg (p3v ⟨p.o + S, p.a + S, p.b + S⟩)) ∧ Below w.heap.size w w' := by
  obtain ⟨a1, cap1, rfl, hc1, hm1, h1⟩ := ints_at h1
  obtain ⟨a2, cap2, rfl, hc2, hm2, h2⟩ := ints_at h2
  have H1 := Lib.hid h1
  have H2 := Lib.hid h2
  clear h1 h2
  unfold maxLen at hm1 hm2
  obtain ⟨po, pa, pb⟩ := p
  simp only at ho ha hb hS
  have hsl := (stab_le (L.drop po) (R.drop po) pa pb).1
  rw [hS, List.length_drop] at hsl
  obtain ⟨n, hn⟩ : ∃ n, Hid (L.length = n) := ⟨_, Lib.hid rfl⟩
  have hn2 : Hid (R.length = n) := Lib.hid (hLR ▸ hn.out)
  rw [hn.out] at hsl hL ho hc1
  rw [hn2.out] at hc2
  clear hLR
  have HS := Lib.hid hS
  clear hS
  rw [hn.out, hn2.out]
  go_enter Tryd.func56, Tryd.ntmps56
  go_wp2_with fail
  go_loopw [7] (fun _ wr => ∃ x y z k : Nat, Hid (x = po + k ∧ y = pa + k ∧ z = pb + k) ∧ k ≤ S ∧ Hid (RowAt wr w.heap.size 105 #[.int .i64 x, .int .i64 y, .int .i64 z]) ∧ Hid (RowAt wr (w.heap.size + 1) 105 #[.int .i64 0, .int .i64 0, .int .i64 0]) ∧ Hid (Below w.heap.size w wr)) (fun _ wr => n - (intOf ((wr.cell? ⟨w.heap.size, 0, none⟩).getD undef)).toNat)
  case atStart => exact ⟨po, pa, pb, 0, Lib.hid ⟨rfl, rfl, rfl⟩, Nat.zero_le _, Lib.hid ((RowAt.new w 105 _).alloc _), Lib.hid (by have := RowAt.new (w.alloc (.cells #[.int .i64 po, .int .i64 pa, .int .i64 pb] 105)) 105 #[.int .i64 0, .int .i64 0, .int .i64 0]; rwa [World.size_alloc] at this), Lib.hid (((Below.refl _ w).alloc (Nat.le_refl _) _).alloc (by simp) _)⟩
  case round =>
    obtain ⟨x, y, z, k, hk, hkS, hr, hr2, hB⟩ := hrel
    obtain ⟨c0, c1, c2, f0, f1, f2⟩ := row3 hr.out
    have hxn : x ≤ n := by have := hk.out.1; omega
    have hy : y ≤ 2000000 := by have := hk.out.2.1; omega
    have hz : z ≤ 2000000 := by have := hk.out.2.2; omega
    by_cases hlt : k < S
    · obtain ⟨g1, g2⟩ := stab_run (L := L.drop po) (R := R.drop po) (a := pa) (b := pb) (k := k) (by rw [HS.out]; exact hlt)
      rw [List.getElem?_drop, ← hk.out.1, ← hk.out.2.1] at g1
      rw [List.getElem?_drop, ← hk.out.1, ← hk.out.2.2] at g2
      have hxl : x < n := by rw [← hn.out]; exact (List.getElem?_eq_some_iff.1 g1).1
      obtain ⟨b1, o1, rfl, e1⟩ := H1.out wr hB.out x _ g1
      obtain ⟨b2, o2, rfl, e2⟩ := H2.out wr hB.out x _ g2
      clear g1 g2
      have d1 : decide ((x : Int) < (n : Int)) = true := decide_eq_true (by omega)
      have d2 : (0 : Int) ≤ (x : Int) := by omega
      have d3 : (x : Int) < (n : Int) := by omega
      have Bq := Lib.hid (fun q => below_draws hB.out q)
      have Rq := Lib.hid (fun q => hr.out.drewN q)
      have Rq2 := Lib.hid (fun q => hr2.out.drewN q)
      go_wp2_with fail
      go_quiet (fail)
      go_wp2_with fail
      refine ⟨⟨x + 1, y + 1, z + 1, k + 1, Lib.hid (by have := hk.out; omega), by omega, Lib.hid ?_, Lib.hid ?_, Lib.hid ?_⟩, ?_⟩
      · simpa using row3_set (Rq.out nq) (.int .i64 ((x : Int) + 1)) (.int .i64 ((y : Int) + 1)) (.int .i64 ((z : Int) + 1))
      · exact (((Rq2.out nq).other (by omega) 0 _).other (by omega) 1 _).other (by omega) 2 _
      · exact (((Bq.out nq).setCell (p := ⟨w.heap.size, 0, none⟩) (Nat.le_refl _) _).setCell (p := ⟨w.heap.size, 1, none⟩) (Nat.le_refl _) _).setCell (p := ⟨w.heap.size, 2, none⟩) (Nat.le_refl _) _
      · have hc := (row3 (row3_set (Rq.out nq) (.int .i64 ((x : Int) + 1)) (.int .i64 ((y : Int) + 1)) (.int .i64 ((z : Int) + 1)))).1
        rw [hc, c0]
        simp [intOf]
        omega
    · obtain rfl : k = S := by omega
      have hst := stab_stop (L := L.drop po) (R := R.drop po) (a := pa) (b := pb)
      rw [HS.out, List.getElem?_drop, List.getElem?_drop, ← hk.out.1, ← hk.out.2.1, ← hk.out.2.2] at hst
      have Bq := Lib.hid (fun q => below_draws hB.out q)
      have Rq2 := Lib.hid (fun q => hr2.out.drewN q)
      have hfin : Hid (∀ q, (∃ v, v = Value.agg #[.int .i64 x, .int .i64 y, .int .i64 z] ∧ Ending.returned v = .returned (.agg (p3v ⟨po + k, pa + k, pb + k⟩))) ∧ Below w.heap.size w ((((wr.drewN q).setCell ⟨w.heap.size + 1, 0, none⟩ (.int .i64 x)).setCell ⟨w.heap.size + 1, 1, none⟩ (.int .i64 y)).setCell ⟨w.heap.size + 1, 2, none⟩ (.int .i64 z))) := Lib.hid (fun q => ⟨⟨_, rfl, by rw [hk.out.1, hk.out.2.1, hk.out.2.2]⟩, (((Bq.out q).setCell (p := ⟨w.heap.size + 1, 0, none⟩) (Nat.le_succ _) _).setCell (p := ⟨w.heap.size + 1, 1, none⟩) (Nat.le_succ _) _).setCell (p := ⟨w.heap.size + 1, 2, none⟩) (Nat.le_succ _) _⟩)
      obtain ⟨g0, g1, g2, z0, z1, z2⟩ := row3 hr2.out
      rcases Nat.lt_or_ge x n with hxl | hxl
      · obtain ⟨l, hl⟩ := get_lt (l := L) (k := x) (by rw [hn.out]; exact hxl)
        obtain ⟨r, hr'⟩ := get_lt (l := R) (k := x) (by rw [hn2.out]; exact hxl)
        obtain ⟨b1, o1, rfl, e1⟩ := H1.out wr hB.out x _ hl
        obtain ⟨b2, o2, rfl, e2⟩ := H2.out wr hB.out x _ hr'
        rw [hl, hr'] at hst
        have d1 : decide ((x : Int) < (n : Int)) = true := decide_eq_true (by omega)
        have d2 : (0 : Int) ≤ (x : Int) := by omega
        have d3 : (x : Int) < (n : Int) := by omega
        clear hl hr' H1 H2
        by_cases hly : l = (y : Int)
        · subst hly
          have d4 : (r == (z : Int)) = false := by rw [beq_eq_false_iff_ne]; intro e; exact hst ⟨rfl, by rw [e]⟩
          clear hst
          go_wp2_with fail
          go_quiet (fail)
          go_wp2_with fail
          obtain ⟨⟨v, hv, he⟩, hb⟩ := hfin.out nq
          refine bodyPost_ret (results_cell_row (P := Tryd.prog) rfl _ _ (w.heap.size + 1) 105 _ (0, 0) _ rfl (row3_set (Rq2.out nq) _ _ _) Tryd.underlying105 rfl rfl) rfl ?_
          rw [hv] at he
          exact ⟨he, hb⟩
        · have d4 : (l == (y : Int)) = false := by rw [beq_eq_false_iff_ne]; exact hly
          clear hst hly
          go_wp2_with fail
          go_quiet (fail)
          go_wp2_with fail
          obtain ⟨⟨v, hv, he⟩, hb⟩ := hfin.out nq
          refine bodyPost_ret (results_cell_row (P := Tryd.prog) rfl _ _ (w.heap.size + 1) 105 _ (0, 0) _ rfl (row3_set (Rq2.out nq) _ _ _) Tryd.underlying105 rfl rfl) rfl ?_
          rw [hv] at he
          exact ⟨he, hb⟩
      · have d1 : decide (x < n) = false := decide_eq_false (by omega)
        clear hst H1 H2
        go_wp2_with fail
        go_quiet (fail)
        go_wp2_with fail
        obtain ⟨⟨v, hv, he⟩, hb⟩ := hfin.out nq
        refine bodyPost_ret (results_cell_row (P := Tryd.prog) rfl _ _ (w.heap.size + 1) 105 _ (0, 0) _ rfl (row3_set (Rq2.out nq) _ _ _) Tryd.underlying105 rfl rfl) rfl ?_
        rw [hv] at he
        exact ⟨he, hb⟩

set_option maxRecDepth 100000 in
set_option maxHeartbeats 4000000 in
theorem unstable_any (v1 v2 : Value) (L R : List Int) (p ends : P3) (w : World) (h1 : Ints w .i64 v1 L) (h2 : Ints w .i64 v2 R) (hLR : L.length = R.length) (hL : L.length ≤ 1000000) (ho : p.o ≤ L.length) (E : P3) (hE : (uns (L.drop p.o) (R.drop p.o) p.o).getD ends = E) :
    Calls Tryd.prog 57 #[.agg (p3v p), v1, v2, .agg (p3v ends)] w fun e w' => e = .returned (.agg (p3v E)) ∧ Below w.heap.size w w' := by
  obtain ⟨a1, cap1, rfl, hc1, hm1, h1⟩ := ints_at h1
  obtain ⟨a2, cap2, rfl, hc2, hm2, h2⟩ := ints_at h2
  have H1 := Lib.hid h1
  have H2 := Lib.hid h2
  clear h1 h2
  unfold maxLen at hm1 hm2
  obtain ⟨po, pa, pb⟩ := p
  obtain ⟨eo, ea, eb⟩ := ends
  simp only at ho hE
  obtain ⟨n, hn⟩ : ∃ n, Hid (L.length = n) := ⟨_, Lib.hid rfl⟩
  have hn2 : Hid (R.length = n) := Lib.hid (hLR ▸ hn.out)
  rw [hn.out] at hL ho hc1
  rw [hn2.out] at hc2
  clear hLR
  have HE := Lib.hid hE
  clear hE
  rw [hn.out, hn2.out]
  go_enter Tryd.func57, Tryd.ntmps57
  go_wp2_with fail
  go_loopw [9] (fun c wr => ∃ k : Nat, c = .int .i64 k ∧ k ≤ n ∧ Hid ((uns (L.drop k) (R.drop k) k).getD ⟨eo, ea, eb⟩ = E) ∧ Hid (RowAt wr (w.heap.size + 1) 105 #[.int .i64 eo, .int .i64 ea, .int .i64 eb]) ∧ Hid (RowAt wr (w.heap.size + 1 + 1) 105 #[.int .i64 0, .int .i64 0, .int .i64 0]) ∧ Hid (Below w.heap.size w wr)) (fun c _ => n + 1 - (intOf c).toNat)
  case atStart =>
    have r1 := ((RowAt.new (w.alloc (.cells (p3v ⟨po, pa, pb⟩) 105)) 105 (p3v ⟨eo, ea, eb⟩)).alloc (.cells (p3v ⟨0, 0, 0⟩) 105))
    have r2 := RowAt.new ((w.alloc (.cells (p3v ⟨po, pa, pb⟩) 105)).alloc (.cells (p3v ⟨eo, ea, eb⟩) 105)) 105 (p3v ⟨0, 0, 0⟩)
    rw [World.size_alloc] at r1
    rw [World.size_alloc, World.size_alloc] at r2
    exact ⟨po, rfl, ho, HE, Lib.hid r1, Lib.hid r2, Lib.hid ((((Below.refl _ w).alloc (Nat.le_refl _) _).alloc (by simp) _).alloc (by simp; omega) _)⟩
  case round =>
    obtain ⟨k, rfl, hk, hu, hr, hr2, hB⟩ := hrel
    obtain ⟨c0, c1, c2, f0, f1, f2⟩ := row3 hr.out
    obtain ⟨g0, g1, g2, z0, z1, z2⟩ := row3 hr2.out
    have Rq2 := Lib.hid (fun q => hr2.out.drewN q)
    have hend : Hid (∀ (q : Nat) (x y z : Value), RowAt ((((wr.drewN q).setCell ⟨w.heap.size + 1 + 1, 0, none⟩ x).setCell ⟨w.heap.size + 1 + 1, 1, none⟩ y).setCell ⟨w.heap.size + 1 + 1, 2, none⟩ z) (w.heap.size + 1 + 1) 105 #[x, y, z] ∧ Below w.heap.size w ((((wr.drewN q).setCell ⟨w.heap.size + 1 + 1, 0, none⟩ x).setCell ⟨w.heap.size + 1 + 1, 1, none⟩ y).setCell ⟨w.heap.size + 1 + 1, 2, none⟩ z)) := Lib.hid (fun q x y z => ⟨row3_set (hr2.out.drewN q) x y z, ((((below_draws hB.out q).setCell (p := ⟨w.heap.size + 1 + 1, 0, none⟩) (by show w.heap.size ≤ w.heap.size + 1 + 1; omega) _).setCell (p := ⟨w.heap.size + 1 + 1, 1, none⟩) (by show w.heap.size ≤ w.heap.size + 1 + 1; omega) _).setCell (p := ⟨w.heap.size + 1 + 1, 2, none⟩) (by show w.heap.size ≤ w.heap.size + 1 + 1; omega) _)⟩)
    rcases Nat.lt_or_ge k n with hkn | hkn
    · obtain ⟨l, hl⟩ := get_lt (l := L) (k := k) (by rw [hn.out]; exact hkn)
      obtain ⟨r, hr'⟩ := get_lt (l := R) (k := k) (by rw [hn2.out]; exact hkn)
      obtain ⟨b1, o1, rfl, e1⟩ := H1.out wr hB.out k _ hl
      obtain ⟨b2, o2, rfl, e2⟩ := H2.out wr hB.out k _ hr'
      have hun := uns_step hl hr'
      have Bq := Lib.hid (fun q => below_draws hB.out q)
      have d1 : decide (k < n) = true := decide_eq_true hkn
      have d2 : (0 : Int) ≤ (k : Int) := by omega
      have d3 : (k : Int) < (n : Int) := by omega
      clear hl hr'
      by_cases h0 : 0 ≤ l
      · have d4 : decide (0 ≤ l) = true := decide_eq_true h0
        by_cases h00 : 0 ≤ r
        · have d5 : decide (0 ≤ r) = true := decide_eq_true h00
          have hE2 : Hid (Value.agg (p3v E) = .agg #[.int .i64 k, .int .i64 l, .int .i64 r]) := Lib.hid (by
            have := hu.out
            rw [hun, if_pos ⟨h0, h00⟩, Option.getD_some] at this
            rw [← this]
            show Value.agg #[.int .i64 k, .int .i64 (l.toNat : Nat), .int .i64 (r.toNat : Nat)] = _
            rw [Int.toNat_of_nonneg h0, Int.toNat_of_nonneg h00])
          clear hun
          go_wp2_with fail
          go_region
          all_goals
            go_wp2_with fail
            first
            | (obtain ⟨hR, hb⟩ := hend.out 0 (.int .i64 k) (.int .i64 l) (.int .i64 r)
               refine bodyPost_ret (results_cell_row (P := Tryd.prog) rfl _ _ (w.heap.size + 1 + 1) 105 _ (0, 0) _ rfl hR Tryd.underlying105 rfl rfl) rfl ?_
               exact ⟨by rw [hE2.out], hb⟩)
            | (obtain ⟨hR, hb⟩ := hend.out 1 (.int .i64 k) (.int .i64 l) (.int .i64 r)
               refine bodyPost_ret (results_cell_row (P := Tryd.prog) rfl _ _ (w.heap.size + 1 + 1) 105 _ (0, 0) _ rfl hR Tryd.underlying105 rfl rfl) rfl ?_
               exact ⟨by rw [hE2.out], hb⟩)
        · have d5 : decide (0 ≤ r) = false := decide_eq_false h00
          have hun2 : Hid ((uns (L.drop (k + 1)) (R.drop (k + 1)) (k + 1)).getD ⟨eo, ea, eb⟩ = E) := Lib.hid (by
            have := hu.out
            rw [hun, if_neg (fun h => h00 h.2)] at this
            exact this)
          clear hun
          go_wp2_with fail
          exact ⟨⟨k + 1, by go_num, by omega, hun2, hr, hr2, hB⟩, by simp [intOf]; omega⟩
      · have d4 : decide (0 ≤ l) = false := decide_eq_false h0
        have hun2 : Hid ((uns (L.drop (k + 1)) (R.drop (k + 1)) (k + 1)).getD ⟨eo, ea, eb⟩ = E) := Lib.hid (by
          have := hu.out
          rw [hun, if_neg (fun h => h0 h.1)] at this
          exact this)
        clear hun
        go_wp2_with fail
        exact ⟨⟨k + 1, by go_num, by omega, hun2, hr, hr2, hB⟩, by simp [intOf]; omega⟩
    · have d1 : decide (k < n) = false := decide_eq_false (by omega)
      have hE2 : Hid ((⟨eo, ea, eb⟩ : P3) = E) := Lib.hid (by
        have := hu.out
        rwa [uns_end (by rw [hn.out]; exact hkn), Option.getD_none] at this)
      clear H1 H2
      go_wp2_with fail
      obtain ⟨hR, hb⟩ := hend.out 0 (.int .i64 eo) (.int .i64 ea) (.int .i64 eb)
      refine bodyPost_ret (results_cell_row (P := Tryd.prog) rfl _ _ (w.heap.size + 1 + 1) 105 _ (0, 0) _ rfl hR Tryd.underlying105 rfl rfl) rfl ?_
      exact ⟨by rw [← hE2.out], hb⟩
end Go.Proofs.YtfjmhnnjgjcmeaaDoor.L
