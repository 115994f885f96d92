/-
  For the laws of node: All. Condition: at most 2,000,000 nodes.
-/
import Derived.Test.YtpnfjiglphogoacAow
import Derived.Test.YtpnfjiglphogoacLasz
import Derived.BigRegionIn
import Derived.Sort.CutIn
namespace Go.Proofs.Ytpnfjiglphogoac
open Go.RowKit Go.Shelf
set_option linter.unusedSimpArgs false
set_option linter.unusedVariables false

attribute [local go_sem] Oper.semAt_some

/-- Between two rounds of All. -/
structure AllS {α : Type} (tr : α → Nd) (kind : Int) (w : World) (b : Nat) (kb : Array Value) (pre : List α) (W : World) : Prop where
  row : ∃ v ps, Boxed W (b + 2) 22 v ∧ OwnA (b + 4) W v ps ∧ ps.map (·.1) = (pre.map tr).filter (keepN kind)
  kind : Boxed W (b + 1) 3 (.int .i64 kind)
  root : RowAt W (b + 3) 24 kb
  below : Below b w W
  size : b + 4 ≤ W.heap.size
theorem allS_abT {α : Type} {tr : α → Nd} {kind : Int} {w : World} {b B : Nat} {kb : Array Value} (hb : b ≤ w.heap.size) (hB : b + 4 ≤ B) : AbT B (fun pre W => AllS (α := α) tr kind w b kb pre W) := fun s A A' row h hg hr => by
  have same : ∀ (q : Nat) (cs : Array Value) (t : TypeId), t ≠ 58 → A.heap[q]? = some (Obj.cells cs t (0, 0)) → A'.heap[q]? = A.heap[q]? := fun q cs t ht hq => hg.block q (Array.getElem?_eq_some_iff.1 hq).1 fun e => by
    obtain ⟨-, o, ho, hm⟩ := hr q e.symm
    rw [hq] at ho
    cases ho
    rcases hm with h1 | ⟨cs', h1⟩
    · cases h1
    · cases h1; exact ht rfl
  obtain ⟨⟨v, ps, h1, h2, h3⟩, h4, h5, h6, h7⟩ := h
  exact ⟨⟨v, ps, (same _ _ 22 (by decide) h1).trans h1, h2.keep fun q cs _ hq => (same q cs 24 (by decide) hq).trans hq, h3⟩, (same _ _ 3 (by decide) h4).trans h4, (same _ _ 24 (by decide) h5).trans h5, h6.grown hg (Nat.le_trans hb h6.size) (fun k e => by have := (hr k e).1; omega), Nat.le_trans h7 hg.size⟩
set_option maxRecDepth 100000 in
set_option maxHeartbeats 8000000 in
theorem All_any (T : Nd) (kv : Value) (kind : Int) (w : World) (hm : T.cnt ≤ 2000000) (hk : KidsAt w T.kids kv) : Calls Try.prog 21 #[.agg #[.int .i64 T.hd.kind, .string (bs T.hd.text), .string (bs T.hd.type), .int .i64 T.hd.n, .int .i64 T.hd.fr, .int .i64 T.hd.to_, .int .i64 T.hd.at_, .int .i64 T.hd.tat, kv], .int .i64 kind] w fun e w' => (∃ v, e = .returned v ∧ KidsAt w' (allK kind T) v) ∧ Below w.heap.size w w' := by
  refine (callsIn_wide (n := 3)).1 ?_
  have hro : Fence.wide.round = none := rfl
  obtain ⟨a0, cap0, rfl, -⟩ := hk.get
  have HK := Lib.hid hk
  clear hk
  obtain ⟨n, hn⟩ : ∃ n, Hid (T.kids.length = n) := ⟨_, Lib.hid rfl⟩
  rw [hn.out] at HK
  rw [hn.out]
  obtain ⟨W1, hW1⟩ : ∃ W1, Hid (((w.alloc (.cells #[.int .i64 T.hd.kind, .string (bs T.hd.text), .string (bs T.hd.type), .int .i64 T.hd.n, .int .i64 T.hd.fr, .int .i64 T.hd.to_, .int .i64 T.hd.at_, .int .i64 T.hd.tat, .slice a0 n cap0] 24)).alloc (.cells #[.int .i64 kind] 3)).alloc (.cells #[.slice none 0 0] 22) = W1) := ⟨_, Lib.hid rfl⟩
  have B1 : Hid (Below w.heap.size w W1) := by rw [← hW1.out]; exact Lib.hid ((((Below.refl _ w).alloc (Nat.le_refl _) _).alloc (by simp) _).alloc (by simp; omega) _)
  have hs1 : W1.heap.size = w.heap.size + 3 := by rw [← hW1.out]; simp
  have R0 : Hid (RowAt W1 w.heap.size 24 (T.hd.vals (.slice a0 n cap0))) := by
    rw [← hW1.out]; exact Lib.hid (((RowAt.new w 24 (T.hd.vals (.slice a0 n cap0))).alloc _).alloc _)
  have Y1 : Hid (Boxed W1 (w.heap.size + 1) 3 (.int .i64 kind)) := by
    rw [← hW1.out]
    have := (Boxed.new (w.alloc (.cells #[.int .i64 T.hd.kind, .string (bs T.hd.text), .string (bs T.hd.type), .int .i64 T.hd.n, .int .i64 T.hd.fr, .int .i64 T.hd.to_, .int .i64 T.hd.at_, .int .i64 T.hd.tat, .slice a0 n cap0] 24)) 3 (.int .i64 kind)).alloc (.cells #[.slice none 0 0] 22)
    rw [World.size_alloc] at this
    exact Lib.hid this
  have X1 : Hid (Boxed W1 (w.heap.size + 2) 22 (.slice none 0 0)) := by
    rw [← hW1.out]
    have := Boxed.new ((w.alloc (.cells #[.int .i64 T.hd.kind, .string (bs T.hd.text), .string (bs T.hd.type), .int .i64 T.hd.n, .int .i64 T.hd.fr, .int .i64 T.hd.to_, .int .i64 T.hd.at_, .int .i64 T.hd.tat, .slice a0 n cap0] 24)).alloc (.cells #[.int .i64 kind] 3)) 22 (.slice none 0 0)
    rw [World.size_alloc, World.size_alloc] at this
    exact Lib.hid this
  obtain ⟨d0, d1, d2, d3, d4, d5, d6, d7, d8⟩ := Cells.row R0.out
  simp only [Nat.zero_add] at d1 d2 d3 d4 d5 d6 d7 d8
  have call := Lib.hid (each_any T (.slice a0 n cap0) W1 (HK.out.below B1.out))
  obtain ⟨W2, hW2⟩ : ∃ W2, Hid (W1.alloc (.cells (T.hd.vals (.slice a0 n cap0)) 24) = W2) := ⟨_, Lib.hid rfl⟩
  have B2 : Hid (Below w.heap.size w W2) := by rw [← hW2.out]; exact Lib.hid (B1.out.alloc (by omega) _)
  have hs2 : W2.heap.size = w.heap.size + 4 := by rw [← hW2.out]; simp; omega
  have R2 : Hid (RowAt W2 (w.heap.size + 3) 24 (T.hd.vals (.slice a0 n cap0))) := by
    rw [← hW2.out]
    have := RowAt.new W1 24 (T.hd.vals (.slice a0 n cap0))
    rw [hs1] at this
    exact Lib.hid this
  have X2 : Hid (Boxed W2 (w.heap.size + 2) 22 (.slice none 0 0)) := by rw [← hW2.out]; exact Lib.hid (X1.out.alloc _)
  have Y2 : Hid (Boxed W2 (w.heap.size + 1) 3 (.int .i64 kind)) := by rw [← hW2.out]; exact Lib.hid (Y1.out.alloc _)
  refine callsIn_of_wp_marks Try.func21 rfl trivial ?_ hro
  simp only [Try.ntmps21, List.size_toArray, List.length_cons, List.length_nil, Nat.reduceAdd, Nat.reduceSub, Array.replicate_succ, Array.replicate_zero, List.push_toArray, List.append_toArray, List.nil_append, List.cons_append]
  gi_wp2
  rw [hW1.out]
  gi_wp2
  refine ⟨trivial, ?_⟩
  refine (callsIn_wide.2 call.out).mono ?_
  rintro e w2 ⟨rfl, rfl⟩
  rw [hs1, hW2.out]
  clear d0 d1 d2 d3 d4 d5 d6 d7 d8 call
  gi_wp2
  refine rngT hro (by omega) (gf := 35) (lb := #[.pointer (some ⟨w.heap.size + 3, 0, none⟩)]) rfl trivial (enters_of Try.func35 (by kernel_rfl) rfl)
    (each1_in Fence.wide (3 - 1) trivial hro (by omega) w W2 (w.heap.size + 3) T (.slice a0 n cap0) HK.out hm B2.out R2.out)
    KpX.trans (kpX_put (by omega) (by omega)) (Below.refl _ _) (fun _ => rfl)
    (fun pre W => AllS (fun x => x.1.2.t) kind w w.heap.size (T.hd.vals (.slice a0 n cap0)) pre W)
    (allS_abT (Nat.le_refl _) (by omega))
    ⟨⟨_, [], X2.out, OwnA.nil _ _, rfl⟩, Y2.out, R2.out, B2.out, by omega⟩
    (fun x => { tmps := #[.agg #[.int .i64 T.hd.kind, .string (bs T.hd.text), .string (bs T.hd.type), .int .i64 T.hd.n, .int .i64 T.hd.fr, .int .i64 T.hd.to_, .int .i64 T.hd.at_, .int .i64 T.hd.tat, .slice a0 n cap0], .int .i64 kind, .pointer (some ⟨w.heap.size, 0, none⟩), .pointer (some ⟨w.heap.size + 1, 0, none⟩), .slice none 0 0, .pointer (some ⟨w.heap.size + 1 + 1, 0, none⟩), undef, .pointer (some ⟨x.1.2.b, x.1.2.off, none⟩), .agg #[.int .i64 T.hd.kind, .string (bs T.hd.text), .string (bs T.hd.type), .int .i64 T.hd.n, .int .i64 T.hd.fr, .int .i64 T.hd.to_, .int .i64 T.hd.at_, .int .i64 T.hd.tat, .slice a0 n cap0], .func (.func 35) #[] #[.pointer (some ⟨w.heap.size + 3, 0, none⟩)], .int .i64 (x.1.1 : Nat), .pointer (some ⟨x.1.2.b, x.1.2.off, none⟩), undef, undef, undef, undef, undef, undef, undef, undef, undef, undef, undef, undef, undef, undef, undef, undef, undef, undef, undef, undef], defers := [] }) ?assign ?body ?done
  case assign =>
    intro l x W K hK
    gi_wp2
    simpa [encX] using hK
  case done =>
    rintro D ys W hD hys ⟨⟨v, ps, h1, h2, h3⟩, h4, h5, h6, h7⟩ hK
    have hc := h1.cell
    have hl : Hid (ps.map (·.1) = allK kind T) := Lib.hid (by
      rw [h3]
      unfold allK
      rw [pre_snd 0 1, ← hys, List.map_map]
      rfl)
    have HB := Lib.hid h6
    have HO := Lib.hid h2
    clear hys h2 h3 h4 h5 h6 h7
    gi_wp2
    refine ⟨by simp, .inl ⟨_, _, rfl, run_takeDeferred hK, ?_⟩⟩
    refine ⟨_, results_tmp rfl _ _ _, ⟨_, rfl, ?_⟩, HB.out.trans (belowK_b (w := w) (Nat.le_refl _) W D _ _ (by omega) hK rfl rfl)⟩
    rw [← hl.out]
    refine OwnA.kids (base := w.heap.size + 4) (HO.out.keep fun b cs _ hb => (World.putObj_heap_other ?_).trans hb)
    rintro rfl
    rw [hb] at hK; cases hK
  case body =>
    intro l pre x W hI hlt
    obtain ⟨px, hpx⟩ : ∃ px, pre ++ [x] = px := ⟨_, rfl⟩
    rw [hpx]
    have hmap : Hid (px.map (fun x => x.1.2.t) = pre.map (fun x => x.1.2.t) ++ [x.1.2.t]) := Lib.hid (by rw [← hpx, List.map_append]; rfl)
    clear hpx
    obtain ⟨⟨d, b, o, t, kz⟩, hx⟩ := x
    obtain ⟨⟨v, ps, h1, h2, h3⟩, h4, h5, h6, h7⟩ := hI
    dsimp only at hmap ⊢
    have htc : Hid (t.cnt ≤ 2000000) := Lib.hid (Nat.le_trans hx.2 hm)
    have hbl : b < w.heap.size + 4 := by
      rcases hx.1 with e | e
      · have e2 := congrArg Pt.b e
        dsimp only at e2
        omega
      · have := e.1.lt
        dsimp only at this
        omega
    have hkz := hx.kids HK.out
    have hcs := hx.cells h6 h5
    dsimp only at hkz hcs
    obtain ⟨ak, ck, rfl, -⟩ := hkz.get
    have HKz := Lib.hid hkz
    have HCs := Lib.hid hcs
    have H1 := Lib.hid h1
    have H2 := Lib.hid h2
    have H3 := Lib.hid h3
    have H5 := Lib.hid h5
    have H4 := Lib.hid h4
    have H6 := Lib.hid h6
    have cK := h4.cell
    obtain ⟨L, hL⟩ : ∃ L, Hid (t.kids.length = L) := ⟨_, Lib.hid rfl⟩
    rw [hL.out] at hcs HCs HKz
    obtain ⟨d0, d1, d2, d3, d4, d5, d6, d7, d8⟩ := hcs
    have hno : Hid (keepN kind t = false → ps.map (·.1) = (px.map (fun x => x.1.2.t)).filter (keepN kind)) := Lib.hid (fun h => by
      rw [hmap.out, List.filter_append, ← H3.out]; simp [h])
    have hyes : Hid (keepN kind t = true → (ps.map (·.1)) ++ [t] = (px.map (fun x => x.1.2.t)).filter (keepN kind)) := Lib.hid (fun h => by
      rw [hmap.out, List.filter_append, ← H3.out]; simp [h])
    have hpl : ps.length ≤ 2000000 := by
      have e1 := congrArg List.length H3.out
      have e2 := List.length_filter_le (keepN kind) (pre.map (fun x => x.1.2.t))
      rw [List.length_map] at e1 e2
      omega
    clear hx hkz h1 h2 h3 h4 h5 h6
    have hcase : (kind = 0 ∧ keepN kind t = true) ∨ ((kind == 0) = false ∧ (t.hd.kind == kind) = true ∧ keepN kind t = true) ∨ ((kind == 0) = false ∧ (t.hd.kind == kind) = false ∧ keepN kind t = false) := by
      unfold keepN
      by_cases h0 : kind = 0
      · exact .inl ⟨h0, by simp [h0]⟩
      · have e0 : (kind == 0) = false := by simpa using h0
        cases h1 : t.hd.kind == kind with
        | true => exact .inr (.inl ⟨e0, rfl, by simp⟩)
        | false => exact .inr (.inr ⟨e0, rfl, by simp [e0]⟩)
    obtain ⟨kb, hkb⟩ : ∃ kb, Hid (keepN kind t = kb) := ⟨_, Lib.hid rfl⟩
    gi_wp2
    gi_cut [21] from 32 (fun v wc => v = .bool kb ∧ wc = W.drew)
    case first =>
      rcases hcase with ⟨rfl, hk⟩ | ⟨f0, f1, hk⟩ | ⟨f0, f1, hk⟩
      all_goals
        rw [hkb.out] at hk
        subst hk
        gi_region
        all_goals
          gi_wp2
          gi_meet
          case rel => exact ⟨rfl, rfl⟩
    case rest =>
      obtain ⟨rfl, rfl⟩ := hcut
      clear hcase
      cases kb with
      | false =>
        gi_wp2
        exact ⟨(KeepsOthers.drew _).from _, ⟨Nat.le_refl _, below_drew (Below.refl _ _), rfl, fun _ _ h => h⟩, ⟨⟨v, ps, H1.out, H2.out.keep fun _ _ _ h => h, hno.out hkb.out⟩, H4.out, H5.out, below_drew H6.out, h7⟩⟩
      | true =>
        obtain ⟨ao, vc, rfl⟩ : ∃ ao vc, v = .slice ao ps.length vc := by
          rcases H2.out.1.2 with ⟨e, h0⟩ | ⟨g, c, cur, e, -⟩
          · exact ⟨none, 0, by rw [e, h0]⟩
          · exact ⟨_, c, e⟩
        obtain ⟨M, hM⟩ : ∃ M, Hid (ps.length = M) := ⟨_, Lib.hid rfl⟩
        rw [hM.out] at H1 H2 hpl
        have c22 := H1.out.cell
        have hSf : Hid (∀ U : World, (∀ q, q < w.heap.size + 4 → U.heap[q]? = W.heap[q]?) → U.cell? ⟨w.heap.size + 1 + 1, 0, none⟩ = some (.slice ao M vc) ∧ U.cell? ⟨b, o, none⟩ = some (.int .i64 t.hd.kind) ∧ U.cell? ⟨b, o + 1, none⟩ = some (.string (bs t.hd.text)) ∧ U.cell? ⟨b, o + 2, none⟩ = some (.string (bs t.hd.type)) ∧ U.cell? ⟨b, o + 3, none⟩ = some (.int .i64 t.hd.n) ∧ U.cell? ⟨b, o + 4, none⟩ = some (.int .i64 t.hd.fr) ∧ U.cell? ⟨b, o + 5, none⟩ = some (.int .i64 t.hd.to_) ∧ U.cell? ⟨b, o + 6, none⟩ = some (.int .i64 t.hd.at_) ∧ U.cell? ⟨b, o + 7, none⟩ = some (.int .i64 t.hd.tat) ∧ U.cell? ⟨b, o + 8, none⟩ = some (.slice ak L ck)) := Lib.hid (fun U hU => by
          have e := HCs.out.same (W' := U) fun j _ => cell_same (hU b hbl) _
          exact ⟨(cell_same (hU (w.heap.size + 2) (by omega)) 0).trans H1.out.cell, e.c0, e.c1, e.c2, e.c3, e.c4, e.c5, e.c6, e.c7, e.c8⟩)
        have own0 : Hid (W.ownsRow (w.heap.size + 4) 24 9 (.slice ao M vc) M (fv ps)) := Lib.hid (by
          have := H2.out.1
          rw [hM.out] at this
          exact this)
        have hdS : W.drew.drew.heap.size = W.heap.size := rfl
        have BD : Below W.heap.size W W.drew.drew := below_drew (below_drew (Below.refl _ _))
        have BA : Below W.heap.size W (W.alloc (.cells #[.int .i64 0, .string ⟨#[]⟩, .string ⟨#[]⟩, .int .i64 0, .int .i64 0, .int .i64 0, .int .i64 0, .int .i64 0, .slice none 0 0] 24)).drew.drew := below_drew (below_drew ((Below.refl _ W).alloc (Nat.le_refl _) _))
        have BA' := Lib.hid BA
        have BD' := Lib.hid BD
        have CopyA := Lib.hid (copied_any t (.slice ak L ck) W.drew.drew htc.out (HKz.out.below (H6.out.trans (BD.mono H6.out.size))))
        have CopyB := Lib.hid (copied_any t (.slice ak L ck) (W.alloc (.cells #[.int .i64 0, .string ⟨#[]⟩, .string ⟨#[]⟩, .int .i64 0, .int .i64 0, .int .i64 0, .int .i64 0, .int .i64 0, .slice none 0 0] 24)).drew.drew htc.out (HKz.out.below (H6.out.trans (BA.mono H6.out.size))))
        obtain ⟨i0, hi0, hz0, hz1, hz2⟩ := info_parts infoNode
        gi_wp2
        refine wpIn_region_Z (S := fun U => U.cell? ⟨w.heap.size + 1 + 1, 0, none⟩ = some (.slice ao M vc) ∧ U.cell? ⟨b, o, none⟩ = some (.int .i64 t.hd.kind) ∧ U.cell? ⟨b, o + 1, none⟩ = some (.string (bs t.hd.text)) ∧ U.cell? ⟨b, o + 2, none⟩ = some (.string (bs t.hd.type)) ∧ U.cell? ⟨b, o + 3, none⟩ = some (.int .i64 t.hd.n) ∧ U.cell? ⟨b, o + 4, none⟩ = some (.int .i64 t.hd.fr) ∧ U.cell? ⟨b, o + 5, none⟩ = some (.int .i64 t.hd.to_) ∧ U.cell? ⟨b, o + 6, none⟩ = some (.int .i64 t.hd.at_) ∧ U.cell? ⟨b, o + 7, none⟩ = some (.int .i64 t.hd.tat) ∧ U.cell? ⟨b, o + 8, none⟩ = some (.slice ak L ck)) (zs := [8, 9, 10]) (by kernel_rfl) ?_
        have hS : W.drew.drew.cell? ⟨w.heap.size + 1 + 1, 0, none⟩ = some (.slice ao M vc) ∧ W.drew.drew.cell? ⟨b, o, none⟩ = some (.int .i64 t.hd.kind) ∧ W.drew.drew.cell? ⟨b, o + 1, none⟩ = some (.string (bs t.hd.text)) ∧ W.drew.drew.cell? ⟨b, o + 2, none⟩ = some (.string (bs t.hd.type)) ∧ W.drew.drew.cell? ⟨b, o + 3, none⟩ = some (.int .i64 t.hd.n) ∧ W.drew.drew.cell? ⟨b, o + 4, none⟩ = some (.int .i64 t.hd.fr) ∧ W.drew.drew.cell? ⟨b, o + 5, none⟩ = some (.int .i64 t.hd.to_) ∧ W.drew.drew.cell? ⟨b, o + 6, none⟩ = some (.int .i64 t.hd.at_) ∧ W.drew.drew.cell? ⟨b, o + 7, none⟩ = some (.int .i64 t.hd.tat) ∧ W.drew.drew.cell? ⟨b, o + 8, none⟩ = some (.slice ak L ck) := ⟨c22, d0, d1, d2, d3, d4, d5, d6, d7, d8⟩
        refine wpAnyZIn_take (i := 0) (v := ?_) rfl (by kernel_rfl) (by kernel_rfl) (by kernel_rfl) (by kernel_rfl) (by kernel_rfl) (fun _ _ _ h => h) (Or.inl ⟨by rfl, ?_⟩) (fun _ => rfl) hS ?_
        rotate_left
        · intro w hSw
          obtain ⟨x0, x1, x2, x3, x4, x5, x6, x7, x8, x9⟩ := hSw
          go_simp
          try with_reducible rfl
        try simp only [Act.put, List.setIfInBounds_toArray, List.set_cons_zero, List.set_cons_succ]
        refine wpAnyZIn_take (i := 1) (v := ?_) rfl (by kernel_rfl) (by kernel_rfl) (by kernel_rfl) (by kernel_rfl) (by kernel_rfl) (fun _ _ _ h => h) (Or.inl ⟨by rfl, ?_⟩) (fun _ => rfl) hS ?_
        rotate_left
        · intro w hSw
          obtain ⟨x0, x1, x2, x3, x4, x5, x6, x7, x8, x9⟩ := hSw
          go_simp
          try with_reducible rfl
        try simp only [Act.put, List.setIfInBounds_toArray, List.set_cons_zero, List.set_cons_succ]
        refine wpAnyZIn_take (i := 2) (v := ?_) rfl (by kernel_rfl) (by kernel_rfl) (by kernel_rfl) (by kernel_rfl) (by kernel_rfl) (fun _ _ _ h => h) (Or.inl ⟨by rfl, ?_⟩) (fun _ => rfl) hS ?_
        rotate_left
        · intro w hSw
          obtain ⟨x0, x1, x2, x3, x4, x5, x6, x7, x8, x9⟩ := hSw
          go_simp
          try with_reducible rfl
        try simp only [Act.put, List.setIfInBounds_toArray, List.set_cons_zero, List.set_cons_succ]
        refine wpAnyZIn_take (i := 3) (v := ?_) rfl (by kernel_rfl) (by kernel_rfl) (by kernel_rfl) (by kernel_rfl) (by kernel_rfl) (fun _ _ _ h => h) (Or.inl ⟨by rfl, ?_⟩) (fun _ => rfl) hS ?_
        rotate_left
        · intro w hSw
          obtain ⟨x0, x1, x2, x3, x4, x5, x6, x7, x8, x9⟩ := hSw
          go_simp
          try with_reducible rfl
        try simp only [Act.put, List.setIfInBounds_toArray, List.set_cons_zero, List.set_cons_succ]
        refine wpAnyZIn_take (i := 5) (v := ?_) rfl (by kernel_rfl) (by kernel_rfl) (by kernel_rfl) (by kernel_rfl) (by kernel_rfl) (fun _ _ _ h => h) (Or.inl ⟨by rfl, ?_⟩) (fun _ => rfl) hS ?_
        rotate_left
        · intro w hSw
          obtain ⟨x0, x1, x2, x3, x4, x5, x6, x7, x8, x9⟩ := hSw
          go_simp
          try with_reducible rfl
        try simp only [Act.put, List.setIfInBounds_toArray, List.set_cons_zero, List.set_cons_succ]
        refine wpAnyZIn_either (i := 4) (j := 6) (by kernel_rfl) rfl rfl (fun K hK => ?_) (fun K hK => ?_)
        · go_simp
          refine ⟨trivial, ?_⟩
          refine (show CallsIn (Fence.wide.inRound l) 0 Try.prog 25 _ _ _ from callsIn_wide.2 CopyA.out).mono ?_
          rintro e w3 ⟨kv2, F, rfl, hsep, hnd, hF, hb3⟩
          rw [mapL_id] at hsep
          obtain ⟨a2, c2, rfl, -⟩ := hsep.kids.get
          rw [hL.out] at hsep
          rw [hL.out]
          simp only [id]
          have hB3 : Below W.heap.size W w3 := BD'.out.trans hb3
          refine hK.out _ _ (fun _ => hSf.out _ (fun q hq => hB3.block q (by omega))) ?_
          clear hK K
          refine wpAnyZIn_one (i := 6) (by kernel_rfl) rfl (fun K hK => ?_)
          go_simp
          have hs3 := hB3.size
          refine hK.out _ _ (fun _ => hSf.out _ (fun q hq => (Below.heap_alloc w3 _ q (by omega)).trans (hB3.block q (by omega)))) ?_
          clear hK K
          have hz6 := RowAt.new w3 24 #[.int .i64 0, .string ⟨#[]⟩, .string ⟨#[]⟩, .int .i64 0, .int .i64 0, .int .i64 0, .int .i64 0, .int .i64 0, .slice none 0 0]
          have hB6 : Below W.heap.size W (w3.alloc (.cells #[.int .i64 0, .string ⟨#[]⟩, .string ⟨#[]⟩, .int .i64 0, .int .i64 0, .int .i64 0, .int .i64 0, .int .i64 0, .slice none 0 0] 24)) := hB3.alloc hs3 _
          have hsep6 : SepAt (w3.alloc (.cells #[.int .i64 0, .string ⟨#[]⟩, .string ⟨#[]⟩, .int .i64 0, .int .i64 0, .int .i64 0, .int .i64 0, .int .i64 0, .slice none 0 0] 24)) t.kids (.slice a2 L c2) F := hsep.keep fun b hb => by
            obtain ⟨cs, hc⟩ := hsep.typed b hb
            exact Below.heap_alloc w3 _ b (Array.getElem?_eq_some_iff.1 hc).1
          have hF6 : ∀ b ∈ F, W.heap.size ≤ b := hF
          clear hsep hF hnd hb3 hB3
          obtain ⟨w6, hw6⟩ : ∃ w6, Hid (w3.alloc (.cells #[.int .i64 0, .string ⟨#[]⟩, .string ⟨#[]⟩, .int .i64 0, .int .i64 0, .int .i64 0, .int .i64 0, .int .i64 0, .slice none 0 0] 24) = w6) := ⟨_, Lib.hid rfl⟩
          obtain ⟨zb, hzb⟩ : ∃ zb, Hid (w3.heap.size = zb) := ⟨_, Lib.hid rfl⟩
          rw [hw6.out] at hz6 hB6 hsep6 ⊢
          rw [hzb.out] at hz6 ⊢
          clear hs3
          have Hz6 := Lib.hid hz6
          have HB6 := Lib.hid hB6
          have HSep := Lib.hid hsep6
          have HF := Lib.hid hF6
          have q6 : Hid (∀ q, q < w.heap.size + 4 → w6.heap[q]? = W.heap[q]?) := Lib.hid (fun q hq => HB6.out.block q (by omega))
          have own6 : Hid (w6.ownsRow (w.heap.size + 4) 24 9 (.slice ao M vc) M (fv ps)) := Lib.hid (own_below own0.out HB6.out)
          have hs6 := HB6.out.size
          have hnews : Hid (∀ (j : Nat) (u : Value), ([.int .i64 0, .string ⟨#[]⟩, .string ⟨#[]⟩, .int .i64 0, .int .i64 0, .int .i64 0, .int .i64 0, .int .i64 0, .slice none 0 0] : List Value)[j]? = some u → w6.cell? ((⟨zb, 0, none⟩ : Addr).add j) = some u) := Lib.hid (fun j u hj => by
            rw [add_flat, Nat.zero_add]
            exact Hz6.out.cell (by simpa using hj))
          have hone : Hid (∀ u ∈ ([.int .i64 0, .string ⟨#[]⟩, .string ⟨#[]⟩, .int .i64 0, .int .i64 0, .int .i64 0, .int .i64 0, .int .i64 0, .slice none 0 0] : List Value), u.oneCell' = true) := Lib.hid (fun u hu => by
            exact List.all_eq_true.1 (show ([.int .i64 0, .string ⟨#[]⟩, .string ⟨#[]⟩, .int .i64 0, .int .i64 0, .int .i64 0, .int .i64 0, .int .i64 0, .slice none 0 0] : List Value).all (fun u => u.oneCell') = true from rfl) u hu)
          clear hz6 hB6 hsep6 hF6
          refine wpAnyZIn_one (i := 7) (by kernel_rfl) rfl (fun K hK => ?_)
          refine stepIn_append_lies _ (by rfl) _ _ _ (by rfl) (w.heap.size + 4) 24 i0 _ 9 104 Try.underlying22 hi0 hz0 hz1 hz2 rfl (by decide) _ M _ (by rfl) own6.out ⟨zb, 0, none⟩ 1 1 [.int .i64 0, .string ⟨#[]⟩, .string ⟨#[]⟩, .int .i64 0, .int .i64 0, .int .i64 0, .int .i64 0, .int .i64 0, .slice none 0 0] (by rfl) rfl hnews.out hone.out (by omega) (by unfold maxLen; omega) (by omega) (by omega) w6.heap.size rfl ?_
          intro g7 cap7 w7 hown7 hgrow hor hlt7
          have q7 : Hid (∀ q, q < w.heap.size + 4 → w7.heap[q]? = W.heap[q]?) := Lib.hid (fun q hq => (hgrow.block q (by omega) (fun e => by have := (own6.out.lt q e.symm).1; omega)).trans (q6.out q hq))
          have Hown7 := Lib.hid hown7
          have Hgrow := Lib.hid hgrow
          have Hor := Lib.hid hor
          have hg7 : w.heap.size + 4 ≤ g7 := by
            rcases hor with h | h
            · exact (own6.out.lt _ h).1
            · omega
          clear hown7 hgrow hor
          refine hK.out _ _ (fun _ => hSf.out _ q7.out) ?_
          clear hK K
          have hfl : (fv ps).length = M * 9 := by rw [fv_len, hM.out]
          have rj : Hid (∀ j, j < 9 → w7.cell? ⟨g7, M * 9 + j, none⟩ = ([.int .i64 0, .string ⟨#[]⟩, .string ⟨#[]⟩, .int .i64 0, .int .i64 0, .int .i64 0, .int .i64 0, .int .i64 0, .slice none 0 0] : List Value)[j]?) := Lib.hid (fun j hj => by
            rw [Hown7.out.cellAt (M * 9 + j) (by omega), List.getElem?_append_right (by omega), hfl, Nat.add_sub_cancel_left])
          have zj : Hid (∀ j, w7.frozen? ⟨g7, M * 9 + j, none⟩ = false) := Lib.hid (fun j => Hown7.out.frozenAt _)
          have kB : Hid (Boxed w7 (w.heap.size + 2) 22 (.slice ao M vc)) := Lib.hid ((q7.out _ (by omega)).trans H1.out)
          have fin : Hid (∀ V' : World, V'.ownsRow (w.heap.size + 4) 24 9 (.slice (some ⟨g7, 0, none⟩) (M + 1) cap7) (M + 1) (fv (ps ++ [(t, .slice a2 L c2)])) → Boxed V' (w.heap.size + 2) 22 (.slice (some ⟨g7, 0, none⟩) (M + 1) cap7) → (∀ q, q ≠ g7 → q ≠ w.heap.size + 2 → V'.heap[q]? = w7.heap[q]?) → w7.heap.size ≤ V'.heap.size → Below w.heap.size w7 V' →
              KeepsFrom (w.heap.size + 4) W V' ∧ KpX w.heap.size (w.heap.size + 3) W V' ∧ AllS (fun x : { x : Px // OkX w (w.heap.size + 3) T (.slice a0 n cap0) x } => x.1.2.t) kind w w.heap.size (T.hd.vals (.slice a0 n cap0)) px V') := Lib.hid (fun V' ho hbx hq hsz hB' => by
            have hO := H2.out
            obtain ⟨A1, A2⟩ := all_step (base := w.heap.size + 4) (bx := w.heap.size + 2) hO (by omega) HB6.out HSep.out HF.out Hgrow.out Hor.out (cap := cap7) (by rw [hM.out]; exact ho) hq (by omega)
            rw [hM.out] at A1
            have hgs := Hgrow.out.size
            have low : ∀ q, q < w.heap.size + 4 → q ≠ w.heap.size + 2 → V'.heap[q]? = W.heap[q]? := fun q hq' hne => A2 q (by omega) (fun e => by have := (own0.out.lt q e).1; omega) hne
            have BV : Below w.heap.size W V' := ((HB6.out.mono (by omega)).trans ((Below.refl _ w6).grown Hgrow.out (by omega) (fun k e => by have := (own6.out.lt k e).1; omega))).trans hB'
            have h59 : ∀ (q : Nat) (o : Obj), W.heap[q]? = some o → (∀ cs, o ≠ Obj.cells cs 24 (0, 0)) → (∀ cs, o ≠ Obj.cells cs 22 (0, 0)) → V'.heap[q]? = some o := fun q o hq' h24 h22 => by
              refine (A2 q (Array.getElem?_eq_some_iff.1 hq').1 (fun e => ?_) (fun e => ?_)).trans hq'
              · obtain ⟨cs, hcs⟩ := own_type own0.out e
                rw [hq'] at hcs
                exact h24 cs (Option.some.inj hcs)
              · subst e
                rw [show W.heap[w.heap.size + 2]? = _ from H1.out] at hq'
                exact h22 _ (Option.some.inj hq').symm
            refine ⟨⟨by omega, fun k o' hk1 hk2 hk3 => h59 k o' hk2 (fun cs e => by subst e; cases hk3) (fun cs e => by subst e; cases hk3)⟩, ⟨by omega, BV, low _ (by omega) (by omega), fun q cs hq' => h59 q _ hq' (fun cs' e => by cases e) (fun cs' e => by cases e)⟩, ?_⟩
            exact ⟨⟨_, _, hbx, A1, by rw [List.map_append]; exact hyes.out hkb.out⟩, (low _ (by omega) (by omega)).trans H4.out, (low _ (by omega) (by omega)).trans H5.out, H6.out.trans BV, by omega⟩)
          have r0 : w7.cell? ⟨g7, M * 9, none⟩ = some (.int .i64 0) := rj.out 0 (by omega)
          have r1 : w7.cell? ⟨g7, M * 9 + 1, none⟩ = some (.string ⟨#[]⟩) := rj.out 1 (by omega)
          have r2 : w7.cell? ⟨g7, M * 9 + 2, none⟩ = some (.string ⟨#[]⟩) := rj.out 2 (by omega)
          have r3 : w7.cell? ⟨g7, M * 9 + 3, none⟩ = some (.int .i64 0) := rj.out 3 (by omega)
          have r4 : w7.cell? ⟨g7, M * 9 + 4, none⟩ = some (.int .i64 0) := rj.out 4 (by omega)
          have r5 : w7.cell? ⟨g7, M * 9 + 5, none⟩ = some (.int .i64 0) := rj.out 5 (by omega)
          have r6 : w7.cell? ⟨g7, M * 9 + 6, none⟩ = some (.int .i64 0) := rj.out 6 (by omega)
          have r7 : w7.cell? ⟨g7, M * 9 + 7, none⟩ = some (.int .i64 0) := rj.out 7 (by omega)
          have r8 : w7.cell? ⟨g7, M * 9 + 8, none⟩ = some (.slice none 0 0) := rj.out 8 (by omega)
          have z0 : w7.frozen? ⟨g7, M * 9, none⟩ = false := zj.out 0
          have z1 := zj.out 1
          have z2 := zj.out 2
          have z3 := zj.out 3
          have z4 := zj.out 4
          have z5 := zj.out 5
          have z6 := zj.out 6
          have z7 := zj.out 7
          have z8 := zj.out 8
          have cB := kB.out.cell
          have fB := kB.out.frozen
          have hgne : w.heap.size + 2 ≠ g7 := by omega
          have pm1 : (M : Int) < (M : Int) + 1 := by omega
          have pm2 : (0 : Int) ≤ (M : Int) := by omega
          refine wpAnyZIn_either (i := 8) (j := 10) (by kernel_rfl) rfl rfl (fun K hK => ?_) (fun K hK => ?_)
          · go_simp
            refine hK.out _ _ (fun h => absurd (by decide) h) ?_
            clear hK K
            refine wpAnyZIn_either (i := 9) (j := 10) (by kernel_rfl) rfl rfl (fun K hK => ?_) (fun K hK => ?_)
            · go_simp
              change K _ (nineAt w7 g7 (M * 9) t.hd (.slice a2 L c2))
              obtain ⟨N9, hN9⟩ : ∃ N9, Hid (nineAt w7 g7 (M * 9) t.hd (.slice a2 L c2) = N9) := ⟨_, Lib.hid rfl⟩
              have q9 : Hid (∀ q, q < w.heap.size + 4 → N9.heap[q]? = W.heap[q]?) := by rw [← hN9.out]; exact Lib.hid (fun q hq => (nineAt_other _ _ _ _ _ q (by omega)).trans (q7.out q hq))
              have b9 : Boxed N9 (w.heap.size + 2) 22 (.slice ao M vc) := (q9.out _ (by omega)).trans H1.out
              have cB := b9.cell
              have fB := b9.frozen
              rw [hN9.out]
              refine hK.out _ _ (fun h => absurd (by decide) h) ?_
              clear hK K b9
              refine wpAnyZIn_one (i := 10) (by kernel_rfl) rfl (fun K hK => ?_)
              go_simp
              refine hK.out _ _ (fun h => absurd (by decide) h) ?_
              clear hK K
              refine wpAnyZIn_done (by kernel_rfl) ?_ _
              obtain ⟨e1, e2, e3, e4, e5⟩ := nine_a (n0 := w.heap.size) Hown7.out hM.out t (.slice a2 L c2) kB.out hgne (by omega) (by omega) rfl
              rw [hN9.out] at e1 e2 e3 e4 e5
              have R := Lib.hid (fin.out _ e1 e2 e3 e4 e5)
              clear e1 e2 e3 e4 e5
              gi_wp2
              rw [hs2]
              exact R.out
            · go_simp
              obtain ⟨N9, hN9⟩ : ∃ N9, Hid (w7.setCell ⟨w.heap.size + 2, 0, none⟩ (.slice (some ⟨g7, 0, none⟩) (M + 1) cap7) = N9) := ⟨_, Lib.hid rfl⟩
              have n9 : Hid (∀ q, q ≠ w.heap.size + 2 → N9.heap[q]? = w7.heap[q]?) := by rw [← hN9.out]; exact Lib.hid (fun q hq => Below.heap_setCell _ ⟨w.heap.size + 2, 0, none⟩ _ q (by simpa using hq))
              rw [hN9.out]
              clear r0 r1 r2 r3 r4 r5 r6 r7 r8 z0 z1 z2 z3 z4 z5 z6 z7 z8
              have rj9 : Hid (∀ j, j < 9 → N9.cell? ⟨g7, M * 9 + j, none⟩ = ([.int .i64 0, .string ⟨#[]⟩, .string ⟨#[]⟩, .int .i64 0, .int .i64 0, .int .i64 0, .int .i64 0, .int .i64 0, .slice none 0 0] : List Value)[j]?) := Lib.hid (fun j hj => (cell_same (n9.out g7 (Ne.symm hgne)) _).trans (rj.out j hj))
              have zj9 : Hid (∀ j, N9.frozen? ⟨g7, M * 9 + j, none⟩ = false) := Lib.hid (fun j => (World.frozen?_of_block (w := w7) (a := ⟨g7, M * 9 + j, none⟩) (n9.out g7 (Ne.symm hgne))).trans (zj.out j))
              have r0 : N9.cell? ⟨g7, M * 9, none⟩ = some (.int .i64 0) := rj9.out 0 (by omega)
              have r1 : N9.cell? ⟨g7, M * 9 + 1, none⟩ = some (.string ⟨#[]⟩) := rj9.out 1 (by omega)
              have r2 : N9.cell? ⟨g7, M * 9 + 2, none⟩ = some (.string ⟨#[]⟩) := rj9.out 2 (by omega)
              have r3 : N9.cell? ⟨g7, M * 9 + 3, none⟩ = some (.int .i64 0) := rj9.out 3 (by omega)
              have r4 : N9.cell? ⟨g7, M * 9 + 4, none⟩ = some (.int .i64 0) := rj9.out 4 (by omega)
              have r5 : N9.cell? ⟨g7, M * 9 + 5, none⟩ = some (.int .i64 0) := rj9.out 5 (by omega)
              have r6 : N9.cell? ⟨g7, M * 9 + 6, none⟩ = some (.int .i64 0) := rj9.out 6 (by omega)
              have r7 : N9.cell? ⟨g7, M * 9 + 7, none⟩ = some (.int .i64 0) := rj9.out 7 (by omega)
              have r8 : N9.cell? ⟨g7, M * 9 + 8, none⟩ = some (.slice none 0 0) := rj9.out 8 (by omega)
              have z0 : N9.frozen? ⟨g7, M * 9, none⟩ = false := zj9.out 0
              have z1 := zj9.out 1
              have z2 := zj9.out 2
              have z3 := zj9.out 3
              have z4 := zj9.out 4
              have z5 := zj9.out 5
              have z6 := zj9.out 6
              have z7 := zj9.out 7
              have z8 := zj9.out 8
              refine hK.out _ _ (fun h => absurd (by decide) h) ?_
              clear hK K
              refine wpAnyZIn_one (i := 9) (by kernel_rfl) rfl (fun K hK => ?_)
              go_simp
              change K _ (nineAt N9 g7 (M * 9) t.hd (.slice a2 L c2))
              obtain ⟨e1, e2, e3, e4, e5⟩ := nine_b (n0 := w.heap.size) Hown7.out hM.out t (.slice a2 L c2) kB.out hgne (by omega) (by omega) rfl
              rw [hN9.out] at e1 e2 e3 e4 e5
              have R := Lib.hid (fin.out _ e1 e2 e3 e4 e5)
              clear e1 e2 e3 e4 e5
              refine hK.out _ _ (fun h => absurd (by decide) h) ?_
              clear hK K
              refine wpAnyZIn_done (by kernel_rfl) ?_ _
              gi_wp2
              rw [hs2]
              exact R.out
          · go_simp
            obtain ⟨N9, hN9⟩ : ∃ N9, Hid (w7.setCell ⟨w.heap.size + 2, 0, none⟩ (.slice (some ⟨g7, 0, none⟩) (M + 1) cap7) = N9) := ⟨_, Lib.hid rfl⟩
            have n9 : Hid (∀ q, q ≠ w.heap.size + 2 → N9.heap[q]? = w7.heap[q]?) := by rw [← hN9.out]; exact Lib.hid (fun q hq => Below.heap_setCell _ ⟨w.heap.size + 2, 0, none⟩ _ q (by simpa using hq))
            rw [hN9.out]
            clear r0 r1 r2 r3 r4 r5 r6 r7 r8 z0 z1 z2 z3 z4 z5 z6 z7 z8
            have rj9 : Hid (∀ j, j < 9 → N9.cell? ⟨g7, M * 9 + j, none⟩ = ([.int .i64 0, .string ⟨#[]⟩, .string ⟨#[]⟩, .int .i64 0, .int .i64 0, .int .i64 0, .int .i64 0, .int .i64 0, .slice none 0 0] : List Value)[j]?) := Lib.hid (fun j hj => (cell_same (n9.out g7 (Ne.symm hgne)) _).trans (rj.out j hj))
            have zj9 : Hid (∀ j, N9.frozen? ⟨g7, M * 9 + j, none⟩ = false) := Lib.hid (fun j => (World.frozen?_of_block (w := w7) (a := ⟨g7, M * 9 + j, none⟩) (n9.out g7 (Ne.symm hgne))).trans (zj.out j))
            have r0 : N9.cell? ⟨g7, M * 9, none⟩ = some (.int .i64 0) := rj9.out 0 (by omega)
            have r1 : N9.cell? ⟨g7, M * 9 + 1, none⟩ = some (.string ⟨#[]⟩) := rj9.out 1 (by omega)
            have r2 : N9.cell? ⟨g7, M * 9 + 2, none⟩ = some (.string ⟨#[]⟩) := rj9.out 2 (by omega)
            have r3 : N9.cell? ⟨g7, M * 9 + 3, none⟩ = some (.int .i64 0) := rj9.out 3 (by omega)
            have r4 : N9.cell? ⟨g7, M * 9 + 4, none⟩ = some (.int .i64 0) := rj9.out 4 (by omega)
            have r5 : N9.cell? ⟨g7, M * 9 + 5, none⟩ = some (.int .i64 0) := rj9.out 5 (by omega)
            have r6 : N9.cell? ⟨g7, M * 9 + 6, none⟩ = some (.int .i64 0) := rj9.out 6 (by omega)
            have r7 : N9.cell? ⟨g7, M * 9 + 7, none⟩ = some (.int .i64 0) := rj9.out 7 (by omega)
            have r8 : N9.cell? ⟨g7, M * 9 + 8, none⟩ = some (.slice none 0 0) := rj9.out 8 (by omega)
            have z0 : N9.frozen? ⟨g7, M * 9, none⟩ = false := zj9.out 0
            have z1 := zj9.out 1
            have z2 := zj9.out 2
            have z3 := zj9.out 3
            have z4 := zj9.out 4
            have z5 := zj9.out 5
            have z6 := zj9.out 6
            have z7 := zj9.out 7
            have z8 := zj9.out 8
            refine hK.out _ _ (fun h => absurd (by decide) h) ?_
            clear hK K
            refine wpAnyZIn_one (i := 8) (by kernel_rfl) rfl (fun K hK => ?_)
            go_simp
            refine hK.out _ _ (fun h => absurd (by decide) h) ?_
            clear hK K
            refine wpAnyZIn_one (i := 9) (by kernel_rfl) rfl (fun K hK => ?_)
            go_simp
            change K _ (nineAt N9 g7 (M * 9) t.hd (.slice a2 L c2))
            obtain ⟨e1, e2, e3, e4, e5⟩ := nine_b (n0 := w.heap.size) Hown7.out hM.out t (.slice a2 L c2) kB.out hgne (by omega) (by omega) rfl
            rw [hN9.out] at e1 e2 e3 e4 e5
            have R := Lib.hid (fin.out _ e1 e2 e3 e4 e5)
            clear e1 e2 e3 e4 e5
            refine hK.out _ _ (fun h => absurd (by decide) h) ?_
            clear hK K
            refine wpAnyZIn_done (by kernel_rfl) ?_ _
            gi_wp2
            rw [hs2]
            exact R.out
        · go_simp
          refine hK.out _ _ (fun _ => hSf.out _ (fun q hq => Below.heap_alloc W _ q (by omega))) ?_
          clear hK K
          refine wpAnyZIn_one (i := 4) (by kernel_rfl) rfl (fun K hK => ?_)
          go_simp
          refine ⟨trivial, ?_⟩
          refine (show CallsIn (Fence.wide.inRound l) 0 Try.prog 25 _ _ _ from callsIn_wide.2 CopyB.out).mono ?_
          rintro e w3 ⟨kv2, F, rfl, hsep, hnd, hF, hb3⟩
          rw [mapL_id] at hsep
          obtain ⟨a2, c2, rfl, -⟩ := hsep.kids.get
          rw [hL.out] at hsep
          rw [hL.out]
          simp only [id]
          have hsA : (W.alloc (.cells #[.int .i64 0, .string ⟨#[]⟩, .string ⟨#[]⟩, .int .i64 0, .int .i64 0, .int .i64 0, .int .i64 0, .int .i64 0, .slice none 0 0] 24)).drew.drew.heap.size = W.heap.size + 1 := World.size_alloc W _
          have hB3 : Below W.heap.size W w3 := BA'.out.trans (hb3.mono (by omega))
          refine hK.out _ _ (fun _ => hSf.out _ (fun q hq => hB3.block q (by omega))) ?_
          clear hK K
          have hz6 : RowAt w3 W.heap.size 24 #[.int .i64 0, .string ⟨#[]⟩, .string ⟨#[]⟩, .int .i64 0, .int .i64 0, .int .i64 0, .int .i64 0, .int .i64 0, .slice none 0 0] := (hb3.block W.heap.size (by omega)).trans (RowAt.new W 24 #[.int .i64 0, .string ⟨#[]⟩, .string ⟨#[]⟩, .int .i64 0, .int .i64 0, .int .i64 0, .int .i64 0, .int .i64 0, .slice none 0 0])
          have hsep6 := hsep
          have hF6 : ∀ b ∈ F, W.heap.size ≤ b := fun b hb => by have := hF b hb; omega
          obtain ⟨w6, hw6⟩ : ∃ w6, w6 = w3 := ⟨_, rfl⟩
          subst hw6
          have hB6 : Below W.heap.size W w6 := hB3
          clear hsep hF hnd hb3 hB3 hsA
          obtain ⟨zb, hzb⟩ : ∃ zb, Hid (W.heap.size = zb) := ⟨_, Lib.hid rfl⟩
          rw [hzb.out] at hz6 ⊢
          have Hz6 := Lib.hid hz6
          have HB6 := Lib.hid hB6
          have HSep := Lib.hid hsep6
          have HF := Lib.hid hF6
          have q6 : Hid (∀ q, q < w.heap.size + 4 → w6.heap[q]? = W.heap[q]?) := Lib.hid (fun q hq => HB6.out.block q (by omega))
          have own6 : Hid (w6.ownsRow (w.heap.size + 4) 24 9 (.slice ao M vc) M (fv ps)) := Lib.hid (own_below own0.out HB6.out)
          have hs6 := HB6.out.size
          have hnews : Hid (∀ (j : Nat) (u : Value), ([.int .i64 0, .string ⟨#[]⟩, .string ⟨#[]⟩, .int .i64 0, .int .i64 0, .int .i64 0, .int .i64 0, .int .i64 0, .slice none 0 0] : List Value)[j]? = some u → w6.cell? ((⟨zb, 0, none⟩ : Addr).add j) = some u) := Lib.hid (fun j u hj => by
            rw [add_flat, Nat.zero_add]
            exact Hz6.out.cell (by simpa using hj))
          have hone : Hid (∀ u ∈ ([.int .i64 0, .string ⟨#[]⟩, .string ⟨#[]⟩, .int .i64 0, .int .i64 0, .int .i64 0, .int .i64 0, .int .i64 0, .slice none 0 0] : List Value), u.oneCell' = true) := Lib.hid (fun u hu => by
            exact List.all_eq_true.1 (show ([.int .i64 0, .string ⟨#[]⟩, .string ⟨#[]⟩, .int .i64 0, .int .i64 0, .int .i64 0, .int .i64 0, .int .i64 0, .slice none 0 0] : List Value).all (fun u => u.oneCell') = true from rfl) u hu)
          clear hz6 hB6 hsep6 hF6
          refine wpAnyZIn_one (i := 7) (by kernel_rfl) rfl (fun K hK => ?_)
          refine stepIn_append_lies _ (by rfl) _ _ _ (by rfl) (w.heap.size + 4) 24 i0 _ 9 104 Try.underlying22 hi0 hz0 hz1 hz2 rfl (by decide) _ M _ (by rfl) own6.out ⟨zb, 0, none⟩ 1 1 [.int .i64 0, .string ⟨#[]⟩, .string ⟨#[]⟩, .int .i64 0, .int .i64 0, .int .i64 0, .int .i64 0, .int .i64 0, .slice none 0 0] (by rfl) rfl hnews.out hone.out (by omega) (by unfold maxLen; omega) (by omega) (by omega) w6.heap.size rfl ?_
          intro g7 cap7 w7 hown7 hgrow hor hlt7
          have q7 : Hid (∀ q, q < w.heap.size + 4 → w7.heap[q]? = W.heap[q]?) := Lib.hid (fun q hq => (hgrow.block q (by omega) (fun e => by have := (own6.out.lt q e.symm).1; omega)).trans (q6.out q hq))
          have Hown7 := Lib.hid hown7
          have Hgrow := Lib.hid hgrow
          have Hor := Lib.hid hor
          have hg7 : w.heap.size + 4 ≤ g7 := by
            rcases hor with h | h
            · exact (own6.out.lt _ h).1
            · omega
          clear hown7 hgrow hor
          refine hK.out _ _ (fun _ => hSf.out _ q7.out) ?_
          clear hK K
          have hfl : (fv ps).length = M * 9 := by rw [fv_len, hM.out]
          have rj : Hid (∀ j, j < 9 → w7.cell? ⟨g7, M * 9 + j, none⟩ = ([.int .i64 0, .string ⟨#[]⟩, .string ⟨#[]⟩, .int .i64 0, .int .i64 0, .int .i64 0, .int .i64 0, .int .i64 0, .slice none 0 0] : List Value)[j]?) := Lib.hid (fun j hj => by
            rw [Hown7.out.cellAt (M * 9 + j) (by omega), List.getElem?_append_right (by omega), hfl, Nat.add_sub_cancel_left])
          have zj : Hid (∀ j, w7.frozen? ⟨g7, M * 9 + j, none⟩ = false) := Lib.hid (fun j => Hown7.out.frozenAt _)
          have kB : Hid (Boxed w7 (w.heap.size + 2) 22 (.slice ao M vc)) := Lib.hid ((q7.out _ (by omega)).trans H1.out)
          have fin : Hid (∀ V' : World, V'.ownsRow (w.heap.size + 4) 24 9 (.slice (some ⟨g7, 0, none⟩) (M + 1) cap7) (M + 1) (fv (ps ++ [(t, .slice a2 L c2)])) → Boxed V' (w.heap.size + 2) 22 (.slice (some ⟨g7, 0, none⟩) (M + 1) cap7) → (∀ q, q ≠ g7 → q ≠ w.heap.size + 2 → V'.heap[q]? = w7.heap[q]?) → w7.heap.size ≤ V'.heap.size → Below w.heap.size w7 V' →
              KeepsFrom (w.heap.size + 4) W V' ∧ KpX w.heap.size (w.heap.size + 3) W V' ∧ AllS (fun x : { x : Px // OkX w (w.heap.size + 3) T (.slice a0 n cap0) x } => x.1.2.t) kind w w.heap.size (T.hd.vals (.slice a0 n cap0)) px V') := Lib.hid (fun V' ho hbx hq hsz hB' => by
            have hO := H2.out
            obtain ⟨A1, A2⟩ := all_step (base := w.heap.size + 4) (bx := w.heap.size + 2) hO (by omega) HB6.out HSep.out HF.out Hgrow.out Hor.out (cap := cap7) (by rw [hM.out]; exact ho) hq (by omega)
            rw [hM.out] at A1
            have hgs := Hgrow.out.size
            have low : ∀ q, q < w.heap.size + 4 → q ≠ w.heap.size + 2 → V'.heap[q]? = W.heap[q]? := fun q hq' hne => A2 q (by omega) (fun e => by have := (own0.out.lt q e).1; omega) hne
            have BV : Below w.heap.size W V' := ((HB6.out.mono (by omega)).trans ((Below.refl _ w6).grown Hgrow.out (by omega) (fun k e => by have := (own6.out.lt k e).1; omega))).trans hB'
            have h59 : ∀ (q : Nat) (o : Obj), W.heap[q]? = some o → (∀ cs, o ≠ Obj.cells cs 24 (0, 0)) → (∀ cs, o ≠ Obj.cells cs 22 (0, 0)) → V'.heap[q]? = some o := fun q o hq' h24 h22 => by
              refine (A2 q (Array.getElem?_eq_some_iff.1 hq').1 (fun e => ?_) (fun e => ?_)).trans hq'
              · obtain ⟨cs, hcs⟩ := own_type own0.out e
                rw [hq'] at hcs
                exact h24 cs (Option.some.inj hcs)
              · subst e
                rw [show W.heap[w.heap.size + 2]? = _ from H1.out] at hq'
                exact h22 _ (Option.some.inj hq').symm
            refine ⟨⟨by omega, fun k o' hk1 hk2 hk3 => h59 k o' hk2 (fun cs e => by subst e; cases hk3) (fun cs e => by subst e; cases hk3)⟩, ⟨by omega, BV, low _ (by omega) (by omega), fun q cs hq' => h59 q _ hq' (fun cs' e => by cases e) (fun cs' e => by cases e)⟩, ?_⟩
            exact ⟨⟨_, _, hbx, A1, by rw [List.map_append]; exact hyes.out hkb.out⟩, (low _ (by omega) (by omega)).trans H4.out, (low _ (by omega) (by omega)).trans H5.out, H6.out.trans BV, by omega⟩)
          have r0 : w7.cell? ⟨g7, M * 9, none⟩ = some (.int .i64 0) := rj.out 0 (by omega)
          have r1 : w7.cell? ⟨g7, M * 9 + 1, none⟩ = some (.string ⟨#[]⟩) := rj.out 1 (by omega)
          have r2 : w7.cell? ⟨g7, M * 9 + 2, none⟩ = some (.string ⟨#[]⟩) := rj.out 2 (by omega)
          have r3 : w7.cell? ⟨g7, M * 9 + 3, none⟩ = some (.int .i64 0) := rj.out 3 (by omega)
          have r4 : w7.cell? ⟨g7, M * 9 + 4, none⟩ = some (.int .i64 0) := rj.out 4 (by omega)
          have r5 : w7.cell? ⟨g7, M * 9 + 5, none⟩ = some (.int .i64 0) := rj.out 5 (by omega)
          have r6 : w7.cell? ⟨g7, M * 9 + 6, none⟩ = some (.int .i64 0) := rj.out 6 (by omega)
          have r7 : w7.cell? ⟨g7, M * 9 + 7, none⟩ = some (.int .i64 0) := rj.out 7 (by omega)
          have r8 : w7.cell? ⟨g7, M * 9 + 8, none⟩ = some (.slice none 0 0) := rj.out 8 (by omega)
          have z0 : w7.frozen? ⟨g7, M * 9, none⟩ = false := zj.out 0
          have z1 := zj.out 1
          have z2 := zj.out 2
          have z3 := zj.out 3
          have z4 := zj.out 4
          have z5 := zj.out 5
          have z6 := zj.out 6
          have z7 := zj.out 7
          have z8 := zj.out 8
          have cB := kB.out.cell
          have fB := kB.out.frozen
          have hgne : w.heap.size + 2 ≠ g7 := by omega
          have pm1 : (M : Int) < (M : Int) + 1 := by omega
          have pm2 : (0 : Int) ≤ (M : Int) := by omega
          refine wpAnyZIn_either (i := 8) (j := 10) (by kernel_rfl) rfl rfl (fun K hK => ?_) (fun K hK => ?_)
          · go_simp
            refine hK.out _ _ (fun h => absurd (by decide) h) ?_
            clear hK K
            refine wpAnyZIn_either (i := 9) (j := 10) (by kernel_rfl) rfl rfl (fun K hK => ?_) (fun K hK => ?_)
            · go_simp
              change K _ (nineAt w7 g7 (M * 9) t.hd (.slice a2 L c2))
              obtain ⟨N9, hN9⟩ : ∃ N9, Hid (nineAt w7 g7 (M * 9) t.hd (.slice a2 L c2) = N9) := ⟨_, Lib.hid rfl⟩
              have q9 : Hid (∀ q, q < w.heap.size + 4 → N9.heap[q]? = W.heap[q]?) := by rw [← hN9.out]; exact Lib.hid (fun q hq => (nineAt_other _ _ _ _ _ q (by omega)).trans (q7.out q hq))
              have b9 : Boxed N9 (w.heap.size + 2) 22 (.slice ao M vc) := (q9.out _ (by omega)).trans H1.out
              have cB := b9.cell
              have fB := b9.frozen
              rw [hN9.out]
              refine hK.out _ _ (fun h => absurd (by decide) h) ?_
              clear hK K b9
              refine wpAnyZIn_one (i := 10) (by kernel_rfl) rfl (fun K hK => ?_)
              go_simp
              refine hK.out _ _ (fun h => absurd (by decide) h) ?_
              clear hK K
              refine wpAnyZIn_done (by kernel_rfl) ?_ _
              obtain ⟨e1, e2, e3, e4, e5⟩ := nine_a (n0 := w.heap.size) Hown7.out hM.out t (.slice a2 L c2) kB.out hgne (by omega) (by omega) rfl
              rw [hN9.out] at e1 e2 e3 e4 e5
              have R := Lib.hid (fin.out _ e1 e2 e3 e4 e5)
              clear e1 e2 e3 e4 e5
              gi_wp2
              rw [hs2]
              exact R.out
            · go_simp
              obtain ⟨N9, hN9⟩ : ∃ N9, Hid (w7.setCell ⟨w.heap.size + 2, 0, none⟩ (.slice (some ⟨g7, 0, none⟩) (M + 1) cap7) = N9) := ⟨_, Lib.hid rfl⟩
              have n9 : Hid (∀ q, q ≠ w.heap.size + 2 → N9.heap[q]? = w7.heap[q]?) := by rw [← hN9.out]; exact Lib.hid (fun q hq => Below.heap_setCell _ ⟨w.heap.size + 2, 0, none⟩ _ q (by simpa using hq))
              rw [hN9.out]
              clear r0 r1 r2 r3 r4 r5 r6 r7 r8 z0 z1 z2 z3 z4 z5 z6 z7 z8
              have rj9 : Hid (∀ j, j < 9 → N9.cell? ⟨g7, M * 9 + j, none⟩ = ([.int .i64 0, .string ⟨#[]⟩, .string ⟨#[]⟩, .int .i64 0, .int .i64 0, .int .i64 0, .int .i64 0, .int .i64 0, .slice none 0 0] : List Value)[j]?) := Lib.hid (fun j hj => (cell_same (n9.out g7 (Ne.symm hgne)) _).trans (rj.out j hj))
              have zj9 : Hid (∀ j, N9.frozen? ⟨g7, M * 9 + j, none⟩ = false) := Lib.hid (fun j => (World.frozen?_of_block (w := w7) (a := ⟨g7, M * 9 + j, none⟩) (n9.out g7 (Ne.symm hgne))).trans (zj.out j))
              have r0 : N9.cell? ⟨g7, M * 9, none⟩ = some (.int .i64 0) := rj9.out 0 (by omega)
              have r1 : N9.cell? ⟨g7, M * 9 + 1, none⟩ = some (.string ⟨#[]⟩) := rj9.out 1 (by omega)
              have r2 : N9.cell? ⟨g7, M * 9 + 2, none⟩ = some (.string ⟨#[]⟩) := rj9.out 2 (by omega)
              have r3 : N9.cell? ⟨g7, M * 9 + 3, none⟩ = some (.int .i64 0) := rj9.out 3 (by omega)
              have r4 : N9.cell? ⟨g7, M * 9 + 4, none⟩ = some (.int .i64 0) := rj9.out 4 (by omega)
              have r5 : N9.cell? ⟨g7, M * 9 + 5, none⟩ = some (.int .i64 0) := rj9.out 5 (by omega)
              have r6 : N9.cell? ⟨g7, M * 9 + 6, none⟩ = some (.int .i64 0) := rj9.out 6 (by omega)
              have r7 : N9.cell? ⟨g7, M * 9 + 7, none⟩ = some (.int .i64 0) := rj9.out 7 (by omega)
              have r8 : N9.cell? ⟨g7, M * 9 + 8, none⟩ = some (.slice none 0 0) := rj9.out 8 (by omega)
              have z0 : N9.frozen? ⟨g7, M * 9, none⟩ = false := zj9.out 0
              have z1 := zj9.out 1
              have z2 := zj9.out 2
              have z3 := zj9.out 3
              have z4 := zj9.out 4
              have z5 := zj9.out 5
              have z6 := zj9.out 6
              have z7 := zj9.out 7
              have z8 := zj9.out 8
              refine hK.out _ _ (fun h => absurd (by decide) h) ?_
              clear hK K
              refine wpAnyZIn_one (i := 9) (by kernel_rfl) rfl (fun K hK => ?_)
              go_simp
              change K _ (nineAt N9 g7 (M * 9) t.hd (.slice a2 L c2))
              obtain ⟨e1, e2, e3, e4, e5⟩ := nine_b (n0 := w.heap.size) Hown7.out hM.out t (.slice a2 L c2) kB.out hgne (by omega) (by omega) rfl
              rw [hN9.out] at e1 e2 e3 e4 e5
              have R := Lib.hid (fin.out _ e1 e2 e3 e4 e5)
              clear e1 e2 e3 e4 e5
              refine hK.out _ _ (fun h => absurd (by decide) h) ?_
              clear hK K
              refine wpAnyZIn_done (by kernel_rfl) ?_ _
              gi_wp2
              rw [hs2]
              exact R.out
          · go_simp
            obtain ⟨N9, hN9⟩ : ∃ N9, Hid (w7.setCell ⟨w.heap.size + 2, 0, none⟩ (.slice (some ⟨g7, 0, none⟩) (M + 1) cap7) = N9) := ⟨_, Lib.hid rfl⟩
            have n9 : Hid (∀ q, q ≠ w.heap.size + 2 → N9.heap[q]? = w7.heap[q]?) := by rw [← hN9.out]; exact Lib.hid (fun q hq => Below.heap_setCell _ ⟨w.heap.size + 2, 0, none⟩ _ q (by simpa using hq))
            rw [hN9.out]
            clear r0 r1 r2 r3 r4 r5 r6 r7 r8 z0 z1 z2 z3 z4 z5 z6 z7 z8
            have rj9 : Hid (∀ j, j < 9 → N9.cell? ⟨g7, M * 9 + j, none⟩ = ([.int .i64 0, .string ⟨#[]⟩, .string ⟨#[]⟩, .int .i64 0, .int .i64 0, .int .i64 0, .int .i64 0, .int .i64 0, .slice none 0 0] : List Value)[j]?) := Lib.hid (fun j hj => (cell_same (n9.out g7 (Ne.symm hgne)) _).trans (rj.out j hj))
            have zj9 : Hid (∀ j, N9.frozen? ⟨g7, M * 9 + j, none⟩ = false) := Lib.hid (fun j => (World.frozen?_of_block (w := w7) (a := ⟨g7, M * 9 + j, none⟩) (n9.out g7 (Ne.symm hgne))).trans (zj.out j))
            have r0 : N9.cell? ⟨g7, M * 9, none⟩ = some (.int .i64 0) := rj9.out 0 (by omega)
            have r1 : N9.cell? ⟨g7, M * 9 + 1, none⟩ = some (.string ⟨#[]⟩) := rj9.out 1 (by omega)
            have r2 : N9.cell? ⟨g7, M * 9 + 2, none⟩ = some (.string ⟨#[]⟩) := rj9.out 2 (by omega)
            have r3 : N9.cell? ⟨g7, M * 9 + 3, none⟩ = some (.int .i64 0) := rj9.out 3 (by omega)
            have r4 : N9.cell? ⟨g7, M * 9 + 4, none⟩ = some (.int .i64 0) := rj9.out 4 (by omega)
            have r5 : N9.cell? ⟨g7, M * 9 + 5, none⟩ = some (.int .i64 0) := rj9.out 5 (by omega)
            have r6 : N9.cell? ⟨g7, M * 9 + 6, none⟩ = some (.int .i64 0) := rj9.out 6 (by omega)
            have r7 : N9.cell? ⟨g7, M * 9 + 7, none⟩ = some (.int .i64 0) := rj9.out 7 (by omega)
            have r8 : N9.cell? ⟨g7, M * 9 + 8, none⟩ = some (.slice none 0 0) := rj9.out 8 (by omega)
            have z0 : N9.frozen? ⟨g7, M * 9, none⟩ = false := zj9.out 0
            have z1 := zj9.out 1
            have z2 := zj9.out 2
            have z3 := zj9.out 3
            have z4 := zj9.out 4
            have z5 := zj9.out 5
            have z6 := zj9.out 6
            have z7 := zj9.out 7
            have z8 := zj9.out 8
            refine hK.out _ _ (fun h => absurd (by decide) h) ?_
            clear hK K
            refine wpAnyZIn_one (i := 8) (by kernel_rfl) rfl (fun K hK => ?_)
            go_simp
            refine hK.out _ _ (fun h => absurd (by decide) h) ?_
            clear hK K
            refine wpAnyZIn_one (i := 9) (by kernel_rfl) rfl (fun K hK => ?_)
            go_simp
            change K _ (nineAt N9 g7 (M * 9) t.hd (.slice a2 L c2))
            obtain ⟨e1, e2, e3, e4, e5⟩ := nine_b (n0 := w.heap.size) Hown7.out hM.out t (.slice a2 L c2) kB.out hgne (by omega) (by omega) rfl
            rw [hN9.out] at e1 e2 e3 e4 e5
            have R := Lib.hid (fin.out _ e1 e2 e3 e4 e5)
            clear e1 e2 e3 e4 e5
            refine hK.out _ _ (fun h => absurd (by decide) h) ?_
            clear hK K
            refine wpAnyZIn_done (by kernel_rfl) ?_ _
            gi_wp2
            rw [hs2]
            exact R.out
end Go.Proofs.Ytpnfjiglphogoac
