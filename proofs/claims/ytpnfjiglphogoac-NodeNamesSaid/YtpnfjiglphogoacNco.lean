/-
  For the laws of node: Count and Depth. Condition: at most 2,000,000 nodes.
-/
import Derived.Test.YtpnfjiglphogoacEac
namespace Go.Proofs.Ytpnfjiglphogoac
open Go.RowKit Go.Shelf
set_option linter.unusedSimpArgs false
set_option linter.unusedVariables false

attribute [local go_sem] Oper.semAt_some

theorem abT_boxed {β : Type} (B b : Nat) (t : TypeId) (ht : t ≠ 58) (f : β → Value) : AbT B (fun s W => Boxed W b t (f s)) := fun s A A' row h hg hr => h.kept hg (fun e => by
  obtain ⟨-, o, ho, hm⟩ := hr b e.symm
  rw [show A.heap[b]? = _ from h] at ho
  cases ho
  rcases hm with h1 | ⟨cs, h1⟩
  · cases h1
  · cases h1; exact ht rfl)
theorem abT_below {β : Type} {n0 B : Nat} {w : World} (hn : n0 ≤ w.heap.size) (hB : n0 ≤ B) : AbT B (fun (_ : β) W => Below n0 w W) := fun s A A' row h hg hr => h.grown hg (Nat.le_trans hn h.size) (fun k e => Nat.le_trans hB (hr k e).1)
theorem abT_row {β : Type} {B b : Nat} {t : TypeId} (ht : t ≠ 58) {vs : Array Value} : AbT B (fun (_ : β) W => RowAt W b t vs) := fun s A A' row h hg hr => (hg.block b h.lt (fun e => by
  obtain ⟨-, o, ho, hm⟩ := hr b e.symm
  rw [show A.heap[b]? = _ from h] at ho
  cases ho
  rcases hm with h1 | ⟨cs, h1⟩
  · cases h1
  · cases h1; exact ht rfl)).trans h
theorem kpX_set {n0 Bn B : Nat} {W : World} {v v' : Value} {t : TypeId} (h : Boxed W B t v) (ht : t ≠ 58) (hn : n0 ≤ B) (hne : Bn ≠ B) : KpX n0 Bn W (W.setCell ⟨B, 0, none⟩ v') := by
  refine ⟨by simp [World.setCell], (Below.refl n0 W).setCell (p := ⟨B, 0, none⟩) hn v', Below.heap_setCell W ⟨B, 0, none⟩ v' Bn (by simpa using hne), fun b cs hb => (Below.heap_setCell W ⟨B, 0, none⟩ v' b (by
    show b ≠ B
    rintro rfl
    rw [show W.heap[b]? = _ from h] at hb
    cases hb; exact ht rfl)).trans hb⟩
set_option maxRecDepth 100000 in
set_option maxHeartbeats 8000000 in
theorem Count_any (T : Nd) (kv : Value) (w : World) (hm : T.cnt ≤ 2000000) (hk : KidsAt w T.kids kv) : Calls Try.prog 11 #[.agg #[.int .i64 T.hd.kind, .string (bs T.hd.text), .string (bs T.hd.type), .int .i64 T.hd.n, .int .i64 T.hd.fr, .int .i64 T.hd.to_, .int .i64 T.hd.at_, .int .i64 T.hd.tat, kv]] w fun e w' => e = .returned (.int .i64 (T.cnt : Nat)) ∧ Below w.heap.size w w' := by
  refine (callsIn_wide (n := 3)).1 ?_
  have hro : Fence.wide.round = none := rfl
  obtain ⟨a0, cap0, rfl, -⟩ := hk.get
  have HK := Lib.hid hk
  clear hk
  obtain ⟨n, hn⟩ : ∃ n, Hid (T.kids.length = n) := ⟨_, Lib.hid rfl⟩
  rw [hn.out] at HK
  rw [hn.out]
  obtain ⟨W1, hW1⟩ : ∃ W1, Hid ((w.alloc (.cells #[.int .i64 T.hd.kind, .string (bs T.hd.text), .string (bs T.hd.type), .int .i64 T.hd.n, .int .i64 T.hd.fr, .int .i64 T.hd.to_, .int .i64 T.hd.at_, .int .i64 T.hd.tat, .slice a0 n cap0] 24)).alloc (.cells #[.int .i64 0] 3) = W1) := ⟨_, Lib.hid rfl⟩
  have B1 : Hid (Below w.heap.size w W1) := by rw [← hW1.out]; exact Lib.hid (((Below.refl _ w).alloc (Nat.le_refl _) _).alloc (by simp) _)
  have hs1 : W1.heap.size = w.heap.size + 2 := by rw [← hW1.out]; simp
  have R0 : Hid (RowAt W1 w.heap.size 24 (T.hd.vals (.slice a0 n cap0))) := by
    rw [← hW1.out]; exact Lib.hid ((RowAt.new w 24 (T.hd.vals (.slice a0 n cap0))).alloc _)
  have X1 : Hid (Boxed W1 (w.heap.size + 1) 3 (.int .i64 0)) := by
    rw [← hW1.out]
    have := Boxed.new (w.alloc (.cells #[.int .i64 T.hd.kind, .string (bs T.hd.text), .string (bs T.hd.type), .int .i64 T.hd.n, .int .i64 T.hd.fr, .int .i64 T.hd.to_, .int .i64 T.hd.at_, .int .i64 T.hd.tat, .slice a0 n cap0] 24)) 3 (.int .i64 0)
    rw [World.size_alloc] at this
    exact Lib.hid this
  obtain ⟨d0, d1, d2, d3, d4, d5, d6, d7, d8⟩ := Cells.row R0.out
  simp only [Nat.zero_add] at d1 d2 d3 d4 d5 d6 d7 d8
  have call := Lib.hid (each_any T (.slice a0 n cap0) W1 (HK.out.below B1.out))
  obtain ⟨W2, hW2⟩ : ∃ W2, Hid (W1.alloc (.cells (T.hd.vals (.slice a0 n cap0)) 24) = W2) := ⟨_, Lib.hid rfl⟩
  have B2 : Hid (Below w.heap.size w W2) := by rw [← hW2.out]; exact Lib.hid (B1.out.alloc (by omega) _)
  have hs2 : W2.heap.size = w.heap.size + 3 := by rw [← hW2.out]; simp; omega
  have R2 : Hid (RowAt W2 (w.heap.size + 2) 24 (T.hd.vals (.slice a0 n cap0))) := by
    rw [← hW2.out]
    have := RowAt.new W1 24 (T.hd.vals (.slice a0 n cap0))
    rw [hs1] at this
    exact Lib.hid this
  have X2 : Hid (Boxed W2 (w.heap.size + 1) 3 (.int .i64 0)) := by rw [← hW2.out]; exact Lib.hid (X1.out.alloc _)
  refine callsIn_of_wp_marks Try.func11 rfl trivial ?_ hro
  simp only [Try.ntmps11, List.size_toArray, List.length_cons, List.length_nil, Nat.reduceAdd, Nat.reduceSub, Array.replicate_succ, Array.replicate_zero, List.push_toArray, List.append_toArray, List.nil_append, List.cons_append]
  gi_wp2
  rw [hW1.out]
  gi_wp2
  refine ⟨trivial, ?_⟩
  refine (callsIn_wide.2 call.out).mono ?_
  rintro e w2 ⟨rfl, rfl⟩
  rw [hs1, hW2.out]
  clear d0 d1 d2 d3 d4 d5 d6 d7 d8 call
  gi_wp2
  refine rngT hro (by omega) (gf := 35) (lb := #[.pointer (some ⟨w.heap.size + 2, 0, none⟩)]) rfl trivial (enters_of Try.func35 (by kernel_rfl) rfl)
    (each1_in Fence.wide (3 - 1) trivial hro (by omega) w W2 (w.heap.size + 2) T (.slice a0 n cap0) HK.out hm B2.out R2.out)
    KpX.trans (kpX_put (by omega) (by omega)) (Below.refl _ _) (fun _ => rfl)
    (fun pre W => Boxed W (w.heap.size + 1) 3 (.int .i64 (pre.length : Nat)) ∧ Below w.heap.size w W)
    (AbT.and (abT_boxed _ _ 3 (by decide) _) (abT_below (Nat.le_refl _) (by omega)))
    ⟨X2.out, B2.out⟩
    (fun x => { tmps := #[.agg #[.int .i64 T.hd.kind, .string (bs T.hd.text), .string (bs T.hd.type), .int .i64 T.hd.n, .int .i64 T.hd.fr, .int .i64 T.hd.to_, .int .i64 T.hd.at_, .int .i64 T.hd.tat, .slice a0 n cap0], .pointer (some ⟨w.heap.size, 0, none⟩), .int .i64 0, .pointer (some ⟨w.heap.size + 1, 0, none⟩), .agg #[.int .i64 T.hd.kind, .string (bs T.hd.text), .string (bs T.hd.type), .int .i64 T.hd.n, .int .i64 T.hd.fr, .int .i64 T.hd.to_, .int .i64 T.hd.at_, .int .i64 T.hd.tat, .slice a0 n cap0], .func (.func 35) #[] #[.pointer (some ⟨w.heap.size + 2, 0, none⟩)], .int .i64 (x.1.1 : Nat), .pointer (some ⟨x.1.2.b, x.1.2.off, none⟩), undef, undef, undef], defers := [] }) ?assign ?body ?done
  case assign =>
    intro l x W K hK
    gi_wp2
    simpa [encX] using hK
  case body =>
    rintro l pre x W ⟨hv, hB⟩ hlt
    have hc := hv.cell
    have hf := hv.frozen
    have hpl : pre.length < 2000000 := by omega
    have HV := Lib.hid hv
    have HB := Lib.hid hB
    clear hv hB
    gi_wp2
    refine ⟨(KeepsOthers.setCell _ _ _).from _, kpX_set HV.out (by decide) (by omega) (by omega), ?_, HB.out.setCell (p := ⟨w.heap.size + 1, 0, none⟩) (by show w.heap.size ≤ w.heap.size + 1; omega) _⟩
    have := HV.out.set (.int .i64 ((pre.length : Nat) + 1))
    simpa using this
  case done =>
    rintro D ys W hD hys ⟨hv, hB⟩ hK
    have hc := hv.cell
    have hl : Hid (ys.length = T.cnt) := Lib.hid (by
      have := congrArg List.length hys
      rw [List.length_map, pre_len] at this
      exact this)
    rw [hl.out] at hc
    have HB := Lib.hid hB
    clear hys hB hv
    gi_wp2
    refine ⟨by simp, .inl ⟨_, _, rfl, run_takeDeferred hK, ?_⟩⟩
    exact ⟨_, results_tmp rfl _ _ _, rfl, HB.out.trans (belowK_b (w := w) (Nat.le_refl _) W D _ _ (by omega) hK rfl rfl)⟩
set_option maxRecDepth 100000 in
set_option maxHeartbeats 8000000 in
theorem Depth_any (T : Nd) (kv : Value) (w : World) (hm : T.cnt ≤ 2000000) (hk : KidsAt w T.kids kv) : Calls Try.prog 14 #[.agg #[.int .i64 T.hd.kind, .string (bs T.hd.text), .string (bs T.hd.type), .int .i64 T.hd.n, .int .i64 T.hd.fr, .int .i64 T.hd.to_, .int .i64 T.hd.at_, .int .i64 T.hd.tat, kv]] w fun e w' => e = .returned (.int .i64 (T.ht : Nat)) ∧ Below w.heap.size w w' := by
  refine (callsIn_wide (n := 3)).1 ?_
  have hro : Fence.wide.round = none := rfl
  obtain ⟨a0, cap0, rfl, -⟩ := hk.get
  have HK := Lib.hid hk
  clear hk
  obtain ⟨n, hn⟩ : ∃ n, Hid (T.kids.length = n) := ⟨_, Lib.hid rfl⟩
  rw [hn.out] at HK
  rw [hn.out]
  obtain ⟨W1, hW1⟩ : ∃ W1, Hid ((w.alloc (.cells #[.int .i64 T.hd.kind, .string (bs T.hd.text), .string (bs T.hd.type), .int .i64 T.hd.n, .int .i64 T.hd.fr, .int .i64 T.hd.to_, .int .i64 T.hd.at_, .int .i64 T.hd.tat, .slice a0 n cap0] 24)).alloc (.cells #[.int .i64 0] 3) = W1) := ⟨_, Lib.hid rfl⟩
  have B1 : Hid (Below w.heap.size w W1) := by rw [← hW1.out]; exact Lib.hid (((Below.refl _ w).alloc (Nat.le_refl _) _).alloc (by simp) _)
  have hs1 : W1.heap.size = w.heap.size + 2 := by rw [← hW1.out]; simp
  have R0 : Hid (RowAt W1 w.heap.size 24 (T.hd.vals (.slice a0 n cap0))) := by
    rw [← hW1.out]; exact Lib.hid ((RowAt.new w 24 (T.hd.vals (.slice a0 n cap0))).alloc _)
  have X1 : Hid (Boxed W1 (w.heap.size + 1) 3 (.int .i64 0)) := by
    rw [← hW1.out]
    have := Boxed.new (w.alloc (.cells #[.int .i64 T.hd.kind, .string (bs T.hd.text), .string (bs T.hd.type), .int .i64 T.hd.n, .int .i64 T.hd.fr, .int .i64 T.hd.to_, .int .i64 T.hd.at_, .int .i64 T.hd.tat, .slice a0 n cap0] 24)) 3 (.int .i64 0)
    rw [World.size_alloc] at this
    exact Lib.hid this
  obtain ⟨d0, d1, d2, d3, d4, d5, d6, d7, d8⟩ := Cells.row R0.out
  simp only [Nat.zero_add] at d1 d2 d3 d4 d5 d6 d7 d8
  have call := Lib.hid (each_any T (.slice a0 n cap0) W1 (HK.out.below B1.out))
  obtain ⟨W2, hW2⟩ : ∃ W2, Hid (W1.alloc (.cells (T.hd.vals (.slice a0 n cap0)) 24) = W2) := ⟨_, Lib.hid rfl⟩
  have B2 : Hid (Below w.heap.size w W2) := by rw [← hW2.out]; exact Lib.hid (B1.out.alloc (by omega) _)
  have hs2 : W2.heap.size = w.heap.size + 3 := by rw [← hW2.out]; simp; omega
  have R2 : Hid (RowAt W2 (w.heap.size + 2) 24 (T.hd.vals (.slice a0 n cap0))) := by
    rw [← hW2.out]
    have := RowAt.new W1 24 (T.hd.vals (.slice a0 n cap0))
    rw [hs1] at this
    exact Lib.hid this
  have X2 : Hid (Boxed W2 (w.heap.size + 1) 3 (.int .i64 0)) := by rw [← hW2.out]; exact Lib.hid (X1.out.alloc _)
  refine callsIn_of_wp_marks Try.func14 rfl trivial ?_ hro
  simp only [Try.ntmps14, List.size_toArray, List.length_cons, List.length_nil, Nat.reduceAdd, Nat.reduceSub, Array.replicate_succ, Array.replicate_zero, List.push_toArray, List.append_toArray, List.nil_append, List.cons_append]
  gi_wp2
  rw [hW1.out]
  gi_wp2
  refine ⟨trivial, ?_⟩
  refine (callsIn_wide.2 call.out).mono ?_
  rintro e w2 ⟨rfl, rfl⟩
  rw [hs1, hW2.out]
  clear d0 d1 d2 d3 d4 d5 d6 d7 d8 call
  gi_wp2
  refine rngT hro (by omega) (gf := 35) (lb := #[.pointer (some ⟨w.heap.size + 2, 0, none⟩)]) rfl trivial (enters_of Try.func35 (by kernel_rfl) rfl)
    (each1_in Fence.wide (3 - 1) trivial hro (by omega) w W2 (w.heap.size + 2) T (.slice a0 n cap0) HK.out hm B2.out R2.out)
    KpX.trans (kpX_put (by omega) (by omega)) (Below.refl _ _) (fun _ => rfl)
    (fun pre W => Boxed W (w.heap.size + 1) 3 (.int .i64 (maxD (pre.map prX) 0 : Nat)) ∧ Below w.heap.size w W)
    (AbT.and (abT_boxed _ _ 3 (by decide) _) (abT_below (Nat.le_refl _) (by omega)))
    ⟨X2.out, B2.out⟩
    (fun x => { tmps := #[.agg #[.int .i64 T.hd.kind, .string (bs T.hd.text), .string (bs T.hd.type), .int .i64 T.hd.n, .int .i64 T.hd.fr, .int .i64 T.hd.to_, .int .i64 T.hd.at_, .int .i64 T.hd.tat, .slice a0 n cap0], .pointer (some ⟨w.heap.size, 0, none⟩), .int .i64 0, .pointer (some ⟨w.heap.size + 1, 0, none⟩), .int .i64 (x.1.1 : Nat), .agg #[.int .i64 T.hd.kind, .string (bs T.hd.text), .string (bs T.hd.type), .int .i64 T.hd.n, .int .i64 T.hd.fr, .int .i64 T.hd.to_, .int .i64 T.hd.at_, .int .i64 T.hd.tat, .slice a0 n cap0], .func (.func 35) #[] #[.pointer (some ⟨w.heap.size + 2, 0, none⟩)], .int .i64 (x.1.1 : Nat), .pointer (some ⟨x.1.2.b, x.1.2.off, none⟩), undef, undef, undef, undef], defers := [] }) ?assign ?body ?done
  case assign =>
    intro l x W K hK
    gi_wp2
    simpa [encX] using hK
  case body =>
    rintro l pre x W ⟨hv, hB⟩ hlt
    have hc := hv.cell
    have hf := hv.frozen
    have hmx : maxD ((pre ++ [x]).map prX) 0 = max (maxD (pre.map prX) 0) x.1.1 := by
      rw [List.map_append, List.map_singleton]
      unfold maxD
      rw [List.foldl_append]
      rfl
    have Hmx := Lib.hid hmx
    clear hmx
    have HV := Lib.hid hv
    have HB := Lib.hid hB
    clear hv hB
    gi_wp2
    all_goals
      refine ⟨(KeepsOthers.setCell _ _ _).from _, kpX_set HV.out (by decide) (by omega) (by omega), ?_, HB.out.setCell (p := ⟨w.heap.size + 1, 0, none⟩) (by show w.heap.size ≤ w.heap.size + 1; omega) _⟩
      rw [Hmx.out]
      first
        | (rw [show max (maxD (pre.map prX) 0) x.1.1 = x.1.1 by omega]; exact HV.out.set _)
        | (rw [show max (maxD (pre.map prX) 0) x.1.1 = maxD (pre.map prX) 0 by omega]; exact HV.out.set _)
  case done =>
    rintro D ys W hD hys ⟨hv, hB⟩ hK
    have hc := hv.cell
    have hl : Hid (maxD (ys.map prX) 0 = T.ht) := Lib.hid (by
      rw [hys, maxD_pre 0 0 T]
      omega)
    rw [hl.out] at hc
    have HB := Lib.hid hB
    clear hys hB hv
    gi_wp2
    refine ⟨by simp, .inl ⟨_, _, rfl, run_takeDeferred hK, ?_⟩⟩
    exact ⟨_, results_tmp rfl _ _ _, rfl, HB.out.trans (belowK_b (w := w) (Nat.le_refl _) W D _ _ (by omega) hK rfl rfl)⟩
end Go.Proofs.Ytpnfjiglphogoac
