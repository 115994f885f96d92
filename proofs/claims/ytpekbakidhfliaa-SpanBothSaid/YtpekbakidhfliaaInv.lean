/-
  For the laws of span: what takes edits back, by the program. Conditions: at most 1,000,000 edits, texts of at most 1,000,000 bytes.
-/
import Derived.Test.YtpekbakidhfliaaMoved
import Derived.Test.YtpekbakidhfliaaLast
import Derived.Test.YtpekbakidhfliaaApply
namespace Go.Proofs.Ytpekbakidhfliaa
open Go.RowKit Go.Shelf
set_option linter.unusedSimpArgs false

attribute [local go_sem] Oper.semAt_some

/-- What takes one edit back. -/
def invE (t : By) (y : Int × Ed) : Ed := ⟨wrap64 (y.2.fr + y.1), wrap64 (wrap64 (y.2.fr + y.1) + y.2.tx.length), (t.drop y.2.fr.toNat).take (y.2.to.toNat - y.2.fr.toNat)⟩
def invL (t : By) (L : List Ed) : List Ed := (grL 0 L).map (invE t)
def okY (n : Nat) (y : Int × Ed) : Prop := 0 ≤ y.2.fr ∧ y.2.fr ≤ y.2.to ∧ y.2.to ≤ n ∧ y.2.tx.length ≤ 1000000
theorem ok_mem {n : Int} : ∀ {L : List Ed} {d : Int}, Ok n d L → ∀ e ∈ L, d ≤ e.fr ∧ e.fr ≤ e.to ∧ e.to ≤ n
  | [], _, _, e, he => by cases he
  | x :: L, d, ⟨h1, h2, h3, h4⟩, e, he => by
    rcases List.mem_cons.1 he with rfl | he
    · exact ⟨h1, h2, h3⟩
    · have := ok_mem h4 e he
      exact ⟨by omega, this.2⟩
/-- What the boxes hold between rounds. -/
def InvI (n1 : Nat) (w : World) (t : ByteArray) (T : List Ed) (W : World) : Prop :=
  (Boxed W w.heap.size 9 (.string t) ∧ ∃ v, Boxed W n1 22 v ∧ W.ownsRow (n1 + 1) 39 3 v T.length (ev T)) ∧ (Below w.heap.size w W ∧ n1 + 2 ≤ W.heap.size)
theorem invI_own (n1 B : Nat) (w : World) (t : ByteArray) {β : Type} (f : β → List Ed) (h : w.heap.size ≤ B) : OwnFrom B (fun (s' : β) W => InvI n1 w t (f s') W) := by
  intro s X Y row ⟨⟨h1, v, h2, h3⟩, h4, h5⟩ hg hr
  have hne : ∀ (g : Nat) cs ty fz, X.heap[g]? = some (.cells cs ty fz) → some g ≠ row := fun g cs ty fz hq e => by
    obtain ⟨_, o, ho, hc⟩ := hr g e.symm
    rw [hq] at ho; cases ho; cases hc
  refine ⟨⟨h1.kept hg (hne _ _ _ _ h1), v, h2.kept hg (hne _ _ _ _ h2), h3.kept hg ?_⟩, ?_, Nat.le_trans h5 hg.size⟩
  · rcases h3.2 with ⟨rfl, _⟩ | ⟨g, cap, cur, rfl, _, hq, _⟩
    · exact .inl rfl
    · exact .inr (hne g _ _ _ hq)
  · exact (ownFrom_below (Nat.le_refl _) h) s X Y row h4 hg hr
theorem kept_drew {W w2 : World} {o : Obj} {B : Nat} {t : TypeId} {v : Value} {row : Option Nat} (h : Boxed W B t v) (hg : (W.alloc o).drew.grownBy w2 row) (hne : some B ≠ row) : Boxed w2 B t v :=
  Boxed.kept (W := (W.alloc o).drew) (h.alloc o) hg hne
theorem hneq {W : World} {base e size n : Nat} {v : Value} {xs : List Value} (h : W.ownsRow base e size v n xs) (q : Nat) (hq : q < base) : some q ≠ v.ownBlock := fun e => by
  have := (h.lt q e.symm).1
  omega
theorem own_low {W : World} {b base e size n : Nat} {v : Value} {xs : List Value} (h : W.ownsRow b e size v n xs) (hb : base ≤ b) : W.ownsRow base e size v n xs := by
  refine ⟨h.1, ?_⟩
  rcases h.2 with h0 | ⟨g, cap, cur, e1, h1, hg, h2, h3, h4, h5⟩
  · exact .inl h0
  · exact .inr ⟨g, cap, cur, e1, Nat.le_trans hb h1, hg, h2, h3, h4, h5⟩
theorem wrap_i64 (x : Int) : IntKind.i64.wrap x = wrap64 x := Go.IntWalk.i64_left x
def InvT (n1 q : Nat) : Prop := q = n1
set_option maxRecDepth 100000 in
set_option maxHeartbeats 4000000 in
theorem Inverse_in (fu : Nat) (hfu : 3 ≤ fu) (t : ByteArray) (v : Value) (L : List Ed) (w : World) (h1 : Eds w v L) (hlen : L.length ≤ 1000000) (ht : t.size ≤ 1000000) (hx : ∀ e ∈ L, e.tx.length ≤ 1000000) (hok : chkB t.size none L = true) :
    CallsIn Fence.wide fu Try.prog 11 #[.string t, v] w fun e W' => ∃ u, e = .returned (.tuple #[u, .int .i64 0]) ∧ W'.ownsRow w.heap.size 39 3 u (invL (tl t) L).length (ev (invL (tl t) L)) ∧ Below w.heap.size w W' := by
  have hro : Fence.wide.round = none := rfl
  have hf1 : 1 ≤ fu := by omega
  have H1 := Lib.hid h1
  have Hok := Lib.hid hok
  obtain ⟨a, cap, rfl, hc, hm, hat⟩ := h1
  have hSv : Hid (∀ b off c m, Value.slice a L.length cap = .slice (some ⟨b, off, none⟩) c m → L ≠ [] → (∃ cs t fz, w.heap[b]? = some (.cells cs t fz)) ∧ b < w.heap.size) := by
    refine Lib.hid fun b off c m e hne => ?_
    cases e
    obtain ⟨e, es, rfl⟩ := List.exists_cons_of_ne_nil hne
    obtain ⟨b', off', e', hl, hc0, -⟩ := hat 0 e rfl
    cases e'
    refine ⟨?_, hl⟩
    cases hq : w.heap[b]? with
    | none => simp [World.cell?, hq] at hc0
    | some o => cases o with
      | cells cs t fz => exact ⟨cs, t, fz, rfl⟩
      | _ => simp [World.cell?, hq] at hc0
  clear hat hok
  obtain ⟨W0, hW0⟩ : ∃ W0, Hid (w.alloc (.cells #[.string t] 9) = W0) := ⟨_, Lib.hid rfl⟩
  have b1 : Boxed W0 w.heap.size 9 (.string t) := by rw [← hW0.out]; exact Boxed.new w 9 _
  have hb0 : Below w.heap.size w W0 := by rw [← hW0.out]; exact (Below.refl _ _).alloc (Nat.le_refl _) _
  have hsz0 : W0.heap.size = w.heap.size + 1 := by rw [← hW0.out]; simp
  have Hb0 := Lib.hid hb0
  clear hb0
  have cx := b1.cell
  refine callsIn_of_wp_marks Try.func11 rfl trivial ?_ hro
  simp only [Try.ntmps11, List.size_toArray, List.length_cons, List.length_nil, Nat.reduceAdd, Nat.reduceSub, Array.replicate_succ, Array.replicate_zero, List.push_toArray, List.append_toArray, List.nil_append, List.cons_append]
  gi_wp2
  rw [hW0.out]
  gi_wp2
  refine ⟨trivial, ?_⟩
  refine (callsIn_wide.2 (Check_any _ _ L _ (H1.out.below Hb0.out))).mono ?_
  rw [Hok.out]
  rintro e w1 ⟨rfl, hb1⟩
  have f1 := code_no true
  have B1 := Lib.hid (Hb0.out.trans (hb1.mono Hb0.out.size))
  have c1 := boxed_below b1 hb1
  have hs1 := hb1.size
  clear hb1 b1 cx
  gi_wp2
  refine ⟨trivial, ?_⟩
  refine (callsIn_wide.2 (grown_any a L.length cap _)).mono ?_
  rintro e W ⟨rfl, hW⟩
  simp only [World.size_alloc]
  obtain ⟨d1, d2, hbW, hszW⟩ := two w1 22 22 _ _ W hW.symm
  clear hW
  have BW := Lib.hid (B1.out.trans (hbW.mono B1.out.size))
  have g1 := boxed_below c1 hbW
  have HE : Hid (Eds W (.slice a L.length cap) L) := Lib.hid (H1.out.below BW.out)
  have hsw := B1.out.size
  obtain ⟨n1, hn1⟩ : ∃ n1, Hid (w1.heap.size = n1) := ⟨_, Lib.hid rfl⟩
  rw [hn1.out] at d1 d2 hszW hs1 hsw ⊢
  have hs3 : w.heap.size + 1 ≤ n1 := by omega
  clear hbW c1
  have hokp : ∀ y ∈ grL 0 L, okY t.size y := fun y hy => by
    have hy2 : y.2 ∈ L := by rw [← grL_snd 0 L]; exact List.mem_map_of_mem hy
    have := ok_mem (ok_of (d := 0) Hok.out (fun e h => by cases h) (fun _ => Int.le_refl _) (by omega)) _ hy2
    exact ⟨by omega, this.2.1, this.2.2, hx _ hy2⟩
  have Hokp := Lib.hid hokp
  have hTl : ∀ q, InvT n1 q → q < W.heap.size := fun q hq => by unfold InvT at hq; omega
  have hfr : ∀ q, q < w.heap.size → Fr (InvT n1) n1 W q := fun q hq => ⟨by unfold InvT; omega, fun v hv => by rw [d1.cell] at hv; cases hv; simp [Value.ownBlock]⟩
  have Hfr := Lib.hid hfr
  have HTl := Lib.hid hTl
  have hlo : Lo n1 W := ⟨_, d1.cell, fun j e => by simp [Value.ownBlock] at e⟩
  have Hlo := Lib.hid hlo
  clear hTl hfr hlo hokp
  gi_wp2
  refine wpIn_rangeFunc_ownH hro hf1 (gf := 33) (lb := #[.pointer (some ⟨n1 + 1, 0, none⟩)]) rfl trivial (enters_of Try.func33 (by kernel_rfl) rfl)
    (grown_stopsP Fence.wide (fu - 1) trivial hro (by omega) (n1 + 1) n1 (InvT n1) _ L (okY t.size) Hokp.out W d2 HE.out hlen Hlo.out (by omega) HTl.out (fun b off c m e hne => by
      obtain ⟨⟨cs, t, fz, hq⟩, hb⟩ := hSv.out b off c m e hne
      exact ⟨⟨cs, t, fz, (BW.out.block _ hb).trans hq⟩, Hfr.out b hb⟩))
    kpF_t (kpF_b (by omega)) (Below.refl _ _) (fun _ => rfl)
    (fun pre W' => InvI n1 w t (pre.map fun y => invE (tl t) y.1) W')
    (fun _ _ _ => False)
    (invI_own n1 W.heap.size w t (fun (p : List { y : Int × Ed // okY t.size y }) => p.map fun y => invE (tl t) y.1) (by omega))
    (fun c => fun _ _ _ _ hs _ _ => hs)
    ⟨⟨g1, _, d1, World.ownsRow_nil _ _ _ _⟩, BW.out, by omega⟩
    (fun y a' W' => ∃ q, n1 + 1 < q ∧ (∃ v, Boxed W' n1 22 v ∧ v.ownBlock ≠ some q) ∧ RowAt W' q 39 #[.int .i64 y.1.2.fr, .int .i64 y.1.2.to, .string (bs y.1.2.tx)] ∧ a' = { tmps := #[.string t, .slice a L.length cap, .pointer (some ⟨w.heap.size, 0, none⟩), undef, .slice none 0 0, .int .i64 0, .int .i64 (code true), .pointer (some ⟨n1, 0, none⟩), .int .i64 y.1.1, .pointer (some ⟨q, 0, none⟩), undef, .string t, .int .i64 t.size, .slice a L.length cap, .int .i64 (code true), .int .i64 (code true), .bool false, undef, .slice a L.length cap, .func (.func 33) #[] #[.pointer (some ⟨n1 + 1, 0, none⟩)], .int .i64 y.1.1, .agg #[.int .i64 y.1.2.fr, .int .i64 y.1.2.to, .string (bs y.1.2.tx)], undef, undef, undef, undef, undef, undef, undef, undef, undef, undef, undef, undef, undef, undef, undef, undef, undef, undef, undef, undef, undef], defers := [] })
    (fun y a' _ X Y row hs hg hr => by
      obtain ⟨q, h1, ⟨v, h4, h5⟩, h2, h3⟩ := hs
      refine ⟨q, h1, ⟨v, h4.kept hg fun e => ?_, h5⟩, h2.same (hg.block q h2.lt fun e => ?_), h3⟩
      · obtain ⟨_, o, ho, hoc⟩ := hr n1 e.symm
        rw [show X.heap[n1]? = _ from h4] at ho; cases ho; cases hoc
      · obtain ⟨_, o, ho, hoc⟩ := hr q e.symm
        rw [show X.heap[q]? = _ from h2] at ho; cases ho; cases hoc)
    ?assign ?body ?done ?stop
  case stop => exact fun _ _ _ _ _ _ h => h.elim
  case assign =>
    rintro l pre y W' K ⟨⟨m1, v0, m2, m3⟩, m5, m6⟩ hK
    dsimp only [encE]
    gi_wp2
    exact hK _ _ ((KeepsOthers.alloc _ _).from _) (kpF_alloc _ _ (by omega)) ⟨⟨m1.alloc _, v0, m2.alloc _, m3.alloc _⟩, m5.alloc m5.size _, by simp; omega⟩ ⟨W'.heap.size, by omega, ⟨v0, m2.alloc _, fun e => by have := (m3.lt _ e).2; omega⟩, ed_new W' _ _ _, rfl⟩
  case done =>
    rintro D ys W' hD hys ⟨⟨m1, v0, m2, m3⟩, m5, m6⟩ hK
    have e2 := m2.cell
    have hv : Hid ((ys.map fun y => invE (tl t) y.1) = invL (tl t) L) := Lib.hid (by unfold invL; rw [← hys, List.map_map]; rfl)
    rw [hv.out] at m3
    have M3 := Lib.hid m3
    clear m3 hys
    gi_wp2
    refine ⟨by simp, .inl ⟨_, _, rfl, run_takeDeferred hK, ?_⟩⟩
    refine ⟨.tuple #[v0, .int .i64 0], by simp [results, Try.results11, go_sem], _, rfl, ?_, m5.trans (belowK_b (w := w) (Nat.le_refl _) W' D _ _ (by omega) hK rfl rfl)⟩
    refine own_low (M3.out.kept (grownBy_putObj' _ D (.deferred none)) ?_) (by omega)
    rcases M3.out.2 with ⟨rfl, _⟩ | ⟨g0, c0, cur, rfl, _, hq0, _⟩
    · exact .inl rfl
    · refine .inr fun e => ?_
      simp only [Value.ownBlock, Option.some.injEq] at e
      subst e
      rw [hq0] at hK; cases hK
  case body =>
    rintro l pre y a' W' hl _ ⟨⟨m1, v0, m2, m3⟩, m5, m6⟩ ⟨q, hq, ⟨v1, hv1, hv2⟩, hR, rfl⟩ hlt
    have ev : v1 = v0 := by
      have h := hv1.cell.symm.trans m2.cell
      exact Option.some.inj h
    subst ev
    clear hv1
    obtain ⟨⟨by0, ⟨f, g, tx⟩⟩, o1, o2, o3, o4⟩ := y
    dsimp only at o1 o2 o3 o4 hR ⊢
    obtain ⟨f, rfl⟩ := Int.eq_ofNat_of_zero_le o1
    obtain ⟨g, rfl⟩ := Int.eq_ofNat_of_zero_le (show 0 ≤ g by omega)
    have c1 := m1.cell
    have c2 := m2.cell
    have q0 := hR.cell (j := 0) (v := .int .i64 f) rfl
    have q1 := hR.cell (j := 1) (v := .int .i64 g) rfl
    have q2 := hR.cell (j := 2) (v := .string (bs tx)) rfl
    have p1 : (f : Int) ≤ g := by omega
    have p2 : (g : Int) ≤ t.size := by omega
    gi_wp2
    obtain ⟨i0, hi0, hz0, hz1, hz2⟩ := info_parts infoEd
    have hlp : pre.length < L.length := hlt
    have hl2 : (pre.map fun y => invE (tl t) y.1).length = pre.length := List.length_map _
    obtain ⟨T, hT⟩ : ∃ T, Hid ((pre.map fun y => invE (tl t) y.1) = T) := ⟨_, Lib.hid rfl⟩
    rw [hT.out] at m3 hl2
    refine wpIn_region_E (S := fun W => W.cell? ⟨w.heap.size, 0, none⟩ = some (.string t) ∧ W.cell? ⟨n1, 0, none⟩ = some v1 ∧ W.cell? ⟨q, 0, none⟩ = some (.int .i64 f) ∧ W.cell? ⟨q, 1, none⟩ = some (.int .i64 g) ∧ W.cell? ⟨q, 2, none⟩ = some (.string (bs tx))) (z := 16) (by kernel_rfl) ?_
    have hS : W'.drew.cell? ⟨w.heap.size, 0, none⟩ = some (.string t) ∧ W'.drew.cell? ⟨n1, 0, none⟩ = some v1 ∧ W'.drew.cell? ⟨q, 0, none⟩ = some (.int .i64 f) ∧ W'.drew.cell? ⟨q, 1, none⟩ = some (.int .i64 g) ∧ W'.drew.cell? ⟨q, 2, none⟩ = some (.string (bs tx)) := ⟨c1, c2, q0, q1, q2⟩
    refine wpAnyEIn_take (i := 0) (v := ?_) rfl (by kernel_rfl) (by kernel_rfl) (by kernel_rfl) (by kernel_rfl) (by kernel_rfl) (fun _ _ _ h => h) (Or.inl ⟨by rfl, ?_⟩) (fun _ => rfl) hS ?_
    rotate_left
    · intro w hSw
      obtain ⟨x1, x2, x3, x4, x5⟩ := hSw
      go_simp
      try with_reducible rfl
    try simp only [Act.put, List.setIfInBounds_toArray, List.set_cons_zero, List.set_cons_succ]
    refine wpAnyEIn_take (i := 1) (v := ?_) rfl (by kernel_rfl) (by kernel_rfl) (by kernel_rfl) (by kernel_rfl) (by kernel_rfl) (fun _ _ _ h => h) (Or.inl ⟨by rfl, ?_⟩) (fun _ => rfl) hS ?_
    rotate_left
    · intro w hSw
      obtain ⟨x1, x2, x3, x4, x5⟩ := hSw
      go_simp
      try with_reducible rfl
    try simp only [Act.put, List.setIfInBounds_toArray, List.set_cons_zero, List.set_cons_succ]
    refine wpAnyEIn_take (i := 2) (v := ?_) rfl (by kernel_rfl) (by kernel_rfl) (by kernel_rfl) (by kernel_rfl) (by kernel_rfl) (fun _ _ _ h => h) (Or.inl ⟨by rfl, ?_⟩) (fun _ => rfl) hS ?_
    rotate_left
    · intro w hSw
      obtain ⟨x1, x2, x3, x4, x5⟩ := hSw
      go_simp
      try with_reducible rfl
    try simp only [Act.put, List.setIfInBounds_toArray, List.set_cons_zero, List.set_cons_succ]
    refine wpAnyEIn_take (i := 3) (v := ?_) rfl (by kernel_rfl) (by kernel_rfl) (by kernel_rfl) (by kernel_rfl) (by kernel_rfl) (fun _ _ _ h => h) (Or.inl ⟨by rfl, ?_⟩) (fun _ => rfl) hS ?_
    rotate_left
    · intro w hSw
      obtain ⟨x1, x2, x3, x4, x5⟩ := hSw
      go_simp
      try with_reducible rfl
    try simp only [Act.put, List.setIfInBounds_toArray, List.set_cons_zero, List.set_cons_succ]
    refine wpAnyEIn_take (i := 4) (v := ?_) rfl (by kernel_rfl) (by kernel_rfl) (by kernel_rfl) (by kernel_rfl) (by kernel_rfl) (fun _ _ _ h => h) (Or.inl ⟨by rfl, ?_⟩) (fun _ => rfl) hS ?_
    rotate_left
    · intro w hSw
      obtain ⟨x1, x2, x3, x4, x5⟩ := hSw
      go_simp
      try with_reducible rfl
    try simp only [Act.put, List.setIfInBounds_toArray, List.set_cons_zero, List.set_cons_succ]
    refine wpAnyEIn_take (i := 5) (v := ?_) rfl (by kernel_rfl) (by kernel_rfl) (by kernel_rfl) (by kernel_rfl) (by kernel_rfl) (fun _ _ _ h => h) (Or.inl ⟨by rfl, ?_⟩) (fun _ => rfl) hS ?_
    rotate_left
    · intro w hSw
      obtain ⟨x1, x2, x3, x4, x5⟩ := hSw
      go_simp
      try with_reducible rfl
    try simp only [Act.put, List.setIfInBounds_toArray, List.set_cons_zero, List.set_cons_succ]
    refine wpAnyEIn_take (i := 6) (v := ?_) rfl (by kernel_rfl) (by kernel_rfl) (by kernel_rfl) (by kernel_rfl) (by kernel_rfl) (fun _ _ _ h => h) (Or.inl ⟨by rfl, ?_⟩) (fun _ => rfl) hS ?_
    rotate_left
    · intro w hSw
      obtain ⟨x1, x2, x3, x4, x5⟩ := hSw
      go_simp
      try with_reducible rfl
    try simp only [Act.put, List.setIfInBounds_toArray, List.set_cons_zero, List.set_cons_succ]
    refine wpAnyEIn_take (i := 7) (v := ?_) rfl (by kernel_rfl) (by kernel_rfl) (by kernel_rfl) (by kernel_rfl) (by kernel_rfl) (fun _ _ _ h => h) (Or.inl ⟨by rfl, ?_⟩) (fun _ => rfl) hS ?_
    rotate_left
    · intro w hSw
      obtain ⟨x1, x2, x3, x4, x5⟩ := hSw
      go_simp
      try with_reducible rfl
    try simp only [Act.put, List.setIfInBounds_toArray, List.set_cons_zero, List.set_cons_succ]
    refine wpAnyEIn_take (i := 8) (v := ?_) rfl (by kernel_rfl) (by kernel_rfl) (by kernel_rfl) (by kernel_rfl) (by kernel_rfl) (fun _ _ _ h => h) (Or.inl ⟨by rfl, ?_⟩) (fun _ => rfl) hS ?_
    rotate_left
    · intro w hSw
      obtain ⟨x1, x2, x3, x4, x5⟩ := hSw
      go_simp
      try with_reducible rfl
    try simp only [Act.put, List.setIfInBounds_toArray, List.set_cons_zero, List.set_cons_succ]
    refine wpAnyEIn_take (i := 9) (v := ?_) rfl (by kernel_rfl) (by kernel_rfl) (by kernel_rfl) (by kernel_rfl) (by kernel_rfl) (fun _ _ _ h => h) (Or.inl ⟨by rfl, ?_⟩) (fun _ => rfl) hS ?_
    rotate_left
    · intro w hSw
      obtain ⟨x1, x2, x3, x4, x5⟩ := hSw
      go_simp
      try with_reducible rfl
    try simp only [Act.put, List.setIfInBounds_toArray, List.set_cons_zero, List.set_cons_succ]
    refine wpAnyEIn_take (i := 10) (v := ?_) rfl (by kernel_rfl) (by kernel_rfl) (by kernel_rfl) (by kernel_rfl) (by kernel_rfl) (fun _ _ _ h => h) (Or.inl ⟨by rfl, ?_⟩) (fun _ => rfl) hS ?_
    rotate_left
    · intro w hSw
      obtain ⟨x1, x2, x3, x4, x5⟩ := hSw
      go_simp
      try with_reducible rfl
    try simp only [Act.put, List.setIfInBounds_toArray, List.set_cons_zero, List.set_cons_succ]
    refine wpAnyEIn_take (i := 11) (v := ?_) rfl (by kernel_rfl) (by kernel_rfl) (by kernel_rfl) (by kernel_rfl) (by kernel_rfl) (fun _ _ _ h => h) (Or.inl ⟨by rfl, ?_⟩) (fun _ => rfl) hS ?_
    rotate_left
    · intro w hSw
      obtain ⟨x1, x2, x3, x4, x5⟩ := hSw
      go_simp
      try with_reducible rfl
    try simp only [Act.put, List.setIfInBounds_toArray, List.set_cons_zero, List.set_cons_succ]
    refine wpAnyEIn_take (i := 12) (v := ?_) rfl (by kernel_rfl) (by kernel_rfl) (by kernel_rfl) (by kernel_rfl) (by kernel_rfl) (fun _ _ _ h => h) (Or.inl ⟨by rfl, ?_⟩) (fun _ => rfl) hS ?_
    rotate_left
    · intro w hSw
      obtain ⟨x1, x2, x3, x4, x5⟩ := hSw
      go_simp
      try with_reducible rfl
    try simp only [Act.put, List.setIfInBounds_toArray, List.set_cons_zero, List.set_cons_succ]
    refine wpAnyEIn_take (i := 13) (v := ?_) rfl (by kernel_rfl) (by kernel_rfl) (by kernel_rfl) (by kernel_rfl) (by kernel_rfl) (fun _ _ _ h => h) (Or.inl ⟨by rfl, ?_⟩) (fun _ => rfl) hS ?_
    rotate_left
    · intro w hSw
      obtain ⟨x1, x2, x3, x4, x5⟩ := hSw
      go_simp
      try with_reducible rfl
    try simp only [Act.put, List.setIfInBounds_toArray, List.set_cons_zero, List.set_cons_succ]
    refine wpAnyEIn_one (i := 14) (by kernel_rfl) rfl (fun K hK => ?_)
    go_simp
    have hRa := hR.same (W' := W'.alloc (.cells #[.int .i64 (wrap64 (f + by0)), .int .i64 (IntKind.i64.wrap (wrap64 (f + by0) + (tx.length : Int))), .string (t.extract f g)] 39)) (Below.heap_alloc _ _ _ hR.lt)
    refine hK.out _ _ (fun _ => ⟨(m1.alloc _).cell, (m2.alloc _).cell, hRa.cell (j := 0) (v := .int .i64 f) rfl, hRa.cell (j := 1) (v := .int .i64 g) rfl, hRa.cell (j := 2) (v := .string (bs tx)) rfl⟩) ?_
    clear hK K
    refine wpAnyEIn_one (i := 15) (by kernel_rfl) rfl (fun K hK => ?_)
    refine stepIn_append_lies _ (by rfl) _ _ _ (by rfl) (n1 + 1) 39 i0 _ 3 32 Try.underlying22 hi0 hz0 hz1 hz2 rfl (by decide) _ T.length _ (by rfl) (m3.alloc _) ⟨W'.heap.size, 0, none⟩ 1 1 [.int .i64 (wrap64 (f + by0)), .int .i64 (IntKind.i64.wrap (wrap64 (f + by0) + (tx.length : Int))), .string (t.extract f g)] (by rfl) rfl (fun j u hj => ?_) ?_ (by omega) (by unfold maxLen; omega) (by omega) (by simp; omega) (W'.heap.size + 1) (by simp) ?_
    · exact World.news_of_block (World.alloc_heap_new W' (.cells #[.int .i64 (wrap64 (f + by0)), .int .i64 (IntKind.i64.wrap (wrap64 (f + by0) + (tx.length : Int))), .string (t.extract f g)] 39)) j u hj
    · intro u hu
      simp at hu
      rcases hu with rfl | rfl | rfl <;> rfl
    intro p cap' w2 hown' hgrow hor hplt
    have hn0 : some n1 ≠ v1.ownBlock := hneq m3 _ (by omega)
    have hn1 : some w.heap.size ≠ v1.ownBlock := hneq m3 _ (by omega)
    have k1 := kept_drew m1 hgrow hn1
    have k2 := kept_drew m2 hgrow hn0
    have kR := hRa.same (hgrow.block q (by simp; exact Nat.lt_succ_of_lt hR.lt) (fun e => hv2 e.symm))
    have hbel : Below w.heap.size w w2 := (below_draws (m5.alloc m5.size _) 1).grown hgrow (by show w.heap.size ≤ (W'.alloc _).heap.size; simp; omega) (fun j ej => by have := (m3.lt j ej).1; omega)
    refine hK.out _ _ (fun _ => ⟨k1.cell, k2.cell, kR.cell (j := 0) (v := .int .i64 f) rfl, kR.cell (j := 1) (v := .int .i64 g) rfl, kR.cell (j := 2) (v := .string (bs tx)) rfl⟩) ?_
    clear hK K
    have f2 := k2.frozen
    have e2 := k2.cell
    refine wpAnyEIn_one (i := 16) (by kernel_rfl) rfl (fun K hK => ?_)
    go_simp
    refine hK.out _ _ (fun h => absurd rfl h) ?_
    clear hK K
    refine wpAnyEIn_done (by kernel_rfl) ?_ _
    have hs2 := hgrow.size
    simp only [World.drew, World.size_alloc] at hs2
    have hp1 : n1 + 1 ≤ p := by
      rcases hor with e | e
      · exact (m3.lt _ e).1
      · omega
    gi_wp2
    refine ⟨?_, ?_, ?_⟩
    · refine KeepsOthers.from ?_ _
      refine (KeepsOthers.trans (KeepsOthers.trans (KeepsOthers.alloc W' _) (KeepsOthers.drew _)) (KeepsOthers.of_grownBy hgrow fun j o ej ho => ?_)).trans (KeepsOthers.setCell _ _ _)
      rcases m3.2 with ⟨rfl, _⟩ | ⟨g0, c0, cur, rfl, _, hq0, _⟩
      · cases ej
      · cases ej
        rw [show (W'.alloc _).drew.heap[g0]? = _ from (Below.heap_alloc _ _ _ (Array.getElem?_eq_some_iff.1 hq0).1).trans hq0] at ho
        cases ho; rfl
    · refine fun hl0 => ⟨⟨_, (k2.set _).cell, fun j e => ?_⟩, ?_, fun b cs ty fz hb hfb => ?_⟩
      · simp only [Value.ownBlock, Option.some.injEq] at e
        subst e
        simp; omega
      · simp; omega
      · have hbl := (Array.getElem?_eq_some_iff.1 hb).1
        have hb1 : v1.ownBlock ≠ some b := hfb.2 v1 m2.cell
        have hb2 : b ≠ n1 := hfb.1
        refine ⟨(Below.heap_setCell _ _ _ _ hb2).trans ((hgrow.block b (by simp; omega) (fun e => hb1 e.symm)).trans (Below.heap_alloc _ _ _ hbl)), hfb.1, fun v hv e => ?_⟩
        rw [(k2.set _).cell] at hv
        cases hv
        simp only [Value.ownBlock, Option.some.injEq] at e
        subst e
        rcases hor with h | h
        · exact hb1 h
        · omega
    · refine ⟨⟨k1.other (by omega) _, _, k2.set _, ?_⟩, hbel.setCell (p := ⟨n1, 0, none⟩) (by show w.heap.size ≤ n1; omega) _, by simp; omega⟩
      have ho := ownsRow_setCell_below hown' (a := ⟨n1, 0, none⟩) (by show n1 < n1 + 1; omega) (.slice (some ⟨p, 0, none⟩) (pre.length + 1) cap')
      rw [hl2] at ho
      rw [List.map_append, hT.out, List.map_singleton, List.length_append, List.length_singleton, hl2, ev_append]
      have hev : ev [invE (tl t) (by0, ⟨f, g, tx⟩)] = [Value.int .i64 (wrap64 (f + by0)), .int .i64 (wrap64 (wrap64 (f + by0) + (tx.length : Int))), .string (t.extract f g)] := by
        rw [ext_bs]; rfl
      show World.ownsRow _ (n1 + 1) 39 3 _ _ (ev T ++ ev [invE (tl t) (by0, ⟨f, g, tx⟩)])
      rw [hev, ← wrap_i64 (wrap64 (f + by0) + (tx.length : Int))]
      exact ho
theorem Inverse_yes (t : ByteArray) (v : Value) (L : List Ed) (w : World) (h1 : Eds w v L) (hlen : L.length ≤ 1000000) (ht : t.size ≤ 1000000) (hx : ∀ e ∈ L, e.tx.length ≤ 1000000) (hok : chkB t.size none L = true) :
    Calls Try.prog 11 #[.string t, v] w fun e W' => ∃ u, e = .returned (.tuple #[u, .int .i64 0]) ∧ W'.ownsRow w.heap.size 39 3 u (invL (tl t) L).length (ev (invL (tl t) L)) ∧ Below w.heap.size w W' :=
  (callsIn_wide (n := 3)).1 (Inverse_in 3 (Nat.le_refl _) t v L w h1 hlen ht hx hok)
set_option maxRecDepth 100000 in
set_option maxHeartbeats 4000000 in
theorem Inverse_no (t : ByteArray) (v : Value) (L : List Ed) (w : World) (h1 : Eds w v L) (hok : chkB t.size none L = false) :
    Calls Try.prog 11 #[.string t, v] w fun e W' => e = .returned (.tuple #[.slice none 0 0, .int .i64 20]) ∧ Below w.heap.size w W' := by
  have H1 := Lib.hid h1
  have Hok := Lib.hid hok
  obtain ⟨a, cap, rfl, hc, hm, hat⟩ := h1
  clear hat hok
  obtain ⟨W0, hW0⟩ : ∃ W0, Hid (w.alloc (.cells #[.string t] 9) = W0) := ⟨_, Lib.hid rfl⟩
  have b1 : Boxed W0 w.heap.size 9 (.string t) := by rw [← hW0.out]; exact Boxed.new w 9 _
  have hb0 : Below w.heap.size w W0 := by rw [← hW0.out]; exact (Below.refl _ _).alloc (Nat.le_refl _) _
  have Hb0 := Lib.hid hb0
  clear hb0
  have cx := b1.cell
  go_enter Try.func11, Try.ntmps11
  go_wp2_with fail
  rw [hW0.out]
  go_wp2_with fail
  refine (Check_any _ _ L _ (H1.out.below Hb0.out)).mono ?_
  rw [Hok.out]
  rintro e w1 ⟨rfl, hb1⟩
  have f1 := code_no false
  have B1 := Lib.hid (Hb0.out.trans (hb1.mono Hb0.out.size))
  clear hb1
  go_wp2_with fail
  go_ret2
  exact ⟨rfl, B1.out⟩
def invA (t : By) (L : List Ed) : List Ed := if chkB t.length none L = true then invL t L else []
theorem Inverse_any (t : ByteArray) (v : Value) (L : List Ed) (w : World) (h1 : Eds w v L) (hlen : L.length ≤ 1000000) (ht : t.size ≤ 1000000) (hx : ∀ e ∈ L, e.tx.length ≤ 1000000) :
    Calls Try.prog 11 #[.string t, v] w fun e W' => ∃ u, e = .returned (.tuple #[u, .int .i64 (code (chkB t.size none L))]) ∧ Eds W' u (invA (tl t) L) ∧ Below w.heap.size w W' := by
  unfold invA
  rw [tl_length]
  cases hok : chkB t.size none L with
  | true => exact (Inverse_yes t v L w h1 hlen ht hx hok).mono fun e W' ⟨u, h, ho, hb⟩ => ⟨u, h, by rw [if_pos rfl]; exact own_eds ho, hb⟩
  | false => exact (Inverse_no t v L w h1 hok).mono fun e W' ⟨h, hb⟩ => ⟨_, h, by rw [if_neg (by simp)]; exact ⟨none, 0, rfl, Nat.le_refl _, Nat.zero_le _, by simp⟩, hb⟩
end Go.Proofs.Ytpekbakidhfliaa
