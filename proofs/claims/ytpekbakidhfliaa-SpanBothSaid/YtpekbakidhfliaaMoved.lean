/-
  For the laws of span: where a byte stands behind edits, by the program. Condition: at most 1,000,000 edits.
-/
import Derived.Test.YtpekbakidhfliaaMvm
namespace Go.Proofs.Ytpekbakidhfliaa
open Go.RowKit Go.Shelf

attribute [local go_sem] Oper.semAt_some

/-- What Moved tells. -/
def mvR (L : List Ed) (x : Int) : Int × Bool := match mv 0 L x with | some n => (wrap64 n, true) | none => (0, false)
theorem three (w : World) (t1 t2 t3 : TypeId) (x1 x2 x3 : Value) (W : World) (hW : (((w.alloc (.cells #[x1] t1)).alloc (.cells #[x2] t2)).alloc (.cells #[x3] t3)) = W) :
    Boxed W w.heap.size t1 x1 ∧ Boxed W (w.heap.size + 1) t2 x2 ∧ Boxed W (w.heap.size + 1 + 1) t3 x3 ∧ Below w.heap.size w W ∧ W.heap.size = w.heap.size + 3 := by
  subst hW
  have b1 := Boxed.new w t1 x1
  have b2 := Boxed.new (w.alloc (.cells #[x1] t1)) t2 x2
  have b3 := Boxed.new ((w.alloc (.cells #[x1] t1)).alloc (.cells #[x2] t2)) t3 x3
  simp only [World.size_alloc] at b2 b3
  exact ⟨(b1.alloc _).alloc _, b2.alloc _, b3, (((Below.refl _ w).alloc (by simp) _).alloc (by simp) _).alloc (by simp; omega) _, by simp⟩
theorem two (w : World) (t1 t2 : TypeId) (x1 x2 : Value) (W : World) (hW : ((w.alloc (.cells #[x1] t1)).alloc (.cells #[x2] t2)) = W) :
    Boxed W w.heap.size t1 x1 ∧ Boxed W (w.heap.size + 1) t2 x2 ∧ Below w.heap.size w W ∧ W.heap.size = w.heap.size + 2 := by
  subst hW
  have b1 := Boxed.new w t1 x1
  have b2 := Boxed.new (w.alloc (.cells #[x1] t1)) t2 x2
  simp only [World.size_alloc] at b2
  exact ⟨b1.alloc _, b2, ((Below.refl _ w).alloc (by simp) _).alloc (by simp) _, by simp⟩
/-- What the boxes hold between rounds. -/
def MvI (s n1 : Nat) (w : World) (x t : Int) (W : World) : Prop :=
  ((Boxed W s 3 (.int .i64 x) ∧ Boxed W n1 3 (.int .i64 t)) ∧ (Boxed W (s + 1) 3 (.int .i64 0) ∧ Boxed W (s + 1 + 1) 4 (.bool false))) ∧ (Below w.heap.size w W ∧ n1 + 2 ≤ W.heap.size)
theorem mvI_own (s n1 B : Nat) (w : World) (x : Int) {β : Type} (f : β → Int) (h : w.heap.size ≤ B) : OwnFrom B (fun (s' : β) W => MvI s n1 w x (f s') W) :=
  OwnFrom.and (OwnFrom.and (OwnFrom.and (Own.from (boxed_own _ _ (fun _ => Value.int .i64 x)) _) (Own.from (boxed_own _ _ (fun b => Value.int .i64 (f b))) _)) (OwnFrom.and (Own.from (boxed_own _ _ (fun _ => Value.int .i64 0)) _) (Own.from (boxed_own _ _ (fun _ => Value.bool false)) _))) (OwnFrom.and (ownFrom_below (Nat.le_refl _) h) (fun _ _ _ _ hs hg _ => Nat.le_trans hs hg.size))
def MvT (s n1 q : Nat) : Prop := q = n1 ∨ q = s + 1 ∨ q = s + 1 + 1
/-- Where a round leaves. -/
def MvX (s n1 : Nat) (w : World) (x : Int) (cb : Code) (c : Code) (pre : List (Int × Ed)) (W : World) : Prop :=
  ∃ pre' y, pre = pre' ++ [y] ∧ Passes x pre' ∧ ((c = cb ∧ x < y.2.fr ∧ MvI s n1 w x (toOf x pre') W) ∨ (c = .ret ∧ ¬ x < y.2.fr ∧ x < y.2.to ∧ MvI s n1 w x (toOf x pre') W))
theorem mvX_own (s n1 B : Nat) (w : World) (x : Int) (cb c : Code) (h : w.heap.size ≤ B) : OwnFrom B (MvX s n1 w x cb c) := fun pre X Y row hs hg hr => by
  obtain ⟨pre', y, e, hp, h1⟩ := hs
  refine ⟨pre', y, e, hp, h1.imp (fun ⟨a, b, d⟩ => ⟨a, b, ?_⟩) (fun ⟨a, b, b2, d⟩ => ⟨a, b, b2, ?_⟩)⟩
  · exact mvI_own s n1 B w x (fun p => toOf x p) h pre' X Y row d hg hr
  · exact mvI_own s n1 B w x (fun p => toOf x p) h pre' X Y row d hg hr
set_option maxRecDepth 100000 in
set_option maxHeartbeats 4000000 in
theorem Moved_in (fu : Nat) (hfu : 3 ≤ fu) (v : Value) (L : List Ed) (x : Int) (w : World) (h1 : Eds w v L) (hlen : L.length ≤ 1000000) (hx : ¬ x < 0) (hxw : wrap64 x = x) (hok : chkB far none L = true) :
    CallsIn Fence.wide fu Try.prog 15 #[v, .int .i64 x] w fun e W' => e = .returned (.tuple #[.int .i64 (mvR L x).1, .bool (mvR L x).2]) ∧ Below w.heap.size w W' := by
  have hro : Fence.wide.round = none := rfl
  have hf1 : 1 ≤ fu := by omega
  have H1 := Lib.hid h1
  have Hok := Lib.hid hok
  have Hxw := Lib.hid hxw
  obtain ⟨a, cap, rfl, hc, hm, hat⟩ := h1
  have hSv : Hid (∀ b off c m, Value.slice a L.length cap = .slice (some ⟨b, off, none⟩) c m → L ≠ [] → (∃ cs t fz, w.heap[b]? = some (.cells cs t fz)) ∧ b < w.heap.size) := by
    refine Lib.hid fun b off c m e hne => ?_
    cases e
    obtain ⟨e, es, rfl⟩ := List.exists_cons_of_ne_nil hne
    obtain ⟨b', off', e', hl, hc0, -⟩ := hat 0 e rfl
    cases e'
    refine ⟨?_, hl⟩
    cases hq : w.heap[b]? with
    | none => simp [World.cell?, hq] at hc0
    | some o => cases o with
      | cells cs t fz => exact ⟨cs, t, fz, rfl⟩
      | _ => simp [World.cell?, hq] at hc0
  clear hat hok hxw
  have f0 : decide (x < 0) = false := decide_eq_false hx
  obtain ⟨W0, hW0⟩ : ∃ W0, Hid ((((w.alloc (.cells #[.int .i64 x] 3)).alloc (.cells #[.int .i64 0] 3)).alloc (.cells #[.bool false] 4)) = W0) := ⟨_, Lib.hid rfl⟩
  obtain ⟨b1, b2, b3, hb0, hsz0⟩ := three w 3 3 4 _ _ _ W0 hW0.out
  have Hb0 := Lib.hid hb0
  clear hb0
  refine callsIn_of_wp_marks Try.func15 rfl trivial ?_ hro
  simp only [Try.ntmps15, List.size_toArray, List.length_cons, List.length_nil, Nat.reduceAdd, Nat.reduceSub, Array.replicate_succ, Array.replicate_zero, List.push_toArray, List.append_toArray, List.nil_append, List.cons_append]
  gi_wp2
  rw [hW0.out]
  refine ⟨trivial, ?_⟩
  refine (callsIn_wide.2 (valid_any _ L _ (H1.out.below Hb0.out))).mono ?_
  rw [Hok.out]
  rintro e w1 ⟨rfl, hb1⟩
  have B1 := Lib.hid (Hb0.out.trans (hb1.mono Hb0.out.size))
  have c1 := boxed_below b1 hb1
  have c2 := boxed_below b2 hb1
  have c3 := boxed_below b3 hb1
  have hs1 := hb1.size
  have cx := c1.cell
  clear hb1 b1 b2 b3
  gi_wp2
  refine ⟨trivial, ?_⟩
  refine (callsIn_wide.2 (grown_any a L.length cap _)).mono ?_
  rintro e W ⟨rfl, hW⟩
  simp only [World.size_alloc]
  obtain ⟨d1, d2, hbW, hszW⟩ := two w1 3 22 _ _ W hW.symm
  clear hW
  have BW := Lib.hid (B1.out.trans (hbW.mono B1.out.size))
  have g1 := boxed_below c1 hbW
  have g2 := boxed_below c2 hbW
  have g3 := boxed_below c3 hbW
  have HE : Hid (Eds W (.slice a L.length cap) L) := Lib.hid (H1.out.below BW.out)
  have hsw := B1.out.size
  obtain ⟨n1, hn1⟩ : ∃ n1, Hid (w1.heap.size = n1) := ⟨_, Lib.hid rfl⟩
  rw [hn1.out] at d1 d2 hszW hs1 hsw ⊢
  have hs3 : w.heap.size + 3 ≤ n1 := by omega
  clear hbW c1 c2 c3 cx
  gi_wp2
  have hTl : ∀ q, MvT w.heap.size n1 q → q < W.heap.size := fun q hq => by unfold MvT at hq; omega
  have hfr : ∀ q, q < w.heap.size → Fr (MvT w.heap.size n1) w.heap.size W q := fun q hq => ⟨by unfold MvT; omega, fun v hv => by rw [g1.cell] at hv; cases hv; simp [Value.ownBlock]⟩
  have Hfr := Lib.hid hfr
  have HTl := Lib.hid hTl
  have hlo : Lo w.heap.size W := ⟨_, g1.cell, fun j e => by simp [Value.ownBlock] at e⟩
  have Hlo := Lib.hid hlo
  clear hTl hfr hlo
  have fin : ∀ (D : Nat) (A B : World) (r : Int) (i : Bool), Boxed B (w.heap.size + 1) 3 (.int .i64 r) → Boxed B (w.heap.size + 1 + 1) 4 (.bool i) → KeepsOthers A B → A.heap[D]? = some (.deferred (some [])) → w.heap.size ≤ D → Below w.heap.size w B →
      ((B.putObj D (.deferred none)).cell? ⟨w.heap.size + 1, 0, none⟩ = some (.int .i64 r) ∧ (B.putObj D (.deferred none)).cell? ⟨w.heap.size + 1 + 1, 0, none⟩ = some (.bool i)) ∧ Below w.heap.size w (B.putObj D (.deferred none)) := fun D A B r i h1 h2 hk hD hd hb => by
    have hD2 := hk.same D _ hD rfl
    exact ⟨⟨cell_kept h1.cell (grownBy_putObj' _ D (.deferred none)) (fun r e => by cases e; exact ⟨_, hD2, rfl⟩), cell_kept h2.cell (grownBy_putObj' _ D (.deferred none)) (fun r e => by cases e; exact ⟨_, hD2, rfl⟩)⟩, hb.trans (belowK_b (w := w) (Nat.le_refl _) B D _ _ hd hD2 rfl rfl)⟩
  refine wpIn_rangeFunc_ownH hro hf1 (gf := 33) (lb := #[.pointer (some ⟨n1 + 1, 0, none⟩)]) rfl trivial (enters_of Try.func33 (by kernel_rfl) rfl)
    (grown_stops Fence.wide (fu - 1) trivial hro (by omega) (n1 + 1) w.heap.size (MvT w.heap.size n1) _ L W d2 HE.out hlen Hlo.out (by omega) HTl.out (fun b off c m e hne => by
      obtain ⟨⟨cs, t, fz, hq⟩, hb⟩ := hSv.out b off c m e hne
      exact ⟨⟨cs, t, fz, (BW.out.block _ hb).trans hq⟩, Hfr.out b hb⟩))
    kpF_t (kpF_b (by omega)) (Below.refl _ _) (fun _ => rfl)
    (fun pre W' => Passes x pre ∧ MvI w.heap.size n1 w x (toOf x pre) W')
    (fun c pre W' => MvX w.heap.size n1 w x (.exit 0) c pre W')
    (OwnFrom.and (fun _ _ _ _ hs _ _ => hs) (mvI_own w.heap.size n1 W.heap.size w x (fun p => toOf x p) (by omega)))
    (fun c => mvX_own w.heap.size n1 W.heap.size w x (.exit 0) c (by omega))
    ⟨fun y hy => by simp at hy, ⟨⟨g1, d1⟩, g2, g3⟩, BW.out, by omega⟩
    (fun y a' W' => ∃ q, n1 + 1 < q ∧ RowAt W' q 39 #[.int .i64 y.2.fr, .int .i64 y.2.to, .string (bs y.2.tx)] ∧ a' = { tmps := #[.slice a L.length cap, .int .i64 x, undef, .pointer (some ⟨w.heap.size, 0, none⟩), .pointer (some ⟨w.heap.size + 1, 0, none⟩), .pointer (some ⟨w.heap.size + 1 + 1, 0, none⟩), .pointer (some ⟨n1, 0, none⟩), .int .i64 y.1, .pointer (some ⟨q, 0, none⟩), .int .i64 x, .bool false, .bool false, .slice a L.length cap, .bool true, .bool false, .bool false, .int .i64 x, .slice a L.length cap, .func (.func 33) #[] #[.pointer (some ⟨n1 + 1, 0, none⟩)], .int .i64 y.1, .agg #[.int .i64 y.2.fr, .int .i64 y.2.to, .string (bs y.2.tx)], undef, undef, undef, undef, undef, undef, undef, undef, undef, undef, undef, undef, undef, undef, undef, undef, undef, undef, undef, undef, undef, undef], defers := [] })
    (fun y a' _ X Y row hs hg hr => by
      obtain ⟨q, h1, h2, h3⟩ := hs
      refine ⟨q, h1, h2.same (hg.block q h2.lt fun e => ?_), h3⟩
      obtain ⟨_, o, ho, hoc⟩ := hr q e.symm
      rw [show X.heap[q]? = _ from h2] at ho; cases ho; cases hoc)
    ?assign ?body ?done ?stop
  case assign =>
    rintro l pre y W' K ⟨hp, ⟨⟨m1, m2⟩, m3, m4⟩, m5, m6⟩ hK
    dsimp only [encE]
    gi_wp2
    exact hK _ _ ((KeepsOthers.alloc _ _).from _) (kpF_alloc _ _ m1.lt) ⟨hp, ⟨⟨m1.alloc _, m2.alloc _⟩, m3.alloc _, m4.alloc _⟩, m5.alloc m5.size _, by simp; omega⟩ ⟨W'.heap.size, by omega, ed_new W' _ _ _, rfl⟩
  case body =>
    rintro l pre y a' W' hl _ ⟨hp, ⟨⟨m1, m2⟩, m3, m4⟩, m5, m6⟩ ⟨q, hq, hR, rfl⟩ hlt
    have cx := m1.cell
    have ct := m2.cell
    have cr := m3.cell
    have ci := m4.cell
    have ft := m2.frozen
    have fr := m3.frozen
    have fi := m4.frozen
    have q0 := hR.cell (j := 0) (v := .int .i64 y.2.fr) rfl
    have q1 := hR.cell (j := 1) (v := .int .i64 y.2.to) rfl
    have q2 := hR.cell (j := 2) (v := .string (bs y.2.tx)) rfl
    by_cases t1 : x < y.2.fr
    · have e1 : decide (y.2.fr > x) = true := decide_eq_true t1
      gi_wp2
      exact ⟨KeepsFrom.refl _ _, pre, y, rfl, hp, .inl ⟨rfl, t1, ⟨⟨m1, m2⟩, m3, m4⟩, m5, m6⟩⟩
    have e1 : decide (y.2.fr > x) = false := decide_eq_false t1
    by_cases t2 : x < y.2.to
    · have e2 : decide (x < y.2.to) = true := decide_eq_true t2
      have n3 := (m3.set (.int .i64 0)).other (B' := w.heap.size + 1 + 1) (by omega) (.bool false)
      have n4 := (m4.other (B' := w.heap.size + 1) (by omega) (.int .i64 0)).set (.bool false)
      have f2 := (m4.other (B' := w.heap.size + 1) (by omega) (.int .i64 0)).frozen
      gi_wp2
      refine ⟨((KeepsOthers.setCell _ _ _).trans (KeepsOthers.setCell _ _ _)).from _, pre, y, rfl, hp, .inr ⟨rfl, by omega, t2, ⟨⟨?_, ?_⟩, n3, n4⟩, ?_, ?_⟩⟩
      · exact (m1.other (by omega) _).other (by omega) _
      · exact (m2.other (by omega) _).other (by omega) _
      · exact (m5.setCell (p := ⟨w.heap.size + 1, 0, none⟩) (by show w.heap.size ≤ w.heap.size + 1; omega) _).setCell (p := ⟨w.heap.size + 1 + 1, 0, none⟩) (by show w.heap.size ≤ w.heap.size + 1 + 1; omega) _
      · simpa using m6
    · have e2 : decide (x < y.2.to) = false := decide_eq_false t2
      gi_wp2
      refine ⟨(KeepsOthers.setCell _ _ _).from _, kpF_of (by simp) (Below.heap_setCell _ _ _ _ (by simp; omega)) (fun r cs t fz hr hT => Below.heap_setCell _ _ _ _ (by unfold MvT at hT; simp; omega)), hp.snoc ⟨by omega, by omega⟩, ⟨⟨?_, ?_⟩, ?_, ?_⟩, ?_, by simpa using m6⟩
      · exact m1.other (by omega) _
      · rw [toOf_snoc]; exact m2.set _
      · exact m3.other (by omega) _
      · exact m4.other (by omega) _
      · exact m5.setCell (p := ⟨n1, 0, none⟩) (by show w.heap.size ≤ n1; omega) _
  case done =>
    rintro D ys W' hD rfl ⟨hp, ⟨⟨m1, m2⟩, m3, m4⟩, m5, m6⟩ hK
    have ct := m2.cell
    have fr := m3.frozen
    have cr := m3.cell
    have ci := m4.cell
    have fi := (m4.other (B' := w.heap.size + 1) (by omega) (.int .i64 (toOf x (grL 0 L)))).frozen
    have ci2 := (m4.other (B' := w.heap.size + 1) (by omega) (.int .i64 (toOf x (grL 0 L)))).cell
    obtain ⟨e1, e2⟩ := mv_all Hxw.out hp
    have hv : Hid (mvR L x = (toOf x (grL 0 L), true)) := Lib.hid (by unfold mvR; rw [e1, e2])
    clear e1 e2
    gi_wp2
    obtain ⟨⟨q1, q2⟩, q3⟩ := fin D W' _ (toOf x (grL 0 L)) true ((m3.set (.int .i64 (toOf x (grL 0 L)))).other (B' := w.heap.size + 1 + 1) (by omega) (.bool true)) ((m4.other (B' := w.heap.size + 1) (by omega) _).set _) ((KeepsOthers.setCell _ _ _).trans (KeepsOthers.setCell _ _ _)) hK (by omega) ((m5.setCell (p := ⟨w.heap.size + 1, 0, none⟩) (by show w.heap.size ≤ w.heap.size + 1; omega) _).setCell (p := ⟨w.heap.size + 1 + 1, 0, none⟩) (by show w.heap.size ≤ w.heap.size + 1 + 1; omega) _)
    refine ⟨by simp, .inl ⟨_, _, rfl, run_takeDeferred (((KeepsOthers.setCell _ _ _).trans (KeepsOthers.setCell _ _ _)).same D _ hK rfl), ?_⟩⟩
    exact ⟨.tuple #[.int .i64 (toOf x (grL 0 L)), .bool true], by simp [results, Try.results15, go_sem, q1, q2], by rw [hv.out], q3⟩
  case stop =>
    rintro D c pre W' hD hpre ⟨pre', y, rfl, hp, h⟩ hK
    rcases h with ⟨rfl, t1, ⟨⟨m1, m2⟩, m3, m4⟩, m5, m6⟩ | ⟨rfl, t1, t2, ⟨⟨m1, m2⟩, m3, m4⟩, m5, m6⟩
    · have ct := m2.cell
      have fr := m3.frozen
      have cr := m3.cell
      have ci := m4.cell
      have fi := (m4.other (B' := w.heap.size + 1) (by omega) (.int .i64 (toOf x pre'))).frozen
      have ci2 := (m4.other (B' := w.heap.size + 1) (by omega) (.int .i64 (toOf x pre'))).cell
      obtain ⟨n, e1, e2⟩ := mv_break Hxw.out hpre hp t1
      have hv : Hid (mvR L x = (toOf x pre', true)) := Lib.hid (by unfold mvR; rw [e1, e2])
      clear e1 e2
      gi_wp2
      obtain ⟨⟨q1, q2⟩, q3⟩ := fin D W' _ (toOf x pre') true ((m3.set (.int .i64 (toOf x pre'))).other (B' := w.heap.size + 1 + 1) (by omega) (.bool true)) ((m4.other (B' := w.heap.size + 1) (by omega) _).set _) ((KeepsOthers.setCell _ _ _).trans (KeepsOthers.setCell _ _ _)) hK (by omega) ((m5.setCell (p := ⟨w.heap.size + 1, 0, none⟩) (by show w.heap.size ≤ w.heap.size + 1; omega) _).setCell (p := ⟨w.heap.size + 1 + 1, 0, none⟩) (by show w.heap.size ≤ w.heap.size + 1 + 1; omega) _)
      refine ⟨by simp, .inl ⟨_, _, rfl, run_takeDeferred (((KeepsOthers.setCell _ _ _).trans (KeepsOthers.setCell _ _ _)).same D _ hK rfl), ?_⟩⟩
      exact ⟨.tuple #[.int .i64 (toOf x pre'), .bool true], by simp [results, Try.results15, go_sem, q1, q2], by rw [hv.out], q3⟩
    · have hv : Hid (mvR L x = (0, false)) := Lib.hid (by unfold mvR; rw [mv_ret hpre hp t1 t2])
      gi_wp2
      obtain ⟨⟨q1, q2⟩, q3⟩ := fin D W' W' 0 false m3 m4 (KeepsOthers.refl _) hK (by omega) m5
      refine ⟨by simp, .inl ⟨_, _, rfl, run_takeDeferred hK, ?_⟩⟩
      exact ⟨.tuple #[.int .i64 0, .bool false], by simp [results, Try.results15, go_sem, q1, q2], by rw [hv.out], q3⟩
theorem Moved_yes (v : Value) (L : List Ed) (x : Int) (w : World) (h1 : Eds w v L) (hlen : L.length ≤ 1000000) (hx : ¬ x < 0) (hxw : wrap64 x = x) (hok : chkB far none L = true) :
    Calls Try.prog 15 #[v, .int .i64 x] w fun e W' => e = .returned (.tuple #[.int .i64 (mvR L x).1, .bool (mvR L x).2]) ∧ Below w.heap.size w W' :=
  (callsIn_wide (n := 3)).1 (Moved_in 3 (Nat.le_refl _) v L x w h1 hlen hx hxw hok)
theorem Moved_low (v : Value) (L : List Ed) (x : Int) (w : World) (h1 : Eds w v L) (hx : x < 0) :
    Calls Try.prog 15 #[v, .int .i64 x] w fun e W' => e = .returned (.tuple #[.int .i64 0, .bool false]) ∧ Below w.heap.size w W' := by
  obtain ⟨a, cap, rfl, hc, hm, hat⟩ := h1
  clear hat
  have f0 : decide (x < 0) = true := decide_eq_true hx
  obtain ⟨W0, hW0⟩ : ∃ W0, Hid ((((w.alloc (.cells #[.int .i64 x] 3)).alloc (.cells #[.int .i64 0] 3)).alloc (.cells #[.bool false] 4)) = W0) := ⟨_, Lib.hid rfl⟩
  obtain ⟨b1, b2, b3, hb0, hsz0⟩ := three w 3 3 4 _ _ _ W0 hW0.out
  have c2 := b2.cell
  have c3 := b3.cell
  have g2 := b2.frozen
  have g3 := b3.frozen
  rw [← hW0.out] at c2 c3 g2 g3 hb0
  go_enter Try.func15, Try.ntmps15
  go_wp2_with fail
  exact bodyPost_ret (v := .tuple #[.int .i64 0, .bool false]) (by simp [results, Try.results15, go_sem, c2, c3]) rfl ⟨rfl, hb0⟩
set_option maxRecDepth 100000 in
set_option maxHeartbeats 4000000 in
theorem Moved_bad (v : Value) (L : List Ed) (x : Int) (w : World) (h1 : Eds w v L) (hx : ¬ x < 0) (hok : chkB far none L = false) :
    Calls Try.prog 15 #[v, .int .i64 x] w fun e W' => e = .returned (.tuple #[.int .i64 0, .bool false]) ∧ Below w.heap.size w W' := by
  have H1 := Lib.hid h1
  have Hok := Lib.hid hok
  obtain ⟨a, cap, rfl, hc, hm, hat⟩ := h1
  clear hat hok
  have f0 : decide (x < 0) = false := decide_eq_false hx
  obtain ⟨W0, hW0⟩ : ∃ W0, Hid ((((w.alloc (.cells #[.int .i64 x] 3)).alloc (.cells #[.int .i64 0] 3)).alloc (.cells #[.bool false] 4)) = W0) := ⟨_, Lib.hid rfl⟩
  obtain ⟨b1, b2, b3, hb0, hsz0⟩ := three w 3 3 4 _ _ _ W0 hW0.out
  have Hb0 := Lib.hid hb0
  clear hb0
  go_enter Try.func15, Try.ntmps15
  go_wp2_with fail
  rw [hW0.out]
  refine (valid_any _ L _ (H1.out.below Hb0.out)).mono ?_
  rw [Hok.out]
  rintro e w1 ⟨rfl, hb1⟩
  have c2 := boxed_below b2 hb1
  have c3 := boxed_below b3 hb1
  have n3 := ((c2.set (.int .i64 0)).other (B' := w.heap.size + 1 + 1) (by omega) (.bool false)).cell
  have n4 := ((c3.other (B' := w.heap.size + 1) (by omega) (.int .i64 0)).set (.bool false)).cell
  have hb := ((Hb0.out.trans (hb1.mono Hb0.out.size)).setCell (p := ⟨w.heap.size + 1, 0, none⟩) (by show w.heap.size ≤ w.heap.size + 1; omega) (.int .i64 0)).setCell (p := ⟨w.heap.size + 1 + 1, 0, none⟩) (by show w.heap.size ≤ w.heap.size + 1 + 1; omega) (.bool false)
  have d2 := c2.cell
  have d3 := c3.cell
  have g2 := c2.frozen
  have g3 := (c3.other (B' := w.heap.size + 1) (by omega) (.int .i64 0)).frozen
  clear hb1
  go_wp2_with fail
  exact bodyPost_ret (v := .tuple #[.int .i64 0, .bool false]) (by simp [results, Try.results15, go_sem, n3, n4]) rfl ⟨rfl, by simpa using hb⟩
def mvA (L : List Ed) (x : Int) : Int × Bool := if 0 ≤ x ∧ chkB far none L = true then mvR L x else (0, false)
theorem Moved_any (v : Value) (L : List Ed) (x : Int) (w : World) (h1 : Eds w v L) (hlen : L.length ≤ 1000000) (hxw : wrap64 x = x) :
    Calls Try.prog 15 #[v, .int .i64 x] w fun e W' => e = .returned (.tuple #[.int .i64 (mvA L x).1, .bool (mvA L x).2]) ∧ Below w.heap.size w W' := by
  unfold mvA
  by_cases h0 : x < 0
  · rw [if_neg (by omega)]; exact Moved_low v L x w h1 h0
  · cases hok : chkB far none L with
    | false => rw [if_neg (by simp)]; exact Moved_bad v L x w h1 h0 hok
    | true => rw [if_pos ⟨by omega, rfl⟩]; exact Moved_yes v L x w h1 hlen h0 hxw hok
end Go.Proofs.Ytpekbakidhfliaa
