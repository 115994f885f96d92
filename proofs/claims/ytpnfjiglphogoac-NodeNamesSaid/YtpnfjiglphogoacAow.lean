/-
  For the laws of node: the row of copies that All builds. No condition.
-/
import Derived.Test.YtpnfjiglphogoacNco
import Derived.Laws.OwnMore
namespace Go.Proofs.Ytpnfjiglphogoac
open Go.RowKit Go.Shelf
set_option linter.unusedSimpArgs false
set_option linter.unusedVariables false

theorem sepK_typed {W : World} : ∀ {d : Nat} {ks : List Nd} {v : Value} {F : List Nat}, SepK W d ks v F → ∀ b ∈ F, ∃ cs, W.heap[b]? = some (Obj.cells cs 24 (0, 0))
  | 0, ks, v, F, ⟨_, h, _⟩, b, hb => by rw [h] at hb; cases hb
  | d + 1, ks, v, F, .inl ⟨_, h, _⟩, b, hb => by rw [h] at hb; cases hb
  | d + 1, ks, v, F, .inr ⟨N, cap, Fs, e, h1, h2, h3, h4, h5, hx⟩, b, hb => by
    rw [h4] at hb
    rcases List.mem_cons.1 hb with rfl | hb
    · obtain ⟨cs, hc, -⟩ := h5
      exact ⟨cs, hc⟩
    · obtain ⟨Fk, hFk, hbk⟩ := List.mem_flatten.1 hb
      obtain ⟨k, hk⟩ := List.getElem?_of_mem hFk
      have hkl := (List.getElem?_eq_some_iff.1 hk).1
      obtain ⟨kv, -, hs⟩ := hx k ks[k] Fk (List.getElem?_eq_getElem (by omega)) hk
      exact sepK_typed hs b hbk
theorem SepAt.typed {W : World} {ks : List Nd} {v : Value} {F : List Nat} (h : SepAt W ks v F) : ∀ b ∈ F, ∃ cs, W.heap[b]? = some (Obj.cells cs 24 (0, 0)) := sepK_typed h.choose_spec
/-- A node's kids lie in rows of their own, apart from the row of v. -/
def KIn (base : Nat) (W : World) (v : Value) (p : Pr) : Prop := ∃ F, SepAt W p.1.kids p.2 F ∧ ∀ b ∈ F, base ≤ b ∧ v.ownBlock ≠ some b
def OwnA (base : Nat) (W : World) (v : Value) (ps : List Pr) : Prop := W.ownsRow base 24 9 v ps.length (fv ps) ∧ ∀ p ∈ ps, KIn base W v p
theorem OwnA.nil (base : Nat) (W : World) : OwnA base W (.slice none 0 0) [] := ⟨World.ownsRow_nil _ _ _ _, fun p hp => by cases hp⟩
theorem OwnA.keep {base : Nat} {W W' : World} {v : Value} {ps : List Pr} (h : OwnA base W v ps) (hb : ∀ (b : Nat) (cs : Array Value), base ≤ b → W.heap[b]? = some (Obj.cells cs 24 (0, 0)) → W'.heap[b]? = some (Obj.cells cs 24 (0, 0))) : OwnA base W' v ps := by
  refine ⟨own_same h.1 fun g hg => ?_, fun p hp => ?_⟩
  · obtain ⟨cs, hc⟩ := own_type h.1 hg
    exact (hb g cs (h.1.lt g hg).1 hc).trans hc.symm
  · obtain ⟨F, hF, hx⟩ := h.2 p hp
    exact ⟨F, hF.keep fun b hbF => by
      obtain ⟨cs, hc⟩ := hF.typed b hbF
      exact (hb b cs (hx b hbF).1 hc).trans hc.symm, hx⟩
theorem OwnA.kids {base : Nat} {W : World} {v : Value} {ps : List Pr} (h : OwnA base W v ps) : KidsAt W (ps.map (·.1)) v := by
  obtain ⟨ho, hk⟩ := h
  have hkk : ∀ p ∈ ps, KidsAt W p.1.kids p.2 := fun p hp => by obtain ⟨F, hF, -⟩ := hk p hp; exact hF.kids
  rcases ho.2 with ⟨rfl, h0⟩ | ⟨g, cap, cur, rfl, _, hg, h1, h2, h3, h4⟩
  · have : ps = [] := List.length_eq_zero_iff.1 h0
    subst this
    exact KidsAt.nil W
  · refine KidsAt.of_rows h1 h2 fun k p hkp => ⟨g, 0, rfl, ?_, hkk p (List.mem_of_getElem? hkp)⟩
    have hkl := (List.getElem?_eq_some_iff.1 hkp).1
    have cell : ∀ j, j < 9 → W.cell? ⟨g, 0 + k * 9 + j, none⟩ = (rowP p)[j]? := fun j hj => by
      rw [← fv_get hkp j hj, ← h4, List.getElem?_take_of_lt (by omega), Nat.zero_add]
      simp [World.cell?, hg]
    exact ⟨cell 0 (by omega), cell 1 (by omega), cell 2 (by omega), cell 3 (by omega), cell 4 (by omega), cell 5 (by omega), cell 6 (by omega), cell 7 (by omega), cell 8 (by omega)⟩
/-- The nine cells of a node stored. -/
def nineAt (W : World) (g o : Nat) (h : Hd) (kv : Value) : World := (((((((((W.setCell ⟨g, o, none⟩ (.int .i64 h.kind)).setCell ⟨g, o + 1, none⟩ (.string (bs h.text))).setCell ⟨g, o + 2, none⟩ (.string (bs h.type))).setCell ⟨g, o + 3, none⟩ (.int .i64 h.n)).setCell ⟨g, o + 4, none⟩ (.int .i64 h.fr)).setCell ⟨g, o + 5, none⟩ (.int .i64 h.to_)).setCell ⟨g, o + 6, none⟩ (.int .i64 h.at_)).setCell ⟨g, o + 7, none⟩ (.int .i64 h.tat)).setCell ⟨g, o + 8, none⟩ kv)
theorem nineAt_other (W : World) (g o : Nat) (h : Hd) (kv : Value) (q : Nat) (hq : q ≠ g) : (nineAt W g o h kv).heap[q]? = W.heap[q]? := by
  unfold nineAt
  repeat rw [Below.heap_setCell _ _ _ q (by simpa using hq)]
theorem nineAt_size (W : World) (g o : Nat) (h : Hd) (kv : Value) : (nineAt W g o h kv).heap.size = W.heap.size := by
  unfold nineAt
  simp [World.setCell]
theorem set_last {A : List Value} {n j : Nat} (hA : A.length = n * 9) (B : List Value) (u : Value) : (A ++ B).set (n * 9 + j) u = A ++ B.set j u := by
  rw [List.set_append_right _ _ (by omega), hA, Nat.add_sub_cancel_left]
theorem own_nine {W : World} {base n cap g : Nat} {ps : List Pr} {a b c d e f g' h i : Value} (ho : W.ownsRow base 24 9 (.slice (some ⟨g, 0, none⟩) (n + 1) cap) (n + 1) (fv ps ++ [a, b, c, d, e, f, g', h, i])) (hn : ps.length = n) (t : Nd) (kv : Value) :
    (nineAt W g (n * 9) t.hd kv).ownsRow base 24 9 (.slice (some ⟨g, 0, none⟩) (n + 1) cap) (n + 1) (fv (ps ++ [(t, kv)])) := by
  have hl : (fv ps).length = n * 9 := by rw [fv_len, hn]
  unfold nineAt
  have s := (((((((((ho.stored (n * 9) (.int .i64 t.hd.kind)).1.stored (n * 9 + 1) (.string (bs t.hd.text))).1.stored (n * 9 + 2) (.string (bs t.hd.type))).1.stored (n * 9 + 3) (.int .i64 t.hd.n)).1.stored (n * 9 + 4) (.int .i64 t.hd.fr)).1.stored (n * 9 + 5) (.int .i64 t.hd.to_)).1.stored (n * 9 + 6) (.int .i64 t.hd.at_)).1.stored (n * 9 + 7) (.int .i64 t.hd.tat)).1.stored (n * 9 + 8) kv).1
  rw [show n * 9 = n * 9 + 0 from rfl] at s
  simp only [Nat.add_zero] at s
  rw [show (fv ps ++ [a, b, c, d, e, f, g', h, i]).set (n * 9) (.int .i64 t.hd.kind) = fv ps ++ [a, b, c, d, e, f, g', h, i].set 0 (.int .i64 t.hd.kind) from set_last (j := 0) hl _ _] at s
  rw [set_last hl, set_last hl, set_last hl, set_last hl, set_last hl, set_last hl, set_last hl, set_last hl] at s
  rw [fv_append, fv_one]
  exact s
theorem all_step {base : Nat} {wr w6 w7 V : World} {v : Value} {ps : List Pr} {g7 cap : Nat} {t2 : Nd} {kv : Value} {F : List Nat} {bx : Nat}
    (hO : OwnA base wr v ps) (hbase : base ≤ wr.heap.size) (h6 : Below wr.heap.size wr w6) (hF : SepAt w6 t2.kids kv F) (hF2 : ∀ b ∈ F, wr.heap.size ≤ b)
    (h7 : w6.grownBy w7 v.ownBlock) (hor : v.ownBlock = some g7 ∨ g7 = w6.heap.size)
    (hV : V.ownsRow base 24 9 (.slice (some ⟨g7, 0, none⟩) (ps.length + 1) cap) (ps.length + 1) (fv (ps ++ [(t2, kv)])))
    (hV2 : ∀ q, q ≠ g7 → q ≠ bx → V.heap[q]? = w7.heap[q]?) (hbx : bx < base) :
    OwnA base V (.slice (some ⟨g7, 0, none⟩) (ps.length + 1) cap) (ps ++ [(t2, kv)]) ∧ (∀ q, q < wr.heap.size → v.ownBlock ≠ some q → q ≠ bx → V.heap[q]? = wr.heap[q]?) := by
  have hs6 := h6.size
  have G : ∀ q, q < wr.heap.size → v.ownBlock ≠ some q → q ≠ bx → V.heap[q]? = wr.heap[q]? := fun q hq hv hb => by
    have hg : q ≠ g7 := fun e => by
      subst e
      rcases hor with h | h
      · exact hv h
      · omega
    rw [hV2 q hg hb, h7.block q (by omega) (fun e => hv e.symm), h6.block q hq]
  refine ⟨⟨by rw [List.length_append]; exact hV, fun p hp => ?_⟩, G⟩
  rcases List.mem_append.1 hp with hp | hp
  · obtain ⟨F', hF', hx⟩ := hO.2 p hp
    have hlt : ∀ b ∈ F', b < wr.heap.size := fun b hb => by obtain ⟨cs, hc⟩ := hF'.typed b hb; exact (Array.getElem?_eq_some_iff.1 hc).1
    refine ⟨F', hF'.keep fun b hb => G b (hlt b hb) (hx b hb).2 (by have := (hx b hb).1; omega), fun b hb => ⟨(hx b hb).1, fun e => ?_⟩⟩
    obtain rfl : g7 = b := Option.some.inj e
    have hl := hlt _ hb
    rcases hor with h | h
    · exact (hx _ hb).2 h
    · omega
  · obtain rfl := List.mem_singleton.1 hp
    have hlt : ∀ b ∈ F, b < w6.heap.size := fun b hb => by obtain ⟨cs, hc⟩ := hF.typed b hb; exact (Array.getElem?_eq_some_iff.1 hc).1
    have hne : ∀ b ∈ F, v.ownBlock ≠ some b := fun b hb e => by have := (hO.1.lt b e).2; have := hF2 b hb; omega
    have hg : ∀ b ∈ F, b ≠ g7 := fun b hb e => by
      subst e
      rcases hor with h | h
      · exact hne _ hb h
      · have := hlt _ hb; omega
    exact ⟨F, hF.keep fun b hb => by
      rw [hV2 b (hg b hb) (by have := hF2 b hb; omega)]
      exact h7.block b (hlt b hb) (fun e => hne b hb e.symm), fun b hb => ⟨by have := hF2 b hb; omega, fun e => hg b hb (Option.some.inj e).symm⟩⟩
theorem nineAt_below {n0 : Nat} (W : World) (g o : Nat) (h : Hd) (kv : Value) (hn : n0 ≤ g) : Below n0 W (nineAt W g o h kv) := by
  unfold nineAt
  exact (((((((((Below.refl n0 W).setCell (p := ⟨g, o, none⟩) hn _).setCell (p := ⟨g, o + 1, none⟩) hn _).setCell (p := ⟨g, o + 2, none⟩) hn _).setCell (p := ⟨g, o + 3, none⟩) hn _).setCell (p := ⟨g, o + 4, none⟩) hn _).setCell (p := ⟨g, o + 5, none⟩) hn _).setCell (p := ⟨g, o + 6, none⟩) hn _).setCell (p := ⟨g, o + 7, none⟩) hn _).setCell (p := ⟨g, o + 8, none⟩) hn _
section
variable {w7 : World} {base M cap g bx n0 : Nat} {ps : List Pr} {a b c d e f g' h i : Value}
/-- The new node stored, then the row's box. -/
theorem nine_a (ho : w7.ownsRow base 24 9 (.slice (some ⟨g, 0, none⟩) (M + 1) cap) (M + 1) (fv ps ++ [a, b, c, d, e, f, g', h, i])) (hn : ps.length = M) (t : Nd) (kv : Value) {u : Value} (hb : Boxed w7 bx 22 u) (hne : bx ≠ g) (h1 : n0 ≤ g) (h2 : n0 ≤ bx) {V : World}
    (hV : V = (nineAt w7 g (M * 9) t.hd kv).setCell ⟨bx, 0, none⟩ (.slice (some ⟨g, 0, none⟩) (M + 1) cap)) :
    V.ownsRow base 24 9 (.slice (some ⟨g, 0, none⟩) (M + 1) cap) (M + 1) (fv (ps ++ [(t, kv)])) ∧ Boxed V bx 22 (.slice (some ⟨g, 0, none⟩) (M + 1) cap) ∧ (∀ q, q ≠ g → q ≠ bx → V.heap[q]? = w7.heap[q]?) ∧ w7.heap.size ≤ V.heap.size ∧ Below n0 w7 V := by
  subst hV
  refine ⟨own_same (own_nine ho hn t kv) fun q hq => ?_, ?_, fun q h3 h4 => ?_, ?_, ?_⟩
  · obtain rfl : g = q := Option.some.inj hq
    exact Below.heap_setCell _ ⟨bx, 0, none⟩ _ g (by simpa using (Ne.symm hne))
  · have hb2 : Boxed (nineAt w7 g (M * 9) t.hd kv) bx 22 u := (nineAt_other w7 g _ _ _ bx hne).trans hb
    exact hb2.set _
  · exact (Below.heap_setCell _ ⟨bx, 0, none⟩ _ q (by simpa using h4)).trans (nineAt_other _ _ _ _ _ q h3)
  · have := nineAt_size w7 g (M * 9) t.hd kv
    simp [World.setCell, this]
  · exact (nineAt_below w7 g _ _ _ h1).setCell (p := ⟨bx, 0, none⟩) h2 _
/-- The row's box stored, then the new node. -/
theorem nine_b (ho : w7.ownsRow base 24 9 (.slice (some ⟨g, 0, none⟩) (M + 1) cap) (M + 1) (fv ps ++ [a, b, c, d, e, f, g', h, i])) (hn : ps.length = M) (t : Nd) (kv : Value) {u : Value} (hb : Boxed w7 bx 22 u) (hne : bx ≠ g) (h1 : n0 ≤ g) (h2 : n0 ≤ bx) {V : World}
    (hV : V = nineAt (w7.setCell ⟨bx, 0, none⟩ (.slice (some ⟨g, 0, none⟩) (M + 1) cap)) g (M * 9) t.hd kv) :
    V.ownsRow base 24 9 (.slice (some ⟨g, 0, none⟩) (M + 1) cap) (M + 1) (fv (ps ++ [(t, kv)])) ∧ Boxed V bx 22 (.slice (some ⟨g, 0, none⟩) (M + 1) cap) ∧ (∀ q, q ≠ g → q ≠ bx → V.heap[q]? = w7.heap[q]?) ∧ w7.heap.size ≤ V.heap.size ∧ Below n0 w7 V := by
  subst hV
  have ho2 := own_same (W' := w7.setCell ⟨bx, 0, none⟩ (.slice (some ⟨g, 0, none⟩) (M + 1) cap)) ho fun q hq => by
    obtain rfl : g = q := Option.some.inj hq
    exact Below.heap_setCell _ ⟨bx, 0, none⟩ _ g (by simpa using (Ne.symm hne))
  refine ⟨own_nine ho2 hn t kv, ?_, fun q h3 h4 => ?_, ?_, ?_⟩
  · exact (nineAt_other _ g _ _ _ bx hne).trans (hb.set _)
  · exact (nineAt_other _ _ _ _ _ q h3).trans (Below.heap_setCell _ ⟨bx, 0, none⟩ _ q (by simpa using h4))
  · rw [nineAt_size]
    simp [World.setCell]
  · exact ((Below.refl n0 w7).setCell (p := ⟨bx, 0, none⟩) h2 _).trans (nineAt_below _ g _ _ _ h1)
end
end Go.Proofs.Ytpnfjiglphogoac
