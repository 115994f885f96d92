/-
  For the laws on the parser: two rows of nodes, one behind the other; the cells of a node that is laid anew. Condition: at most 5,000,000 nodes.
-/
import Derived.Test.YtbnbmjdjkadgoaaDoorXRe
namespace Go.Proofs.YtbnbmjdjkadgoaaDoor.X
open Go.RowKit Go.Shelf
set_option linter.unusedSimpArgs false
set_option linter.unusedVariables false

/-- An own row of nodes, each at rest on blocks of a kind, apart from the row. -/
structure OwnQ (P : Nat → Prop) (base : Nat) (W : World) (v : Value) (ps : List Pr) : Prop where
  row : W.ownsRow base 55 9 v ps.length (fv ps)
  bas : base ≤ W.heap.size
  own : ∀ b, v.ownBlock = some b → P b
  sup : ∀ p ∈ ps, ∃ F, Sup W base p.1.kids p.2 F ∧ ∀ b, F b → v.ownBlock ≠ some b ∧ P b
theorem OwnQ.kids {P : Nat → Prop} {base : Nat} {W : World} {v : Value} {ps : List Pr} (h : OwnQ P base W v ps) : ∃ F, Sup W base (ps.map (·.1)) v F ∧ ∀ b, F b → P b := by
  refine ⟨fun b => v.ownBlock = some b ∨ ∃ p ∈ ps, ∃ F, (Sup W base p.1.kids p.2 F ∧ ∀ c, F c → v.ownBlock ≠ some c ∧ P c) ∧ F b, ⟨fun b hb => ?_, fun V hV => ?_⟩, fun b hb => ?_⟩
  · rcases hb with hb | ⟨p, hp, F, hF, hb⟩
    · exact h.row.lt b hb
    · exact hF.1.1 b hb
  · have hkk : ∀ p ∈ ps, KidsAt V p.1.kids p.2 := fun p hp => by
      obtain ⟨F, hF, hn⟩ := h.sup p hp
      exact hF.2 V fun b hb => hV b (.inr ⟨p, hp, F, ⟨hF, hn⟩, hb⟩)
    rcases h.row.2 with ⟨rfl, h0⟩ | ⟨g, cap, cur, rfl, _, hg, h1, h2, h3, h4⟩
    · have : ps = [] := List.length_eq_zero_iff.1 h0
      subst this
      exact KidsAt.nil V
    · have hgV : V.heap[g]? = some (.cells cur 55 (0, 0)) := (hV g (.inl rfl)).trans hg
      refine KidsAt.of_rows h1 h2 fun k p hkp => ⟨g, 0, rfl, ?_, hkk p (List.mem_of_getElem? hkp)⟩
      have hkl := (List.getElem?_eq_some_iff.1 hkp).1
      have cell : ∀ j, j < 9 → V.cell? ⟨g, 0 + k * 9 + j, none⟩ = (rowP p)[j]? := fun j hj => by
        rw [← fv_get hkp j hj, ← h4, List.getElem?_take_of_lt (by omega), Nat.zero_add]
        simp [World.cell?, hgV]
      exact ⟨cell 0 (by omega), cell 1 (by omega), cell 2 (by omega), cell 3 (by omega), cell 4 (by omega), cell 5 (by omega), cell 6 (by omega), cell 7 (by omega), cell 8 (by omega)⟩
  · rcases hb with hb | ⟨p, hp, F, hF, hb⟩
    · exact h.own b hb
    · exact (hF.2 b hb).2
/-- More nodes, at rest on blocks of their own. -/
theorem OwnQ.app {P : Nat → Prop} {base n g cap : Nat} {W w' : World} {v : Value} {ps qs : List Pr} (h : OwnQ P base W v ps) (hq : ∀ q ∈ qs, ∃ F, Sup W base q.1.kids q.2 F ∧ ∀ b, F b → v.ownBlock ≠ some b ∧ P b)
    (hown : w'.ownsRow base 55 9 (.slice (some ⟨g, 0, none⟩) n cap) (ps.length + qs.length) (fv ps ++ fv qs)) (hgrow : W.grownBy w' v.ownBlock) (hat : v.ownBlock = some g ∨ g = W.heap.size) (hP : P W.heap.size) : OwnQ P base w' (.slice (some ⟨g, 0, none⟩) n cap) (ps ++ qs) := by
  have hs := hgrow.size
  have one : ∀ (q : Pr), (∃ G, Sup W base q.1.kids q.2 G ∧ ∀ b, G b → v.ownBlock ≠ some b ∧ P b) → ∃ G', Sup w' base q.1.kids q.2 G' ∧ ∀ b, G' b → (Value.slice (some ⟨g, 0, none⟩) n cap).ownBlock ≠ some b ∧ P b := fun q ⟨G, hq, hG⟩ => by
    refine ⟨G, hq.keep hs fun b hb => hgrow.block b (hq.1 b hb).2 fun e => (hG b hb).1 e.symm, fun b hb => ⟨fun e => ?_, (hG b hb).2⟩⟩
    obtain rfl : g = b := Option.some.inj e
    rcases hat with h1 | h1
    · exact (hG _ hb).1 h1
    · have := (hq.1 _ hb).2; omega
  refine ⟨by rw [List.length_append, fv_append]; exact hown, Nat.le_trans h.bas hs, fun b hb => ?_, fun q hq' => ?_⟩
  · obtain rfl : g = b := Option.some.inj hb
    rcases hat with h1 | h1
    · exact h.own _ h1
    · rw [h1]; exact hP
  · rcases List.mem_append.1 hq' with hq' | hq'
    · exact one q (h.sup q hq')
    · exact one q (hq q hq')
theorem wpList_append_q {w : World} {base lo : Nat} {P : Nat → Prop} {ops : Array Oper} {rest : List Oper} {o : Oper} {a : Act} {Q : Exit → Act → World → Prop} (hgd : o.guard = none) (s x : Operand)
    (ho : o.op = .call { callee := .builtin .append, args := #[s, x], argTypes := #[42, 42] })
    (v xv : Value) (ps qs : List Pr) (hs : a.eval s = v) (hown : OwnQ P base w v ps) (hx : a.eval x = xv) (hst : OwnS lo w xv qs)
    (hlo : ∀ b, v.ownBlock = some b → b < lo) (hPl : ∀ b, lo ≤ b → P b) (hbl : base ≤ lo) (hn : ps.length + qs.length ≤ 5000000)
    (h : ∀ a' n' c' w', OwnQ P base w' (.slice a' n' c') (ps ++ qs) → w.grownBy w' v.ownBlock → wpList Tryd.prog ops Q rest (a.put o.dst (.slice a' n' c')) w') : wpList Tryd.prog ops Q (o :: rest) a w := by
  obtain ⟨i0, hi, hz0, hz1, hz2⟩ := info_parts infoNode
  have hqs : ∀ q ∈ qs, ∃ F, Sup w base q.1.kids q.2 F ∧ ∀ b, F b → v.ownBlock ≠ some b ∧ P b := fun q hq => by
    obtain ⟨F, h1, h2⟩ := hst.2.2 q hq
    exact ⟨F, sup_low h1 hbl, fun b hb => ⟨fun e => by have := hlo b e; have := (h1.1 b hb).1; omega, hPl b (h1.1 b hb).1⟩⟩
  have hxx : a.eval x = xv := hx
  rcases hst.1.2 with ⟨rfl, h0⟩ | ⟨g, cap, cur, rfl, k1, hg, k2, k3, k4, k5⟩
  · have hy : qs = [] := List.length_eq_zero_iff.1 h0
    subst hy
    refine wpList_plain hgd fun K hK => ?_
    have hrun : (Builtin.append_ #[42, 42] o.type #[v, .slice none 0 0]).run Tryd.prog w = .ok v w := by
      rcases hown.row.2 with ⟨rfl, h0⟩ | ⟨g, cp, cur, rfl, _, _, hnc, _⟩
      · simp [Builtin.append_, run_underlying Tryd.underlying42, sizeOf, typeInfo, hi, Builtin.lenOf, Builtin.firstCells]
      · simp [Builtin.append_, run_underlying Tryd.underlying42, sizeOf, typeInfo, hi, Builtin.lenOf, Builtin.firstCells, hnc, storeCells]
    unfold Oper.wp
    simp [execOp, ho, resolve, invoke, builtin, hs, hxx, hrun, Result.andThen]
    rcases hown.row.2 with ⟨rfl, -⟩ | ⟨g, cp, cur, rfl, -⟩
    · exact hK _ _ (h none 0 0 w (by simpa using hown) (World.grownBy.refl _ _))
    · exact hK _ _ (h _ _ _ w (by simpa using hown) (World.grownBy.refl _ _))
  · rcases Nat.eq_zero_or_pos qs.length with hz | hpos
    · have hy : qs = [] := List.length_eq_zero_iff.1 hz
      subst hy
      refine wpList_plain hgd fun K hK => ?_
      have hrun : (Builtin.append_ #[42, 42] o.type #[v, .slice (some ⟨g, 0, none⟩) 0 cap]).run Tryd.prog w = .ok v w := by
        rcases hown.row.2 with ⟨rfl, h0⟩ | ⟨g2, cp, cur2, rfl, _, _, hnc, _⟩
        · simp [Builtin.append_, run_underlying Tryd.underlying42, sizeOf, typeInfo, hi, Builtin.lenOf, Builtin.firstCells, loadCells, loadCellsFrom, storeCells, Sem.run]
        · simp [Builtin.append_, run_underlying Tryd.underlying42, sizeOf, typeInfo, hi, Builtin.lenOf, Builtin.firstCells, hnc, loadCells, loadCellsFrom, storeCells, Sem.run]
      unfold Oper.wp
      simp [execOp, ho, resolve, invoke, builtin, hs, hxx, hrun, Result.andThen]
      rcases hown.row.2 with ⟨rfl, -⟩ | ⟨g, cp, cur, rfl, -⟩
      · exact hK _ _ (h none 0 0 w (by simpa using hown) (World.grownBy.refl _ _))
      · exact hK _ _ (h _ _ _ w (by simpa using hown) (World.grownBy.refl _ _))
    · refine wpList_append_lies w hgd s x 42 ho base 55 i0 _ 9 104 Tryd.underlying42 hi hz0 hz1 hz2 rfl (by decide) v ps.length (fv ps) hs hown.row ⟨g, 0, none⟩ qs.length cap (fv qs) hx (fv_len qs) ?_ (fv_one_cell fun q hqm => by obtain ⟨F, hF, -⟩ := hst.2.2 q hqm; exact slice_one hF.kids) hpos (by unfold maxLen; omega) (by omega) hown.bas w.heap.size rfl ?_
      · intro j u hj
        have hjl := (List.getElem?_eq_some_iff.1 hj).1
        rw [fv_len] at hjl
        rw [add_flat, Nat.zero_add]
        have e : cur.toList[j]? = some u := by
          rw [← hj, ← k5, List.getElem?_take_of_lt (by omega)]
        simp [World.cell?, hg] at e ⊢
        exact e
      · intro g2 cap2 w' h1 h2 h3 h4
        exact h _ _ _ w' (hown.app hqs h1 h2 h3 (hPl _ hst.2.1)) h2
end Go.Proofs.YtbnbmjdjkadgoaaDoor.X
