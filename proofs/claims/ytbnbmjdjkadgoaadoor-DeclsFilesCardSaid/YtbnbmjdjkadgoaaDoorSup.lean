/-
  For the laws of node: what a tree rests on; an own row of nodes that rest on blocks of their own. Condition: at most 5,000,000 nodes in a row.
-/
import Derived.Test.YtbnbmjdjkadgoaaDoorCnt
import Derived.Test.YtbnbmjdjkadgoaaDoorUpd
import Derived.Deep.AppendLies
namespace Go.Proofs.YtbnbmjdjkadgoaaDoor
open Go.RowKit Go.Shelf
set_option linter.unusedSimpArgs false
set_option linter.unusedVariables false

/-- The kids ks at v rest on the blocks F, all from lo on: where they are as they were, the kids are. -/
def Sup (W : World) (lo : Nat) (ks : List Nd) (v : Value) (F : Nat → Prop) : Prop := (∀ b, F b → lo ≤ b ∧ b < W.heap.size) ∧ ∀ V : World, (∀ b, F b → V.heap[b]? = W.heap[b]?) → KidsAt V ks v
theorem Sup.kids {W : World} {lo : Nat} {ks : List Nd} {v : Value} {F : Nat → Prop} (h : Sup W lo ks v F) : KidsAt W ks v := h.2 W fun _ _ => rfl
theorem Sup.keep {W W' : World} {lo : Nat} {ks : List Nd} {v : Value} {F : Nat → Prop} (h : Sup W lo ks v F) (hs : W.heap.size ≤ W'.heap.size) (hb : ∀ b, F b → W'.heap[b]? = W.heap[b]?) : Sup W' lo ks v F :=
  ⟨fun b hF => ⟨(h.1 b hF).1, Nat.lt_of_lt_of_le (h.1 b hF).2 hs⟩, fun V hV => h.2 V fun b hF => (hV b hF).trans (hb b hF)⟩
theorem Sup.below {W W' : World} {lo : Nat} {ks : List Nd} {v : Value} {F : Nat → Prop} (h : Sup W lo ks v F) (hb : Below W.heap.size W W') : Sup W' lo ks v F := h.keep hb.size fun b hF => hb.block b (h.1 b hF).2
/-- An own row of nodes, each at rest on blocks from base on, apart from the row. -/
def OwnS (base : Nat) (W : World) (v : Value) (ps : List Pr) : Prop := W.ownsRow base 55 9 v ps.length (fv ps) ∧ base ≤ W.heap.size ∧ ∀ p ∈ ps, ∃ F, Sup W base p.1.kids p.2 F ∧ ∀ b, F b → v.ownBlock ≠ some b
theorem OwnS.nil {base : Nat} {W : World} (h : base ≤ W.heap.size) : OwnS base W (.slice none 0 0) [] := ⟨World.ownsRow_nil _ _ _ _, h, fun p hp => by cases hp⟩
theorem OwnS.below {base : Nat} {W W' : World} {v : Value} {ps : List Pr} (h : OwnS base W v ps) (hb : Below W.heap.size W W') : OwnS base W' v ps := by
  refine ⟨own_below h.1 hb, Nat.le_trans h.2.1 hb.size, fun p hp => ?_⟩
  obtain ⟨F, h1, h2⟩ := h.2.2 p hp
  exact ⟨F, h1.below hb, h2⟩
/-- What the row rests on. -/
theorem OwnS.sup {base : Nat} {W : World} {v : Value} {ps : List Pr} (h : OwnS base W v ps) : ∃ F, Sup W base (ps.map (·.1)) v F := by
  refine ⟨fun b => v.ownBlock = some b ∨ ∃ p ∈ ps, ∃ F, (Sup W base p.1.kids p.2 F ∧ ∀ c, F c → v.ownBlock ≠ some c) ∧ F b, fun b hb => ?_, fun V hV => ?_⟩
  · rcases hb with hb | ⟨p, hp, F, hF, hb⟩
    · exact h.1.lt b hb
    · exact hF.1.1 b hb
  · have hkk : ∀ p ∈ ps, KidsAt V p.1.kids p.2 := fun p hp => by
      obtain ⟨F, hF, hn⟩ := h.2.2 p hp
      exact hF.2 V fun b hb => hV b (.inr ⟨p, hp, F, ⟨hF, hn⟩, hb⟩)
    rcases h.1.2 with ⟨rfl, h0⟩ | ⟨g, cap, cur, rfl, _, hg, h1, h2, h3, h4⟩
    · have : ps = [] := List.length_eq_zero_iff.1 h0
      subst this
      exact KidsAt.nil V
    · have hgV : V.heap[g]? = some (.cells cur 55 (0, 0)) := (hV g (.inl rfl)).trans hg
      refine KidsAt.of_rows h1 h2 fun k p hkp => ⟨g, 0, rfl, ?_, hkk p (List.mem_of_getElem? hkp)⟩
      have hkl := (List.getElem?_eq_some_iff.1 hkp).1
      have cell : ∀ j, j < 9 → V.cell? ⟨g, 0 + k * 9 + j, none⟩ = (rowP p)[j]? := fun j hj => by
        rw [← fv_get hkp j hj, ← h4, List.getElem?_take_of_lt (by omega), Nat.zero_add]
        simp [World.cell?, hgV]
      exact ⟨cell 0 (by omega), cell 1 (by omega), cell 2 (by omega), cell 3 (by omega), cell 4 (by omega), cell 5 (by omega), cell 6 (by omega), cell 7 (by omega), cell 8 (by omega)⟩
/-- One node more, at rest on blocks of its own. -/
theorem OwnS.snoc {base n g cap : Nat} {W w' : World} {v : Value} {ps : List Pr} {p : Pr} {F : Nat → Prop} (h : OwnS base W v ps) (hp : Sup W base p.1.kids p.2 F) (hF : ∀ b, F b → v.ownBlock ≠ some b)
    (hown : w'.ownsRow base 55 9 (.slice (some ⟨g, 0, none⟩) n cap) (ps.length + 1) (fv ps ++ rowP p)) (hgrow : W.grownBy w' v.ownBlock) (hat : v.ownBlock = some g ∨ g = W.heap.size) : OwnS base w' (.slice (some ⟨g, 0, none⟩) n cap) (ps ++ [p]) := by
  have hs := hgrow.size
  have one : ∀ (q : Pr) (G : Nat → Prop), Sup W base q.1.kids q.2 G → (∀ b, G b → v.ownBlock ≠ some b) → ∃ G', Sup w' base q.1.kids q.2 G' ∧ ∀ b, G' b → (Value.slice (some ⟨g, 0, none⟩) n cap).ownBlock ≠ some b := fun q G hq hG => by
    refine ⟨G, hq.keep hs fun b hb => hgrow.block b (hq.1 b hb).2 fun e => hG b hb e.symm, fun b hb e => ?_⟩
    obtain rfl : g = b := Option.some.inj e
    rcases hat with h1 | h1
    · exact hG _ hb h1
    · have := (hq.1 _ hb).2; omega
  refine ⟨by rw [List.length_append, fv_append, fv_one]; exact hown, Nat.le_trans h.2.1 hs, fun q hq => ?_⟩
  rcases List.mem_append.1 hq with hq | hq
  · obtain ⟨G, h1, h2⟩ := h.2.2 q hq
    exact one q G h1 h2
  · obtain rfl := List.mem_singleton.1 hq
    exact one q F hp hF
end Go.Proofs.YtbnbmjdjkadgoaaDoor
