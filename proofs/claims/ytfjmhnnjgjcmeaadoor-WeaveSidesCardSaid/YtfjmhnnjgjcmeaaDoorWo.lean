/-
  For the laws of weave: one open piece in memory: what an append to one of its texts and a store of it leave. No condition.
-/
import Derived.Test.YtfjmhnnjgjcmeaaDoorApp
namespace Go.Proofs.YtfjmhnnjgjcmeaaDoor
open Go.RowKit Go.Shelf
set_option linter.unusedSimpArgs false
set_option linter.unusedVariables false

theorem own_grown {A B : World} {base e size n : Nat} {v : Value} {xs : List Value} {ob : Option Nat} (h : A.ownsRow base e size v n xs) (hg : A.grownBy B ob) (hne : v.ownBlock = none ∨ v.ownBlock ≠ ob) : B.ownsRow base e size v n xs := by
  refine ⟨h.1, ?_⟩
  rcases h.2 with h0 | ⟨g, cap, cur, rfl, h1, hgb, h2, h3, h4, h5⟩
  · exact .inl h0
  · have hn : some g ≠ ob := by
      rcases hne with hne | hne
      · simp [Value.ownBlock] at hne
      · simpa [Value.ownBlock] using hne
    exact .inr ⟨g, cap, cur, rfl, h1, (hg.block g (Array.getElem?_eq_some_iff.1 hgb).1 hn).trans hgb, h2, h3, h4, h5⟩
theorem own_other {A : World} {base e size n : Nat} {v : Value} {xs : List Value} (h : A.ownsRow base e size v n xs) {g : Nat} (hne : some g ≠ v.ownBlock) (j : Nat) (u : Value) : (A.setCell ⟨g, j, none⟩ u).ownsRow base e size v n xs := by
  refine ⟨h.1, ?_⟩
  rcases h.2 with h0 | ⟨g2, cap, cur, rfl, h1, hgb, h2, h3, h4, h5⟩
  · exact .inl h0
  · have hn : g2 ≠ g := by intro e; apply hne; rw [e]; simp [Value.ownBlock]
    have hr : RowAt A g2 e cur := hgb
    exact .inr ⟨g2, cap, cur, rfl, h1, hr.other hn j u, h2, h3, h4, h5⟩
theorem kpm_row {n1 m n : Nat} {v : Value} {xs : List Value} {A B : World} (h : A.ownsRow m 9 1 v n xs) (h1 : n1 ≤ m) (h2 : m ≤ A.heap.size) (hg : A.grownBy B v.ownBlock) : KpM n1 m A B :=
  ⟨(Below.refl n1 A).grown hg (Nat.le_trans h1 h2) (fun k e => Nat.le_trans h1 (h.lt k e).1), fun b cs hb hr => (hg.block b hr.lt (fun e => by have := (h.lt b e.symm).1; omega)).trans hr⟩
/-- One piece is open. -/
structure Opn (n1 m g cap np : Nat) (P : List Pv) (l : List Pc) (u1 u2 vo va : Value) (xo xa : TL) (W : World) : Prop where
  len : P.length = np
  le1 : n1 ≤ m
  le2 : m ≤ W.heap.size
  set : Setl n1 m W P l
  row : W.ownsRow n1 55 4 (.slice (some ⟨g, 0, none⟩) (np + 1) cap) (np + 1) (pvv (P ++ [⟨false, u1, u2, .slice none 0 0⟩]))
  o : W.ownsRow m 9 1 vo xo.length (xo.map .string)
  a : W.ownsRow m 9 1 va xa.length (xa.map .string)
  ne : vo.ownBlock = none ∨ vo.ownBlock ≠ va.ownBlock
section
variable {n1 m g cap np : Nat} {P : List Pv} {l : List Pc} {u1 u2 vo va : Value} {xo xa : TL} {W B : World}
theorem Opn.blk (h : Opn n1 m g cap np P l u1 u2 vo va xo xa W) : n1 ≤ g ∧ g < W.heap.size ∧ ∃ cs, RowAt W g 55 cs := by
  obtain ⟨g', cap', e, h1, h2, -, -, h3, -⟩ := own_cells h.row (by omega)
  cases e
  exact ⟨h1, h2, h3⟩
theorem Opn.far_o (h : Opn n1 m g cap np P l u1 u2 vo va xo xa W) : some g ≠ vo.ownBlock := by
  obtain ⟨-, -, cs, hr⟩ := h.blk
  exact own_type h.o hr (by decide)
theorem Opn.far_a (h : Opn n1 m g cap np P l u1 u2 vo va xo xa W) : some g ≠ va.ownBlock := by
  obtain ⟨-, -, cs, hr⟩ := h.blk
  exact own_type h.a hr (by decide)
theorem Opn.cells (h : Opn n1 m g cap np P l u1 u2 vo va xo xa W) : (W.cell? ⟨g, np * 4 + 1, none⟩ = some u1 ∧ W.frozen? ⟨g, np * 4 + 1, none⟩ = false) ∧ W.cell? ⟨g, np * 4 + 2, none⟩ = some u2 ∧ W.frozen? ⟨g, np * 4 + 2, none⟩ = false := by
  obtain ⟨-, -, cs, hr⟩ := h.blk
  obtain ⟨g', cap', e, -, -, -, -, -, hc⟩ := own_cells h.row (by omega)
  cases e
  have hl := h.len
  exact ⟨⟨hc _ _ (by rw [pvv_snoc, List.getElem?_append_right (by rw [pvv_len]; omega), pvv_len, hl, Nat.add_sub_cancel_left]; rfl), hr.frozen _⟩, hc _ _ (by rw [pvv_snoc, List.getElem?_append_right (by rw [pvv_len]; omega), pvv_len, hl, Nat.add_sub_cancel_left]; rfl), hr.frozen _⟩
theorem Opn.after_o {ys : TL} {v' : Value} (h : Opn n1 m g cap np P l u1 u2 vo va xo xa W) (ho : B.ownsRow m 9 1 v' (xo.length + ys.length) (xo.map Value.string ++ ys.map Value.string)) (hg : W.grownBy B vo.ownBlock) (hv : v'.ownBlock = vo.ownBlock ∨ v'.ownBlock = some W.heap.size) :
    Opn n1 m g cap np P l u1 u2 v' va (xo ++ ys) xa B ∧ KpM n1 m W B := by
  have hk := kpm_row h.o h.le1 h.le2 hg
  refine ⟨⟨h.len, h.le1, Nat.le_trans h.le2 hg.size, h.set.keep hk, own_grown h.row hg (.inr (by simpa [Value.ownBlock] using h.far_o)), by simpa using ho, own_grown h.a hg ?_, ?_⟩, hk⟩
  · rcases h.ne with e | e
    · cases hva : va.ownBlock with
      | none => exact .inl rfl
      | some k => right; rw [e]; simp
    · exact .inr (Ne.symm e)
  · rcases hv with e | e
    · rw [e]; exact h.ne
    · right
      intro e2
      rw [e] at e2
      have := (h.a.lt _ e2.symm).2
      omega
theorem Opn.after_a {ys : TL} {v' : Value} (h : Opn n1 m g cap np P l u1 u2 vo va xo xa W) (ho : B.ownsRow m 9 1 v' (xa.length + ys.length) (xa.map Value.string ++ ys.map Value.string)) (hg : W.grownBy B va.ownBlock) (hv : v'.ownBlock = va.ownBlock ∨ v'.ownBlock = some W.heap.size) :
    Opn n1 m g cap np P l u1 u2 vo v' xo (xa ++ ys) B ∧ KpM n1 m W B := by
  have hk := kpm_row h.a h.le1 h.le2 hg
  refine ⟨⟨h.len, h.le1, Nat.le_trans h.le2 hg.size, h.set.keep hk, own_grown h.row hg (.inr (by simpa [Value.ownBlock] using h.far_a)), own_grown h.o hg h.ne, by simpa using ho, ?_⟩, hk⟩
  rcases hv with e | e
  · rw [e]; exact h.ne
  · right
    intro e2
    rw [e] at e2
    have := (h.o.lt _ e2).2
    omega
theorem Opn.kpm_set (h : Opn n1 m g cap np P l u1 u2 vo va xo xa W) (j : Nat) (u : Value) : KpM n1 m W (W.setCell ⟨g, j, none⟩ u) := by
  obtain ⟨h1, h2, cs, hr⟩ := h.blk
  refine ⟨(Below.refl n1 W).setCell (p := ⟨g, j, none⟩) h1 u, fun b cs' _ hb => hb.other ?_ j u⟩
  intro e
  subst e
  unfold RowAt at hb hr
  rw [hr] at hb
  cases hb
theorem Opn.store1 (h : Opn n1 m g cap np P l u1 u2 vo va xo xa W) (u : Value) : Opn n1 m g cap np P l u u2 vo va xo xa (W.setCell ⟨g, np * 4 + 1, none⟩ u) ∧ KpM n1 m W (W.setCell ⟨g, np * 4 + 1, none⟩ u) := by
  have hk := h.kpm_set (np * 4 + 1) u
  refine ⟨⟨h.len, h.le1, Nat.le_trans h.le2 hk.1.size, h.set.keep hk, ?_, own_other h.o h.far_o _ _, own_other h.a h.far_a _ _, h.ne⟩, hk⟩
  have := own_store h.row (j := np * 4 + 1) (by omega) u
  rwa [← h.len, pvv_set1, h.len] at this
theorem Opn.store2 (h : Opn n1 m g cap np P l u1 u2 vo va xo xa W) (u : Value) : Opn n1 m g cap np P l u1 u vo va xo xa (W.setCell ⟨g, np * 4 + 2, none⟩ u) ∧ KpM n1 m W (W.setCell ⟨g, np * 4 + 2, none⟩ u) := by
  have hk := h.kpm_set (np * 4 + 2) u
  refine ⟨⟨h.len, h.le1, Nat.le_trans h.le2 hk.1.size, h.set.keep hk, ?_, own_other h.o h.far_o _ _, own_other h.a h.far_a _ _, h.ne⟩, hk⟩
  have := own_store h.row (j := np * 4 + 2) (by omega) u
  rwa [← h.len, pvv_set2, h.len] at this
theorem Opn.to (h : Opn n1 m g cap np P l vo va vo va xo xa W) : CbI n1 (l, some (xo, xa)) (.slice (some ⟨g, 0, none⟩) (np + 1) cap) W := by
  refine ⟨P, m, h.le1, h.le2, h.set, vo, va, ?_, h.o, h.a, h.ne⟩
  rw [h.len]
  exact h.row
theorem Opn.of {v : Value} {xy : TL × TL} (h : CbI n1 (l, some xy) v W) : ∃ g cap np P m vo va, v = .slice (some ⟨g, 0, none⟩) (np + 1) cap ∧ np = l.length ∧ Opn n1 m g cap np P l vo va vo va xy.1 xy.2 W := by
  obtain ⟨P, m, h1, h2, h3, vo, va, h4, h5, h6, h7⟩ := h
  obtain ⟨g, cap, rfl, -⟩ := own_cells h4 (by omega)
  exact ⟨g, cap, P.length, P, m, vo, va, rfl, h3.1, rfl, h1, h2, h3, h4, h5, h6, h7⟩
theorem Opn.below (h : Opn n1 m g cap np P l u1 u2 vo va xo xa W) (hb : Below W.heap.size W B) : Opn n1 m g cap np P l u1 u2 vo va xo xa B :=
  ⟨h.len, h.le1, Nat.le_trans h.le2 hb.size, h.set.keep (KpM.below (Nat.le_trans h.le1 h.le2) hb), own_below h.row hb, own_below h.o hb, own_below h.a hb, h.ne⟩
end
end Go.Proofs.YtfjmhnnjgjcmeaaDoor
