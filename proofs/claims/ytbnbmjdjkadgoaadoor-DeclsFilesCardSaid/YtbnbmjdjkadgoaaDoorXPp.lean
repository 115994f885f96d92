/-
  For the laws on the parser: what a rule answers that gives a row of nodes. No condition.
-/
import Derived.Test.YtbnbmjdjkadgoaaDoorXRd
import Derived.Deep.CutBlock
import Derived.Deep.Cut
namespace Go.Proofs.YtbnbmjdjkadgoaaDoor.X
open Go.RowKit Go.Shelf
set_option linter.unusedSimpArgs false
set_option linter.unusedVariables false

/-- What a rule answers that gives a row of nodes. -/
def ListIs (r : PR (List Nd)) (lo : Nat) (e : Ending) (w' : World) : Prop :=
  match r with
  | .ok l next => ∃ (v : Value) (ps : List Pr), e = .returned (.tuple #[v, .int .i64 (next : Nat), .agg #[.int .i64 (-1), .int .i64 0]]) ∧ OwnS lo w' v ps ∧ ps.map (·.1) = l
  | .bad p c => e = .returned (.tuple #[.slice none 0 0, .int .i64 0, .agg #[.int .i64 (p : Nat), .int .i64 c]])
set_option maxRecDepth 100000 in
theorem fin_list {fn : Func} (pv u pH : Tmp) (hr : fn.results = #[.tmp pv, .tmp u, .cell pH 68]) {tmps : Array Value} {V : World} {H : Nat} {p q : Int}
    (hH : tmps.getD pH undef = .pointer (some ⟨H, 0, none⟩)) (RH : RowAt V H 68 #[.int .i64 p, .int .i64 q]) {Q : Ending → World → Prop}
    (hQ : Q (.returned (.tuple #[tmps.getD pv undef, tmps.getD u undef, .agg #[.int .i64 p, .int .i64 q]])) V) : bodyPost Tryd.prog fn Q .ret { tmps := tmps, defers := [] } V :=
  bodyPost_ret (results_ttc (P := Tryd.prog) hr tmps V H 68 _ (0, 0) _ hH RH Tryd.underlying68 rfl rfl) rfl hQ
theorem pair_row {U : World} {H : Nat} {x y : Value} (RH : RowAt U H 68 #[x, y]) (p q : Int) {V : World} (hV : (U.setCell ⟨H, 0, none⟩ (.int .i64 p)).setCell ⟨H, 1, none⟩ (.int .i64 q) = V) :
    RowAt V H 68 #[.int .i64 p, .int .i64 q] ∧ V.heap.size = U.heap.size ∧ (∀ b, b ≠ H → V.heap[b]? = U.heap[b]?) ∧ ∀ B, B ≤ H → Below B U V := by
  subst hV
  refine ⟨(RH.set 0 _).set 1 _, by simp [World.setCell], fun b h2 => (Below.heap_setCell _ _ _ b (by simpa using h2)).trans (Below.heap_setCell _ _ _ b (by simpa using h2)), fun B h2 => ((Below.refl _ _).setCell (p := ⟨H, 0, none⟩) h2 _).setCell (p := ⟨H, 1, none⟩) h2 _⟩
theorem pair_row_d {U : World} {H : Nat} {x y : Value} (RH : RowAt U H 68 #[x, y]) (p q : Int) {V : World} (hV : ((U.setCell ⟨H, 0, none⟩ (.int .i64 p)).setCell ⟨H, 1, none⟩ (.int .i64 q)).drew = V) :
    RowAt V H 68 #[.int .i64 p, .int .i64 q] ∧ V.heap.size = U.heap.size ∧ (∀ b, b ≠ H → V.heap[b]? = U.heap[b]?) ∧ ∀ B, B ≤ H → Below B U V := by
  generalize hV0 : (U.setCell ⟨H, 0, none⟩ (.int .i64 p)).setCell ⟨H, 1, none⟩ (.int .i64 q) = V0 at hV
  obtain ⟨k1, k2, k3, k4⟩ := pair_row RH p q hV0
  subst hV
  exact ⟨k1, k2, k3, fun B h => below_drew (k4 B h)⟩
/-- An own row, where all that it rests on is as it was. -/
theorem own_past {W V : World} {lo lo' H : Nat} {v : Value} {ps : List Pr} (h : OwnS lo W v ps) (hs : V.heap.size = W.heap.size) (hb : ∀ b, b ≠ H → V.heap[b]? = W.heap[b]?) (h2 : H < lo) (hl : lo' ≤ lo) : OwnS lo' V v ps := by
  obtain ⟨h1, hsz, h3⟩ := h
  refine ⟨?_, by omega, fun p hp => ?_⟩
  · refine own_low ⟨h1.1, ?_⟩ hl
    rcases h1.2 with h0 | ⟨g, cap, cur, e1, k1, hg, k2, k3, k4, k5⟩
    · exact .inl h0
    · exact .inr ⟨g, cap, cur, e1, k1, (hb g (by omega)).trans hg, k2, k3, k4, k5⟩
  · obtain ⟨F, hF, hn⟩ := h3 p hp
    exact ⟨F, sup_low (hF.keep (Nat.le_of_eq hs.symm) fun b hbF => hb b (by have := (hF.1 b hbF).1; omega)) hl, hn⟩
end Go.Proofs.YtbnbmjdjkadgoaaDoor.X
