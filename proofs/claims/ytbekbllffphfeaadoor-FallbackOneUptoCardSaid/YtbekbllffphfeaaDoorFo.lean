/-
  For the laws of fallback: what the rows' listed variable gives; a world in which it reads as listed; what a law's argument reads as. No condition.
-/
import Derived.Test.YtbekbllffphfeaaDoorKBegin
import Derived.Test.YtbekbllffphfeaaDoorRows
import Derived.Deep.DeepHandedRow
import Derived.Deep.Slices
import Derived.HandedShaped
import Derived.ProofKit
import Derived.LaidMore
import Derived.OpenShut
import Derived.Stop.Joined
import Derived.Lib.LaidTab
import Derived.Shelf.Vars
import Derived.Stop.LaidErr
import Derived.Laws.IdiomArrays
namespace Go.Proofs.YtbekbllffphfeaaDoor
open Go.ChangeShapes Go.WideShapes Go.ChangeAt Go.RowKit Go.Deep

theorem own : ownKnob Tryd.prog.godebug = none := by kernel_rfl
theorem door_met (os : Os) (args : Array Value) : laidMetH Tryd.prog Rows.fallbackOneRow.laid ((World.doorLaid Tryd.prog 200 os).forCall (fun _ _ => 0) ⟨#[], args, []⟩).memory :=
  laidMetH_of_parts3 (fuel := 8) (laidMet_of_run' 8 (by kernel_rfl) (by kernel_rfl)) (by kernel_rfl) (by kernel_rfl)
theorem laidOut : laidOutB Tryd.prog = true := by kernel_rfl
theorem cellsOf4 : Tryd.prog.cellsOf 4 = 1 := by kernel_rfl
theorem cellsOf9 : Tryd.prog.cellsOf 9 = 1 := by kernel_rfl
theorem cellsOf94 : Tryd.prog.cellsOf 94 = 2 := by kernel_rfl
def markData {H : Type} (k : Nat) : DataW H := .agg [.lit (.string [K.signB k]), .lit (.string (K.labB k))]
theorem laid_marks : (Rows.laid_concordat_marker_marks : DataW Unit) = .agg ((List.range 4).map markData) := rfl
theorem bs_of_tl {s : ByteArray} {l : List UInt8} (h : s.data.toList = l) : s = K.bs l := by
  have h2 : K.tl s = l := h
  rw [← h2, K.bs_tl]
theorem mkW_of_laid {W : World} (h : laidMetH Tryd.prog Rows.fallbackOneRow.laid W) : K.MkW W := by
  rw [MakeChecks.laidMetH_plain _ _ _ (by kernel_rfl)] at h
  obtain ⟨ps, ⟨g0, t0, cs, fuel, p0, q0, hg0, ht0, hv0, hd0, -, -⟩, -⟩ := h
  obtain rfl : 0 = g0 := Option.some.inj ((show Tryd.prog.globalNamed "concordat/marker.marks" = some 0 by kernel_rfl).symm.trans hg0)
  obtain rfl : 95 = t0 := Option.some.inj ((show (Tryd.prog.globals[0]?).map (·.type) = some 95 by kernel_rfl).symm.trans ht0)
  rw [laid_marks] at hd0
  obtain ⟨xs, m, -, hx, hl, hxl, hf⟩ := DataW.trod_array Tryd.underlying95 hd0
  have hx1 : (List.range 4).map (fun k => (markData k : DataW Unit)) = xs.map (·.1) := by
    have := congrArg Prod.fst hx
    simpa using this
  have tab : ∀ s : Nat, s < 4 → W.cell? ⟨0, s * 2, none⟩ = some (.string (K.bs [K.signB s])) ∧ W.cell? ⟨0, s * 2 + 1, none⟩ = some (.string (K.bs (K.labB s))) := by
    intro k hkl
    have hfk := hf k hkl
    have hxk : ∃ pl, xs[k]? = some (markData k, pl) := by
      have := congrArg (fun l => l[k]?) hx1
      simp only [List.getElem?_map, List.getElem?_range hkl, Option.map_some] at this
      cases hq : xs[k]? with
      | none => rw [hq] at this; simp at this
      | some q =>
        rw [hq] at this
        obtain ⟨q1, q2⟩ := q
        have e : markData k = q1 := by simpa using this
        exact ⟨q2, by rw [e]⟩
    obtain ⟨pl, hpl⟩ := hxk
    rw [hpl, cellsOf94] at hfk
    obtain ⟨y0, y1, n, hy, hcl, a0, a1⟩ := trod_struct2 Tryd.underlying94 hfk
    simp only [cellsOf9] at a0 a1
    obtain ⟨s1, e1, w1, -⟩ := DataW.trod_string Tryd.underlying9 a0
    obtain ⟨s2, e2, w2, -⟩ := DataW.trod_string Tryd.underlying9 a1
    subst w1 w2
    have hy' := congrArg Prod.fst hy
    simp only [markData, DataW.agg.injEq, List.cons.injEq, DataW.lit.injEq, Lit.string.injEq, and_true] at hy'
    have b1 := bs_of_tl hy'.1.symm
    have b2 := bs_of_tl hy'.2.symm
    subst b1 b2
    have g1 : cs[k * 2]? = some (.string (K.bs [K.signB k])) := by
      have := congrArg (fun l => l[0]?) e1
      simp only [List.getElem?_cons_zero] at this
      rw [List.getElem?_take, if_pos (by omega), List.getElem?_drop, List.getElem?_take, if_pos (by omega), List.getElem?_drop] at this
      simpa using this
    have g2 : cs[k * 2 + 1]? = some (.string (K.bs (K.labB k))) := by
      have := congrArg (fun l => l[0]?) e2
      simp only [List.getElem?_cons_zero] at this
      rw [List.getElem?_take, if_pos (by omega), List.getElem?_drop, List.getElem?_take, if_pos (by omega), List.getElem?_drop] at this
      simpa using this
    exact ⟨(World.var?_cell (by assumption) hv0 _).trans g1, (World.var?_cell (by assumption) hv0 _).trans g2⟩
  refine ⟨tab, ?_⟩
  have h0 := (tab 0 (by omega)).1
  rcases Nat.lt_or_ge 0 W.heap.size with h4 | h4
  · exact h4
  · exact absurd h0 (by unfold World.cell?; simp [Array.getElem?_eq_none h4])
end Go.Proofs.YtbekbllffphfeaaDoor
