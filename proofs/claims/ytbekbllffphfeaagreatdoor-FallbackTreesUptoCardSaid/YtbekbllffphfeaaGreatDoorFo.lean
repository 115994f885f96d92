/-
  For the laws of fallback: what the rows' listed variable gives; a world in which it reads as listed; what a law's argument reads as. No condition.
-/
import Derived.Test.YtbekbllffphfeaaGreatDoorKBegin
import Derived.Test.YtbekbllffphfeaaGreatDoorRows
import Derived.Deep.DeepHandedRow
import Derived.Deep.Slices
import Derived.HandedShaped
import Derived.ProofKit
import Derived.LaidMore
import Derived.OpenShut
import Derived.Stop.Joined
import Derived.Lib.LaidTab
import Derived.Shelf.Vars
import Derived.Stop.LaidErr
import Derived.Laws.IdiomArrays
namespace Go.Proofs.YtbekbllffphfeaaGreatDoor
open Go.ChangeShapes Go.WideShapes Go.ChangeAt Go.RowKit Go.Deep

theorem own : ownKnob Tryz.prog.godebug = none := by kernel_rfl
theorem door_met (os : Os) (args : Array Value) : laidMetH Tryz.prog Rows.fallbackFilesRow.laid ((World.doorLaid Tryz.prog 200 os).forCall (fun _ _ => 0) ⟨#[], args, []⟩).memory :=
  laidMetH_of_parts3 (fuel := 8) (laidMet_of_run' 8 (by kernel_rfl) (by kernel_rfl)) (by kernel_rfl) (by kernel_rfl)
theorem laidOut : laidOutB Tryz.prog = true := by kernel_rfl
theorem cellsOf4 : Tryz.prog.cellsOf 4 = 1 := by kernel_rfl
theorem cellsOf9 : Tryz.prog.cellsOf 9 = 1 := by kernel_rfl
theorem cellsOf117 : Tryz.prog.cellsOf 117 = 2 := by kernel_rfl
def markData {H : Type} (k : Nat) : DataW H := .agg [.lit (.string [K.signB k]), .lit (.string (K.labB k))]
theorem laid_marks : (Rows.laid_concordat_marker_marks : DataW Unit) = .agg ((List.range 4).map markData) := rfl
theorem bs_of_tl {s : ByteArray} {l : List UInt8} (h : s.data.toList = l) : s = K.bs l := by
  have h2 : K.tl s = l := h
  rw [← h2, K.bs_tl]
theorem mkW_of_laid {W : World} (h : laidMetH Tryz.prog Rows.fallbackFilesRow.laid W) : K.MkW W := by
  rw [MakeChecks.laidMetH_plain _ _ _ (by kernel_rfl)] at h
  obtain ⟨ps, ⟨g0, t0, cs, fuel, p0, q0, hg0, ht0, hv0, hd0, -, -⟩, -⟩ := h
  obtain rfl : 0 = g0 := Option.some.inj ((show Tryz.prog.globalNamed "concordat/marker.marks" = some 0 by kernel_rfl).symm.trans hg0)
  obtain rfl : 118 = t0 := Option.some.inj ((show (Tryz.prog.globals[0]?).map (·.type) = some 118 by kernel_rfl).symm.trans ht0)
  rw [laid_marks] at hd0
  obtain ⟨xs, m, -, hx, hl, hxl, hf⟩ := DataW.trod_array Tryz.underlying118 hd0
  have hx1 : (List.range 4).map (fun k => (markData k : DataW Unit)) = xs.map (·.1) := by
    have := congrArg Prod.fst hx
    simpa using this
  have tab : ∀ s : Nat, s < 4 → W.cell? ⟨0, s * 2, none⟩ = some (.string (K.bs [K.signB s])) ∧ W.cell? ⟨0, s * 2 + 1, none⟩ = some (.string (K.bs (K.labB s))) := by
    intro k hkl
    have hfk := hf k hkl
    have hxk : ∃ pl, xs[k]? = some (markData k, pl) := by
      have := congrArg (fun l => l[k]?) hx1
      simp only [List.getElem?_map, List.getElem?_range hkl, Option.map_some] at this
      cases hq : xs[k]? with
      | none => rw [hq] at this; simp at this
      | some q =>
        rw [hq] at this
        obtain ⟨q1, q2⟩ := q
        have e : markData k = q1 := by simpa using this
        exact ⟨q2, by rw [e]⟩
    obtain ⟨pl, hpl⟩ := hxk
    rw [hpl, cellsOf117] at hfk
    obtain ⟨y0, y1, n, hy, hcl, a0, a1⟩ := trod_struct2 Tryz.underlying117 hfk
    simp only [cellsOf9] at a0 a1
    obtain ⟨s1, e1, w1, -⟩ := DataW.trod_string Tryz.underlying9 a0
    obtain ⟨s2, e2, w2, -⟩ := DataW.trod_string Tryz.underlying9 a1
    subst w1 w2
    have hy' := congrArg Prod.fst hy
    simp only [markData, DataW.agg.injEq, List.cons.injEq, DataW.lit.injEq, Lit.string.injEq, and_true] at hy'
    have b1 := bs_of_tl hy'.1.symm
    have b2 := bs_of_tl hy'.2.symm
    subst b1 b2
    have g1 : cs[k * 2]? = some (.string (K.bs [K.signB k])) := by
      have := congrArg (fun l => l[0]?) e1
      simp only [List.getElem?_cons_zero] at this
      rw [List.getElem?_take, if_pos (by omega), List.getElem?_drop, List.getElem?_take, if_pos (by omega), List.getElem?_drop] at this
      simpa using this
    have g2 : cs[k * 2 + 1]? = some (.string (K.bs (K.labB k))) := by
      have := congrArg (fun l => l[0]?) e2
      simp only [List.getElem?_cons_zero] at this
      rw [List.getElem?_take, if_pos (by omega), List.getElem?_drop, List.getElem?_take, if_pos (by omega), List.getElem?_drop] at this
      simpa using this
    exact ⟨(World.var?_cell (by assumption) hv0 _).trans g1, (World.var?_cell (by assumption) hv0 _).trans g2⟩
  refine ⟨tab, ?_⟩
  have h0 := (tab 0 (by omega)).1
  rcases Nat.lt_or_ge 0 W.heap.size with h4 | h4
  · exact h4
  · exact absurd h0 (by unfold World.cell?; simp [Array.getElem?_eq_none h4])
theorem okWide_arr {P : Program} {w : World} {r : Reach} {base n : Nat} {t e : TypeId} {v : Value} (ht : P.underlying t = some (.array n e)) (h : Value.okWide P w r base t v) : ∃ cs, v = .agg cs ∧ cs.size = P.cellsOf t := by
  simp only [Value.okWide, ht] at h
  obtain ⟨cs, h1, h2, _⟩ := h
  exact ⟨cs, h1, h2⟩
theorem arr22 : Tryz.prog.underlying 22 = some (.array 3 9) := by kernel_rfl
theorem arr23 : Tryz.prog.underlying 23 = some (.array 3 4) := by kernel_rfl
theorem cellsOf22 : Tryz.prog.cellsOf 22 = 3 := by kernel_rfl
theorem cellsOf23 : Tryz.prog.cellsOf 23 = 3 := by kernel_rfl
section
variable {H : Type} {enc : TypeId × Value → H} {W : World} {sp : Nat → Bool} {r : Reach} {b0 : Nat} {v : Value} {d : DataW H} {p : List MemPlace}
set_option maxRecDepth 100000 in
theorem texts3_of_arg (hv : Value.okWide Tryz.prog W r b0 22 v) (h : DataW.Trod enc Tryz.prog W 0 sp true 22 v d p) : ∃ x y z : ByteArray, v = .agg #[.string x, .string y, .string z] := by
  obtain ⟨cs, rfl, hsz⟩ := okWide_arr arr22 hv
  obtain ⟨fuel, hf⟩ := h
  rw [cellsOf22] at hsz
  obtain ⟨l⟩ := cs
  match l, hsz with
  | [c0, c1, c2], _ =>
    obtain ⟨y0, y1, y2, n, -, f0, f1, f2⟩ := Go.ChangeShapes.trod_array3 arr22 cellsOf9 (by simpa [Value.cells] using hf)
    obtain ⟨x0, e0, -, -⟩ := DataW.trod_string Tryz.underlying9 f0
    obtain ⟨x1, e1, -, -⟩ := DataW.trod_string Tryz.underlying9 f1
    obtain ⟨x2, e2, -, -⟩ := DataW.trod_string Tryz.underlying9 f2
    simp only [List.cons.injEq, and_true] at e0 e1 e2
    subst e0 e1 e2
    exact ⟨x0, x1, x2, rfl⟩
set_option maxRecDepth 100000 in
theorem bools3_of_arg (hv : Value.okWide Tryz.prog W r b0 23 v) (h : DataW.Trod enc Tryz.prog W 0 sp true 23 v d p) : ∃ x y z : Bool, v = .agg #[.bool x, .bool y, .bool z] := by
  obtain ⟨cs, rfl, hsz⟩ := okWide_arr arr23 hv
  obtain ⟨fuel, hf⟩ := h
  rw [cellsOf23] at hsz
  obtain ⟨l⟩ := cs
  match l, hsz with
  | [c0, c1, c2], _ =>
    obtain ⟨y0, y1, y2, n, -, f0, f1, f2⟩ := Go.ChangeShapes.trod_array3 arr23 cellsOf4 (by simpa [Value.cells] using hf)
    obtain ⟨x0, e0, -, -⟩ := DataW.trod_bool Tryz.underlying4 f0
    obtain ⟨x1, e1, -, -⟩ := DataW.trod_bool Tryz.underlying4 f1
    obtain ⟨x2, e2, -, -⟩ := DataW.trod_bool Tryz.underlying4 f2
    simp only [List.cons.injEq, and_true] at e0 e1 e2
    subst e0 e1 e2
    exact ⟨x0, x1, x2, rfl⟩
end
set_option maxRecDepth 100000 in
theorem handed_laid_shaped {H : Type} {enc : TypeId × Value → H} {os : Os} {f : FuncId} {fn : Func} {s : ChangeSpec} {laid : List (String × DataW Unit)}
    (started : os.Started) (noInit : Tryz.checked.prog.inits.idxOf? f = none) (hfn : Tryz.checked.prog.funcs[f]? = some fn)
    (witness : ∃ (w : World) (tape : Tape) (i : Input), w.os = os ∧ (w.forCall tape i).Shaped Tryz.checked.prog ∧ i.vars = [] ∧ Input.okWide Tryz.checked.prog (w.forCall tape i) .any w.heap.size f i ∧
      ((s.pre enc Tryz.checked.prog fn [] false (w.forCall tape i).memory i.args ∧ laidMetH Tryz.prog laid (w.forCall tape i).memory) ∧ sizedMet enc Tryz.checked.prog fn (OpenSpec.ofChange s) false (w.forCall tape i).memory i.args) ∧ ({} : Assume).holds Tryz.checked.prog (lone (Frame.enter Tryz.checked.prog f i.args .normal) [] (w.forCall tape i)))
    (contract : ∀ (W : World) (base : Nat) (args : Array Value) (ds gs : List (DataW H)) (before : List MemPlace),
      (∀ (j : Nat) t v, fn.params[j]? = some t → args[j]? = some v → Value.okWide Tryz.checked.prog W .any base t v) →
      DataW.Whole enc Tryz.checked.prog fn.params.toList s.vars false W args.toList ds gs before →
      laidMetH Tryz.prog laid W → W.ShapedOpen Tryz.prog →
      Calls Tryz.checked.prog f args W fun e W' => ∃ v, e = .returned v ∧ s.post enc Tryz.checked.prog fn false true false false W args v W') :
    ReturnsInHanded {} Tryz.checked os f .any (fun w args => (s.pre enc Tryz.checked.prog fn [] false w args ∧ laidMetH Tryz.prog laid w) ∧ sizedMet enc Tryz.checked.prog fn (OpenSpec.ofChange s) false w args) (s.post enc Tryz.checked.prog fn false true false false) := by
  refine returnsInHanded_of_calls own started noInit witness ?_
  intro w tape i _ hsh _ hok hpre _
  obtain ⟨_, _, _, g, hg, _, _, _, _, hval⟩ := hok
  obtain rfl : g = fn := Option.some.inj (hg.symm.trans hfn)
  obtain ⟨⟨⟨ds, gs, before, hw, -⟩, hx⟩, -⟩ := hpre
  refine (contract _ w.heap.size i.args ds gs before hval (DataW.Whole.of_heap (w' := w.forCall tape i) (by rfl) hw) (hx.of_heap (by rfl)) hsh).mono ?_
  rintro e W' ⟨v, rfl, hp⟩
  exact ChangeSpec.post_blind hp
end Go.Proofs.YtbekbllffphfeaaGreatDoor
