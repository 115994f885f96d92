/-
  For the laws of report: what the rows' listed variables and the world's shape give; a world in which the variables read as listed; what the arguments hold. No condition.
-/
import Derived.Test.YtmklpanehnkfbaaDoorText
import Derived.Test.YtmklpanehnkfbaaDoorRows
import Derived.Deep.DeepHandedRow
import Derived.Deep.Slices
import Derived.HandedShaped
import Derived.ProofKit
import Derived.LaidMore
import Derived.OpenShut
import Derived.Stop.Joined
import Derived.Lib.LaidTab
import Derived.Shelf.Vars
import Derived.Stop.LaidErr
namespace Go.Proofs.YtmklpanehnkfbaaDoor
open Go.ChangeShapes Go.WideShapes Go.ChangeAt Go.RowKit Go.Deep

theorem own : ownKnob Tryd.prog.godebug = none := by kernel_rfl
theorem door_met (os : Os) (args : Array Value) : laidMetH Tryd.prog Rows.reportBackRow.laid ((World.doorLaid Tryd.prog 200 os).forCall (fun _ _ => 0) ⟨#[], args, []⟩).memory :=
  laidMetH_of_parts3 (fuel := 8) (laidMet_of_run' 8 (by kernel_rfl) (by kernel_rfl)) (by kernel_rfl) (by kernel_rfl)
theorem maxCell {W : World} (h : W.ShapedOpen Tryd.prog) : ∃ m, W.cell? ⟨3, 0, none⟩ = some (.int .i64 m) :=
  Go.Proofs.cell_of_shapedOpen_int (zero := #[.int .i64 0]) (t := 3) h (of_decide_eq_true (by kernel_rfl)) (by kernel_rfl) rfl (by kernel_rfl) (by kernel_rfl) Tryd.underlying3
theorem laidOut : laidOutB Tryd.prog = true := by kernel_rfl
theorem cellsOf3 : Tryd.prog.cellsOf 3 = 1 := by kernel_rfl
theorem cellsOf9 : Tryd.prog.cellsOf 9 = 1 := by kernel_rfl
theorem cellsOf23 : Tryd.prog.cellsOf 23 = 2 := by kernel_rfl
theorem cellsOf33 : Tryd.prog.cellsOf 33 = 3 := by kernel_rfl
theorem cellsOf45 : Tryd.prog.cellsOf 45 = 2 := by kernel_rfl
theorem cellsOf65 : Tryd.prog.cellsOf 65 = 2 := by kernel_rfl
theorem cells46 : Tryd.prog.cellsOf 46 = 10 := by kernel_rfl
theorem cells49 : Tryd.prog.cellsOf 49 = 8 := by kernel_rfl
theorem cells66 : Tryd.prog.cellsOf 66 = 6 := by kernel_rfl
def wordData {H : Type} (p : Nat × List UInt8) : DataW H := .agg [.lit (.int .i64 ((p.1 : Int) + 1)), .lit (.string p.2)]
def tabD {H : Type} (L : List (List UInt8)) : DataW H := .agg ((List.range L.length).map fun i => wordData (i, L.getD i []))
theorem laid_con : (Rows.laid_concordat_report_conflicts : DataW Unit) = tabD conW := rfl
theorem laid_out : (Rows.laid_concordat_report_outcomes : DataW Unit) = tabD outW := rfl
theorem laid_req : (Rows.laid_concordat_request_words : DataW Unit) = tabD reqW := rfl
theorem bs_of_tl {s : ByteArray} {l : List UInt8} (h : s.data.toList = l) : s = bs l := by
  have h2 : tl s = l := h
  rw [← h2, bs_tl]
/-- A table of words, listed first, stands there. -/
theorem tab_of_laid {W : World} {nm : String} {L : List (List UInt8)} {rest : List (String × DataW Unit)} {g : Nat} {t e : TypeId} {f0 f1 : Field}
    (hg : Tryd.prog.globalNamed nm = some g) (hty : (Tryd.prog.globals[g]?).map (·.type) = some t) (ht : Tryd.prog.underlying t = some (.array L.length e)) (he : Tryd.prog.underlying e = some (.struct #[f0, f1]))
    (hf0 : f0.type = 3) (hf0o : f0.offset = 0) (hf1 : f1.type = 9) (hf1o : f1.offset = 1) (hce : Tryd.prog.cellsOf e = 2)
    (h : laidMet Tryd.prog ((nm, tabD L) :: rest) W) : Tab W g L := by
  obtain ⟨ps, ⟨g0, t0, cs, fuel, p0, q0, hg0, ht0, hv0, hd0, -, -⟩, -⟩ := h
  obtain rfl := Option.some.inj (hg.symm.trans hg0)
  obtain rfl := Option.some.inj (hty.symm.trans ht0)
  obtain ⟨xs, m, -, hx, hl, hxl, hf⟩ := DataW.trod_array ht hd0
  have hx1 : (List.range L.length).map (fun i => (wordData (i, L.getD i []) : DataW Unit)) = xs.map (·.1) := by
    have := congrArg Prod.fst hx
    simpa [tabD] using this
  intro k x hk
  have hkl := (List.getElem?_eq_some_iff.1 hk).1
  have hfk := hf k hkl
  have hxk : ∃ pl, xs[k]? = some (wordData (k, x), pl) := by
    have := congrArg (fun l => l[k]?) hx1
    simp only [List.getElem?_map, List.getElem?_range hkl, Option.map_some] at this
    rw [show L.getD k [] = x from by rw [List.getD_eq_getElem?_getD, hk]; rfl] at this
    cases hq : xs[k]? with
    | none => rw [hq] at this; simp at this
    | some q =>
      rw [hq] at this
      obtain ⟨q1, q2⟩ := q
      have e : wordData (k, x) = q1 := by simpa using this
      exact ⟨q2, by rw [e]⟩
  obtain ⟨pl, hpl⟩ := hxk
  rw [hpl, hce] at hfk
  obtain ⟨y0, y1, n, hy, hcl, a0, a1⟩ := trod_struct2 he hfk
  rw [hf0, hf0o, cellsOf3] at a0
  rw [hf1, hf1o, cellsOf9] at a1
  obtain ⟨z1, e1, w1, -⟩ := DataW.trod_int Tryd.underlying3 a0
  obtain ⟨s2, e2, w2, -⟩ := DataW.trod_string Tryd.underlying9 a1
  subst w1 w2
  have hy' := congrArg Prod.fst hy
  simp only [wordData, DataW.agg.injEq, List.cons.injEq, DataW.lit.injEq, Lit.string.injEq, Lit.int.injEq, true_and, and_true] at hy'
  have b2 := bs_of_tl hy'.2.symm
  subst b2
  have g1 : cs[k * 2]? = some (.int .i64 ((k : Int) + 1)) := by
    have := congrArg (fun l => l[0]?) e1
    simp only [List.getElem?_cons_zero] at this
    rw [List.getElem?_take, if_pos (by omega), List.getElem?_drop, List.getElem?_take, if_pos (by omega), List.getElem?_drop, ← hy'.1] at this
    simpa using this
  have g2 : cs[k * 2 + 1]? = some (.string (bs x)) := by
    have := congrArg (fun l => l[0]?) e2
    simp only [List.getElem?_cons_zero] at this
    rw [List.getElem?_take, if_pos (by omega), List.getElem?_drop, List.getElem?_take, if_pos (by omega), List.getElem?_drop] at this
    simpa using this
  exact ⟨(World.var?_cell hg hv0 _).trans g1, (World.var?_cell hg hv0 _).trans g2⟩
theorem repW_of_laid {W : World} (h : laidMetH Tryd.prog Rows.reportBackRow.laid W) (hs : W.ShapedOpen Tryd.prog) : RepW W := by
  rw [MakeChecks.laidMetH_plain _ _ _ (by kernel_rfl)] at h
  have h1 := laidMet.tail h
  have h2 := laidMet.tail h1
  obtain ⟨m, hm⟩ := maxCell hs
  refine ⟨?_, ?_, ?_, ⟨m, hm⟩, ?_⟩
  · exact tab_of_laid (L := conW) (nm := "concordat/report.conflicts") (by kernel_rfl) (by kernel_rfl) Tryd.underlying46 Tryd.underlying45 rfl rfl rfl rfl cellsOf45 h1
  · exact tab_of_laid (L := outW) (nm := "concordat/report.outcomes") (by kernel_rfl) (by kernel_rfl) Tryd.underlying49 Tryd.underlying45 rfl rfl rfl rfl cellsOf45 h2
  · exact tab_of_laid (L := reqW) (nm := "concordat/request.words") (by kernel_rfl) (by kernel_rfl) Tryd.underlying66 Tryd.underlying65 rfl rfl rfl rfl cellsOf65 h
  · rcases Nat.lt_or_ge 3 W.heap.size with h4 | h4
    · omega
    · exact absurd hm (by unfold World.cell?; simp [Array.getElem?_eq_none h4])
section
variable {H : Type} {enc : TypeId × Value → H} {W : World} {sp : Nat → Bool} {r : Reach} {b0 : Nat} {v : Value} {d : DataW H} {p : List MemPlace}
theorem list_of {α : Type} (n : Nat) (P : Nat → α → Prop) (h : ∀ i, i < n → ∃ x, P i x) : ∃ L : List α, L.length = n ∧ ∀ i x, L[i]? = some x → P i x := by
  induction n with
  | zero => exact ⟨[], rfl, by simp⟩
  | succ n ih =>
    obtain ⟨L, hl, hL⟩ := ih (fun i hi => h i (by omega))
    obtain ⟨x, hx⟩ := h n (by omega)
    refine ⟨L ++ [x], by simp [hl], fun i y hy => ?_⟩
    by_cases hi : i < L.length
    · rw [List.getElem?_append_left hi] at hy
      exact hL i y hy
    · rw [List.getElem?_append_right (by omega)] at hy
      have : i - L.length = 0 := by
        have := (List.getElem?_eq_some_iff.1 hy).1
        simpa using this
      rw [this] at hy
      obtain rfl : x = y := by simpa using hy
      obtain rfl : i = n := by omega
      exact hx
theorem con_of_arg (hv : Value.okWide Tryd.prog W r b0 23 v) (h : DataW.Trod enc Tryd.prog W 0 sp true 23 v d p) : ∃ (k : Int) (key : ByteArray), v = .agg #[.int .i64 k, .string key] := by
  obtain ⟨cs, rfl, hsz⟩ := okWide_struct Tryd.underlying23 hv
  obtain ⟨fuel, hf⟩ := h
  obtain ⟨y0, y1, n, -, hl, f0, f1⟩ := trod_struct2 Tryd.underlying23 hf
  rw [cellsOf23] at hsz
  simp only [cellsOf3, cellsOf9] at f0 f1
  obtain ⟨l⟩ := cs
  match l, hsz with
  | [q0, q1], _ =>
    have f0' : DataW.trod enc Tryd.prog W 0 sp true n 3 [q0] = some y0 := by simpa [Value.cells] using f0
    have f1' : DataW.trod enc Tryd.prog W 0 sp true n 9 [q1] = some y1 := by simpa [Value.cells] using f1
    obtain ⟨x0, e0, -, -⟩ := DataW.trod_int Tryd.underlying3 f0'
    obtain ⟨x1, e1, -, -⟩ := DataW.trod_string Tryd.underlying9 f1'
    simp only [List.cons.injEq, and_true] at e0 e1
    subst e0 e1
    exact ⟨x0, x1, rfl⟩
set_option maxRecDepth 100000 in
theorem cfs_of_arg (hv : Value.okWide Tryd.prog W r b0 31 v) (h : DataW.Trod enc Tryd.prog W 0 sp true 31 v d p) : ∃ L : List Cf, Cfs W v L := by
  obtain ⟨a1, len, cap, rfl⟩ := okWide_slice Tryd.underlying31 hv
  obtain ⟨fuel, hf⟩ := h
  rcases open_slice Tryd.underlying31 hf with ⟨hcs, hx⟩ | ⟨a, len', cap', m, n, D, Pl, hcs, _, hl, hm, hmm, hx, hi⟩
  · simp [Value.cells] at hcs
    obtain ⟨rfl, rfl, rfl⟩ := hcs
    exact ⟨[], none, 0, rfl, Nat.le_refl _, Nat.zero_le _, by simp⟩
  · simp [Value.cells] at hcs
    obtain ⟨rfl, rfl, rfl⟩ := hcs
    have hlm : len ≤ m := by rw [hmm]; split <;> omega
    have hone : ∀ i, i < len → ∃ t : Cf, ∃ b off, a = ⟨b, off, none⟩ ∧ b < W.heap.size ∧ W.cell? ⟨b, off + i * 2, none⟩ = some (.int .i64 t.kind) ∧ W.cell? ⟨b, off + i * 2 + 1, none⟩ = some (.string (bs t.key)) := by
      intro i hil
      obtain ⟨cs, hc, ht⟩ := hi i (by omega)
      rw [cellsOf23] at hc
      obtain ⟨_, hcl, hat⟩ := World.cells?_some hc
      obtain ⟨y0, y1, n', -, -, f0, f1⟩ := trod_struct2 Tryd.underlying23 ht
      simp only [cellsOf3, cellsOf9] at f0 f1
      match cs, hcl with
      | [q0, q1], _ =>
        have f0' : DataW.trod enc Tryd.prog W 0 sp true n' 3 [q0] = some y0 := by simpa using f0
        have f1' : DataW.trod enc Tryd.prog W 0 sp true n' 9 [q1] = some y1 := by simpa using f1
        obtain ⟨x0, e0, -, -⟩ := DataW.trod_int Tryd.underlying3 f0'
        obtain ⟨x1, e1, -, -⟩ := DataW.trod_string Tryd.underlying9 f1'
        simp only [List.cons.injEq, and_true] at e0 e1
        subst e0 e1
        have g0 := hat 0 (by omega)
        have g1 := hat 1 (by omega)
        obtain ⟨blk, off, el⟩ := a
        have hel : el = none := by
          obtain ⟨cz, hcz, -⟩ := hi 0 (by omega)
          rw [cellsOf23] at hcz
          obtain ⟨_, hcl, hatz⟩ := World.cells?_some hcz
          have hz := hatz 0 (by omega)
          rw [List.getElem?_eq_getElem (by omega)] at hz
          have := World.cell?_spot hz
          simpa [Addr.add] using this
        subst hel
        simp only [add_flat, List.getElem?_cons_zero, List.getElem?_cons_succ, Nat.add_zero] at g0 g1
        exact ⟨⟨x0, tl x1⟩, blk, off, rfl, World.block_lt_of_cell? W _ g0, g0, by rw [bs_tl]; exact g1⟩
    obtain ⟨L, hLl, hL⟩ := list_of len _ hone
    refine ⟨L, some a, cap, by rw [hLl], by omega, by omega, fun k h hk => ?_⟩
    obtain ⟨b, off, e, rest⟩ := hL k h hk
    exact ⟨b, off, by rw [e], rest⟩
set_option maxRecDepth 100000 in
theorem rqs_of_arg (hv : Value.okWide Tryd.prog W r b0 30 v) (h : DataW.Trod enc Tryd.prog W 0 sp true 30 v d p) : ∃ L : List Rq, Rqs W v L := by
  obtain ⟨a1, len, cap, rfl⟩ := okWide_slice Tryd.underlying30 hv
  obtain ⟨fuel, hf⟩ := h
  rcases open_slice Tryd.underlying30 hf with ⟨hcs, hx⟩ | ⟨a, len', cap', m, n, D, Pl, hcs, _, hl, hm, hmm, hx, hi⟩
  · simp [Value.cells] at hcs
    obtain ⟨rfl, rfl, rfl⟩ := hcs
    exact ⟨[], none, 0, rfl, Nat.le_refl _, Nat.zero_le _, by simp⟩
  · simp [Value.cells] at hcs
    obtain ⟨rfl, rfl, rfl⟩ := hcs
    have hlm : len ≤ m := by rw [hmm]; split <;> omega
    have hone : ∀ i, i < len → ∃ t : Rq, ∃ b off, a = ⟨b, off, none⟩ ∧ b < W.heap.size ∧ W.cell? ⟨b, off + i * 3, none⟩ = some (.int .i64 t.kind) ∧ W.cell? ⟨b, off + i * 3 + 1, none⟩ = some (.string (bs t.id)) ∧ W.cell? ⟨b, off + i * 3 + 2, none⟩ = some (.string (bs t.to)) := by
      intro i hil
      obtain ⟨cs, hc, ht⟩ := hi i (by omega)
      rw [cellsOf33] at hc
      obtain ⟨_, hcl, hat⟩ := World.cells?_some hc
      obtain ⟨xs, n', _, _, _, hxl, hfd⟩ := DataW.trod_struct Tryd.underlying33 ht
      match cs, hcl with
      | [q0, q1, q2], _ =>
        have hxl' : xs.length = 3 := hxl
        match xs, hxl' with
        | [y0, y1, y2], _ =>
          have f0 : DataW.trod enc Tryd.prog W 0 sp true n' 3 [q0] = some y0 := by have := hfd 0 _ rfl; simpa [cellsOf3] using this
          have f1 : DataW.trod enc Tryd.prog W 0 sp true n' 9 [q1] = some y1 := by have := hfd 1 _ rfl; simpa [cellsOf9] using this
          have f2 : DataW.trod enc Tryd.prog W 0 sp true n' 9 [q2] = some y2 := by have := hfd 2 _ rfl; simpa [cellsOf9] using this
          obtain ⟨x0, e0, -, -⟩ := DataW.trod_int Tryd.underlying3 f0
          obtain ⟨x1, e1, -, -⟩ := DataW.trod_string Tryd.underlying9 f1
          obtain ⟨x2, e2, -, -⟩ := DataW.trod_string Tryd.underlying9 f2
          simp only [List.cons.injEq, and_true] at e0 e1 e2
          subst e0 e1 e2
          have g0 := hat 0 (by omega)
          have g1 := hat 1 (by omega)
          have g2 := hat 2 (by omega)
          obtain ⟨blk, off, el⟩ := a
          have hel : el = none := by
            obtain ⟨cz, hcz, -⟩ := hi 0 (by omega)
            rw [cellsOf33] at hcz
            obtain ⟨_, hcl, hatz⟩ := World.cells?_some hcz
            have hz := hatz 0 (by omega)
            rw [List.getElem?_eq_getElem (by omega)] at hz
            have := World.cell?_spot hz
            simpa [Addr.add] using this
          subst hel
          simp only [add_flat, List.getElem?_cons_zero, List.getElem?_cons_succ, Nat.add_zero] at g0 g1 g2
          exact ⟨⟨x0, tl x1, tl x2⟩, blk, off, rfl, World.block_lt_of_cell? W _ g0, g0, by rw [bs_tl]; exact g1, by rw [bs_tl]; exact g2⟩
    obtain ⟨L, hLl, hL⟩ := list_of len _ hone
    refine ⟨L, some a, cap, by rw [hLl], by omega, by omega, fun k h hk => ?_⟩
    obtain ⟨b, off, e, rest⟩ := hL k h hk
    exact ⟨b, off, by rw [e], rest⟩
end
set_option maxRecDepth 100000 in
theorem handed_laid_shaped {H : Type} {enc : TypeId × Value → H} {os : Os} {f : FuncId} {fn : Func} {s : ChangeSpec} {laid : List (String × DataW Unit)}
    (started : os.Started) (noInit : Tryd.checked.prog.inits.idxOf? f = none) (hfn : Tryd.checked.prog.funcs[f]? = some fn)
    (witness : ∃ (w : World) (tape : Tape) (i : Input), w.os = os ∧ (w.forCall tape i).Shaped Tryd.checked.prog ∧ i.vars = [] ∧ Input.okWide Tryd.checked.prog (w.forCall tape i) .any w.heap.size f i ∧
      ((s.pre enc Tryd.checked.prog fn [] false (w.forCall tape i).memory i.args ∧ laidMetH Tryd.prog laid (w.forCall tape i).memory) ∧ sizedMet enc Tryd.checked.prog fn (OpenSpec.ofChange s) false (w.forCall tape i).memory i.args) ∧ ({} : Assume).holds Tryd.checked.prog (lone (Frame.enter Tryd.checked.prog f i.args .normal) [] (w.forCall tape i)))
    (contract : ∀ (W : World) (base : Nat) (args : Array Value) (ds gs : List (DataW H)) (before : List MemPlace),
      (∀ (j : Nat) t v, fn.params[j]? = some t → args[j]? = some v → Value.okWide Tryd.checked.prog W .any base t v) →
      DataW.Whole enc Tryd.checked.prog fn.params.toList s.vars false W args.toList ds gs before →
      laidMetH Tryd.prog laid W → W.ShapedOpen Tryd.prog →
      Calls Tryd.checked.prog f args W fun e W' => ∃ v, e = .returned v ∧ s.post enc Tryd.checked.prog fn false true false false W args v W') :
    ReturnsInHanded {} Tryd.checked os f .any (fun w args => (s.pre enc Tryd.checked.prog fn [] false w args ∧ laidMetH Tryd.prog laid w) ∧ sizedMet enc Tryd.checked.prog fn (OpenSpec.ofChange s) false w args) (s.post enc Tryd.checked.prog fn false true false false) := by
  refine returnsInHanded_of_calls own started noInit witness ?_
  intro w tape i _ hsh _ hok hpre _
  obtain ⟨_, _, _, g, hg, _, _, _, _, hval⟩ := hok
  obtain rfl : g = fn := Option.some.inj (hg.symm.trans hfn)
  obtain ⟨⟨⟨ds, gs, before, hw, -⟩, hx⟩, -⟩ := hpre
  refine (contract _ w.heap.size i.args ds gs before hval (DataW.Whole.of_heap (w' := w.forCall tape i) (by rfl) hw) (hx.of_heap (by rfl)) hsh).mono ?_
  rintro e W' ⟨v, rfl, hp⟩
  exact ChangeSpec.post_blind hp
end Go.Proofs.YtmklpanehnkfbaaDoor
