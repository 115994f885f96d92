/-
  For the laws of report: how long the texts are that are handed in. No condition.
-/
import Derived.Test.YtmklpanehnkfbaaDoorLaid
namespace Go.Proofs.YtmklpanehnkfbaaDoor
open Go.ChangeShapes Go.WideShapes Go.ChangeAt Go.RowKit Go.Deep

theorem weights_mem {H : Type} {e : TypeId} {m : Nat} : ∀ {l : List (DataW H)}, (DataW.weightsAll Tryd.prog e l).all (· ≤ m) = true → ∀ d ∈ l, (d.weights Tryd.prog e).all (· ≤ m) = true
  | [], _, d, hd => by simp at hd
  | x :: l, h, d, hd => by
    rw [DataW.weightsAll, List.all_append, Bool.and_eq_true] at h
    rcases List.mem_cons.1 hd with rfl | hd
    · exact h.1
    · exact weights_mem h.2 d hd
section
variable {H : Type} {enc : TypeId × Value → H} {W : World} {sp : Nat → Bool} {r : Reach} {b0 : Nat} {v : Value} {d : DataW H} {p : List MemPlace}
set_option maxRecDepth 100000 in
theorem cfs_sized (hv : Value.okWide Tryd.prog W r b0 31 v) (h : DataW.Trod enc Tryd.prog W 0 sp true 31 v d p) : ∃ L : List Cf, Cfs W v L ∧ ((DataW.weights Tryd.prog 31 d).all (· ≤ reachBytes) = true → ∀ x ∈ L, x.key.length ≤ reachBytes) := by
  obtain ⟨a1, len, cap, rfl⟩ := okWide_slice Tryd.underlying31 hv
  obtain ⟨fuel, hf⟩ := h
  rcases open_slice Tryd.underlying31 hf with ⟨hcs, hx⟩ | ⟨a, len', cap', m, n, D, Pl, hcs, _, hl, hm, hmm, hx, hi⟩
  · simp [Value.cells] at hcs
    obtain ⟨rfl, rfl, rfl⟩ := hcs
    exact ⟨[], ⟨none, 0, rfl, Nat.le_refl _, Nat.zero_le _, by simp⟩, by simp⟩
  · simp [Value.cells] at hcs
    obtain ⟨rfl, rfl, rfl⟩ := hcs
    have hlm : len ≤ m := by rw [hmm]; split <;> omega
    have hone : ∀ i, i < len → ∃ t : Cf, ∃ b off, a = ⟨b, off, none⟩ ∧ b < W.heap.size ∧ W.cell? ⟨b, off + i * 2, none⟩ = some (.int .i64 t.kind) ∧ (W.cell? ⟨b, off + i * 2 + 1, none⟩ = some (.string (bs t.key)) ∧ D i = .agg [.lit (.int .i64 t.kind), .lit (.string t.key)]) := by
      intro i hil
      obtain ⟨cs, hc, ht⟩ := hi i (by omega)
      rw [cellsOf23] at hc
      obtain ⟨_, hcl, hat⟩ := World.cells?_some hc
      obtain ⟨y0, y1, n', hag, -, f0, f1⟩ := trod_struct2 Tryd.underlying23 ht
      simp only [cellsOf3, cellsOf9] at f0 f1
      match cs, hcl with
      | [q0, q1], _ =>
        have f0' : DataW.trod enc Tryd.prog W 0 sp true n' 3 [q0] = some y0 := by simpa using f0
        have f1' : DataW.trod enc Tryd.prog W 0 sp true n' 9 [q1] = some y1 := by simpa using f1
        obtain ⟨x0, e0, r0, -⟩ := DataW.trod_int Tryd.underlying3 f0'
        obtain ⟨x1, e1, r1, -⟩ := DataW.trod_string Tryd.underlying9 f1'
        simp only [List.cons.injEq, and_true] at e0 e1
        subst e0 e1
        have g0 := hat 0 (by omega)
        have g1 := hat 1 (by omega)
        obtain ⟨blk, off, el⟩ := a
        have hel : el = none := by
          obtain ⟨cz, hcz, -⟩ := hi 0 (by omega)
          rw [cellsOf23] at hcz
          obtain ⟨_, hcl, hatz⟩ := World.cells?_some hcz
          have hz := hatz 0 (by omega)
          rw [List.getElem?_eq_getElem (by omega)] at hz
          have := World.cell?_spot hz
          simpa [Addr.add] using this
        subst hel
        simp only [add_flat, List.getElem?_cons_zero, List.getElem?_cons_succ, Nat.add_zero] at g0 g1
        exact ⟨⟨x0, tl x1⟩, blk, off, rfl, World.block_lt_of_cell? W _ g0, g0, by rw [bs_tl]; exact g1, by subst r0 r1; exact congrArg Prod.fst hag⟩
    obtain ⟨L, hLl, hL⟩ := list_of len _ hone
    refine ⟨L, ⟨some a, cap, by rw [hLl], by omega, by omega, fun k h hk => ?_⟩, fun hwt x hxm => ?_⟩
    · obtain ⟨b, off, e, h1, h2, h3, -⟩ := hL k h hk
      exact ⟨b, off, by rw [e], h1, h2, h3⟩
    · obtain ⟨k, hk⟩ := List.getElem?_of_mem hxm
      obtain ⟨b, off, e, h1, h2, h3, h4⟩ := hL k x hk
      have hkl := (List.getElem?_eq_some_iff.1 hk).1
      have hd : d = _ := congrArg Prod.fst hx
      rw [hd, DataW.weights, Tryd.underlying31] at hwt
      simp only [List.all_cons, List.all_append, Bool.and_eq_true] at hwt
      have := weights_mem hwt.2.1 (D k) (List.mem_map.2 ⟨k, List.mem_range.2 (by omega), rfl⟩)
      rw [h4, DataW.weights, Tryd.underlying23] at this
      simpa [DataW.weightsEach, DataW.weights] using this
set_option maxRecDepth 100000 in
theorem rqs_sized (hv : Value.okWide Tryd.prog W r b0 30 v) (h : DataW.Trod enc Tryd.prog W 0 sp true 30 v d p) : ∃ L : List Rq, Rqs W v L ∧ ((DataW.weights Tryd.prog 30 d).all (· ≤ reachBytes) = true → ∀ x ∈ L, x.id.length ≤ reachBytes ∧ x.to.length ≤ reachBytes) := by
  obtain ⟨a1, len, cap, rfl⟩ := okWide_slice Tryd.underlying30 hv
  obtain ⟨fuel, hf⟩ := h
  rcases open_slice Tryd.underlying30 hf with ⟨hcs, hx⟩ | ⟨a, len', cap', m, n, D, Pl, hcs, _, hl, hm, hmm, hx, hi⟩
  · simp [Value.cells] at hcs
    obtain ⟨rfl, rfl, rfl⟩ := hcs
    exact ⟨[], ⟨none, 0, rfl, Nat.le_refl _, Nat.zero_le _, by simp⟩, by simp⟩
  · simp [Value.cells] at hcs
    obtain ⟨rfl, rfl, rfl⟩ := hcs
    have hlm : len ≤ m := by rw [hmm]; split <;> omega
    have hone : ∀ i, i < len → ∃ t : Rq, ∃ b off, a = ⟨b, off, none⟩ ∧ b < W.heap.size ∧ W.cell? ⟨b, off + i * 3, none⟩ = some (.int .i64 t.kind) ∧ W.cell? ⟨b, off + i * 3 + 1, none⟩ = some (.string (bs t.id)) ∧ (W.cell? ⟨b, off + i * 3 + 2, none⟩ = some (.string (bs t.to)) ∧ D i = .agg [.lit (.int .i64 t.kind), .lit (.string t.id), .lit (.string t.to)]) := by
      intro i hil
      obtain ⟨cs, hc, ht⟩ := hi i (by omega)
      rw [cellsOf33] at hc
      obtain ⟨_, hcl, hat⟩ := World.cells?_some hc
      obtain ⟨xs, n', _, hag, _, hxl, hfd⟩ := DataW.trod_struct Tryd.underlying33 ht
      match cs, hcl with
      | [q0, q1, q2], _ =>
        have hxl' : xs.length = 3 := hxl
        match xs, hxl' with
        | [y0, y1, y2], _ =>
          have f0 : DataW.trod enc Tryd.prog W 0 sp true n' 3 [q0] = some y0 := by have := hfd 0 _ rfl; simpa [cellsOf3] using this
          have f1 : DataW.trod enc Tryd.prog W 0 sp true n' 9 [q1] = some y1 := by have := hfd 1 _ rfl; simpa [cellsOf9] using this
          have f2 : DataW.trod enc Tryd.prog W 0 sp true n' 9 [q2] = some y2 := by have := hfd 2 _ rfl; simpa [cellsOf9] using this
          obtain ⟨x0, e0, r0, -⟩ := DataW.trod_int Tryd.underlying3 f0
          obtain ⟨x1, e1, r1, -⟩ := DataW.trod_string Tryd.underlying9 f1
          obtain ⟨x2, e2, r2, -⟩ := DataW.trod_string Tryd.underlying9 f2
          simp only [List.cons.injEq, and_true] at e0 e1 e2
          subst e0 e1 e2
          have g0 := hat 0 (by omega)
          have g1 := hat 1 (by omega)
          have g2 := hat 2 (by omega)
          obtain ⟨blk, off, el⟩ := a
          have hel : el = none := by
            obtain ⟨cz, hcz, -⟩ := hi 0 (by omega)
            rw [cellsOf33] at hcz
            obtain ⟨_, hcl, hatz⟩ := World.cells?_some hcz
            have hz := hatz 0 (by omega)
            rw [List.getElem?_eq_getElem (by omega)] at hz
            have := World.cell?_spot hz
            simpa [Addr.add] using this
          subst hel
          simp only [add_flat, List.getElem?_cons_zero, List.getElem?_cons_succ, Nat.add_zero] at g0 g1 g2
          exact ⟨⟨x0, tl x1, tl x2⟩, blk, off, rfl, World.block_lt_of_cell? W _ g0, g0, by rw [bs_tl]; exact g1, by rw [bs_tl]; exact g2, by subst r0 r1 r2; exact congrArg Prod.fst hag⟩
    obtain ⟨L, hLl, hL⟩ := list_of len _ hone
    refine ⟨L, ⟨some a, cap, by rw [hLl], by omega, by omega, fun k h hk => ?_⟩, fun hwt x hxm => ?_⟩
    · obtain ⟨b, off, e, h1, h2, h3, h3b, -⟩ := hL k h hk
      exact ⟨b, off, by rw [e], h1, h2, h3, h3b⟩
    · obtain ⟨k, hk⟩ := List.getElem?_of_mem hxm
      obtain ⟨b, off, e, h1, h2, h3, h3b, h4⟩ := hL k x hk
      have hkl := (List.getElem?_eq_some_iff.1 hk).1
      have hd : d = _ := congrArg Prod.fst hx
      rw [hd, DataW.weights, Tryd.underlying30] at hwt
      simp only [List.all_cons, List.all_append, Bool.and_eq_true] at hwt
      have := weights_mem hwt.2.1 (D k) (List.mem_map.2 ⟨k, List.mem_range.2 (by omega), rfl⟩)
      rw [h4, DataW.weights, Tryd.underlying33] at this
      simpa [DataW.weightsEach, DataW.weights] using this
end
set_option maxRecDepth 100000 in
theorem handed_laid_sized {H : Type} {enc : TypeId × Value → H} {os : Os} {f : FuncId} {fn : Func} {s : ChangeSpec} {laid : List (String × DataW Unit)}
    (started : os.Started) (noInit : Tryd.checked.prog.inits.idxOf? f = none) (hfn : Tryd.checked.prog.funcs[f]? = some fn)
    (witness : ∃ (w : World) (tape : Tape) (i : Input), w.os = os ∧ (w.forCall tape i).Shaped Tryd.checked.prog ∧ i.vars = [] ∧ Input.okWide Tryd.checked.prog (w.forCall tape i) .any w.heap.size f i ∧
      ((s.pre enc Tryd.checked.prog fn [] false (w.forCall tape i).memory i.args ∧ laidMetH Tryd.prog laid (w.forCall tape i).memory) ∧ sizedMet enc Tryd.checked.prog fn (OpenSpec.ofChange s) false (w.forCall tape i).memory i.args) ∧ ({} : Assume).holds Tryd.checked.prog (lone (Frame.enter Tryd.checked.prog f i.args .normal) [] (w.forCall tape i)))
    (contract : ∀ (W : World) (base : Nat) (args : Array Value) (ds gs : List (DataW H)) (before : List MemPlace),
      (∀ (j : Nat) t v, fn.params[j]? = some t → args[j]? = some v → Value.okWide Tryd.checked.prog W .any base t v) →
      DataW.Whole enc Tryd.checked.prog fn.params.toList s.vars false W args.toList ds gs before →
      laidMetH Tryd.prog laid W → W.ShapedOpen Tryd.prog → (DataW.weightsEach Tryd.prog (fn.params.toList ++ s.plain.varTypes Tryd.prog) (ds ++ gs)).all (· ≤ reachBytes) = true →
      Calls Tryd.checked.prog f args W fun e W' => ∃ v, e = .returned v ∧ s.post enc Tryd.checked.prog fn false true false false W args v W') :
    ReturnsInHanded {} Tryd.checked os f .any (fun w args => (s.pre enc Tryd.checked.prog fn [] false w args ∧ laidMetH Tryd.prog laid w) ∧ sizedMet enc Tryd.checked.prog fn (OpenSpec.ofChange s) false w args) (s.post enc Tryd.checked.prog fn false true false false) := by
  refine returnsInHanded_of_calls own started noInit witness ?_
  intro w tape i _ hsh _ hok hpre _
  obtain ⟨_, _, _, g, hg, _, _, _, _, hval⟩ := hok
  obtain rfl : g = fn := Option.some.inj (hg.symm.trans hfn)
  obtain ⟨⟨⟨ds, gs, before, hw, -⟩, hx⟩, hz⟩ := hpre
  refine (contract _ w.heap.size i.args ds gs before hval (DataW.Whole.of_heap (w' := w.forCall tape i) (by rfl) hw) (hx.of_heap (by rfl)) hsh (hz.weights hw)).mono ?_
  rintro e W' ⟨v, rfl, hp⟩
  exact ChangeSpec.post_blind hp
end Go.Proofs.YtmklpanehnkfbaaDoor
