/-
  For the laws of tree: slices of files joined: Grow, Concat, and Put, by the program. Condition: at most 1,000,000 files.
-/
import Derived.Lib.AppendZeros
import Derived.Test.YtbfehhblnakcbaaSort
namespace Go.Proofs.Ytbfehhblnakcbaa
open Go.RowKit Go.Shelf

theorem wpList_append_fls {w : World} {ops : Array Oper} {rest : List Oper} {o : Oper} {a : Act} {Q : Exit → Act → World → Prop} (hgd : o.guard = none) (s x : Operand)
    (ho : o.op = .call { callee := .builtin .append, args := #[s, x], argTypes := #[22, 22] }) (base : Nat)
    (v vx : Value) (n : Nat) (xs : List Value) (L : List Fl) (hs : a.eval s = v) (hown : w.ownsRow base 43 2 v n xs) (hx : a.eval x = vx) (hst : Fls w vx L)
    (hn : n + L.length ≤ 1000000) (hbase : base ≤ w.heap.size)
    (h : ∀ v' w', w'.ownsRow base 43 2 v' (n + L.length) (xs ++ fv L) → Below base w w' → wpList Try.prog ops Q rest (a.put o.dst v') w') : wpList Try.prog ops Q (o :: rest) a w := by
  obtain ⟨i0, hi, hz0, hz1, hz2⟩ := info_parts infoFl
  have hrow : ∀ {w' : World}, w.grownBy w' v.ownBlock → Below base w w' := fun hg =>
    (Below.refl base w).grown hg hbase fun k e => (hown.lt k e).1
  obtain ⟨ad, cap, rfl, hc, hm, hv⟩ := hst
  cases ad with
  | none =>
    have hy : L = [] := by
      cases L with
      | nil => rfl
      | cons y L =>
        obtain ⟨b, off, e, _⟩ := hv 0 y rfl
        cases e
    subst hy
    refine wpList_plain hgd fun K hK => ?_
    have hrun : (Builtin.append_ #[22, 22] o.type #[v, .slice none 0 cap]).run Try.prog w = .ok v w := by
      rcases hown.2 with ⟨rfl, rfl⟩ | ⟨g, cp, cur, rfl, _, _, hnc, _⟩
      · simp [Builtin.append_, run_underlying Try.underlying22, sizeOf, typeInfo, hi, Builtin.lenOf, Builtin.firstCells]
      · simp [Builtin.append_, run_underlying Try.underlying22, sizeOf, typeInfo, hi, Builtin.lenOf, Builtin.firstCells, hnc, storeCells]
    have hx' : a.eval x = .slice none 0 cap := hx
    unfold Oper.wp
    simp [execOp, ho, resolve, invoke, builtin, hs, hx', hrun, Result.andThen]
    exact hK _ _ (h v w (by simpa [fv] using hown) (Below.refl _ _))
  | some p =>
    refine wpList_append_own w hgd s x 22 ho base 43 i0 (.agg #[.string ⟨#[]⟩, .string ⟨#[]⟩]) 2 32 Try.underlying22 hi hz0 hz1 hz2 rfl (by decide) v n xs hs hown p L.length cap (fv L) hx (fv_len L) ?_ ?_ (by unfold maxLen; omega) (by omega) hbase ?_
    · intro j u hj
      have hjl := (List.getElem?_eq_some_iff.1 hj).1
      rw [fv_len] at hjl
      obtain ⟨y, hy⟩ : ∃ y, L[j / 2]? = some y := ⟨_, List.getElem?_eq_getElem (by omega)⟩
      obtain ⟨b, off, e, _, c0, c1⟩ := hv (j / 2) y hy
      cases e
      obtain ⟨g0, g1⟩ := fv_get hy
      rw [add_flat]
      rcases Nat.mod_two_eq_zero_or_one j with hj2 | hj2
      · have ej : j / 2 * 2 = j := by omega
        rw [ej] at c0 g0
        rw [hj] at g0
        rw [c0, g0]
      · have ej : j / 2 * 2 + 1 = j := by omega
        rw [Nat.add_assoc, ej] at c1
        rw [ej, hj] at g1
        rw [c1, g1]
    · intro u hu
      obtain ⟨f, _, hf⟩ := List.mem_flatMap.1 hu
      simp only [rowF, List.mem_cons, List.not_mem_nil, or_false] at hf
      rcases hf with rfl | rfl <;> rfl
    · intro v' w' h1 h2 _
      exact h v' w' h1 (hrow h2)
set_option maxRecDepth 100000 in
set_option maxHeartbeats 8000000 in
theorem Grow_nil (n : Nat) (w : World) (hn : n ≤ 1000000) : Calls Try.prog 36 #[.slice none 0 0, .int .i64 n] w fun e w' => ∃ v, e = .returned v ∧ w'.ownsRow w.heap.size 43 2 v 0 [] ∧ Below w.heap.size w w' := by
  have f0 : decide ((n : Int) < 0) = false := decide_eq_false (by omega)
  have f1 : wrap64 (n : Int) = n := Go.IntWalk.wrap64_in _ (by omega)
  by_cases h0 : n = 0
  · subst h0
    show Calls Try.prog 36 #[.slice none 0 0, .int .i64 0] w _
    clear f0 f1
    go_enter Try.func36, Try.ntmps36
    go_wp2_with fail
    go_ret
    exact ⟨_, rfl, World.ownsRow_nil _ _ _ _, Below.refl _ _⟩
  · have f2 : decide ((n : Int) > 0) = true := decide_eq_true (by omega)
    obtain ⟨i0, hi0, hz0, hz1, hz2⟩ := info_parts infoFl
    have hge := grownCap_ge w n 0 43
    have hle := grownCap_le_maxLen w n 0 43 (by unfold maxLen; omega)
    obtain ⟨C, hC⟩ : ∃ C, grownCap w n 0 43 = C := ⟨_, rfl⟩
    have hrun := Lib.run_append_nil_zeros w 22 3 22 43 i0 _ .i64 .i64 Try.underlying22 Try.underlying3 hi0 hz0 n (by omega) (by rw [hz1]; decide) (by omega) (by rw [hz2]; omega)
    rw [hC] at hrun hge hle
    obtain ⟨vs, hvs⟩ : ∃ vs, Builtin.zeroCells (Value.agg #[.string ⟨#[]⟩, .string ⟨#[]⟩]).cells n ++ Builtin.zeroCells (Value.agg #[.string ⟨#[]⟩, .string ⟨#[]⟩]).cells (C - n) = vs := ⟨_, rfl⟩
    have hsz : vs.size = C * 2 := by
      rw [← hvs, Array.size_append, size_zeroCells, size_zeroCells]
      have : (Value.agg #[.string ⟨#[]⟩, .string ⟨#[]⟩]).cells.size = 2 := rfl
      rw [this]; omega
    rw [hvs] at hrun
    obtain ⟨W2, hW2⟩ : ∃ W2, Hid (w.drew.alloc (.cells vs 43) = W2) := ⟨_, Lib.hid rfl⟩
    rw [hW2.out] at hrun
    have hown : Hid (W2.ownsRow w.heap.size 43 2 (.slice (some ⟨w.heap.size, 0, none⟩) 0 C) 0 []) := Lib.hid ⟨rfl, .inr ⟨w.heap.size, C, vs, rfl, Nat.le_refl _, by rw [← hW2.out]; exact World.alloc_heap_new w.drew _, Nat.zero_le _, hle, hsz, rfl⟩⟩
    have hB : Hid (Below w.heap.size w W2) := Lib.hid (by rw [← hW2.out]; exact (below_drew (Below.refl _ _)).alloc (Nat.le_refl _) _)
    have Hrun := Lib.hid hrun
    clear hrun hvs hsz hC hge
    unfold maxLen at hle
    go_enter Try.func36, Try.ntmps36
    go_wp2_with (at_builtin; refine Lib.wpList_append_run _ rfl _ _ _ _ rfl _ _ rfl rfl _ _ Hrun.out ?_)
    go_ret
    exact ⟨_, rfl, hown.out, hB.out⟩
end Go.Proofs.Ytbfehhblnakcbaa
