/-
  For the laws of span: a row of edits taken over into one's own, by the program. Condition: at most 1,000,000 edits.
-/
import Derived.Test.YtpekbakidhfliaaOne
import Derived.Lib.SliceRun
namespace Go.Proofs.Ytpekbakidhfliaa
open Go.RowKit Go.Shelf

theorem wpList_append_eds {w : World} {ops : Array Oper} {rest : List Oper} {o : Oper} {a : Act} {Q : Exit → Act → World → Prop} (hgd : o.guard = none) (s x : Operand)
    (ho : o.op = .call { callee := .builtin .append, args := #[s, x], argTypes := #[22, 22] }) (base : Nat)
    (v vx : Value) (n : Nat) (xs : List Value) (L : List Ed) (hs : a.eval s = v) (hown : w.ownsRow base 39 3 v n xs) (hx : a.eval x = vx) (hst : Eds w vx L)
    (hn : n + L.length ≤ 1000000) (hbase : base ≤ w.heap.size)
    (h : ∀ v' w', w'.ownsRow base 39 3 v' (n + L.length) (xs ++ ev L) → Below base w w' → wpList Try.prog ops Q rest (a.put o.dst v') w') : wpList Try.prog ops Q (o :: rest) a w := by
  obtain ⟨i0, hi, hz0, hz1, hz2⟩ := info_parts infoEd
  have hrow : ∀ {w' : World}, w.grownBy w' v.ownBlock → Below base w w' := fun hg =>
    (Below.refl base w).grown hg hbase fun k e => (hown.lt k e).1
  obtain ⟨ad, cap, rfl, hc, hm, hv⟩ := hst
  cases ad with
  | none =>
    have hy : L = [] := by
      cases L with
      | nil => rfl
      | cons y L =>
        obtain ⟨b, off, e, _⟩ := hv 0 y rfl
        cases e
    subst hy
    refine wpList_plain hgd fun K hK => ?_
    have hrun : (Builtin.append_ #[22, 22] o.type #[v, .slice none 0 cap]).run Try.prog w = .ok v w := by
      rcases hown.2 with ⟨rfl, rfl⟩ | ⟨g, cp, cur, rfl, _, _, hnc, _⟩
      · simp [Builtin.append_, run_underlying Try.underlying22, sizeOf, typeInfo, hi, Builtin.lenOf, Builtin.firstCells]
      · simp [Builtin.append_, run_underlying Try.underlying22, sizeOf, typeInfo, hi, Builtin.lenOf, Builtin.firstCells, hnc, storeCells]
    have hx' : a.eval x = .slice none 0 cap := hx
    unfold Oper.wp
    simp [execOp, ho, resolve, invoke, builtin, hs, hx', hrun, Result.andThen]
    exact hK _ _ (h v w (by simpa [ev] using hown) (Below.refl _ _))
  | some p =>
    refine wpList_append_own w hgd s x 22 ho base 39 i0 (.agg #[.int .i64 0, .int .i64 0, .string ⟨#[]⟩]) 3 32 Try.underlying22 hi hz0 hz1 hz2 rfl (by decide) v n xs hs hown p L.length cap (ev L) hx (ev_len L) ?_ ?_ (by unfold maxLen; omega) (by omega) hbase ?_
    · intro j u hj
      have hjl := (List.getElem?_eq_some_iff.1 hj).1
      rw [ev_len] at hjl
      obtain ⟨y, hy⟩ : ∃ y, L[j / 3]? = some y := ⟨_, List.getElem?_eq_getElem (by omega)⟩
      obtain ⟨b, off, e, _, c0, c1, c2⟩ := hv (j / 3) y hy
      cases e
      obtain ⟨g0, g1, g2⟩ := ev_get hy
      rw [add_flat]
      have hm3 : j % 3 = 0 ∨ j % 3 = 1 ∨ j % 3 = 2 := by omega
      rcases hm3 with h3 | h3 | h3
      · have ej : j / 3 * 3 = j := by omega
        rw [ej] at c0 g0
        rw [hj] at g0
        rw [c0, g0]
      · have ej : j / 3 * 3 + 1 = j := by omega
        rw [Nat.add_assoc, ej] at c1
        rw [ej, hj] at g1
        rw [c1, g1]
      · have ej : j / 3 * 3 + 2 = j := by omega
        rw [Nat.add_assoc, ej] at c2
        rw [ej, hj] at g2
        rw [c2, g2]
    · intro u hu
      obtain ⟨f, _, hf⟩ := List.mem_flatMap.1 hu
      simp only [rowE, List.mem_cons, List.not_mem_nil, or_false] at hf
      rcases hf with rfl | rfl | rfl <;> rfl
    · intro v' w' h1 h2 _
      exact h v' w' h1 (hrow h2)
theorem eds_nil {W : World} {c : Nat} {n : Nat} {L : List Ed} (h : Eds W (.slice none n c) L) : L = [] := by
  obtain ⟨a, cap, e, _, _, hat⟩ := h
  cases e
  cases L with
  | nil => rfl
  | cons y L =>
    obtain ⟨b, off, e, _⟩ := hat 0 y rfl
    cases e
set_option maxRecDepth 100000 in
set_option maxHeartbeats 8000000 in
theorem Clone_any (v : Value) (L : List Ed) (w : World) (h1 : Eds w v L) (hL : L.length ≤ 1000000) : Calls Try.prog 27 #[v] w fun e w' => ∃ v', e = .returned v' ∧ w'.ownsRow w.heap.size 39 3 v' L.length (ev L) ∧ Below w.heap.size w w' := by
  have H1 := Lib.hid h1
  obtain ⟨a, cap, rfl, hc, hm, hat⟩ := h1
  clear hat
  cases a with
  | none =>
    have hl := eds_nil H1.out
    subst hl
    have he : ∀ (w : World) n c, (binOp .eql 22 (.slice none n c) (.slice none 0 0)).run Try.prog w = .ok (.bool true) w := fun w n c => Lib.run_eql_slice_nil w _ _ none n c 0 0 Try.underlying22
    go_enter Try.func27, Try.ntmps27
    go_wp2_with fail
    go_ret
    exact ⟨_, rfl, World.ownsRow_nil _ _ _ _, Below.refl _ _⟩
  | some p =>
    have he : ∀ (w : World) n c, (binOp .eql 22 (.slice (some p) n c) (.slice none 0 0)).run Try.prog w = .ok (.bool false) w := fun w n c => Lib.run_eql_slice_nil w _ _ (some p) n c 0 0 Try.underlying22
    have hb1 := (Below.refl w.heap.size w).alloc (Nat.le_refl _) (.cells #[] 39)
    have Hb1 := Lib.hid hb1
    have H2 := Lib.hid (H1.out.below hb1)
    have ho := World.ownsRow_made (e := 39) (size := 3) w #[] 0 (Nat.le_refl w.heap.size) (Nat.zero_le _) rfl
    have Ho := Lib.hid ho
    clear hb1 ho
    go_enter Try.func27, Try.ntmps27
    go_wp2_with (at_builtin; refine wpList_append_eds rfl _ _ rfl w.heap.size _ _ _ _ L rfl Ho.out rfl H2.out (by omega) (by simp) ?_; intro v' w4 hown' hb4)
    go_ret
    exact ⟨_, rfl, by simpa using hown', Hb1.out.trans hb4⟩
set_option maxRecDepth 100000 in
set_option maxHeartbeats 8000000 in
theorem stableF_one (p : Option Addr) (c : Nat) (f : Value) (w : World) : Calls Try.prog 28 #[.slice p 1 c, f] w fun e w' => (∃ v, e = .returned v) ∧ Below w.heap.size w w' := by
  go_enter Try.func28, Try.ntmps28
  go_wp2_with fail
  refine (stable_one _ _ w).mono ?_
  rintro e w1 ⟨⟨_, rfl⟩, b1⟩
  go_wp2_with fail
  go_end0
  exact ⟨⟨_, rfl⟩, b1⟩
set_option maxRecDepth 100000 in
set_option maxHeartbeats 8000000 in
theorem Sort_one (v : Value) (e : Ed) (w : World) (h1 : Eds w v [e]) : Calls Try.prog 19 #[v] w fun e w' => (∃ p c, e = .returned (.slice p 1 c)) ∧ Below w.heap.size w w' := by
  have H1 := Lib.hid h1
  obtain ⟨a, cap, rfl, hc, hm, hat⟩ := h1
  clear hat
  go_enter Try.func19, Try.ntmps19
  go_wp2_with fail
  refine (Clone_any _ _ w H1.out (by simp)).mono ?_
  rintro e w1 ⟨v1, rfl, ho, b1⟩
  obtain ⟨p, c, rfl, hc1, hm1, -⟩ := own_eds ho
  have B1 := Lib.hid b1
  clear ho b1
  go_wp2_with fail
  refine (stableF_one _ _ _ _).mono ?_
  rintro e w2 ⟨⟨_, rfl⟩, b2⟩
  go_wp2_with fail
  go_ret
  exact ⟨⟨_, _, rfl⟩, B1.out.trans (b2.mono B1.out.size)⟩
end Go.Proofs.Ytpekbakidhfliaa
