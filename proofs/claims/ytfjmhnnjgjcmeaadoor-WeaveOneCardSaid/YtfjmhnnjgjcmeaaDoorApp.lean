/-
  Inside a fence: texts put behind a row of texts that the call owns. Condition: at most 100,000,000 texts.
-/
import Derived.Test.YtfjmhnnjgjcmeaaDoorWe
import Derived.Test.YtfjmhnnjgjcmeaaDoorLasu
namespace Go.Proofs.YtfjmhnnjgjcmeaaDoor
open Go.RowKit Go.Shelf
set_option linter.unusedSimpArgs false
set_option linter.unusedVariables false

theorem stepIn_append_strs {F : Fence} {n : Nat} {ops : Array Oper} {Q : Exit → Act → World → Prop} (w : World) {o : Oper} {a : Act} {K : Act → World → Prop} {E : Prop} (hgd : o.guard = none) (s x : Operand)
    (ho : o.op = .call { callee := .builtin .append, args := #[s, x], argTypes := #[33, 33] }) (base n1 m : Nat) (v : Value) (k : Nat) (xs : List Value) (hs : a.eval s = v) (hown : w.ownsRow base 9 1 v k xs)
    (vx : Value) (ys : TL) (hx : a.eval x = vx) (hst : SetV n1 m w vx ys) (hm : k + ys.length ≤ 100000000) (hbase : base ≤ w.heap.size)
    (h : ∀ v' w', w'.ownsRow base 9 1 v' (k + ys.length) (xs ++ ys.map Value.string) → w.grownBy w' v.ownBlock → (v'.ownBlock = v.ownBlock ∨ v'.ownBlock = some w.heap.size) → K (a.put o.dst v') w') :
    if Region.wanted o (yielded ops a.tmps) = true then Oper.wpIn F n Tryd.prog o a w K Q else E := by
  obtain ⟨i0, hi, hz0, hz1, hz2⟩ := info_parts infoStr
  obtain ⟨ax, cx, rfl, hc, hcm, hr⟩ := hst
  rcases Nat.eq_zero_or_pos ys.length with h0 | h0
  · have hys : ys = [] := List.length_eq_zero_iff.1 h0
    subst hys
    have hw : Region.wanted o (yielded ops a.tmps) = true := by simp [Region.wanted, hgd]
    rw [if_pos hw]
    have hrun : (Builtin.append_ #[33, 33] o.type #[v, .slice ax 0 cx]).run Tryd.prog w = .ok v w := by
      rcases hown.2 with ⟨rfl, rfl⟩ | ⟨g, cp, cur, rfl, _, _, hnc, _⟩
      · cases ax <;> simp [Builtin.append_, run_underlying Tryd.underlying33, sizeOf, typeInfo, hi, Builtin.lenOf, Builtin.firstCells, loadCells, loadCellsFrom, storeCells, Sem.run_pure]
      · cases ax <;> simp [Builtin.append_, run_underlying Tryd.underlying33, sizeOf, typeInfo, hi, Builtin.lenOf, Builtin.firstCells, hnc, storeCells, loadCells, loadCellsFrom, Sem.run_pure]
    have hx' : a.eval x = .slice ax 0 cx := hx
    unfold Oper.wpIn
    refine ⟨?_, ?_⟩
    · simp [Oper.about, ho, resolve, Target.leads, Sem.run_pure]
    · rw [Oper.semAt_plain F _ o (fun c e => by rw [ho] at e; cases e)]
      simp [execOp, ho, resolve, invoke, builtin, hs, hx', hrun, Result.andThen]
      exact h v w (by simpa using hown) ⟨rfl, rfl, rfl, Nat.le_refl _, fun _ _ _ => rfl⟩ (.inl rfl)
  · rcases hr with hr | ⟨b, off, rfl, hb, -, hcell⟩
    · rw [hr] at h0; simp at h0
    · refine L.stepIn_append_lies w hgd s x 33 ho base 9 i0 (.string ⟨#[]⟩) 1 16 Tryd.underlying33 hi hz0 hz1 hz2 rfl (by decide) v k xs hs hown ⟨b, off, none⟩ ys.length cx (ys.map Value.string) hx (by simp) (fun j u hj => ?_) (by intro u hu; obtain ⟨y, _, rfl⟩ := List.mem_map.1 hu; rfl) h0 (by unfold maxLen; omega) (by omega) hbase w.heap.size rfl ?_
      · rw [List.getElem?_map] at hj
        cases hy : ys[j]? with
        | none => rw [hy] at hj; cases hj
        | some y => rw [hy] at hj; cases hj; rw [add_flat]; exact hcell j y hy
      · intro g cap w' g1 g2 g3 g4
        refine h _ w' g1 g2 ?_
        rcases g3 with g3 | g3
        · exact .inl g3.symm
        · rw [g3]; exact .inr rfl
end Go.Proofs.YtfjmhnnjgjcmeaaDoor
