/-
  For the laws of node: the same range where the round's variable is a box. No condition.
-/
import Derived.Test.YtfjmhnnjgjcmeaaDoorRng
import Derived.RangeFuncBox
import Derived.RangeFuncLeaves
import Derived.RangeFuncNested
import Derived.RangeFuncBound
import Derived.RangeFuncCalls
namespace Go.Proofs.YtfjmhnnjgjcmeaaDoor.L
open Go.RowKit Go.Shelf
set_option linter.unusedSimpArgs false
set_option linter.unusedVariables false

theorem rngU {α : Type} {F : Fence} {n : Nat} {g : Operand} {ps : Array Tmp} {assign body : Code} {Q : Exit → Act → World → Prop} {a : Act} {w : World}
    (hro : F.round = none) (h1 : 1 ≤ n) {gf : Nat} {lb : Array Value} (hg : a.eval g = .func (.func gf) #[] lb) (hFg : F.fn gf) (eg : ∀ args w, (callFunc gf args).run Tryd.prog w = .ok (.enter gf args) w)
    {encs : α → Array Value} {Kp : World → World → Prop} {S : List α → Prop} {N : Nat} {w0 : World} (hseq : SeqT F (n - 1) gf lb encs Kp S N w0)
    (hKt : ∀ {A B C : World}, Kp A B → Kp B C → Kp A C) (hKb : ∀ (W : World) (l : Nat) (o o' : Obj), w.heap.size ≤ l → W.heap[l]? = some o → o.isCells = false → Kp W (W.putObj l o')) (hb0 : Below w0.heap.size w0 w) (hps : ∀ x, (encs x).size = ps.size)
    (I : List α → World → Prop) (hI : AbT w.heap.size I) (h0 : I [] w) (Ax : α → Act → World → Prop)
    (hAx : ∀ (x : α) (a' : Act) (A : World) (l : Nat) (o o' : Obj), Ax x a' A → w.heap.size ≤ l → A.heap[l]? = some o → o.isCells = false → Ax x a' (A.putObj l o'))
    (hassign : ∀ (l : Nat) (pre : List α) (x : α) (W : World) (K : Act → World → Prop), I pre W → pre.length < N → (∀ a' W', KeepsFrom w.heap.size W W' → Kp W W' → I pre W' → Ax x a' W' → K a' W') →
      assign.wpIn (F.inRound l) (n - 1 - 1) Tryd.prog (Exit.then K (fun _ _ _ => False)) { tmps := (ps.zip (encs x)).foldl (fun t (p, v) => t.setIfInBounds p v) a.tmps, defers := [] } W)
    (hbody : ∀ (l : Nat) (pre : List α) (x : α) (a' : Act) (W : World), I pre W → Ax x a' W → pre.length < N → body.wpIn (F.inRound l) (n - 1 - 1) Tryd.prog (postT w.heap.size Kp I (pre ++ [x]) W) a' W)
    (hdone : ∀ (D : Nat) (xs : List α) (W : World), w.heap.size ≤ D → S xs → I xs W → W.heap[D]? = some (.deferred (some [])) → Q .normal { a with defers := { target := .collected D, args := #[] } :: a.defers } W) :
    (Code.rangeFunc g ps assign body).wpIn F n Tryd.prog Q a w := by
  refine wpIn_rangeFunc ?_
  intro fn hfn
  rw [hro]
  obtain ⟨lp, hlp⟩ : ∃ lp : LoopState → Option Code → Loop, lp = fun st pe => { state := st, pending := pe, fn, tmps := a.tmps, params := ps, assign, body, defers := w.heap.size } := ⟨_, rfl⟩
  obtain ⟨V, hV⟩ : ∃ V, (w.alloc (.deferred (some []))).alloc (.loop (lp .ready none)) = V := ⟨_, rfl⟩
  have vl : V.heap[w.heap.size + 1]? = some (.loop (lp .ready none)) := by
    have h := World.alloc_heap_new (w.alloc (.deferred (some []))) (.loop (lp .ready none))
    rw [World.size_alloc, hV] at h
    exact h
  have vd : V.heap[w.heap.size]? = some (.deferred (some [])) := by
    rw [← hV]
    exact (Below.heap_alloc _ _ _ (by simp)).trans (World.alloc_heap_new w _)
  have vs : V.heap.size = w.heap.size + 2 := by rw [← hV]; simp
  have vb : Below w0.heap.size w0 V := by
    rw [← hV]
    exact (hb0.alloc hb0.size _).alloc (by rw [World.size_alloc]; have := hb0.size; omega) _
  refine ⟨w.heap.size + 1, [{ target := .collected w.heap.size, args := #[] }], V, { target := .fn (.func gf) lb, args := #[.func (.yield (w.heap.size + 1)) #[] #[]] }, V, gf, #[.func (.yield (w.heap.size + 1)) #[] #[]] ++ lb, V, ?_, ?_, ?_, ?_, fun _ => h1, ?_⟩
  · rw [← hV, hlp]
    exact run_enterLoop_outer _ _ _ _ _
  · simp only [resolve, hg]
    simp [go_sem]
  · intro f hf
    simp [Target.leads] at hf
    subst hf
    exact hFg
  · simp [invoke, go_sem, eg]
  have call := hseq (w.heap.size + 1) (fun pre W => I pre W ∧ W.heap[w.heap.size + 1]? = some (.loop (lp .ready none)) ∧ W.heap[w.heap.size]? = some (.deferred (some []))) V vb
    (fun s A A' row ⟨i1, i2, i3⟩ hgr hr => by
      have hs := (Array.getElem?_eq_some_iff.1 i2).1
      refine ⟨hI s A A' row i1 hgr (fun r e => ⟨by have := (hr r e).1; omega, (hr r e).2⟩), (hgr.block _ hs (fun e => ?_)).trans i2, (hgr.block _ (by omega) (fun e => ?_)).trans i3⟩
      · have := (hr _ e.symm).1; omega
      · have := (hr _ e.symm).1; omega)
    (fun pre x W ⟨i1, i2, i3⟩ hlen => by
      have hs := (Array.getElem?_eq_some_iff.1 i2).1
      have hy := run_yield (P := Tryd.prog) (args := encs x) i2 (by rw [hlp]; exact hps x)
      rw [hlp] at hy
      refine ⟨fn, _, assign, body, hy, roundIn_of_wpIn hfn (hassign _ pre x W _ i1 hlen (fun a' Wa ka kp ia xa => ?_))⟩
      have i2a := ka.same _ _ (by omega) i2 rfl
      have i3a := ka.same _ _ (Nat.le_refl _) i3 rfl
      have hsa := (Array.getElem?_eq_some_iff.1 i2a).1
      refine ⟨_, run_beginRound i2a (by rw [hlp]), ?_⟩
      obtain ⟨B0, hB0⟩ : ∃ B0, Wa.putObj (w.heap.size + 1) (.loop { lp .ready none with state := .busy }) = B0 := ⟨_, rfl⟩
      rw [hB0]
      have bl : B0.heap[w.heap.size + 1]? = some (.loop { lp .ready none with state := .busy }) := by rw [← hB0]; exact World.putObj_heap_same hsa
      have bd : B0.heap[w.heap.size]? = some (.deferred (some [])) := by rw [← hB0]; exact (World.putObj_heap_other (by omega)).trans i3a
      have bk : Kp W B0 := by rw [← hB0]; exact hKt kp (hKb _ _ _ _ (by omega) i2a rfl)
      have bi : I pre B0 := by rw [← hB0]; exact hI.put _ ia (by omega) i2a rfl
      have bx : Ax x a' B0 := by rw [← hB0]; exact hAx _ _ _ _ _ _ xa (by omega) i2a rfl
      refine wpIn_mono (hbody _ pre x a' _ bi bx hlen) ?_
      rintro e a3 C hp
      cases e with
      | normal =>
        obtain ⟨k1, k2, k3⟩ := hp
        have cl := k1.same _ _ (by omega) bl rfl
        have cd := k1.same _ _ (Nat.le_refl _) bd rfl
        have hr := run_endRound (P := Tryd.prog) none cl
        rw [hlp] at hr cl
        refine ⟨_, _, hr, rfl, ⟨hI.put _ k3 (by omega) cl rfl, ?_, (World.putObj_heap_other (by omega)).trans cd⟩, hKt (hKt bk k2) (hKb _ _ _ _ (by omega) cl rfl)⟩
        rw [hlp]
        exact World.putObj_heap_same (Array.getElem?_eq_some_iff.1 cl).1
      | ret => exact hp.elim
      | exit id => exact hp.elim
      | goto t => exact hp.elim
      | panic ch => exact hp.elim
      | outgrown => exact hp.elim)
    ⟨by rw [← hV]; exact hI.alloc _ (hI.alloc _ h0), vl, vd⟩
  refine call.mono ?_
  rintro e W2 ⟨⟨v, rfl⟩, xs, hS, i1, i2, i3⟩
  have hr := run_endLoop (P := Tryd.prog) i2 (by rw [hlp]; simp)
  rw [hlp] at hr i2
  exact ⟨none, _, hr, hdone _ xs _ (Nat.le_refl _) hS (hI.put _ i1 (by omega) i2 rfl) ((World.putObj_heap_other (by omega)).trans i3)⟩
end Go.Proofs.YtfjmhnnjgjcmeaaDoor.L
