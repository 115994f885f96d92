/-
  For the laws of flow: a range over an iterator that keeps a stack of its own (rows of type 155), and that may be left. No condition.
-/
import Derived.Test.YtbnbmjdjkadgoaaAll
import Derived.RangeFuncBox
import Derived.RangeFuncLeaves
import Derived.RangeFuncNested
import Derived.RangeFuncBound
import Derived.RangeFuncCalls
namespace Go.Proofs.Ytbnbmjdjkadgoaa.F
open Go.RowKit Go.Shelf
set_option linter.unusedSimpArgs false
set_option linter.unusedVariables false

/-- May the iterator turn this: no cells, or a row of its stack? -/
def Mine (o : Obj) : Prop := o.isCells = false ∨ ∃ cs, o = Obj.cells cs 155 (0, 0)
/-- I abides what the law and the iterator turn from B on. -/
def AbT {β : Type} (B : Nat) (I : β → World → Prop) : Prop := ∀ (s : β) (A A' : World) (row : Option Nat), I s A → A.grownBy A' row → (∀ r, row = some r → B ≤ r ∧ ∃ o, A.heap[r]? = some o ∧ Mine o) → I s A'
theorem AbT.alloc {β : Type} {B : Nat} {I : β → World → Prop} (h : AbT B I) {s : β} {W : World} (o : Obj) (hs : I s W) : I s (W.alloc o) := h s W _ none hs (World.grownBy_alloc W o none) (fun r e => by cases e)
theorem AbT.put {β : Type} {B : Nat} {I : β → World → Prop} (h : AbT B I) {s : β} {W : World} {l : Nat} {o : Obj} (o' : Obj) (hs : I s W) (hB : B ≤ l) (hl : W.heap[l]? = some o) (ho : o.isCells = false) : I s (W.putObj l o') :=
  h s W _ (some l) hs (grownBy_putObj' W l o') (fun r e => by cases e; exact ⟨hB, o, hl, .inl ho⟩)
/-- The iterator's word: it hands over the elements xs with S, one after the other, and turns nothing but its own; it ends where it is left. -/
def SeqT {α : Type} (F : Fence) (n : Nat) (gf : Nat) (lb : Array Value) (encs : α → Array Value) (Kp : World → World → Prop) (S Sp : List α → Prop) (w0 : World) : Prop :=
  ∀ (l : Nat) (J Jx : List α → World → Prop) (W : World), Below w0.heap.size w0 W → AbT W.heap.size J → AbT W.heap.size Jx →
    (∀ pre x W1, J pre W1 → YieldAt F (n - 1) Try.prog l (encs x) W1 fun e W' => (e = .returned (.bool true) ∧ J (pre ++ [x]) W' ∧ Kp W1 W') ∨ (e = .returned (.bool false) ∧ Jx (pre ++ [x]) W')) →
    J [] W → CallsIn F n Try.prog gf (#[.func (.yield l) #[] #[]] ++ lb) W fun e W' => (∃ v, e = .returned v) ∧ ((∃ xs, S xs ∧ J xs W') ∨ ∃ xs, Sp xs ∧ Jx xs W')
/-- How a round may end. -/
def postT {α : Type} (B : Nat) (Kp : World → World → Prop) (I Ix : List α → World → Prop) (xs : List α) (W : World) : Exit → Act → World → Prop
  | .normal, _, W' => KeepsFrom B W W' ∧ Kp W W' ∧ I xs W'
  | .ret, _, W' => KeepsFrom B W W' ∧ Ix xs W'
  | _, _, _ => False
theorem rngT {α : Type} {F : Fence} {n : Nat} {g : Operand} {ps : Array Tmp} {assign body : Code} {Q : Exit → Act → World → Prop} {a : Act} {w : World}
    (hro : F.round = none) (h1 : 1 ≤ n) {gf : Nat} {lb : Array Value} (hg : a.eval g = .func (.func gf) #[] lb) (hFg : F.fn gf) (eg : ∀ args w, (callFunc gf args).run Try.prog w = .ok (.enter gf args) w)
    {encs : α → Array Value} {Kp : World → World → Prop} {S Sp : List α → Prop} {w0 : World} (hseq : SeqT F (n - 1) gf lb encs Kp S Sp w0)
    (hKt : ∀ {A B C : World}, Kp A B → Kp B C → Kp A C) (hKb : ∀ (W : World) (l : Nat) (o o' : Obj), w.heap.size ≤ l → W.heap[l]? = some o → o.isCells = false → Kp W (W.putObj l o')) (hb0 : Below w0.heap.size w0 w) (hps : ∀ x, (encs x).size = ps.size)
    (I Ix : List α → World → Prop) (hI : AbT w.heap.size I) (hIx : AbT w.heap.size Ix) (h0 : I [] w) (a₁ : α → Act)
    (hassign : ∀ (l : Nat) (x : α) (W : World) (K : Act → World → Prop), K (a₁ x) W →
      assign.wpIn (F.inRound l) (n - 1 - 1) Try.prog (Exit.then K (fun _ _ _ => False)) { tmps := (ps.zip (encs x)).foldl (fun t (p, v) => t.setIfInBounds p v) a.tmps, defers := [] } W)
    (hbody : ∀ (l : Nat) (pre : List α) (x : α) (W : World), I pre W → body.wpIn (F.inRound l) (n - 1 - 1) Try.prog (postT w.heap.size Kp I Ix (pre ++ [x]) W) (a₁ x) W)
    (hdone : ∀ (D : Nat) (xs : List α) (W : World), w.heap.size ≤ D → S xs → I xs W → W.heap[D]? = some (.deferred (some [])) → Q .normal { a with defers := { target := .collected D, args := #[] } :: a.defers } W)
    (hstop : ∀ (D : Nat) (xs : List α) (W : World), w.heap.size ≤ D → Sp xs → Ix xs W → W.heap[D]? = some (.deferred (some [])) → Code.ret.wpIn F n Try.prog Q { a with defers := { target := .collected D, args := #[] } :: a.defers } W) :
    (Code.rangeFunc g ps assign body).wpIn F n Try.prog Q a w := by
  refine wpIn_rangeFunc ?_
  intro fn hfn
  rw [hro]
  obtain ⟨lp, hlp⟩ : ∃ lp : LoopState → Option Code → Loop, lp = fun st pe => { state := st, pending := pe, fn, tmps := a.tmps, params := ps, assign, body, defers := w.heap.size } := ⟨_, rfl⟩
  obtain ⟨V, hV⟩ : ∃ V, (w.alloc (.deferred (some []))).alloc (.loop (lp .ready none)) = V := ⟨_, rfl⟩
  have vl : V.heap[w.heap.size + 1]? = some (.loop (lp .ready none)) := by
    have h := World.alloc_heap_new (w.alloc (.deferred (some []))) (.loop (lp .ready none))
    rw [World.size_alloc, hV] at h
    exact h
  have vd : V.heap[w.heap.size]? = some (.deferred (some [])) := by
    rw [← hV]
    exact (Below.heap_alloc _ _ _ (by simp)).trans (World.alloc_heap_new w _)
  have vs : V.heap.size = w.heap.size + 2 := by rw [← hV]; simp
  have vb : Below w0.heap.size w0 V := by
    rw [← hV]
    exact (hb0.alloc hb0.size _).alloc (by rw [World.size_alloc]; have := hb0.size; omega) _
  refine ⟨w.heap.size + 1, [{ target := .collected w.heap.size, args := #[] }], V, { target := .fn (.func gf) lb, args := #[.func (.yield (w.heap.size + 1)) #[] #[]] }, V, gf, #[.func (.yield (w.heap.size + 1)) #[] #[]] ++ lb, V, ?_, ?_, ?_, ?_, fun _ => h1, ?_⟩
  · rw [← hV, hlp]
    exact run_enterLoop_outer _ _ _ _ _
  · simp only [resolve, hg]
    simp [go_sem]
  · intro f hf
    simp [Target.leads] at hf
    subst hf
    exact hFg
  · simp [invoke, go_sem, eg]
  have abide : ∀ (st : LoopState) (pe : Option Code) (I' : List α → World → Prop), AbT w.heap.size I' → AbT V.heap.size (fun pre W => I' pre W ∧ W.heap[w.heap.size + 1]? = some (.loop (lp st pe)) ∧ W.heap[w.heap.size]? = some (.deferred (some []))) :=
    fun st pe I' hI' s A A' row ⟨i1, i2, i3⟩ hgr hr => by
      have hs := (Array.getElem?_eq_some_iff.1 i2).1
      refine ⟨hI' s A A' row i1 hgr (fun r e => ⟨by have := (hr r e).1; omega, (hr r e).2⟩), (hgr.block _ hs (fun e => ?_)).trans i2, (hgr.block _ (by omega) (fun e => ?_)).trans i3⟩
      · have := (hr _ e.symm).1; omega
      · have := (hr _ e.symm).1; omega
  have call := hseq (w.heap.size + 1) (fun pre W => I pre W ∧ W.heap[w.heap.size + 1]? = some (.loop (lp .ready none)) ∧ W.heap[w.heap.size]? = some (.deferred (some [])))
    (fun pre W => Ix pre W ∧ W.heap[w.heap.size + 1]? = some (.loop (lp .done (some .ret))) ∧ W.heap[w.heap.size]? = some (.deferred (some []))) V vb
    (abide _ _ I hI) (abide _ _ Ix hIx)
    (fun pre x W ⟨i1, i2, i3⟩ => by
      have hs := (Array.getElem?_eq_some_iff.1 i2).1
      have hy := run_yield (P := Try.prog) (args := encs x) i2 (by rw [hlp]; exact hps x)
      rw [hlp] at hy
      refine ⟨fn, _, assign, body, hy, roundIn_of_wpIn hfn (hassign _ x W _ ⟨_, run_beginRound i2 (by rw [hlp]), ?_⟩)⟩
      obtain ⟨B0, hB0⟩ : ∃ B0, W.putObj (w.heap.size + 1) (.loop { lp .ready none with state := .busy }) = B0 := ⟨_, rfl⟩
      rw [hB0]
      have bl : B0.heap[w.heap.size + 1]? = some (.loop { lp .ready none with state := .busy }) := by rw [← hB0]; exact World.putObj_heap_same hs
      have bd : B0.heap[w.heap.size]? = some (.deferred (some [])) := by rw [← hB0]; exact (World.putObj_heap_other (by omega)).trans i3
      have bk : Kp W B0 := by rw [← hB0]; exact hKb _ _ _ _ (by omega) i2 rfl
      have bi : I pre B0 := by rw [← hB0]; exact hI.put _ i1 (by omega) i2 rfl
      refine wpIn_mono (hbody _ pre x _ bi) ?_
      rintro e a3 C hp
      cases e with
      | normal =>
        obtain ⟨k1, k2, k3⟩ := hp
        have cl := k1.same _ _ (by omega) bl rfl
        have cd := k1.same _ _ (Nat.le_refl _) bd rfl
        have hr := run_endRound (P := Try.prog) none cl
        rw [hlp] at hr cl
        refine ⟨_, _, hr, .inl ⟨rfl, ⟨hI.put _ k3 (by omega) cl rfl, ?_, (World.putObj_heap_other (by omega)).trans cd⟩, hKt (hKt bk k2) (hKb _ _ _ _ (by omega) cl rfl)⟩⟩
        rw [hlp]
        exact World.putObj_heap_same (Array.getElem?_eq_some_iff.1 cl).1
      | ret =>
        obtain ⟨k1, k3⟩ := hp
        have cl := k1.same _ _ (by omega) bl rfl
        have cd := k1.same _ _ (Nat.le_refl _) bd rfl
        have hr := run_endRound (P := Try.prog) (some .ret) cl
        rw [hlp] at hr cl
        refine ⟨_, _, hr, .inr ⟨rfl, ⟨hIx.put _ k3 (by omega) cl rfl, ?_, (World.putObj_heap_other (by omega)).trans cd⟩⟩⟩
        rw [hlp]
        exact World.putObj_heap_same (Array.getElem?_eq_some_iff.1 cl).1
      | exit id => exact hp.elim
      | goto t => exact hp.elim
      | panic ch => exact hp.elim
      | outgrown => exact hp.elim)
    ⟨by rw [← hV]; exact hI.alloc _ (hI.alloc _ h0), vl, vd⟩
  refine call.mono ?_
  rintro e W2 ⟨⟨v, rfl⟩, ⟨xs, hS, i1, i2, i3⟩ | ⟨xs, hS, i1, i2, i3⟩⟩
  · have hr := run_endLoop (P := Try.prog) i2 (by rw [hlp]; simp)
    rw [hlp] at hr i2
    exact ⟨none, _, hr, hdone _ xs _ (Nat.le_refl _) hS (hI.put _ i1 (by omega) i2 rfl) ((World.putObj_heap_other (by omega)).trans i3)⟩
  · have hr := run_endLoop (P := Try.prog) i2 (by rw [hlp]; simp)
    rw [hlp] at hr i2
    exact ⟨some .ret, _, hr, hstop _ xs _ (Nat.le_refl _) hS (hIx.put _ i1 (by omega) i2 rfl) ((World.putObj_heap_other (by omega)).trans i3)⟩
end Go.Proofs.Ytbnbmjdjkadgoaa.F
