/-
  For the laws of flow: a region that draws its order, by an invariant over what is done; the region of FlowBlocks that appends one statement to some. No condition.
-/
import Derived.Test.YtbnbmjdjkadgoaaFBs
namespace Go.Proofs.Ytbnbmjdjkadgoaa.F
open Go.RowKit Go.Shelf
set_option linter.unusedSimpArgs false
set_option linter.unusedVariables false
set_option maxRecDepth 100000

theorem wpAny_inv {P : Program} {md : Region.Mode} {ops : Array Oper} {Q : Exit → Act → World → Prop} (I : Array Bool → Act → World → Prop)
    (hs : ∀ l a w i, I l a w → i ∈ Region.ready md ops l → wpOp P ops Q i (I (l.setIfInBounds i true)) a w)
    (he : ∀ l a w, I l a w → Region.ready md ops l = [] → Q .normal a w) :
    ∀ (fuel : Nat) (l : Array Bool) (a : Act) (w : World), l.size = ops.size → l.toList.count false ≤ fuel → I l a w → wpAny P md ops Q fuel l a w
  | 0, l, a, w, hz, hc, h => by
    have hr : Region.ready md ops l = [] := by
      refine List.eq_nil_iff_forall_not_mem.2 fun j hj => ?_
      obtain ⟨h0, o, ho, -⟩ := mem_ready.1 hj
      have hjl : j < l.size := by have := (Array.getElem?_eq_some_iff.1 ho).1; omega
      have h1 : l[j] = false := by simpa [hjl] using h0
      have h2 : false ∈ l.toList := by rw [← h1]; simp
      have := List.count_pos_iff.2 h2
      omega
    exact ⟨hr, he l a w h hr⟩
  | fuel + 1, l, a, w, hz, hc, h => ⟨he l a w h, fun i hi => wpOp_mono (fun a' w' h' => wpAny_inv I hs he fuel _ a' w' (by simpa using hz) (by
      obtain ⟨h0, o, ho, -⟩ := mem_ready.1 hi
      have hil : i < l.size := by have := (Array.getElem?_eq_some_iff.1 ho).1; omega
      have h1 : l[i] = false := by simpa [hil] using h0
      have h2 : false ∈ l.toList := by rw [← h1]; simp
      have h3 := List.count_pos_iff.2 h2
      have h4 : i < l.toList.length := by simpa using hil
      have h5 : l.toList[i] = false := by simpa using h1
      have h6 : (l.toList.set i true).count false = l.toList.count false - 1 := by rw [List.count_set h4, h5]; simp
      rw [Array.toList_setIfInBounds, h6]
      omega) h') (hs l a w i h hi)⟩
theorem bff {b : Bool} (h : b = true → False) : b = false := by cases b with
  | false => rfl
  | true => exact (h rfl).elim
theorem tnf {P : Prop} {b : Bool} (h : b = true) (k : b = false) : P := by rw [h] at k; cases k
/-- Nothing but some slots has changed. -/
structure Rest (L : List Nat) (a0 a : Act) : Prop where
  act : a = { a0 with tmps := a.tmps }
  size : a.tmps.size = a0.tmps.size
  get : ∀ t, t ∉ L → a.tmps[t]? = a0.tmps[t]?
theorem Rest.refl (L : List Nat) (a : Act) : Rest L a a := ⟨rfl, rfl, fun _ _ => rfl⟩
theorem Rest.put {L : List Nat} {a0 a : Act} {d : Nat} (h : Rest L a0 a) (hd : d ∈ L) (v : Value) : Rest L a0 (a.put (some d) v) := by
  refine ⟨?_, by simp [Act.put, h.size], fun t ht => ?_⟩
  · have := h.act
    simp only [Act.put]
    rw [this]
  · have hne : d ≠ t := fun e => ht (e ▸ hd)
    simp [Act.put, Array.getElem?_setIfInBounds_ne hne, h.get t ht]
theorem Rest.eval {L : List Nat} {a0 a : Act} (h : Rest L a0 a) {t : Nat} (ht : t ∉ L) : a.eval (.tmp t) = a0.eval (.tmp t) := by
  simp [Act.eval, h.get t ht]
theorem ev_ne {a : Act} {d t : Nat} (v : Value) (h : d ≠ t) : (a.put (some d) v).eval (.tmp t) = a.eval (.tmp t) := Act.eval_put (fun e he hh => by cases he; cases hh; exact h rfl)
theorem ev_eq {a : Act} {d : Nat} (v : Value) (h : d < a.tmps.size) : (a.put (some d) v).eval (.tmp d) = v := by
  simp [Act.eval, Act.put, h]
theorem Rest.chain {a0 a : Act} (h : Rest [52, 53, 54, 55, 56, 57, 58, 13] a0 a) (hz : 59 ≤ a0.tmps.size) : a = ((((((((a0.put (some 52) (a.eval (.tmp 52))).put (some 53) (a.eval (.tmp 53))).put (some 54) (a.eval (.tmp 54))).put (some 55) (a.eval (.tmp 55))).put (some 56) (a.eval (.tmp 56))).put (some 57) (a.eval (.tmp 57))).put (some 58) (a.eval (.tmp 58))).put (some 13) (a.eval (.tmp 13))) := by
  have key : a.tmps = ((((((((a0.put (some 52) (a.eval (.tmp 52))).put (some 53) (a.eval (.tmp 53))).put (some 54) (a.eval (.tmp 54))).put (some 55) (a.eval (.tmp 55))).put (some 56) (a.eval (.tmp 56))).put (some 57) (a.eval (.tmp 57))).put (some 58) (a.eval (.tmp 58))).put (some 13) (a.eval (.tmp 13))).tmps := by
    have hg : ∀ i : Nat, i < 59 → a.tmps[i]? = some (a.eval (.tmp i)) := fun i hi => by
      have h1 : i < a.tmps.size := by rw [h.size]; omega
      simp [Act.eval, h1]
    simp only [Act.put]
    refine Array.ext_getElem? fun i => ?_
    by_cases c52 : i = 52
    · subst c52
      rw [hg 52 (by decide)]
      have hz1 : 52 < a0.tmps.size := by omega
      simp [Array.getElem?_setIfInBounds, hz1]
    by_cases c53 : i = 53
    · subst c53
      rw [hg 53 (by decide)]
      have hz1 : 53 < a0.tmps.size := by omega
      simp [Array.getElem?_setIfInBounds, hz1]
    by_cases c54 : i = 54
    · subst c54
      rw [hg 54 (by decide)]
      have hz1 : 54 < a0.tmps.size := by omega
      simp [Array.getElem?_setIfInBounds, hz1]
    by_cases c55 : i = 55
    · subst c55
      rw [hg 55 (by decide)]
      have hz1 : 55 < a0.tmps.size := by omega
      simp [Array.getElem?_setIfInBounds, hz1]
    by_cases c56 : i = 56
    · subst c56
      rw [hg 56 (by decide)]
      have hz1 : 56 < a0.tmps.size := by omega
      simp [Array.getElem?_setIfInBounds, hz1]
    by_cases c57 : i = 57
    · subst c57
      rw [hg 57 (by decide)]
      have hz1 : 57 < a0.tmps.size := by omega
      simp [Array.getElem?_setIfInBounds, hz1]
    by_cases c58 : i = 58
    · subst c58
      rw [hg 58 (by decide)]
      have hz1 : 58 < a0.tmps.size := by omega
      simp [Array.getElem?_setIfInBounds, hz1]
    by_cases c13 : i = 13
    · subst c13
      rw [hg 13 (by decide)]
      have hz1 : 13 < a0.tmps.size := by omega
      simp [Array.getElem?_setIfInBounds, hz1]
    have hn : i ∉ [52, 53, 54, 55, 56, 57, 58, 13] := by simp [c52, c53, c54, c55, c56, c57, c58, c13]
    rw [h.get i hn]
    simp [Array.getElem?_setIfInBounds, Ne.symm c52, Ne.symm c53, Ne.symm c54, Ne.symm c55, Ne.symm c56, Ne.symm c57, Ne.symm c58, Ne.symm c13]
  refine h.act.trans ?_
  rw [key]
  simp only [Act.put]
structure Ev (a0 a : Act) (v52 v53 v54 v55 v56 v57 v58 v13 : Value) : Prop where
  rest : Rest [52, 53, 54, 55, 56, 57, 58, 13] a0 a
  e52 : a.eval (.tmp 52) = v52
  e53 : a.eval (.tmp 53) = v53
  e54 : a.eval (.tmp 54) = v54
  e55 : a.eval (.tmp 55) = v55
  e56 : a.eval (.tmp 56) = v56
  e57 : a.eval (.tmp 57) = v57
  e58 : a.eval (.tmp 58) = v58
  e13 : a.eval (.tmp 13) = v13
theorem Ev.p52 {a0 a : Act} {v52 v53 v54 v55 v56 v57 v58 v13 : Value} (E : Ev a0 a v52 v53 v54 v55 v56 v57 v58 v13) (hz : 59 ≤ a0.tmps.size) (v : Value) : Ev a0 (a.put (some 52) v) v v53 v54 v55 v56 v57 v58 v13 :=
  ⟨E.rest.put (by decide) v, ev_eq v (by rw [E.rest.size]; omega), (ev_ne v (by decide)).trans E.e53, (ev_ne v (by decide)).trans E.e54, (ev_ne v (by decide)).trans E.e55, (ev_ne v (by decide)).trans E.e56, (ev_ne v (by decide)).trans E.e57, (ev_ne v (by decide)).trans E.e58, (ev_ne v (by decide)).trans E.e13⟩
theorem Ev.p53 {a0 a : Act} {v52 v53 v54 v55 v56 v57 v58 v13 : Value} (E : Ev a0 a v52 v53 v54 v55 v56 v57 v58 v13) (hz : 59 ≤ a0.tmps.size) (v : Value) : Ev a0 (a.put (some 53) v) v52 v v54 v55 v56 v57 v58 v13 :=
  ⟨E.rest.put (by decide) v, (ev_ne v (by decide)).trans E.e52, ev_eq v (by rw [E.rest.size]; omega), (ev_ne v (by decide)).trans E.e54, (ev_ne v (by decide)).trans E.e55, (ev_ne v (by decide)).trans E.e56, (ev_ne v (by decide)).trans E.e57, (ev_ne v (by decide)).trans E.e58, (ev_ne v (by decide)).trans E.e13⟩
theorem Ev.p54 {a0 a : Act} {v52 v53 v54 v55 v56 v57 v58 v13 : Value} (E : Ev a0 a v52 v53 v54 v55 v56 v57 v58 v13) (hz : 59 ≤ a0.tmps.size) (v : Value) : Ev a0 (a.put (some 54) v) v52 v53 v v55 v56 v57 v58 v13 :=
  ⟨E.rest.put (by decide) v, (ev_ne v (by decide)).trans E.e52, (ev_ne v (by decide)).trans E.e53, ev_eq v (by rw [E.rest.size]; omega), (ev_ne v (by decide)).trans E.e55, (ev_ne v (by decide)).trans E.e56, (ev_ne v (by decide)).trans E.e57, (ev_ne v (by decide)).trans E.e58, (ev_ne v (by decide)).trans E.e13⟩
theorem Ev.p55 {a0 a : Act} {v52 v53 v54 v55 v56 v57 v58 v13 : Value} (E : Ev a0 a v52 v53 v54 v55 v56 v57 v58 v13) (hz : 59 ≤ a0.tmps.size) (v : Value) : Ev a0 (a.put (some 55) v) v52 v53 v54 v v56 v57 v58 v13 :=
  ⟨E.rest.put (by decide) v, (ev_ne v (by decide)).trans E.e52, (ev_ne v (by decide)).trans E.e53, (ev_ne v (by decide)).trans E.e54, ev_eq v (by rw [E.rest.size]; omega), (ev_ne v (by decide)).trans E.e56, (ev_ne v (by decide)).trans E.e57, (ev_ne v (by decide)).trans E.e58, (ev_ne v (by decide)).trans E.e13⟩
theorem Ev.p56 {a0 a : Act} {v52 v53 v54 v55 v56 v57 v58 v13 : Value} (E : Ev a0 a v52 v53 v54 v55 v56 v57 v58 v13) (hz : 59 ≤ a0.tmps.size) (v : Value) : Ev a0 (a.put (some 56) v) v52 v53 v54 v55 v v57 v58 v13 :=
  ⟨E.rest.put (by decide) v, (ev_ne v (by decide)).trans E.e52, (ev_ne v (by decide)).trans E.e53, (ev_ne v (by decide)).trans E.e54, (ev_ne v (by decide)).trans E.e55, ev_eq v (by rw [E.rest.size]; omega), (ev_ne v (by decide)).trans E.e57, (ev_ne v (by decide)).trans E.e58, (ev_ne v (by decide)).trans E.e13⟩
theorem Ev.p57 {a0 a : Act} {v52 v53 v54 v55 v56 v57 v58 v13 : Value} (E : Ev a0 a v52 v53 v54 v55 v56 v57 v58 v13) (hz : 59 ≤ a0.tmps.size) (v : Value) : Ev a0 (a.put (some 57) v) v52 v53 v54 v55 v56 v v58 v13 :=
  ⟨E.rest.put (by decide) v, (ev_ne v (by decide)).trans E.e52, (ev_ne v (by decide)).trans E.e53, (ev_ne v (by decide)).trans E.e54, (ev_ne v (by decide)).trans E.e55, (ev_ne v (by decide)).trans E.e56, ev_eq v (by rw [E.rest.size]; omega), (ev_ne v (by decide)).trans E.e58, (ev_ne v (by decide)).trans E.e13⟩
theorem Ev.p58 {a0 a : Act} {v52 v53 v54 v55 v56 v57 v58 v13 : Value} (E : Ev a0 a v52 v53 v54 v55 v56 v57 v58 v13) (hz : 59 ≤ a0.tmps.size) (v : Value) : Ev a0 (a.put (some 58) v) v52 v53 v54 v55 v56 v57 v v13 :=
  ⟨E.rest.put (by decide) v, (ev_ne v (by decide)).trans E.e52, (ev_ne v (by decide)).trans E.e53, (ev_ne v (by decide)).trans E.e54, (ev_ne v (by decide)).trans E.e55, (ev_ne v (by decide)).trans E.e56, (ev_ne v (by decide)).trans E.e57, ev_eq v (by rw [E.rest.size]; omega), (ev_ne v (by decide)).trans E.e13⟩
theorem Ev.p13 {a0 a : Act} {v52 v53 v54 v55 v56 v57 v58 v13 : Value} (E : Ev a0 a v52 v53 v54 v55 v56 v57 v58 v13) (hz : 59 ≤ a0.tmps.size) (v : Value) : Ev a0 (a.put (some 13) v) v52 v53 v54 v55 v56 v57 v58 v :=
  ⟨E.rest.put (by decide) v, (ev_ne v (by decide)).trans E.e52, (ev_ne v (by decide)).trans E.e53, (ev_ne v (by decide)).trans E.e54, (ev_ne v (by decide)).trans E.e55, (ev_ne v (by decide)).trans E.e56, (ev_ne v (by decide)).trans E.e57, (ev_ne v (by decide)).trans E.e58, ev_eq v (by rw [E.rest.size]; omega)⟩
structure St (W8 : World) (n : Nat) (al : Option Addr) (capl : Nat) (qs : List Pr) (X : Nd) (kx : Value) (b0 b1 b2 b3 b4 b5 b6 b7 : Bool) (v52 v53 v54 v55 v56 v57 v58 v13 : Value) (G B Z : Nat) (w : World) : Prop where
  bel : Below W8.heap.size W8 w
  d2 : b2 = true → b0 = true
  d5 : b5 = true → b2 = true ∧ b4 = true
  d6 : b6 = true → b5 = true
  g0 : b0 = true → W8.heap.size ≤ G ∧ G < w.heap.size
  o0 : b0 = true → b2 = false → v52 = .slice (some ⟨G, 0, none⟩) 0 0 ∧ RowAt w G 44 #[]
  o1 : b1 = true → v53 = .slice al n capl
  o2 : b2 = true → b5 = false → ∃ c, v54 = .slice (some ⟨G, 0, none⟩) n c ∧ w.ownsRow W8.heap.size 44 9 (.slice (some ⟨G, 0, none⟩) n c) n (fv qs)
  o3 : b3 = true → v55 = .agg #[.int .i64 X.hd.kind, .string (bs X.hd.text), .string (bs X.hd.type), .int .i64 X.hd.n, .int .i64 X.hd.fr, .int .i64 X.hd.to_, .int .i64 X.hd.at_, .int .i64 X.hd.tat, kx]
  o4 : b4 = true → b5 = false → v56 = .slice (some ⟨B, 0, none⟩) 1 1 ∧ RowAt w B 44 #[.int .i64 X.hd.kind, .string (bs X.hd.text), .string (bs X.hd.type), .int .i64 X.hd.n, .int .i64 X.hd.fr, .int .i64 X.hd.to_, .int .i64 X.hd.at_, .int .i64 X.hd.tat, kx]
  gb : b0 = true → b4 = true → b5 = false → G ≠ B
  o5 : b5 = true → ∃ c, v57 = .slice (some ⟨G, 0, none⟩) (n + 1) c ∧ w.ownsRow W8.heap.size 44 9 (.slice (some ⟨G, 0, none⟩) (n + 1) c) (n + 1) (fv (qs ++ [(X, kx)]))
  o6 : b6 = true → v58 = .agg #[.int .i64 5, .string ⟨#[]⟩, .string ⟨#[]⟩, .int .i64 0, .int .i64 0, .int .i64 0, .int .i64 0, .int .i64 0, v57]
  o7 : b7 = true → v13 = .pointer (some ⟨Z, 0, none⟩) ∧ RowAt w Z 44 #[.int .i64 0, .string ⟨#[]⟩, .string ⟨#[]⟩, .int .i64 0, .int .i64 0, .int .i64 0, .int .i64 0, .int .i64 0, .slice none 0 0] ∧ W8.heap.size ≤ Z
  gz : b0 = true → b7 = true → G ≠ Z
set_option maxHeartbeats 4000000 in
theorem St.alloc {W8 : World} {n : Nat} {al : Option Addr} {capl : Nat} {qs : List Pr} {X : Nd} {kx : Value} {b0 b1 b2 b3 b4 b5 b6 b7 : Bool} {v52 v53 v54 v55 v56 v57 v58 v13 : Value} {G B Z : Nat} {w : World} (S : St W8 n al capl qs X kx b0 b1 b2 b3 b4 b5 b6 b7 v52 v53 v54 v55 v56 v57 v58 v13 G B Z w) (o : Obj) : St W8 n al capl qs X kx b0 b1 b2 b3 b4 b5 b6 b7 v52 v53 v54 v55 v56 v57 v58 v13 G B Z (w.alloc o) :=
  { S with
    bel := bAl S.bel o
    g0 := fun h => ⟨(S.g0 h).1, Nat.lt_of_lt_of_le (S.g0 h).2 (by simp [heap_al])⟩
    o0 := fun h h2 => ⟨(S.o0 h h2).1, (S.o0 h h2).2.alloc o⟩
    o2 := fun h h2 => by
      obtain ⟨c, h3, h4⟩ := S.o2 h h2
      exact ⟨c, h3, own_below h4 ((Below.refl _ w).alloc (Nat.le_refl _) o)⟩
    o4 := fun h h2 => ⟨(S.o4 h h2).1, (S.o4 h h2).2.alloc o⟩
    o5 := fun h => by
      obtain ⟨c, h3, h4⟩ := S.o5 h
      exact ⟨c, h3, own_below h4 ((Below.refl _ w).alloc (Nat.le_refl _) o)⟩
    o7 := fun h => ⟨(S.o7 h).1, (S.o7 h).2.1.alloc o, (S.o7 h).2.2⟩ }
def ops15 : Array Oper := #[{ dst := some 52, op := Op.buildSlice 42 0 #[], type := 42, pos := "law.go:80", after := #[], guard := none },
  { dst := some 53, op := Op.move (Operand.tmp 0), type := 42, pos := "law.go:80", after := #[], guard := none },
  { dst := some 54, op := Op.call { callee := Callee.builtin Builtin.append, args := #[Operand.tmp 52, Operand.tmp 53], argTypes := #[42, 42] }, type := 42, pos := "law.go:80", after := #[{ on := 0, ground := Ground.data }, { on := 1, ground := Ground.data }], guard := none },
  { dst := some 55, op := Op.load 44 (Operand.tmp 3), type := 44, pos := "law.go:80", after := #[], guard := none },
  { dst := some 56, op := Op.buildSlice 42 1 #[(0, Operand.tmp 55)], type := 42, pos := "law.go:80", after := #[{ on := 3, ground := Ground.data }], guard := none },
  { dst := some 57, op := Op.call { callee := Callee.builtin Builtin.append, args := #[Operand.tmp 54, Operand.tmp 56], argTypes := #[42, 42] }, type := 42, pos := "law.go:80", after := #[{ on := 2, ground := Ground.data }, { on := 4, ground := Ground.data }, { on := 2, ground := Ground.chain }], guard := none },
  { dst := some 58, op := Op.build 44 #[(0, Operand.const (Value.int IntKind.i64 5)), (8, Operand.tmp 57)], type := 44, pos := "law.go:80", after := #[{ on := 5, ground := Ground.data }], guard := none },
  { dst := some 13, op := Op.alloc 44, type := 0, pos := "law.go:80", after := #[], guard := none },
  { dst := none, op := Op.store 44 (Operand.tmp 13) (Operand.tmp 58), type := 0, pos := "law.go:80", after := #[{ on := 7, ground := Ground.data }, { on := 6, ground := Ground.data }, { on := 5, ground := Ground.chain }, { on := 0, ground := Ground.phase }, { on := 1, ground := Ground.phase }, { on := 2, ground := Ground.phase }, { on := 3, ground := Ground.phase }, { on := 4, ground := Ground.phase }, { on := 5, ground := Ground.phase }, { on := 6, ground := Ground.phase }, { on := 7, ground := Ground.phase }], guard := none }]
/-- A block of some statements. -/
def blkN (L : List Nd) : Nd := .mk ⟨5, [], [], 0, 0, 0, 0, 0⟩ L
theorem St.s0 {W8 : World} {n : Nat} {al : Option Addr} {capl : Nat} {qs : List Pr} {X : Nd} {kx : Value} {b0 b1 b2 b3 b4 b5 b6 b7 : Bool} {v52 v53 v54 v55 v56 v57 v58 v13 : Value} {G B Z : Nat} {w : World} (S : St W8 n al capl qs X kx b0 b1 b2 b3 b4 b5 b6 b7 v52 v53 v54 v55 v56 v57 v58 v13 G B Z w) (h0 : b0 = false) : St W8 n al capl qs X kx true b1 b2 b3 b4 b5 b6 b7 (.slice (some ⟨w.heap.size, 0, none⟩) 0 0) v53 v54 v55 v56 v57 v58 v13 w.heap.size B Z (w.alloc (.cells #[] 44)) := by
  have h2 : b2 = false := by exact bff fun h => tnf (S.d2 h) h0
  have h5 : b5 = false := by exact bff fun h => tnf (S.d5 h).1 h2
  exact { S.alloc (.cells #[] 44) with
    d2 := fun h => rfl
    g0 := fun _ => ⟨S.bel.size, by simp [heap_al]⟩
    o0 := fun _ _ => ⟨rfl, RowAt.new w 44 #[]⟩
    o2 := fun h => by rw [h2] at h; cases h
    gb := fun _ h4 h5 => Nat.ne_of_gt (S.o4 h4 h5).2.lt
    o5 := fun h => by rw [h5] at h; cases h
    gz := fun _ h7 => Nat.ne_of_gt (S.o7 h7).2.1.lt }
theorem St.s1 {W8 : World} {n : Nat} {al : Option Addr} {capl : Nat} {qs : List Pr} {X : Nd} {kx : Value} {b0 b1 b2 b3 b4 b5 b6 b7 : Bool} {v52 v53 v54 v55 v56 v57 v58 v13 : Value} {G B Z : Nat} {w : World} (S : St W8 n al capl qs X kx b0 b1 b2 b3 b4 b5 b6 b7 v52 v53 v54 v55 v56 v57 v58 v13 G B Z w) : St W8 n al capl qs X kx b0 true b2 b3 b4 b5 b6 b7 v52 (.slice al n capl) v54 v55 v56 v57 v58 v13 G B Z w :=
  { S with o1 := fun _ => rfl }
theorem St.s2 {W8 : World} {n : Nat} {al : Option Addr} {capl : Nat} {qs : List Pr} {X : Nd} {kx : Value} {b0 b1 b2 b3 b4 b5 b6 b7 : Bool} {v52 v53 v54 v55 v56 v57 v58 v13 : Value} {G B Z : Nat} {w : World} (S : St W8 n al capl qs X kx b0 b1 b2 b3 b4 b5 b6 b7 v52 v53 v54 v55 v56 v57 v58 v13 G B Z w) (h2 : b2 = false) (h0 : b0 = true) {w' : World} {g c : Nat} (hown : w'.ownsRow W8.heap.size 44 9 (.slice (some ⟨g, 0, none⟩) n c) n (fv qs)) (hg : w.grownBy w' (some G)) (hat : g = G ∨ g = w.heap.size) : St W8 n al capl qs X kx b0 b1 true b3 b4 b5 b6 b7 v52 v53 (.slice (some ⟨g, 0, none⟩) n c) v55 v56 v57 v58 v13 g B Z w' := by
  have h5 : b5 = false := by exact bff fun h => tnf (S.d5 h).1 h2
  have h6 : b6 = false := by exact bff fun h => tnf (S.d6 h) h5
  exact { S with
    bel := bGr S.bel hg (S.g0 h0).1
    d2 := fun _ => h0
    d5 := fun h => by rw [h5] at h; cases h
    g0 := fun _ => ⟨own_ge hown, own_lt hown⟩
    o0 := fun _ h => by cases h
    o2 := fun _ _ => ⟨c, rfl, hown⟩
    o4 := fun h4 h5 => ⟨(S.o4 h4 h5).1, rowGrownN (Ne.symm (S.gb h0 h4 h5)) hg (S.o4 h4 h5).2⟩
    gb := fun _ h4 h5 => by
      rcases hat with h | h
      · rw [h]; exact S.gb h0 h4 h5
      · rw [h]; exact Nat.ne_of_gt (S.o4 h4 h5).2.lt
    o5 := fun h => by rw [h5] at h; cases h
    o7 := fun h7 => ⟨(S.o7 h7).1, rowGrownN (Ne.symm (S.gz h0 h7)) hg (S.o7 h7).2.1, (S.o7 h7).2.2⟩
    gz := fun _ h7 => by
      rcases hat with h | h
      · rw [h]; exact S.gz h0 h7
      · rw [h]; exact Nat.ne_of_gt (S.o7 h7).2.1.lt }
theorem St.s3 {W8 : World} {n : Nat} {al : Option Addr} {capl : Nat} {qs : List Pr} {X : Nd} {kx : Value} {b0 b1 b2 b3 b4 b5 b6 b7 : Bool} {v52 v53 v54 v55 v56 v57 v58 v13 : Value} {G B Z : Nat} {w : World} (S : St W8 n al capl qs X kx b0 b1 b2 b3 b4 b5 b6 b7 v52 v53 v54 v55 v56 v57 v58 v13 G B Z w) : St W8 n al capl qs X kx b0 b1 b2 true b4 b5 b6 b7 v52 v53 v54 (.agg #[.int .i64 X.hd.kind, .string (bs X.hd.text), .string (bs X.hd.type), .int .i64 X.hd.n, .int .i64 X.hd.fr, .int .i64 X.hd.to_, .int .i64 X.hd.at_, .int .i64 X.hd.tat, kx]) v56 v57 v58 v13 G B Z w :=
  { S with o3 := fun _ => rfl }
theorem St.s4 {W8 : World} {n : Nat} {al : Option Addr} {capl : Nat} {qs : List Pr} {X : Nd} {kx : Value} {b0 b1 b2 b3 b4 b5 b6 b7 : Bool} {v52 v53 v54 v55 v56 v57 v58 v13 : Value} {G B Z : Nat} {w : World} (S : St W8 n al capl qs X kx b0 b1 b2 b3 b4 b5 b6 b7 v52 v53 v54 v55 v56 v57 v58 v13 G B Z w) (h4 : b4 = false) : St W8 n al capl qs X kx b0 b1 b2 b3 true b5 b6 b7 v52 v53 v54 v55 (.slice (some ⟨w.heap.size, 0, none⟩) 1 1) v57 v58 v13 G w.heap.size Z (w.alloc (.cells #[.int .i64 X.hd.kind, .string (bs X.hd.text), .string (bs X.hd.type), .int .i64 X.hd.n, .int .i64 X.hd.fr, .int .i64 X.hd.to_, .int .i64 X.hd.at_, .int .i64 X.hd.tat, kx] 44)) := by
  have h5 : b5 = false := by exact bff fun h => tnf (S.d5 h).2 h4
  exact { S.alloc (.cells #[.int .i64 X.hd.kind, .string (bs X.hd.text), .string (bs X.hd.type), .int .i64 X.hd.n, .int .i64 X.hd.fr, .int .i64 X.hd.to_, .int .i64 X.hd.at_, .int .i64 X.hd.tat, kx] 44) with
    d5 := fun h => by rw [h5] at h; cases h
    o4 := fun _ _ => ⟨rfl, RowAt.new w 44 _⟩
    gb := fun h0 _ _ => Nat.ne_of_lt (S.g0 h0).2 }
theorem St.s5 {W8 : World} {n : Nat} {al : Option Addr} {capl : Nat} {qs : List Pr} {X : Nd} {kx : Value} {b0 b1 b2 b3 b4 b5 b6 b7 : Bool} {v52 v53 v54 v55 v56 v57 v58 v13 : Value} {G B Z : Nat} {w : World} (S : St W8 n al capl qs X kx b0 b1 b2 b3 b4 b5 b6 b7 v52 v53 v54 v55 v56 v57 v58 v13 G B Z w) (h5 : b5 = false) (h2 : b2 = true) (h4 : b4 = true) {w' : World} {g c : Nat} (hown : w'.ownsRow W8.heap.size 44 9 (.slice (some ⟨g, 0, none⟩) (n + 1) c) (n + 1) (fv (qs ++ [(X, kx)]))) (hg : w.grownBy w' (some G)) (hat : g = G ∨ g = w.heap.size) : St W8 n al capl qs X kx b0 b1 b2 b3 b4 true b6 b7 v52 v53 v54 v55 v56 (.slice (some ⟨g, 0, none⟩) (n + 1) c) v58 v13 g B Z w' := by
  have h6 : b6 = false := by exact bff fun h => tnf (S.d6 h) h5
  have h0 := S.d2 h2
  exact { S with
    bel := bGr S.bel hg (S.g0 h0).1
    d5 := fun _ => ⟨h2, h4⟩
    d6 := fun _ => rfl
    g0 := fun _ => ⟨own_ge hown, own_lt hown⟩
    o0 := fun _ h => by rw [h2] at h; cases h
    o2 := fun _ h => by cases h
    o4 := fun _ h => by cases h
    gb := fun _ _ h => by cases h
    o5 := fun _ => ⟨c, rfl, hown⟩
    o6 := fun h => by rw [h6] at h; cases h
    o7 := fun h7 => ⟨(S.o7 h7).1, rowGrownN (Ne.symm (S.gz h0 h7)) hg (S.o7 h7).2.1, (S.o7 h7).2.2⟩
    gz := fun _ h7 => by
      rcases hat with h | h
      · rw [h]; exact S.gz h0 h7
      · rw [h]; exact Nat.ne_of_gt (S.o7 h7).2.1.lt }
theorem St.s6 {W8 : World} {n : Nat} {al : Option Addr} {capl : Nat} {qs : List Pr} {X : Nd} {kx : Value} {b0 b1 b2 b3 b4 b5 b6 b7 : Bool} {v52 v53 v54 v55 v56 v57 v58 v13 : Value} {G B Z : Nat} {w : World} (S : St W8 n al capl qs X kx b0 b1 b2 b3 b4 b5 b6 b7 v52 v53 v54 v55 v56 v57 v58 v13 G B Z w) (h5 : b5 = true) : St W8 n al capl qs X kx b0 b1 b2 b3 b4 b5 true b7 v52 v53 v54 v55 v56 v57 (.agg #[.int .i64 5, .string ⟨#[]⟩, .string ⟨#[]⟩, .int .i64 0, .int .i64 0, .int .i64 0, .int .i64 0, .int .i64 0, v57]) v13 G B Z w :=
  { S with
    d6 := fun _ => h5
    o6 := fun _ => rfl }
theorem St.s7 {W8 : World} {n : Nat} {al : Option Addr} {capl : Nat} {qs : List Pr} {X : Nd} {kx : Value} {b0 b1 b2 b3 b4 b5 b6 b7 : Bool} {v52 v53 v54 v55 v56 v57 v58 v13 : Value} {G B Z : Nat} {w : World} (S : St W8 n al capl qs X kx b0 b1 b2 b3 b4 b5 b6 b7 v52 v53 v54 v55 v56 v57 v58 v13 G B Z w) : St W8 n al capl qs X kx b0 b1 b2 b3 b4 b5 b6 true v52 v53 v54 v55 v56 v57 v58 (.pointer (some ⟨w.heap.size, 0, none⟩)) G B w.heap.size (w.alloc (.cells #[.int .i64 0, .string ⟨#[]⟩, .string ⟨#[]⟩, .int .i64 0, .int .i64 0, .int .i64 0, .int .i64 0, .int .i64 0, .slice none 0 0] 44)) :=
  { S.alloc (.cells #[.int .i64 0, .string ⟨#[]⟩, .string ⟨#[]⟩, .int .i64 0, .int .i64 0, .int .i64 0, .int .i64 0, .int .i64 0, .slice none 0 0] 44) with
    o7 := fun _ => ⟨rfl, RowAt.new w 44 _, S.bel.size⟩
    gz := fun h0 _ => Nat.ne_of_lt (S.g0 h0).2 }
theorem St.drew {W8 : World} {n : Nat} {al : Option Addr} {capl : Nat} {qs : List Pr} {X : Nd} {kx : Value} {b0 b1 b2 b3 b4 b5 b6 b7 : Bool} {v52 v53 v54 v55 v56 v57 v58 v13 : Value} {G B Z : Nat} {w : World} (S : St W8 n al capl qs X kx b0 b1 b2 b3 b4 b5 b6 b7 v52 v53 v54 v55 v56 v57 v58 v13 G B Z w) : St W8 n al capl qs X kx b0 b1 b2 b3 b4 b5 b6 b7 v52 v53 v54 v55 v56 v57 v58 v13 G B Z w.drew :=
  { S with
    bel := bDr S.bel }
theorem St.start {W8 : World} {n : Nat} {al : Option Addr} {capl : Nat} {qs : List Pr} {X : Nd} {kx : Value} (v52 v53 v54 v55 v56 v57 v58 v13 : Value) : St W8 n al capl qs X kx false false false false false false false false v52 v53 v54 v55 v56 v57 v58 v13 0 0 0 W8 :=
  { bel := Below.refl _ _
    d2 := fun h => by cases h
    d5 := fun h => by cases h
    d6 := fun h => by cases h
    g0 := fun h => by cases h
    o0 := fun h => by cases h
    o1 := fun h => by cases h
    o2 := fun h => by cases h
    o3 := fun h => by cases h
    o4 := fun h => by cases h
    gb := fun h => by cases h
    o5 := fun h => by cases h
    o6 := fun h => by cases h
    o7 := fun h => by cases h
    gz := fun h => by cases h }
theorem all15 : Region.ready .any ops15 #[true, true, true, true, true, true, true, true, true] = [] := by kernel_rfl
theorem some15 : ∀ (b0 b1 b2 b3 b4 b5 b6 b7 : Bool), Region.ready .any ops15 #[b0, b1, b2, b3, b4, b5, b6, b7, false] = [] → False := by
  intro b0 b1 b2 b3 b4 b5 b6 b7 h
  have k (j : Nat) (hj : j ∈ Region.ready .any ops15 #[b0, b1, b2, b3, b4, b5, b6, b7, false]) : False := by rw [h] at hj; cases hj
  have c0 : b0 = true := by
    cases b0 with
    | true => rfl
    | false => exact (k 0 (mem_ready.2 ⟨rfl, { dst := some 52, op := Op.buildSlice 42 0 #[], type := 42, pos := "law.go:80", after := #[], guard := none }, rfl, fun e he _ => by simp at he⟩)).elim
  have c1 : b1 = true := by
    cases b1 with
    | true => rfl
    | false => exact (k 1 (mem_ready.2 ⟨rfl, { dst := some 53, op := Op.move (Operand.tmp 0), type := 42, pos := "law.go:80", after := #[], guard := none }, rfl, fun e he _ => by simp at he⟩)).elim
  have c2 : b2 = true := by
    cases b2 with
    | true => rfl
    | false => exact (k 2 (mem_ready.2 ⟨rfl, { dst := some 54, op := Op.call { callee := Callee.builtin Builtin.append, args := #[Operand.tmp 52, Operand.tmp 53], argTypes := #[42, 42] }, type := 42, pos := "law.go:80", after := #[{ on := 0, ground := Ground.data }, { on := 1, ground := Ground.data }], guard := none }, rfl, fun e he _ => by simp at he; rcases he with rfl | rfl <;> assumption⟩)).elim
  have c3 : b3 = true := by
    cases b3 with
    | true => rfl
    | false => exact (k 3 (mem_ready.2 ⟨rfl, { dst := some 55, op := Op.load 44 (Operand.tmp 3), type := 44, pos := "law.go:80", after := #[], guard := none }, rfl, fun e he _ => by simp at he⟩)).elim
  have c4 : b4 = true := by
    cases b4 with
    | true => rfl
    | false => exact (k 4 (mem_ready.2 ⟨rfl, { dst := some 56, op := Op.buildSlice 42 1 #[(0, Operand.tmp 55)], type := 42, pos := "law.go:80", after := #[{ on := 3, ground := Ground.data }], guard := none }, rfl, fun e he _ => by simp at he; rcases he with rfl; assumption⟩)).elim
  have c5 : b5 = true := by
    cases b5 with
    | true => rfl
    | false => exact (k 5 (mem_ready.2 ⟨rfl, { dst := some 57, op := Op.call { callee := Callee.builtin Builtin.append, args := #[Operand.tmp 54, Operand.tmp 56], argTypes := #[42, 42] }, type := 42, pos := "law.go:80", after := #[{ on := 2, ground := Ground.data }, { on := 4, ground := Ground.data }, { on := 2, ground := Ground.chain }], guard := none }, rfl, fun e he _ => by simp at he; rcases he with rfl | rfl | rfl <;> assumption⟩)).elim
  have c6 : b6 = true := by
    cases b6 with
    | true => rfl
    | false => exact (k 6 (mem_ready.2 ⟨rfl, { dst := some 58, op := Op.build 44 #[(0, Operand.const (Value.int IntKind.i64 5)), (8, Operand.tmp 57)], type := 44, pos := "law.go:80", after := #[{ on := 5, ground := Ground.data }], guard := none }, rfl, fun e he _ => by simp at he; rcases he with rfl; assumption⟩)).elim
  have c7 : b7 = true := by
    cases b7 with
    | true => rfl
    | false => exact (k 7 (mem_ready.2 ⟨rfl, { dst := some 13, op := Op.alloc 44, type := 0, pos := "law.go:80", after := #[], guard := none }, rfl, fun e he _ => by simp at he⟩)).elim
  subst c0 c1 c2 c3 c4 c5 c6 c7
  exact k 8 (mem_ready.2 ⟨rfl, { dst := none, op := Op.store 44 (Operand.tmp 13) (Operand.tmp 58), type := 0, pos := "law.go:80", after := #[{ on := 7, ground := Ground.data }, { on := 6, ground := Ground.data }, { on := 5, ground := Ground.chain }, { on := 0, ground := Ground.phase }, { on := 1, ground := Ground.phase }, { on := 2, ground := Ground.phase }, { on := 3, ground := Ground.phase }, { on := 4, ground := Ground.phase }, { on := 5, ground := Ground.phase }, { on := 6, ground := Ground.phase }, { on := 7, ground := Ground.phase }], guard := none }, rfl, fun e he _ => by simp at he; rcases he with rfl | rfl | rfl | rfl | rfl | rfl | rfl | rfl | rfl | rfl | rfl <;> rfl⟩)
set_option maxHeartbeats 4000000
theorem op15_0 {K : Act → World → Prop} {Q : Exit → Act → World → Prop} {a : Act} {w : World} {E : Prop}  (h : K (a.put (some 52) (.slice (some ⟨w.heap.size, 0, none⟩) 0 0)) (w.alloc (.cells #[] 44))) : if Region.wanted { dst := some 52, op := Op.buildSlice 42 0 #[], type := 42, pos := "law.go:80", after := #[], guard := none } (yielded ops15 a.tmps) = true then Oper.wp Try.prog { dst := some 52, op := Op.buildSlice 42 0 #[], type := 42, pos := "law.go:80", after := #[], guard := none } a w K Q else E := by
  rw [if_pos (by simp [Region.wanted])]
  go_simp
  exact h
theorem op15_1 {K : Act → World → Prop} {Q : Exit → Act → World → Prop} {a : Act} {w : World} {E : Prop} {v : Value} (e0 : a.eval (.tmp 0) = v) (h : K (a.put (some 53) v) w) : if Region.wanted { dst := some 53, op := Op.move (Operand.tmp 0), type := 42, pos := "law.go:80", after := #[], guard := none } (yielded ops15 a.tmps) = true then Oper.wp Try.prog { dst := some 53, op := Op.move (Operand.tmp 0), type := 42, pos := "law.go:80", after := #[], guard := none } a w K Q else E := by
  rw [if_pos (by simp [Region.wanted])]
  unfold Oper.wp
  simp [execOp, e0]
  exact h
theorem op15_3 {K : Act → World → Prop} {Q : Exit → Act → World → Prop} {a : Act} {w : World} {E : Prop} {tx : Nat} {X : Nd} {kx : Value} (e3 : a.eval (.tmp 3) = .pointer (some ⟨tx, 0, none⟩)) (c0 : w.cell? ⟨tx, 0, none⟩ = some (.int .i64 X.hd.kind)) (c1 : w.cell? ⟨tx, 1, none⟩ = some (.string (bs X.hd.text))) (c2 : w.cell? ⟨tx, 2, none⟩ = some (.string (bs X.hd.type))) (c3 : w.cell? ⟨tx, 3, none⟩ = some (.int .i64 X.hd.n)) (c4 : w.cell? ⟨tx, 4, none⟩ = some (.int .i64 X.hd.fr)) (c5 : w.cell? ⟨tx, 5, none⟩ = some (.int .i64 X.hd.to_)) (c6 : w.cell? ⟨tx, 6, none⟩ = some (.int .i64 X.hd.at_)) (c7 : w.cell? ⟨tx, 7, none⟩ = some (.int .i64 X.hd.tat)) (c8 : w.cell? ⟨tx, 8, none⟩ = some kx) (h : K (a.put (some 55) (.agg #[.int .i64 X.hd.kind, .string (bs X.hd.text), .string (bs X.hd.type), .int .i64 X.hd.n, .int .i64 X.hd.fr, .int .i64 X.hd.to_, .int .i64 X.hd.at_, .int .i64 X.hd.tat, kx])) w) : if Region.wanted { dst := some 55, op := Op.load 44 (Operand.tmp 3), type := 44, pos := "law.go:80", after := #[], guard := none } (yielded ops15 a.tmps) = true then Oper.wp Try.prog { dst := some 55, op := Op.load 44 (Operand.tmp 3), type := 44, pos := "law.go:80", after := #[], guard := none } a w K Q else E := by
  rw [if_pos (by simp [Region.wanted])]
  unfold Oper.wp
  simp only [execOp, e3]
  go_simp
  exact h
theorem op15_4 {K : Act → World → Prop} {Q : Exit → Act → World → Prop} {a : Act} {w : World} {E : Prop} {X : Nd} {ax : Option Addr} {nx cx : Nat} {kx : Value} (hk : kx = .slice ax nx cx) (e5 : a.eval (.tmp 55) = .agg #[.int .i64 X.hd.kind, .string (bs X.hd.text), .string (bs X.hd.type), .int .i64 X.hd.n, .int .i64 X.hd.fr, .int .i64 X.hd.to_, .int .i64 X.hd.at_, .int .i64 X.hd.tat, kx]) (h : K (a.put (some 56) (.slice (some ⟨w.heap.size, 0, none⟩) 1 1)) (w.alloc (.cells #[.int .i64 X.hd.kind, .string (bs X.hd.text), .string (bs X.hd.type), .int .i64 X.hd.n, .int .i64 X.hd.fr, .int .i64 X.hd.to_, .int .i64 X.hd.at_, .int .i64 X.hd.tat, kx] 44))) : if Region.wanted { dst := some 56, op := Op.buildSlice 42 1 #[(0, Operand.tmp 55)], type := 42, pos := "law.go:80", after := #[{ on := 3, ground := Ground.data }], guard := none } (yielded ops15 a.tmps) = true then Oper.wp Try.prog { dst := some 56, op := Op.buildSlice 42 1 #[(0, Operand.tmp 55)], type := 42, pos := "law.go:80", after := #[{ on := 3, ground := Ground.data }], guard := none } a w K Q else E := by
  rw [if_pos (by simp [Region.wanted])]
  subst hk
  simp [Act.eval] at e5
  unfold Oper.wp
  simp only [execOp]
  go_simp
  exact h
theorem op15_6 {K : Act → World → Prop} {Q : Exit → Act → World → Prop} {a : Act} {w : World} {E : Prop} {v : Value} {ax : Option Addr} {nx cx : Nat} (hk : v = .slice ax nx cx) (e7 : a.eval (.tmp 57) = v) (h : K (a.put (some 58) (.agg #[.int .i64 5, .string ⟨#[]⟩, .string ⟨#[]⟩, .int .i64 0, .int .i64 0, .int .i64 0, .int .i64 0, .int .i64 0, v])) w) : if Region.wanted { dst := some 58, op := Op.build 44 #[(0, Operand.const (Value.int IntKind.i64 5)), (8, Operand.tmp 57)], type := 44, pos := "law.go:80", after := #[{ on := 5, ground := Ground.data }], guard := none } (yielded ops15 a.tmps) = true then Oper.wp Try.prog { dst := some 58, op := Op.build 44 #[(0, Operand.const (Value.int IntKind.i64 5)), (8, Operand.tmp 57)], type := 44, pos := "law.go:80", after := #[{ on := 5, ground := Ground.data }], guard := none } a w K Q else E := by
  rw [if_pos (by simp [Region.wanted])]
  subst hk
  simp [Act.eval] at e7
  unfold Oper.wp
  simp only [execOp]
  go_simp
  exact h
theorem op15_7 {K : Act → World → Prop} {Q : Exit → Act → World → Prop} {a : Act} {w : World} {E : Prop}  (h : K (a.put (some 13) (.pointer (some ⟨w.heap.size, 0, none⟩))) (w.alloc (.cells #[.int .i64 0, .string ⟨#[]⟩, .string ⟨#[]⟩, .int .i64 0, .int .i64 0, .int .i64 0, .int .i64 0, .int .i64 0, .slice none 0 0] 44))) : if Region.wanted { dst := some 13, op := Op.alloc 44, type := 0, pos := "law.go:80", after := #[], guard := none } (yielded ops15 a.tmps) = true then Oper.wp Try.prog { dst := some 13, op := Op.alloc 44, type := 0, pos := "law.go:80", after := #[], guard := none } a w K Q else E := by
  rw [if_pos (by simp [Region.wanted])]
  go_simp
  exact h
theorem op15_8 {K : Act → World → Prop} {Q : Exit → Act → World → Prop} {a : Act} {w : World} {E : Prop} {Z : Nat} {v : Value} {ax : Option Addr} {nx cx : Nat} (hk : v = .slice ax nx cx) (e13 : a.eval (.tmp 13) = .pointer (some ⟨Z, 0, none⟩)) (e58 : a.eval (.tmp 58) = .agg #[.int .i64 5, .string ⟨#[]⟩, .string ⟨#[]⟩, .int .i64 0, .int .i64 0, .int .i64 0, .int .i64 0, .int .i64 0, v]) (hr : RowAt w Z 44 #[.int .i64 0, .string ⟨#[]⟩, .string ⟨#[]⟩, .int .i64 0, .int .i64 0, .int .i64 0, .int .i64 0, .int .i64 0, .slice none 0 0]) (h : K a (((((((((w.setCell ⟨Z, 0, none⟩ (.int .i64 5)).setCell ⟨Z, 1, none⟩ (.string ⟨#[]⟩)).setCell ⟨Z, 2, none⟩ (.string ⟨#[]⟩)).setCell ⟨Z, 3, none⟩ (.int .i64 0)).setCell ⟨Z, 4, none⟩ (.int .i64 0)).setCell ⟨Z, 5, none⟩ (.int .i64 0)).setCell ⟨Z, 6, none⟩ (.int .i64 0)).setCell ⟨Z, 7, none⟩ (.int .i64 0)).setCell ⟨Z, 8, none⟩ v)) : if Region.wanted { dst := none, op := Op.store 44 (Operand.tmp 13) (Operand.tmp 58), type := 0, pos := "law.go:80", after := #[{ on := 7, ground := Ground.data }, { on := 6, ground := Ground.data }, { on := 5, ground := Ground.chain }, { on := 0, ground := Ground.phase }, { on := 1, ground := Ground.phase }, { on := 2, ground := Ground.phase }, { on := 3, ground := Ground.phase }, { on := 4, ground := Ground.phase }, { on := 5, ground := Ground.phase }, { on := 6, ground := Ground.phase }, { on := 7, ground := Ground.phase }], guard := none } (yielded ops15 a.tmps) = true then Oper.wp Try.prog { dst := none, op := Op.store 44 (Operand.tmp 13) (Operand.tmp 58), type := 0, pos := "law.go:80", after := #[{ on := 7, ground := Ground.data }, { on := 6, ground := Ground.data }, { on := 5, ground := Ground.chain }, { on := 0, ground := Ground.phase }, { on := 1, ground := Ground.phase }, { on := 2, ground := Ground.phase }, { on := 3, ground := Ground.phase }, { on := 4, ground := Ground.phase }, { on := 5, ground := Ground.phase }, { on := 6, ground := Ground.phase }, { on := 7, ground := Ground.phase }], guard := none } a w K Q else E := by
  rw [if_pos (by simp [Region.wanted])]
  subst hk
  obtain ⟨z0, z1, z2, z3, z4, z5, z6, z7, z8, zf⟩ := zc hr
  unfold Oper.wp
  simp only [execOp, e13, e58]
  go_simp
  exact h
set_option maxHeartbeats 8000000
theorem region15 (L : List Nd) (X : Nd) (kx : Value) (ax : Option Addr) (nx capx : Nat) (hkx : kx = .slice ax nx capx) (n : Nat) (al : Option Addr) (capl : Nat) (qs : List Pr) (W8 : World) (a0 : Act) (tx : Nat) {Q : Exit → Act → World → Prop}
    (hz : 59 ≤ a0.tmps.size) (e0 : a0.eval (.tmp 0) = .slice al n capl) (e3 : a0.eval (.tmp 3) = .pointer (some ⟨tx, 0, none⟩))
    (HS : ∀ U, Below W8.heap.size W8 U → (U.cell? ⟨tx, 0, none⟩ = some (.int .i64 X.hd.kind) ∧ U.cell? ⟨tx, 1, none⟩ = some (.string (bs X.hd.text)) ∧ U.cell? ⟨tx, 2, none⟩ = some (.string (bs X.hd.type)) ∧ U.cell? ⟨tx, 3, none⟩ = some (.int .i64 X.hd.n) ∧ U.cell? ⟨tx, 4, none⟩ = some (.int .i64 X.hd.fr) ∧ U.cell? ⟨tx, 5, none⟩ = some (.int .i64 X.hd.to_) ∧ U.cell? ⟨tx, 6, none⟩ = some (.int .i64 X.hd.at_) ∧ U.cell? ⟨tx, 7, none⟩ = some (.int .i64 X.hd.tat) ∧ U.cell? ⟨tx, 8, none⟩ = some kx))
    (hql : qs.length = n) (hqL : L = qs.map (·.1)) (HRP : ∀ U, Below W8.heap.size W8 U → RowP U al qs) (hqo : ∀ p ∈ qs, p.2.oneCell' = true) (hqk : ∀ p ∈ qs, KidsAt W8 p.1.kids p.2)
    (HXK : ∀ U, Below W8.heap.size W8 U → KidsAt U X.kids kx) (hn : n + 1 ≤ 5000000)
    (hQ : ∀ a' w', (∃ x52 x53 x54 x55 x56 x57 x58 G u cu, a' = (((((((a0.put (some 52) x52).put (some 53) x53).put (some 54) x54).put (some 55) x55).put (some 56) x56).put (some 57) x57).put (some 58) x58).put (some 13) (.pointer (some ⟨G, 0, none⟩)) ∧ RowAt w' G 44 ((blkN []).hd.vals (.slice u (n + 1) cu)) ∧ KidsAt w' (L ++ [X]) (.slice u (n + 1) cu) ∧ Below W8.heap.size W8 w') → Q .normal a' w') : (Code.region 15 ops15 true).wp Try.prog Q a0 W8 := by
  refine wp_region_any (by kernel_rfl) ?_
  refine wpAny_inv (fun l a w => (∃ b0 b1 b2 b3 b4 b5 b6 b7 v52 v53 v54 v55 v56 v57 v58 v13 G B Z, l = #[b0, b1, b2, b3, b4, b5, b6, b7, false] ∧ Ev a0 a v52 v53 v54 v55 v56 v57 v58 v13 ∧ St W8 n al capl qs X kx b0 b1 b2 b3 b4 b5 b6 b7 v52 v53 v54 v55 v56 v57 v58 v13 G B Z w) ∨ (l = #[true, true, true, true, true, true, true, true, true] ∧ (∃ x52 x53 x54 x55 x56 x57 x58 G u cu, a = (((((((a0.put (some 52) x52).put (some 53) x53).put (some 54) x54).put (some 55) x55).put (some 56) x56).put (some 57) x57).put (some 58) x58).put (some 13) (.pointer (some ⟨G, 0, none⟩)) ∧ RowAt w G 44 ((blkN []).hd.vals (.slice u (n + 1) cu)) ∧ KidsAt w (L ++ [X]) (.slice u (n + 1) cu) ∧ Below W8.heap.size W8 w))) ?_ ?_ _ _ _ _ rfl (by decide) (.inl ⟨false, false, false, false, false, false, false, false, _, _, _, _, _, _, _, _, 0, 0, 0, rfl, ⟨Rest.refl _ _, rfl, rfl, rfl, rfl, rfl, rfl, rfl, rfl⟩, (St.start _ _ _ _ _ _ _ _).drew⟩)
  · intro l a w i hI hi
    rcases hI with ⟨b0, b1, b2, b3, b4, b5, b6, b7, v52, v53, v54, v55, v56, v57, v58, v13, G, B, Z, rfl, E, S⟩ | ⟨rfl, -⟩
    rotate_left
    · rw [all15] at hi
      cases hi
    obtain ⟨h0, o, ho, ha⟩ := mem_ready.1 hi
    have hi9 : i < 9 := (Array.getElem?_eq_some_iff.1 ho).1
    have ev0 : a.eval (.tmp 0) = .slice al n capl := (E.rest.eval (by decide)).trans e0
    have ev3 : a.eval (.tmp 3) = .pointer (some ⟨tx, 0, none⟩) := (E.rest.eval (by decide)).trans e3
    match i, hi9 with
    | 0, _ =>
      have f0 : b0 = false := h0
      exact wpOp_step rfl fun K hK => op15_0 (hK _ _ (.inl ⟨_, _, _, _, _, _, _, _, _, _, _, _, _, _, _, _, _, _, _, rfl, E.p52 hz _, S.s0 f0⟩))
    | 1, _ => exact wpOp_step rfl fun K hK => op15_1 ev0 (hK _ _ (.inl ⟨_, _, _, _, _, _, _, _, _, _, _, _, _, _, _, _, _, _, _, rfl, E.p53 hz _, S.s1⟩))
    | 2, _ =>
      have f2 : b2 = false := h0
      obtain rfl : { dst := some 54, op := Op.call { callee := Callee.builtin Builtin.append, args := #[Operand.tmp 52, Operand.tmp 53], argTypes := #[42, 42] }, type := 42, pos := "law.go:80", after := #[{ on := 0, ground := Ground.data }, { on := 1, ground := Ground.data }], guard := none } = o := Option.some.inj ho
      have k0 : b0 = true := ha ⟨0, Ground.data⟩ (by simp) rfl
      have k1 : b1 = true := ha ⟨1, Ground.data⟩ (by simp) rfl
      obtain ⟨q1, q2⟩ := S.o0 k0 f2
      refine wpOp_step rfl fun K hK => ?_
      refine step_append_nodes rfl (.tmp 52) (.tmp 53) rfl W8.heap.size G 0 0 (E.e52.trans q1) [] qs al n capl (E.e53.trans (S.o1 k1)) (own0 q2 (S.g0 k0).1) rfl hql (HRP w S.bel) hqo n (Nat.zero_add n) (by omega) S.bel.size ?_
      intro g cp w' hown hg hat
      exact hK _ _ (.inl ⟨_, _, _, _, _, _, _, _, _, _, _, _, _, _, _, _, _, _, _, rfl, E.p54 hz _, S.s2 f2 k0 hown hg hat⟩)
    | 3, _ =>
      obtain ⟨c0, c1, c2, c3, c4, c5, c6, c7, c8⟩ := HS w S.bel
      exact wpOp_step rfl fun K hK => op15_3 ev3 c0 c1 c2 c3 c4 c5 c6 c7 c8 (hK _ _ (.inl ⟨_, _, _, _, _, _, _, _, _, _, _, _, _, _, _, _, _, _, _, rfl, E.p55 hz _, S.s3⟩))
    | 4, _ =>
      have f4 : b4 = false := h0
      obtain rfl : { dst := some 56, op := Op.buildSlice 42 1 #[(0, Operand.tmp 55)], type := 42, pos := "law.go:80", after := #[{ on := 3, ground := Ground.data }], guard := none } = o := Option.some.inj ho
      have k3 : b3 = true := ha ⟨3, Ground.data⟩ (by simp) rfl
      exact wpOp_step rfl fun K hK => op15_4 hkx (E.e55.trans (S.o3 k3)) (hK _ _ (.inl ⟨_, _, _, _, _, _, _, _, _, _, _, _, _, _, _, _, _, _, _, rfl, E.p56 hz _, S.s4 f4⟩))
    | 5, _ =>
      have f5 : b5 = false := h0
      obtain rfl : { dst := some 57, op := Op.call { callee := Callee.builtin Builtin.append, args := #[Operand.tmp 54, Operand.tmp 56], argTypes := #[42, 42] }, type := 42, pos := "law.go:80", after := #[{ on := 2, ground := Ground.data }, { on := 4, ground := Ground.data }, { on := 2, ground := Ground.chain }], guard := none } = o := Option.some.inj ho
      have k2 : b2 = true := ha ⟨2, Ground.data⟩ (by simp) rfl
      have k4 : b4 = true := ha ⟨4, Ground.data⟩ (by simp) rfl
      obtain ⟨c, q1, q2⟩ := S.o2 k2 f5
      obtain ⟨q3, q4⟩ := S.o4 k4 f5
      refine wpOp_step rfl fun K hK => ?_
      refine step_append_nodes rfl (.tmp 54) (.tmp 56) rfl W8.heap.size G n c (E.e54.trans q1) qs [(X, kx)] _ 1 1 (E.e56.trans q3) q2 hql rfl (rowOne q4 (HXK w S.bel)) (fun p hp => by obtain rfl := List.mem_singleton.1 hp; rw [hkx]; rfl) (n + 1) rfl hn S.bel.size ?_
      intro g cp w' hown hg hat
      exact hK _ _ (.inl ⟨_, _, _, _, _, _, _, _, _, _, _, _, _, _, _, _, _, _, _, rfl, E.p57 hz _, S.s5 f5 k2 k4 hown hg hat⟩)
    | 6, _ =>
      obtain rfl : { dst := some 58, op := Op.build 44 #[(0, Operand.const (Value.int IntKind.i64 5)), (8, Operand.tmp 57)], type := 44, pos := "law.go:80", after := #[{ on := 5, ground := Ground.data }], guard := none } = o := Option.some.inj ho
      have k5 : b5 = true := ha ⟨5, Ground.data⟩ (by simp) rfl
      obtain ⟨c, q1, q2⟩ := S.o5 k5
      exact wpOp_step rfl fun K hK => op15_6 q1 E.e57 (hK _ _ (.inl ⟨_, _, _, _, _, _, _, _, _, _, _, _, _, _, _, _, _, _, _, rfl, E.p58 hz _, S.s6 k5⟩))
    | 7, _ => exact wpOp_step rfl fun K hK => op15_7 (hK _ _ (.inl ⟨_, _, _, _, _, _, _, _, _, _, _, _, _, _, _, _, _, _, _, rfl, E.p13 hz _, S.s7⟩))
    | 8, _ =>
      obtain rfl : { dst := none, op := Op.store 44 (Operand.tmp 13) (Operand.tmp 58), type := 0, pos := "law.go:80", after := #[{ on := 7, ground := Ground.data }, { on := 6, ground := Ground.data }, { on := 5, ground := Ground.chain }, { on := 0, ground := Ground.phase }, { on := 1, ground := Ground.phase }, { on := 2, ground := Ground.phase }, { on := 3, ground := Ground.phase }, { on := 4, ground := Ground.phase }, { on := 5, ground := Ground.phase }, { on := 6, ground := Ground.phase }, { on := 7, ground := Ground.phase }], guard := none } = o := Option.some.inj ho
      have k7 : b7 = true := ha ⟨7, Ground.data⟩ (by simp) rfl
      have k6 : b6 = true := ha ⟨6, Ground.data⟩ (by simp) rfl
      have k5 := S.d6 k6
      obtain ⟨k2, k4⟩ := S.d5 k5
      have k0 := S.d2 k2
      have k1 : b1 = true := ha ⟨1, Ground.phase⟩ (by simp) rfl
      have k3 : b3 = true := ha ⟨3, Ground.phase⟩ (by simp) rfl
      obtain ⟨c, q1, q2⟩ := S.o5 k5
      obtain ⟨p1, p2, p3⟩ := S.o7 k7
      have hleaf := blk_leaf (Z := #[]) (W8 := W8) (U := w) (ps := qs ++ [(X, kx)]) ⟨5, [], [], 0, 0, 0, 0, 0⟩ v57 q1 (by rw [q1]; exact q2) (by simp [hql]) p2 (Ne.symm (S.gz k0 k7)) S.bel (fun p hp => by
        rcases List.mem_append.1 hp with h | h
        · exact hqk p h
        · obtain rfl := List.mem_singleton.1 h
          exact HXK W8 (Below.refl _ _)) p3 rfl
      subst k0 k1 k2 k3 k4 k5 k6 k7
      exact wpOp_step rfl fun K hK => op15_8 q1 (E.e13.trans p1) (E.e58.trans (S.o6 rfl)) p2 (hK _ _ (.inr ⟨rfl, by
        have hc := E.rest.chain hz
        rw [E.e13, p1] at hc
        refine ⟨_, _, _, _, _, _, _, Z, some ⟨G, 0, none⟩, c, hc, ?_, ?_, hleaf.2.2⟩
        · have := hleaf.1
          rw [← q1]
          exact this
        · have := hleaf.2.1
          rw [← q1, hqL]
          simpa using this⟩))
  · intro l a w hI hr
    rcases hI with ⟨b0, b1, b2, b3, b4, b5, b6, b7, v52, v53, v54, v55, v56, v57, v58, v13, G, B, Z, rfl, E, S⟩ | ⟨-, hR⟩
    · exact (some15 _ _ _ _ _ _ _ _ hr).elim
    · exact hQ a w hR
end Go.Proofs.Ytbnbmjdjkadgoaa.F
