/-
  For the laws of decls: which file a class stands in plays no part but for its number; a file that is there twice. No condition.
-/
import Derived.Test.YtbnbmjdjkadgoaaDoorDs
import Derived.Deep.RegionHeldLaw
import Derived.Deep.AppendLies
import Derived.Test.YtbnbmjdjkadgoaaDoorDv
import Derived.Deep.RegionHeld3
namespace Go.Proofs.YtbnbmjdjkadgoaaDoor.D
open Go.RowKit Go.Shelf
set_option linter.unusedSimpArgs false
set_option linter.unusedVariables false

/-- An entity, as if it stood in file 0. -/
def zE (e : En) : En := { e with file := 0 }
def zP (p : En × Bool) : En × Bool := (zE p.1, p.2)
theorem locs_z (file : Int) (owner : B8) : ∀ (l : List (Nd × Bool)) (i : Nat), (locs file owner i l).map zP = locs 0 owner i l
  | [], i => rfl
  | x :: l, i => by rw [locs, locs, List.map_cons, locs_z file owner l (i + 1)]; rfl
theorem mem_z (file : Int) (owner : B8) (k : Nd) : (memEv file owner k).map zP = memEv 0 owner k := by
  unfold memEv
  split
  · rfl
  · split
    · rw [List.map_cons, locs_z]; rfl
    · rfl
theorem cls_z (file : Int) (n : Nd) : (clsEv file n).map zP = clsEv 0 n := by
  unfold clsEv
  split
  · rw [List.map_cons, List.map_flatMap]
    congr 1
    congr 1
    funext k
    exact mem_z file n.hd.text k
  · rfl
theorem fil_z (file : Int) (l : List Nd) : (filEv file l).map zP = filEv 0 l := by
  unfold filEv
  rw [List.map_flatMap]
  congr 1
  funext k
  exact cls_z file k
theorem fil_append (a b : List Nd) : filEv 0 (a ++ b) = filEv 0 a ++ filEv 0 b := by unfold filEv; rw [List.flatMap_append]
theorem all_z : ∀ (fs : List (List Nd)) (i : Nat), (allEv i fs).map zP = filEv 0 fs.flatten
  | [], i => rfl
  | l :: fs, i => by rw [allEv, List.map_append, fil_z, all_z fs (i + 1), List.flatten_cons, fil_append]
theorem step_z (out : List En) (e : En) (tw : Bool) : step (out.map zE) (zE e) tw = step out e tw := by
  unfold step
  have h1 : (zE e).kind = e.kind := rfl
  rw [h1]
  by_cases h : e.kind = 4
  · rw [if_pos h, if_pos h]
  · rw [if_neg h, if_neg h]
    have h2 : ((out.map zE).filter fun x => x.kind ≠ 4).map En.key = (out.filter fun x => x.kind ≠ 4).map En.key := by
      rw [List.filter_map, List.map_map]
      rfl
    rw [h2]
    rfl
theorem runs_z : ∀ (l : List (En × Bool)) (out : List En), runs (out.map zE) (l.map zP) = ((runs out l).1.map zE, (runs out l).2.map zE)
  | [], out => rfl
  | (e, tw) :: l, out => by
    rw [List.map_cons, show zP (e, tw) = (zE e, tw) from rfl, runs, runs, step_z]
    by_cases h : step out e tw = true
    · rw [if_pos h, if_pos h]; rfl
    · rw [if_neg h, if_neg h]
      have := runs_z l (out ++ [e])
      rw [List.map_append] at this
      exact this
/-- Files put together as one. -/
theorem table_flat (fs : List (List Nd)) : table [fs.flatten] = ((table fs).1.map zE, (table fs).2.map zE) := by
  have h := runs_z (allEv 0 fs) []
  rw [all_z] at h
  unfold table
  rw [allEv, allEv, List.append_nil]
  exact h
theorem runs_all : ∀ (l : List (En × Bool)) (out : List En), (runs out l).2 = none → (runs out l).1 = out ++ l.map (·.1)
  | [], out, _ => by simp [runs]
  | (e, tw) :: l, out, h => by
    rw [runs] at h ⊢
    by_cases hs : step out e tw = true
    · rw [if_pos hs] at h; cases h
    · rw [if_neg hs] at h ⊢
      rw [runs_all l _ h]
      simp
theorem allEv_append : ∀ (a b : List (List Nd)) (i : Nat), allEv i (a ++ b) = allEv i a ++ allEv (i + a.length) b
  | [], b, i => rfl
  | l :: a, b, i => by
    rw [List.cons_append, allEv, allEv, allEv_append a b (i + 1), List.append_assoc, List.length_cons, Nat.add_right_comm, Nat.add_assoc]
/-- A file that is there twice, and has a class, is a mistake. -/
theorem table_twice (f : List Nd) (fs : List (List Nd)) (hk : ∀ n ∈ f, kd n = 1) (h : (table (f :: fs)).2 = none) : (table ((f :: fs) ++ [f])).2.isSome = decide (0 < f.length) := by
  unfold table at h ⊢
  rw [allEv_append, runs_append]
  have ha := runs_all _ _ h
  rw [List.nil_append] at ha
  generalize runs [] (allEv 0 (f :: fs)) = R at h ha ⊢
  obtain ⟨o, y⟩ := R
  obtain rfl : y = none := h
  have ha' : o = (allEv 0 (f :: fs)).map (·.1) := ha
  show (runs o (allEv (0 + (f :: fs).length) [f])).2.isSome = _
  rw [allEv, allEv, List.append_nil]
  cases f with
  | nil => rfl
  | cons n f =>
    have hn : kd n = 1 := hk n (by simp)
    have e1 : ∀ i : Int, filEv i (n :: f) = (clsE i n, false) :: (n.kids.flatMap (memEv i n.hd.text) ++ filEv i f) := fun i => by
      unfold filEv
      rw [List.flatMap_cons]
      conv => lhs; unfold clsEv
      rw [if_pos hn]
      simp
      rfl
    rw [e1, runs]
    have hst : step o (clsE ((0 + ((n :: f) :: fs).length : Nat) : Int) n) false = true := by
      unfold step
      rw [if_neg (by show ¬ ((1 : Int) = 4); decide)]
      refine decide_eq_true ?_
      refine List.mem_map.2 ⟨clsE ((0 : Nat) : Int) n, List.mem_filter.2 ⟨?_, by rfl⟩, rfl⟩
      rw [ha', allEv, e1]
      simp
    rw [if_pos hst]
    simp
theorem total_append (a b : List (List Nd)) : total (a ++ b) = total a + total b := by simp [total]
theorem cntL_append (a b : List Nd) : cntL (a ++ b) = cntL a + cntL b := by
  induction a with
  | nil => rw [cntL]; simp
  | cons x a ih => rw [List.cons_append, cntL, cntL, ih]; omega
theorem cntL_flat (fs : List (List Nd)) : cntL fs.flatten = total fs := by
  induction fs with
  | nil => rw [List.flatten_nil, cntL]; rfl
  | cons x fs ih => rw [List.flatten_cons, cntL_append, ih, total_cons]
/-- What the cells of a row of nodes hold. -/
theorem KidsAt.rows {W : World} {l : List Nd} {v : Value} (h : KidsAt W l v) : ∃ (a : Option Addr) (cap : Nat) (qs : List Pr), v = .slice a qs.length cap ∧ qs.map (·.1) = l ∧ qs.length ≤ cap ∧ cap ≤ maxLen ∧ RowP W a qs ∧ ∀ p ∈ qs, KidsAt W p.1.kids p.2 := by
  obtain ⟨a, cap, rfl, h1, h2, hx⟩ := h.get
  have key : ∀ (m : Nat), m ≤ l.length → ∃ qs : List Pr, qs.map (·.1) = l.take m ∧ RowP W a qs := by
    intro m
    induction m with
    | zero => exact fun _ => ⟨[], by simp, fun k p hk => by simp at hk⟩
    | succ m ih =>
      intro hm
      obtain ⟨qs, e, hr⟩ := ih (by omega)
      obtain ⟨t, ht⟩ : ∃ t, l[m]? = some t := ⟨_, List.getElem?_eq_getElem (by omega)⟩
      obtain ⟨b, off, kv, ea, c, hk⟩ := hx m t ht
      have hl : qs.length = m := by
        have := congrArg List.length e
        rw [List.length_map, List.length_take] at this
        omega
      refine ⟨qs ++ [(t, kv)], by rw [List.map_append, e, List.take_add_one, ht]; rfl, fun k p hkp => ?_⟩
      by_cases hkm : k < qs.length
      · rw [List.getElem?_append_left hkm] at hkp
        exact hr k p hkp
      · rw [List.getElem?_append_right (by omega)] at hkp
        have h0 : k - qs.length = 0 := by
          have := (List.getElem?_eq_some_iff.1 hkp).1
          simpa using this
        rw [h0] at hkp
        obtain rfl : (t, kv) = p := by simpa using hkp
        obtain rfl : k = m := by omega
        exact ⟨b, off, ea, c, hk⟩
  obtain ⟨qs, e, hr⟩ := key l.length (Nat.le_refl _)
  rw [List.take_length] at e
  have hl : qs.length = l.length := by rw [← e, List.length_map]
  refine ⟨a, cap, qs, by rw [hl], e, by omega, h2, hr, fun p hp => ?_⟩
  obtain ⟨k, hk⟩ := List.mem_iff_getElem?.1 hp
  obtain ⟨b, off, -, -, hkk⟩ := hr k p hk
  exact hkk
end Go.Proofs.YtbnbmjdjkadgoaaDoor.D
/-
  For the laws of decls: the region of DeclsFiles that calls Table on the files with the first of them again: it draws its order: an invariant over what is done. Condition: the table of the powers of ten holds them.
-/
namespace Go.Proofs.YtbnbmjdjkadgoaaDoor.D
open Go.RowKit Go.Shelf
set_option linter.unusedSimpArgs false
set_option linter.unusedVariables false
set_option maxRecDepth 100000

theorem wpAny_inv {P : Program} {md : Region.Mode} {ops : Array Oper} {Q : Exit → Act → World → Prop} (I : Array Bool → Act → World → Prop)
    (hs : ∀ l a w i, I l a w → i ∈ Region.ready md ops l → wpOp P ops Q i (I (l.setIfInBounds i true)) a w)
    (he : ∀ l a w, I l a w → Region.ready md ops l = [] → Q .normal a w) :
    ∀ (fuel : Nat) (l : Array Bool) (a : Act) (w : World), l.size = ops.size → l.toList.count false ≤ fuel → I l a w → wpAny P md ops Q fuel l a w
  | 0, l, a, w, hz, hc, h => by
    have hr : Region.ready md ops l = [] := by
      refine List.eq_nil_iff_forall_not_mem.2 fun j hj => ?_
      obtain ⟨h0, o, ho, -⟩ := mem_ready.1 hj
      have hjl : j < l.size := by have := (Array.getElem?_eq_some_iff.1 ho).1; omega
      have h1 : l[j] = false := by simpa [hjl] using h0
      have h2 : false ∈ l.toList := by rw [← h1]; simp
      have := List.count_pos_iff.2 h2
      omega
    exact ⟨hr, he l a w h hr⟩
  | fuel + 1, l, a, w, hz, hc, h => ⟨he l a w h, fun i hi => wpOp_mono (fun a' w' h' => wpAny_inv I hs he fuel _ a' w' (by simpa using hz) (by
      obtain ⟨h0, o, ho, -⟩ := mem_ready.1 hi
      have hil : i < l.size := by have := (Array.getElem?_eq_some_iff.1 ho).1; omega
      have h1 : l[i] = false := by simpa [hil] using h0
      have h2 : false ∈ l.toList := by rw [← h1]; simp
      have h3 := List.count_pos_iff.2 h2
      have h4 : i < l.toList.length := by simpa using hil
      have h5 : l.toList[i] = false := by simpa using h1
      have h6 : (l.toList.set i true).count false = l.toList.count false - 1 := by rw [List.count_set h4, h5]; simp
      rw [Array.toList_setIfInBounds, h6]
      omega) h') (hs l a w i h hi)⟩
/-- Nothing but some slots has changed. -/
structure Rest (L : List Nat) (a0 a : Act) : Prop where
  act : a = { a0 with tmps := a.tmps }
  size : a.tmps.size = a0.tmps.size
  get : ∀ t, t ∉ L → a.tmps[t]? = a0.tmps[t]?
theorem Rest.refl (L : List Nat) (a : Act) : Rest L a a := ⟨rfl, rfl, fun _ _ => rfl⟩
theorem Rest.put {L : List Nat} {a0 a : Act} {d : Nat} (h : Rest L a0 a) (hd : d ∈ L) (v : Value) : Rest L a0 (a.put (some d) v) := by
  refine ⟨?_, by simp [Act.put, h.size], fun t ht => ?_⟩
  · have := h.act
    simp only [Act.put]
    rw [this]
  · have hne : d ≠ t := fun e => ht (e ▸ hd)
    simp [Act.put, Array.getElem?_setIfInBounds_ne hne, h.get t ht]
theorem Rest.eval {L : List Nat} {a0 a : Act} (h : Rest L a0 a) {t : Nat} (ht : t ∉ L) : a.eval (.tmp t) = a0.eval (.tmp t) := by
  simp [Act.eval, h.get t ht]
theorem ev_ne {a : Act} {d t : Nat} (v : Value) (h : d ≠ t) : (a.put (some d) v).eval (.tmp t) = a.eval (.tmp t) := Act.eval_put (fun e he hh => by cases he; cases hh; exact h rfl)
theorem ev_eq {a : Act} {d : Nat} (v : Value) (h : d < a.tmps.size) : (a.put (some d) v).eval (.tmp d) = v := by
  simp [Act.eval, Act.put, h]
/-- Is an operation done? -/
def Done (l : Array Bool) (i : Nat) : Prop := l.getD i false = true
theorem Done.old {l : Array Bool} {i j : Nat} (h : Done (l.setIfInBounds i true) j) (hne : j ≠ i) : Done l j := by
  unfold Done at h ⊢
  simpa [Array.getD_eq_getD_getElem?, Array.getElem?_setIfInBounds_ne (Ne.symm hne)] using h
theorem Done.more {l : Array Bool} {i j : Nat} (h : Done l j) : Done (l.setIfInBounds i true) j := by
  unfold Done at h ⊢
  by_cases e : i = j
  · subst e
    rw [Array.getD_eq_getD_getElem?] at h ⊢
    have hl : i < l.size := by
      rcases Nat.lt_or_ge i l.size with h' | h'
      · exact h'
      · rw [Array.getElem?_eq_none h'] at h; cases h
    simp [Array.getElem?_setIfInBounds, hl]
  · simpa [Array.getD_eq_getD_getElem?, Array.getElem?_setIfInBounds_ne e] using h
theorem Done.new {l : Array Bool} {i : Nat} (h : i < l.size) : Done (l.setIfInBounds i true) i := by
  unfold Done
  simp [Array.getD_eq_getD_getElem?, Array.getElem?_setIfInBounds, h]
theorem not_done {l : Array Bool} {i : Nat} (h : l.getD i true = false) : ¬ Done l i := by
  unfold Done
  rw [Array.getD_eq_getD_getElem?] at h ⊢
  intro h2
  cases hx : l[i]? with
  | none => rw [hx] at h; cases h
  | some b => rw [hx] at h h2; simp at h h2; rw [h] at h2; cases h2
theorem of_not_done {l : Array Bool} {i : Nat} (hi : i < l.size) (h : ¬ Done l i) : l.getD i true = false := by
  unfold Done at h
  rw [Array.getD_eq_getD_getElem?] at h ⊢
  rw [Array.getElem?_eq_getElem hi] at h ⊢
  cases hx : l[i] with
  | true => rw [hx] at h; exact absurd rfl h
  | false => rfl
/-- Where an operation waits for elder ones alone, nothing is ready only when all is done. -/
theorem all_done {md : Region.Mode} {ops : Array Oper} (hord : ∀ i o, ops[i]? = some o → ∀ e ∈ o.after, Region.binds md e = true → e.on < i) {l : Array Bool} (hz : l.size = ops.size) (h : Region.ready md ops l = []) : ∀ i, i < ops.size → Done l i := by
  intro i
  induction i using Nat.strongRecOn with
  | _ i ih =>
    intro hi
    refine Classical.byContradiction fun hn => ?_
    have : i ∈ Region.ready md ops l := mem_ready.2 ⟨of_not_done (by omega) hn, ops[i], Array.getElem?_eq_getElem hi, fun e he hb => ih e.on (hord i _ (Array.getElem?_eq_getElem hi) e he hb) (Nat.lt_trans (hord i _ (Array.getElem?_eq_getElem hi) e he hb) hi)⟩
    rw [h] at this
    cases this
def ops23 : Array Oper := #[{ dst := some 85, op := Op.buildSlice 24 0 #[], type := 24, pos := "law.go:134", after := #[], guard := none }, { dst := some 86, op := Op.move (Operand.tmp 4), type := 24, pos := "law.go:134", after := #[], guard := none }, { dst := some 87, op := Op.call { callee := Callee.builtin Builtin.append, args := #[Operand.tmp 85, Operand.tmp 86], argTypes := #[24, 24] }, type := 24, pos := "law.go:134", after := #[{ on := 0, ground := Ground.data }, { on := 1, ground := Ground.data }], guard := none }, { dst := some 88, op := Op.move (Operand.tmp 4), type := 24, pos := "law.go:134", after := #[], guard := none }, { dst := some 89, op := Op.indexAddr 24 (Operand.tmp 88) (Operand.const (Value.int IntKind.i64 0)), type := 0, pos := "law.go:134", after := #[{ on := 3, ground := Ground.data }], guard := none }, { dst := some 90, op := Op.load 42 (Operand.tmp 89), type := 42, pos := "law.go:134", after := #[{ on := 4, ground := Ground.data }], guard := none }, { dst := some 91, op := Op.buildSlice 24 1 #[(0, Operand.tmp 90)], type := 24, pos := "law.go:134", after := #[{ on := 5, ground := Ground.data }], guard := none }, { dst := some 92, op := Op.call { callee := Callee.builtin Builtin.append, args := #[Operand.tmp 87, Operand.tmp 91], argTypes := #[24, 24] }, type := 24, pos := "law.go:134", after := #[{ on := 2, ground := Ground.data }, { on := 6, ground := Ground.data }, { on := 2, ground := Ground.chain }], guard := none }, { dst := some 93, op := Op.call { callee := Callee.value (Operand.func 8), args := #[Operand.tmp 92], argTypes := #[24] }, type := 31, pos := "law.go:134", after := #[{ on := 7, ground := Ground.data }, { on := 7, ground := Ground.chain }], guard := none }, { dst := some 84, op := Op.move (Operand.tmp 93), type := 31, pos := "law.go:134", after := #[{ on := 8, ground := Ground.data }], guard := none }, { dst := some 94, op := Op.extract (Operand.tmp 84) 0, type := 27, pos := "law.go:134", after := #[{ on := 9, ground := Ground.data }], guard := none }, { dst := some 95, op := Op.extract (Operand.tmp 84) 1, type := 30, pos := "law.go:134", after := #[{ on := 9, ground := Ground.data }, { on := 13, ground := Ground.gcOnly Departure.lateStores }], guard := none }, { dst := some 15, op := Op.alloc 30, type := 0, pos := "law.go:134", after := #[], guard := none }, { dst := some 14, op := Op.assign (Operand.tmp 94), type := 27, pos := "law.go:134", after := #[{ on := 10, ground := Ground.data }, { on := 8, ground := Ground.chain }, { on := 0, ground := Ground.phase }, { on := 1, ground := Ground.phase }, { on := 2, ground := Ground.phase }, { on := 3, ground := Ground.phase }, { on := 4, ground := Ground.phase }, { on := 5, ground := Ground.phase }, { on := 6, ground := Ground.phase }, { on := 7, ground := Ground.phase }, { on := 8, ground := Ground.phase }, { on := 9, ground := Ground.phase }, { on := 10, ground := Ground.phase }, { on := 11, ground := Ground.textOnly Departure.lateStores }, { on := 12, ground := Ground.phase }], guard := none }, { dst := none, op := Op.store 30 (Operand.tmp 15) (Operand.tmp 95), type := 0, pos := "law.go:134", after := #[{ on := 12, ground := Ground.data }, { on := 11, ground := Ground.data }, { on := 13, ground := Ground.chain }, { on := 0, ground := Ground.phase }, { on := 1, ground := Ground.phase }, { on := 2, ground := Ground.phase }, { on := 3, ground := Ground.phase }, { on := 4, ground := Ground.phase }, { on := 5, ground := Ground.phase }, { on := 6, ground := Ground.phase }, { on := 7, ground := Ground.phase }, { on := 8, ground := Ground.phase }, { on := 9, ground := Ground.phase }, { on := 10, ground := Ground.phase }, { on := 11, ground := Ground.phase }, { on := 12, ground := Ground.phase }, { on := 13, ground := Ground.phase }], guard := none }]
theorem ord23 : ∀ i o, ops23[i]? = some o → ∀ e ∈ o.after, Region.binds .any e = true → e.on < i := by
  have key : ∀ i : Fin 15, ∀ e ∈ (ops23[i.1]'i.2).after.toList, Region.binds .any e = true → e.on < i.1 := by decide +kernel
  intro i o ho e he hb
  obtain ⟨hi, rfl⟩ := Array.getElem?_eq_some_iff.1 ho
  exact key ⟨i, hi⟩ e (Array.mem_def.1 he) hb
def sl23 : List Nat := [85, 86, 87, 88, 89, 90, 91, 92, 93, 84, 94, 95, 15, 14]
theorem Rest.chain {a0 a : Act} (h : Rest sl23 a0 a) (hz : 96 ≤ a0.tmps.size) : a = ((((((((((((((a0.put (some 85) (a.eval (.tmp 85))).put (some 86) (a.eval (.tmp 86))).put (some 87) (a.eval (.tmp 87))).put (some 88) (a.eval (.tmp 88))).put (some 89) (a.eval (.tmp 89))).put (some 90) (a.eval (.tmp 90))).put (some 91) (a.eval (.tmp 91))).put (some 92) (a.eval (.tmp 92))).put (some 93) (a.eval (.tmp 93))).put (some 84) (a.eval (.tmp 84))).put (some 94) (a.eval (.tmp 94))).put (some 95) (a.eval (.tmp 95))).put (some 15) (a.eval (.tmp 15))).put (some 14) (a.eval (.tmp 14))) := by
  have key : a.tmps = ((((((((((((((a0.put (some 85) (a.eval (.tmp 85))).put (some 86) (a.eval (.tmp 86))).put (some 87) (a.eval (.tmp 87))).put (some 88) (a.eval (.tmp 88))).put (some 89) (a.eval (.tmp 89))).put (some 90) (a.eval (.tmp 90))).put (some 91) (a.eval (.tmp 91))).put (some 92) (a.eval (.tmp 92))).put (some 93) (a.eval (.tmp 93))).put (some 84) (a.eval (.tmp 84))).put (some 94) (a.eval (.tmp 94))).put (some 95) (a.eval (.tmp 95))).put (some 15) (a.eval (.tmp 15))).put (some 14) (a.eval (.tmp 14))).tmps := by
    have hg : ∀ i : Nat, i < 96 → a.tmps[i]? = some (a.eval (.tmp i)) := fun i hi => by
      have h1 : i < a.tmps.size := by rw [h.size]; omega
      simp [Act.eval, h1]
    simp only [Act.put]
    refine Array.ext_getElem? fun i => ?_
    by_cases c85 : i = 85
    · subst c85
      rw [hg 85 (by decide)]
      have hz1 : 85 < a0.tmps.size := by omega
      simp [Array.getElem?_setIfInBounds, hz1]
    by_cases c86 : i = 86
    · subst c86
      rw [hg 86 (by decide)]
      have hz1 : 86 < a0.tmps.size := by omega
      simp [Array.getElem?_setIfInBounds, hz1]
    by_cases c87 : i = 87
    · subst c87
      rw [hg 87 (by decide)]
      have hz1 : 87 < a0.tmps.size := by omega
      simp [Array.getElem?_setIfInBounds, hz1]
    by_cases c88 : i = 88
    · subst c88
      rw [hg 88 (by decide)]
      have hz1 : 88 < a0.tmps.size := by omega
      simp [Array.getElem?_setIfInBounds, hz1]
    by_cases c89 : i = 89
    · subst c89
      rw [hg 89 (by decide)]
      have hz1 : 89 < a0.tmps.size := by omega
      simp [Array.getElem?_setIfInBounds, hz1]
    by_cases c90 : i = 90
    · subst c90
      rw [hg 90 (by decide)]
      have hz1 : 90 < a0.tmps.size := by omega
      simp [Array.getElem?_setIfInBounds, hz1]
    by_cases c91 : i = 91
    · subst c91
      rw [hg 91 (by decide)]
      have hz1 : 91 < a0.tmps.size := by omega
      simp [Array.getElem?_setIfInBounds, hz1]
    by_cases c92 : i = 92
    · subst c92
      rw [hg 92 (by decide)]
      have hz1 : 92 < a0.tmps.size := by omega
      simp [Array.getElem?_setIfInBounds, hz1]
    by_cases c93 : i = 93
    · subst c93
      rw [hg 93 (by decide)]
      have hz1 : 93 < a0.tmps.size := by omega
      simp [Array.getElem?_setIfInBounds, hz1]
    by_cases c84 : i = 84
    · subst c84
      rw [hg 84 (by decide)]
      have hz1 : 84 < a0.tmps.size := by omega
      simp [Array.getElem?_setIfInBounds, hz1]
    by_cases c94 : i = 94
    · subst c94
      rw [hg 94 (by decide)]
      have hz1 : 94 < a0.tmps.size := by omega
      simp [Array.getElem?_setIfInBounds, hz1]
    by_cases c95 : i = 95
    · subst c95
      rw [hg 95 (by decide)]
      have hz1 : 95 < a0.tmps.size := by omega
      simp [Array.getElem?_setIfInBounds, hz1]
    by_cases c15 : i = 15
    · subst c15
      rw [hg 15 (by decide)]
      have hz1 : 15 < a0.tmps.size := by omega
      simp [Array.getElem?_setIfInBounds, hz1]
    by_cases c14 : i = 14
    · subst c14
      rw [hg 14 (by decide)]
      have hz1 : 14 < a0.tmps.size := by omega
      simp [Array.getElem?_setIfInBounds, hz1]
    have hn : i ∉ sl23 := by simp [sl23, c85, c86, c87, c88, c89, c90, c91, c92, c93, c84, c94, c95, c15, c14]
    rw [h.get i hn]
    simp [Array.getElem?_setIfInBounds, Ne.symm c85, Ne.symm c86, Ne.symm c87, Ne.symm c88, Ne.symm c89, Ne.symm c90, Ne.symm c91, Ne.symm c92, Ne.symm c93, Ne.symm c84, Ne.symm c94, Ne.symm c95, Ne.symm c15, Ne.symm c14]
  refine h.act.trans ?_
  rw [key]
  simp only [Act.put]
theorem FilesAt.below {W W' : World} {v : Value} {L : List (List Nd)} (h : FilesAt W v L) (hb : Below W.heap.size W W') : FilesAt W' v L := by
  obtain ⟨a, cap, e, h1, h2, hx⟩ := h
  refine ⟨a, cap, e, h1, h2, fun k l hk => ?_⟩
  obtain ⟨b, off, kv, ea, hc, hkk⟩ := hx k l hk
  exact ⟨b, off, kv, ea, (hb.cell (p := ⟨b, off + k, none⟩) (World.block_lt_of_cell? W _ hc)).trans hc, hkk.below hb⟩
/-- A row of files out of an own row of their values. -/
theorem files_own {W0 w : World} {base g m cap : Nat} {vs : List Value} {fs : List (List Nd)} (ho : w.ownsRow base 42 1 (.slice (some ⟨g, 0, none⟩) m cap) m vs) (hm : fs.length = m) (hb : Below W0.heap.size W0 w)
    (hk : ∀ (k : Nat) (l : List Nd), fs[k]? = some l → ∃ x, vs[k]? = some x ∧ KidsAt W0 l x) : FilesAt w (.slice (some ⟨g, 0, none⟩) m cap) fs := by
  rcases ho.2 with ⟨e, -⟩ | ⟨g2, c2, cur, e, _, hg, h1, h2, h3, h4⟩
  · cases e
  · simp only [Value.slice.injEq, Option.some.injEq, Addr.mk.injEq, and_true, true_and] at e
    obtain ⟨rfl, rfl⟩ := e
    refine ⟨some ⟨g, 0, none⟩, cap, by rw [hm], by rw [hm]; exact h1, h2, fun k l hkl => ?_⟩
    obtain ⟨x, hx, hkx⟩ := hk k l hkl
    have hlt := (List.getElem?_eq_some_iff.1 hkl).1
    refine ⟨g, 0, x, rfl, ?_, hkx.below hb⟩
    rw [← h4, List.getElem?_take_of_lt (by omega)] at hx
    rw [Nat.zero_add]
    simp [World.cell?, hg]
    simpa using hx
theorem rowGrownN {W w' : World} {g b : Nat} {t : TypeId} {vs : Array Value} (hne : b ≠ g) (hg : W.grownBy w' (some g)) (h : RowAt W b t vs) : RowAt w' b t vs := (hg.block b h.lt (fun e => hne (Option.some.inj e))).trans h
theorem own_cells {w : World} {base e size g n cap m : Nat} {xs : List Value} (h : w.ownsRow base e size (.slice (some ⟨g, 0, none⟩) n cap) m xs) : ∃ cs, RowAt w g e cs := by
  rcases h.2 with ⟨e, -⟩ | ⟨g2, c2, cur, e, _, hg, -⟩
  · cases e
  · simp only [Value.slice.injEq, Option.some.injEq, Addr.mk.injEq, and_true, true_and] at e
    obtain ⟨rfl, -⟩ := e
    exact ⟨cur, hg⟩
section
variable (W0 : World) (n : Nat) (FS : Value) (fb : Nat) (vals : List Value) (kv : Value) (fs2 : List (List Nd)) (c0 c1 c2 : Int)
/-- What an operation, once done, has left. -/
def Fct (l : Array Bool) (a : Act) (w : World) : Nat → Prop
  | 0 => ¬ Done l 2 → ∃ g, a.eval (.tmp 85) = .slice (some ⟨g, 0, none⟩) 0 0 ∧ RowAt w g 42 #[] ∧ W0.heap.size ≤ g
  | 1 => a.eval (.tmp 86) = FS
  | 2 => ¬ Done l 7 → ∃ g c, a.eval (.tmp 87) = .slice (some ⟨g, 0, none⟩) n c ∧ w.ownsRow W0.heap.size 42 1 (.slice (some ⟨g, 0, none⟩) n c) n vals
  | 3 => a.eval (.tmp 88) = FS
  | 4 => a.eval (.tmp 89) = .pointer (some ⟨fb, 0, none⟩)
  | 5 => a.eval (.tmp 90) = kv
  | 6 => ¬ Done l 7 → ∃ g, a.eval (.tmp 91) = .slice (some ⟨g, 0, none⟩) 1 1 ∧ RowAt w g 42 #[kv]
  | 7 => ¬ Done l 8 → FilesAt w (a.eval (.tmp 92)) fs2
  | 8 => ∃ v, a.eval (.tmp 93) = .tuple #[v, .agg #[.int .i64 c0, .int .i64 c1, .int .i64 c2]]
  | 9 => ∃ v, a.eval (.tmp 84) = .tuple #[v, .agg #[.int .i64 c0, .int .i64 c1, .int .i64 c2]]
  | 11 => a.eval (.tmp 95) = .agg #[.int .i64 c0, .int .i64 c1, .int .i64 c2]
  | 12 => ∃ g x y z, a.eval (.tmp 15) = .pointer (some ⟨g, 0, none⟩) ∧ RowAt w g 30 #[.int .i64 x, .int .i64 y, .int .i64 z] ∧ W0.heap.size ≤ g
  | 14 => ∃ g, a.eval (.tmp 15) = .pointer (some ⟨g, 0, none⟩) ∧ RowAt w g 30 #[.int .i64 c0, .int .i64 c1, .int .i64 c2] ∧ W0.heap.size ≤ g
  | _ => True
/-- The slot that an operation's fact speaks of. -/
def slot23 : Nat → Nat
  | 0 => 85 | 1 => 86 | 2 => 87 | 3 => 88 | 4 => 89 | 5 => 90 | 6 => 91 | 7 => 92 | 8 => 93 | 9 => 84 | 11 => 95 | 12 => 15 | 14 => 15 | _ => 0
structure St (a0 : Act) (l : Array Bool) (a : Act) (w : World) : Prop where
  size : l.size = 15
  rest : Rest sl23 a0 a
  bel : Below W0.heap.size W0 w
  deps : ∀ j, Done l j → ∀ o, ops23[j]? = some o → ∀ e ∈ o.after, Region.binds .any e = true → Done l e.on
  fct : ∀ j, Done l j → Fct W0 n FS fb vals kv fs2 c0 c1 c2 l a w j
variable {W0 n FS fb vals kv fs2 c0 c1 c2}
/-- What does not change as the world grows. -/
theorem Fct.grow {l : Array Bool} {a : Act} {w w' : World} {i j : Nat} (h : Fct W0 n FS fb vals kv fs2 c0 c1 c2 l a w j) (hij : j ≠ i) (hb : Below w.heap.size w w') : Fct W0 n FS fb vals kv fs2 c0 c1 c2 (l.setIfInBounds i true) a w' j := by
  unfold Fct at h ⊢
  split at h <;> first | exact h | skip
  · intro h2
    obtain ⟨g, e, r, hg⟩ := h fun k => h2 k.more
    exact ⟨g, e, r.later hb, hg⟩
  · intro h2
    obtain ⟨g, c, e, r⟩ := h fun k => h2 k.more
    exact ⟨g, c, e, own_below r hb⟩
  · intro h2
    obtain ⟨g, e, r⟩ := h fun k => h2 k.more
    exact ⟨g, e, r.later hb⟩
  · intro h2
    exact (h fun k => h2 k.more).below hb
  · obtain ⟨g, x, y, z, e, r, hg⟩ := h
    exact ⟨g, x, y, z, e, r.later hb, hg⟩
  · obtain ⟨g, e, r, hg⟩ := h
    exact ⟨g, e, r.later hb, hg⟩
theorem Fct.put {l : Array Bool} {a : Act} {w : World} {j d : Nat} {v : Value} (h : Fct W0 n FS fb vals kv fs2 c0 c1 c2 l a w j) (hd : d ≠ slot23 j) : Fct W0 n FS fb vals kv fs2 c0 c1 c2 l (a.put (some d) v) w j := by
  unfold Fct at h ⊢
  have key : ∀ t, d ≠ t → (a.put (some d) v).eval (.tmp t) = a.eval (.tmp t) := fun t ht => ev_ne v ht
  split at h <;> first | exact h | (simp only [slot23] at hd; rw [key _ hd]; exact h) | (simp only [slot23] at hd; simp only [key _ hd]; exact h)
theorem St.next {a0 : Act} {l : Array Bool} {a a' : Act} {w w' : World} {i : Nat} (S : St W0 n FS fb vals kv fs2 c0 c1 c2 a0 l a w) (hi : i ∈ Region.ready .any ops23 l)
    (hr : Rest sl23 a0 a') (hb : Below W0.heap.size W0 w') (hnew : Fct W0 n FS fb vals kv fs2 c0 c1 c2 (l.setIfInBounds i true) a' w' i)
    (hold : ∀ j, j ≠ i → Done l j → Fct W0 n FS fb vals kv fs2 c0 c1 c2 l a w j → Fct W0 n FS fb vals kv fs2 c0 c1 c2 (l.setIfInBounds i true) a' w' j) : St W0 n FS fb vals kv fs2 c0 c1 c2 a0 (l.setIfInBounds i true) a' w' := by
  obtain ⟨h0, o, ho, ha⟩ := mem_ready.1 hi
  refine ⟨by simpa using S.size, hr, hb, fun j hj o' ho' e he hbd => ?_, fun j hj => ?_⟩
  · by_cases hji : j = i
    · subst hji
      rw [ho] at ho'
      obtain rfl := Option.some.inj ho'
      exact (show Done l e.on from ha e he hbd).more
    · exact (S.deps j (hj.old hji) o' ho' e he hbd).more
  · by_cases hji : j = i
    · subst hji; exact hnew
    · exact hold j hji (hj.old hji) (S.fct j (hj.old hji))
/-- An operation that sets its slot, while the world at most grows. -/
theorem St.set {a0 : Act} {l : Array Bool} {a : Act} {w w' : World} {i d : Nat} {v : Value} (S : St W0 n FS fb vals kv fs2 c0 c1 c2 a0 l a w) (hi : i ∈ Region.ready .any ops23 l) (hd : d ∈ sl23) (hb : Below w.heap.size w w')
    (hs : ∀ j, j ≠ i → Done l j → d ≠ slot23 j) (hnew : Fct W0 n FS fb vals kv fs2 c0 c1 c2 (l.setIfInBounds i true) (a.put (some d) v) w' i) : St W0 n FS fb vals kv fs2 c0 c1 c2 a0 (l.setIfInBounds i true) (a.put (some d) v) w' :=
  S.next hi (S.rest.put hd v) (S.bel.trans (hb.mono S.bel.size)) hnew fun j hj hdj h => (h.grow hj hb).put (hs j hj hdj)
theorem St.lt {a0 : Act} {l : Array Bool} {a : Act} {w : World} {j : Nat} (S : St W0 n FS fb vals kv fs2 c0 c1 c2 a0 l a w) (h : Done l j) : j < 15 := by
  unfold Done at h
  rw [Array.getD_eq_getD_getElem?] at h
  rcases Nat.lt_or_ge j l.size with h' | h'
  · have := S.size; omega
  · rw [Array.getElem?_eq_none h'] at h; cases h
theorem slot_ne (i : Nat) (d : Nat) (h : (List.range 15).all (fun j => j == i || !(d == slot23 j)) = true) : ∀ j, j < 15 → j ≠ i → d ≠ slot23 j := fun j hj hne e => by
  have := List.all_eq_true.1 h j (List.mem_range.2 hj)
  rw [← e] at this
  simp [hne] at this
end
end Go.Proofs.YtbnbmjdjkadgoaaDoor.D
/-
  For the laws of decls: the region of DeclsFiles that calls Table on the files with the first of them again: each operation, and the whole. Condition: the table of the powers of ten holds them.
-/
namespace Go.Proofs.YtbnbmjdjkadgoaaDoor.D
open Go.RowKit Go.Shelf
set_option linter.unusedSimpArgs false
set_option linter.unusedVariables false
set_option maxRecDepth 100000
theorem store3 {w : World} {g : Nat} {x y z : Value} (r : RowAt w g 30 #[x, y, z]) : w.cell? ⟨g, 0, none⟩ = some x ∧ w.cell? ⟨g, 1, none⟩ = some y ∧ w.cell? ⟨g, 2, none⟩ = some z := ⟨r.cell rfl, r.cell rfl, r.cell rfl⟩
structure Hyp (W0 : World) (n fc : Nat) (FS : Value) (fb : Nat) (vals : List Value) (ka : Option Addr) (kn kc : Nat) (kv : Value) (fs2 : List (List Nd)) (c0 c1 c2 : Int) (a0 : Act) : Prop where
  hz : 96 ≤ a0.tmps.size
  e4 : a0.eval (.tmp 4) = FS
  hFS : (.slice (some ⟨fb, 0, none⟩) n fc : Value) = FS
  hKV : (.slice ka kn kc : Value) = kv
  hn : 0 < n
  hn2 : n ≤ 1000
  hl : vals.length = n
  HC : ∀ U, Below W0.heap.size W0 U → ∀ (j : Nat) (x : Value), vals[j]? = some x → U.cell? ⟨fb, j, none⟩ = some x
  h1 : ∀ x ∈ vals, x.oneCell' = true
  hkv : vals[0]? = some kv
  hf2 : fs2.length = n + 1
  HK : ∀ (k : Nat) (l : List Nd), fs2[k]? = some l → ∃ x, (vals ++ [kv])[k]? = some x ∧ KidsAt W0 l x
  HT : ∀ v U, FilesAt U v fs2 → Below W0.heap.size W0 U → Calls Tryd.prog 8 #[v] U fun e w' => (∃ v', e = .returned (.tuple #[v', .agg #[.int .i64 c0, .int .i64 c1, .int .i64 c2]])) ∧ Below U.heap.size U w'
section
variable {W0 : World} {n fc : Nat} {FS : Value} {fb : Nat} {vals : List Value} {ka : Option Addr} {kn kc : Nat} {kv : Value} {fs2 : List (List Nd)} {c0 c1 c2 : Int} {a0 : Act} {Q : Exit → Act → World → Prop} {l : Array Bool} {a : Act} {w : World}
set_option maxHeartbeats 1000000 in
theorem op23_0 (H : Hyp W0 n fc FS fb vals ka kn kc kv fs2 c0 c1 c2 a0) (S : St W0 n FS fb vals kv fs2 c0 c1 c2 a0 l a w) (hi : 0 ∈ Region.ready .any ops23 l) : wpOp Tryd.prog ops23 Q 0 (St W0 n FS fb vals kv fs2 c0 c1 c2 a0 (l.setIfInBounds 0 true)) a w := by
  obtain ⟨hz, e4, hFS, hKV, hn, hn2, hl, HC, h1, hkv, hf2, HK, HT⟩ := H
  obtain ⟨i0, hi0, hz0, hz1, hz2⟩ := info_parts infoRows
  obtain ⟨h0, o, ho, ha⟩ := mem_ready.1 hi
  have hsz : 96 ≤ a.tmps.size := by rw [S.rest.size]; exact hz
  have ev4 : a.eval (.tmp 4) = FS := (S.rest.eval (by decide)).trans e4
  have nd : ¬ Done l 0 := not_done h0
  have dep : ∀ (e : Edge), e ∈ o.after → Region.binds .any e = true → Done l e.on := fun e he hb => ha e he hb
  refine wpOp_step (o := { dst := some 85, op := Op.buildSlice 24 0 #[], type := 24, pos := "law.go:134", after := #[], guard := none }) rfl fun K hK => ?_
  rw [if_pos (by simp [Region.wanted])]
  unfold Oper.wp
  simp only [execOp]
  go_simp
  exact hK _ _ (S.set hi (by decide) ((Below.refl _ _).alloc (Nat.le_refl _) _) (fun j hj hdj => slot_ne 0 85 (by decide) j (S.lt hdj) hj) fun _ => ⟨_, ev_eq _ (by omega), RowAt.new w 42 #[], S.bel.size⟩)
set_option maxHeartbeats 1000000 in
theorem op23_1 (H : Hyp W0 n fc FS fb vals ka kn kc kv fs2 c0 c1 c2 a0) (S : St W0 n FS fb vals kv fs2 c0 c1 c2 a0 l a w) (hi : 1 ∈ Region.ready .any ops23 l) : wpOp Tryd.prog ops23 Q 1 (St W0 n FS fb vals kv fs2 c0 c1 c2 a0 (l.setIfInBounds 1 true)) a w := by
  obtain ⟨hz, e4, hFS, hKV, hn, hn2, hl, HC, h1, hkv, hf2, HK, HT⟩ := H
  obtain ⟨i0, hi0, hz0, hz1, hz2⟩ := info_parts infoRows
  obtain ⟨h0, o, ho, ha⟩ := mem_ready.1 hi
  have hsz : 96 ≤ a.tmps.size := by rw [S.rest.size]; exact hz
  have ev4 : a.eval (.tmp 4) = FS := (S.rest.eval (by decide)).trans e4
  have nd : ¬ Done l 1 := not_done h0
  have dep : ∀ (e : Edge), e ∈ o.after → Region.binds .any e = true → Done l e.on := fun e he hb => ha e he hb
  obtain rfl : { dst := some 86, op := Op.move (Operand.tmp 4), type := 24, pos := "law.go:134", after := #[], guard := none } = o := Option.some.inj ho
  refine wpOp_step (o := { dst := some 86, op := Op.move (Operand.tmp 4), type := 24, pos := "law.go:134", after := #[], guard := none }) rfl fun K hK => ?_
  rw [if_pos (by simp [Region.wanted])]
  unfold Oper.wp
  simp only [execOp, ev4]
  go_simp
  exact hK _ _ (S.set hi (by decide) (Below.refl _ _) (fun j hj hdj => slot_ne 1 86 (by decide) j (S.lt hdj) hj) (ev_eq _ (by omega)))
set_option maxHeartbeats 1000000 in
theorem op23_2 (H : Hyp W0 n fc FS fb vals ka kn kc kv fs2 c0 c1 c2 a0) (S : St W0 n FS fb vals kv fs2 c0 c1 c2 a0 l a w) (hi : 2 ∈ Region.ready .any ops23 l) : wpOp Tryd.prog ops23 Q 2 (St W0 n FS fb vals kv fs2 c0 c1 c2 a0 (l.setIfInBounds 2 true)) a w := by
  obtain ⟨hz, e4, hFS, hKV, hn, hn2, hl, HC, h1, hkv, hf2, HK, HT⟩ := H
  obtain ⟨i0, hi0, hz0, hz1, hz2⟩ := info_parts infoRows
  obtain ⟨h0, o, ho, ha⟩ := mem_ready.1 hi
  have hsz : 96 ≤ a.tmps.size := by rw [S.rest.size]; exact hz
  have ev4 : a.eval (.tmp 4) = FS := (S.rest.eval (by decide)).trans e4
  have nd : ¬ Done l 2 := not_done h0
  have dep : ∀ (e : Edge), e ∈ o.after → Region.binds .any e = true → Done l e.on := fun e he hb => ha e he hb
  obtain rfl : { dst := some 87, op := Op.call { callee := Callee.builtin Builtin.append, args := #[Operand.tmp 85, Operand.tmp 86], argTypes := #[24, 24] }, type := 24, pos := "law.go:134", after := #[{ on := 0, ground := Ground.data }, { on := 1, ground := Ground.data }], guard := none } = o := Option.some.inj ho
  have k0 : Done l 0 := dep ⟨0, Ground.data⟩ (by simp) rfl
  have k1 : Done l 1 := dep ⟨1, Ground.data⟩ (by simp) rfl
  obtain ⟨g, e85, r85, hg⟩ : ∃ g, a.eval (.tmp 85) = .slice (some ⟨g, 0, none⟩) 0 0 ∧ RowAt w g 42 #[] ∧ W0.heap.size ≤ g := S.fct 0 k0 nd
  have e86 : a.eval (.tmp 86) = FS := S.fct 1 k1
  rw [← hFS] at e86
  refine wpOp_step (o := { dst := some 87, op := Op.call { callee := Callee.builtin Builtin.append, args := #[Operand.tmp 85, Operand.tmp 86], argTypes := #[24, 24] }, type := 24, pos := "law.go:134", after := #[{ on := 0, ground := Ground.data }, { on := 1, ground := Ground.data }], guard := none }) rfl fun K hK => ?_
  refine step_append_lies w rfl (.tmp 85) (.tmp 86) 24 rfl W0.heap.size 42 i0 _ 1 24 Tryd.underlying24 hi0 hz0 hz1 hz2 rfl (by decide) _ 0 [] e85 ⟨rfl, .inr ⟨g, 0, #[], rfl, hg, r85, Nat.le_refl _, by simp [maxLen], rfl, rfl⟩⟩ ⟨fb, 0, none⟩ n fc vals e86 (by omega) (fun j u hj => by rw [add_flat, Nat.zero_add]; exact HC w S.bel j u hj) h1 hn (by unfold maxLen; omega) (by omega) S.bel.size w.heap.size rfl ?_
  intro g' c' w' hown hgr hat hlt
  rw [List.nil_append, Nat.zero_add] at hown
  rw [Nat.zero_add]
  refine hK _ _ (S.next hi (S.rest.put (by decide) _) (S.bel.grown hgr S.bel.size fun k hk => by obtain rfl := Option.some.inj hk; exact hg) (fun _ => ⟨g', c', ev_eq _ (by omega), hown⟩) fun j hj hdj h => ?_)
  have hput : ∀ (h' : Fct W0 n FS fb vals kv fs2 c0 c1 c2 (l.setIfInBounds 2 true) a w' j), Fct W0 n FS fb vals kv fs2 c0 c1 c2 (l.setIfInBounds 2 true) (a.put (some 87) (.slice (some ⟨g', 0, none⟩) n c')) w' j := fun h' => h'.put (slot_ne 2 87 (by decide) j (S.lt hdj) hj)
  refine hput ?_
  match j, S.lt hdj with
  | 0, _ => exact fun h2 => absurd (Done.new (by have := S.size; omega)) h2
  | 2, _ => exact absurd rfl hj
  | 6, _ =>
    intro h2
    obtain ⟨g6, e6, r6⟩ : ∃ g, a.eval (.tmp 91) = .slice (some ⟨g, 0, none⟩) 1 1 ∧ RowAt w g 42 #[kv] := h fun k => h2 k.more
    refine ⟨g6, e6, rowGrownN (fun e => ?_) hgr r6⟩
    rw [e] at r6
    have := r85.symm.trans r6
    simp at this
  | 7, _ => exact absurd (S.deps 7 hdj ({ dst := some 92, op := Op.call { callee := Callee.builtin Builtin.append, args := #[Operand.tmp 87, Operand.tmp 91], argTypes := #[24, 24] }, type := 24, pos := "law.go:134", after := #[{ on := 2, ground := Ground.data }, { on := 6, ground := Ground.data }, { on := 2, ground := Ground.chain }], guard := none }) rfl ⟨2, Ground.data⟩ (by simp) rfl) nd
  | 12, _ =>
    obtain ⟨g6, x, y, z, e6, r6, h6⟩ : ∃ g x y z, a.eval (.tmp 15) = .pointer (some ⟨g, 0, none⟩) ∧ RowAt w g 30 #[.int .i64 x, .int .i64 y, .int .i64 z] ∧ W0.heap.size ≤ g := h
    exact ⟨g6, x, y, z, e6, rowGrownN (row_ne r6 r85 (by decide)) hgr r6, h6⟩
  | 14, _ => exact absurd (S.deps 14 hdj ({ dst := none, op := Op.store 30 (Operand.tmp 15) (Operand.tmp 95), type := 0, pos := "law.go:134", after := #[{ on := 12, ground := Ground.data }, { on := 11, ground := Ground.data }, { on := 13, ground := Ground.chain }, { on := 0, ground := Ground.phase }, { on := 1, ground := Ground.phase }, { on := 2, ground := Ground.phase }, { on := 3, ground := Ground.phase }, { on := 4, ground := Ground.phase }, { on := 5, ground := Ground.phase }, { on := 6, ground := Ground.phase }, { on := 7, ground := Ground.phase }, { on := 8, ground := Ground.phase }, { on := 9, ground := Ground.phase }, { on := 10, ground := Ground.phase }, { on := 11, ground := Ground.phase }, { on := 12, ground := Ground.phase }, { on := 13, ground := Ground.phase }], guard := none }) rfl ⟨2, Ground.phase⟩ (by simp) rfl) nd
  | 1, _ => exact h
  | 3, _ => exact h
  | 4, _ => exact h
  | 5, _ => exact h
  | 8, _ => exact h
  | 9, _ => exact h
  | 10, _ => exact h
  | 11, _ => exact h
  | 13, _ => exact h
set_option maxHeartbeats 1000000 in
theorem op23_3 (H : Hyp W0 n fc FS fb vals ka kn kc kv fs2 c0 c1 c2 a0) (S : St W0 n FS fb vals kv fs2 c0 c1 c2 a0 l a w) (hi : 3 ∈ Region.ready .any ops23 l) : wpOp Tryd.prog ops23 Q 3 (St W0 n FS fb vals kv fs2 c0 c1 c2 a0 (l.setIfInBounds 3 true)) a w := by
  obtain ⟨hz, e4, hFS, hKV, hn, hn2, hl, HC, h1, hkv, hf2, HK, HT⟩ := H
  obtain ⟨i0, hi0, hz0, hz1, hz2⟩ := info_parts infoRows
  obtain ⟨h0, o, ho, ha⟩ := mem_ready.1 hi
  have hsz : 96 ≤ a.tmps.size := by rw [S.rest.size]; exact hz
  have ev4 : a.eval (.tmp 4) = FS := (S.rest.eval (by decide)).trans e4
  have nd : ¬ Done l 3 := not_done h0
  have dep : ∀ (e : Edge), e ∈ o.after → Region.binds .any e = true → Done l e.on := fun e he hb => ha e he hb
  obtain rfl : { dst := some 88, op := Op.move (Operand.tmp 4), type := 24, pos := "law.go:134", after := #[], guard := none } = o := Option.some.inj ho
  refine wpOp_step (o := { dst := some 88, op := Op.move (Operand.tmp 4), type := 24, pos := "law.go:134", after := #[], guard := none }) rfl fun K hK => ?_
  rw [if_pos (by simp [Region.wanted])]
  unfold Oper.wp
  simp only [execOp, ev4]
  go_simp
  exact hK _ _ (S.set hi (by decide) (Below.refl _ _) (fun j hj hdj => slot_ne 3 88 (by decide) j (S.lt hdj) hj) (ev_eq _ (by omega)))
set_option maxHeartbeats 1000000 in
theorem op23_4 (H : Hyp W0 n fc FS fb vals ka kn kc kv fs2 c0 c1 c2 a0) (S : St W0 n FS fb vals kv fs2 c0 c1 c2 a0 l a w) (hi : 4 ∈ Region.ready .any ops23 l) : wpOp Tryd.prog ops23 Q 4 (St W0 n FS fb vals kv fs2 c0 c1 c2 a0 (l.setIfInBounds 4 true)) a w := by
  obtain ⟨hz, e4, hFS, hKV, hn, hn2, hl, HC, h1, hkv, hf2, HK, HT⟩ := H
  obtain ⟨i0, hi0, hz0, hz1, hz2⟩ := info_parts infoRows
  obtain ⟨h0, o, ho, ha⟩ := mem_ready.1 hi
  have hsz : 96 ≤ a.tmps.size := by rw [S.rest.size]; exact hz
  have ev4 : a.eval (.tmp 4) = FS := (S.rest.eval (by decide)).trans e4
  have nd : ¬ Done l 4 := not_done h0
  have dep : ∀ (e : Edge), e ∈ o.after → Region.binds .any e = true → Done l e.on := fun e he hb => ha e he hb
  obtain rfl : { dst := some 89, op := Op.indexAddr 24 (Operand.tmp 88) (Operand.const (Value.int IntKind.i64 0)), type := 0, pos := "law.go:134", after := #[{ on := 3, ground := Ground.data }], guard := none } = o := Option.some.inj ho
  have k3 : Done l 3 := dep ⟨3, Ground.data⟩ (by simp) rfl
  have e88 : a.eval (.tmp 88) = FS := S.fct 3 k3
  have g1 : (0 : Int) < (n : Int) := by omega
  refine wpOp_step (o := { dst := some 89, op := Op.indexAddr 24 (Operand.tmp 88) (Operand.const (Value.int IntKind.i64 0)), type := 0, pos := "law.go:134", after := #[{ on := 3, ground := Ground.data }], guard := none }) rfl fun K hK => ?_
  rw [if_pos (by simp [Region.wanted])]
  unfold Oper.wp
  rw [← hFS] at e88
  simp only [execOp, e88]
  clear hFS
  go_simp
  exact hK _ _ (S.set hi (by decide) (Below.refl _ _) (fun j hj hdj => slot_ne 4 89 (by decide) j (S.lt hdj) hj) (ev_eq _ (by omega)))
set_option maxHeartbeats 1000000 in
theorem op23_5 (H : Hyp W0 n fc FS fb vals ka kn kc kv fs2 c0 c1 c2 a0) (S : St W0 n FS fb vals kv fs2 c0 c1 c2 a0 l a w) (hi : 5 ∈ Region.ready .any ops23 l) : wpOp Tryd.prog ops23 Q 5 (St W0 n FS fb vals kv fs2 c0 c1 c2 a0 (l.setIfInBounds 5 true)) a w := by
  obtain ⟨hz, e4, hFS, hKV, hn, hn2, hl, HC, h1, hkv, hf2, HK, HT⟩ := H
  obtain ⟨i0, hi0, hz0, hz1, hz2⟩ := info_parts infoRows
  obtain ⟨h0, o, ho, ha⟩ := mem_ready.1 hi
  have hsz : 96 ≤ a.tmps.size := by rw [S.rest.size]; exact hz
  have ev4 : a.eval (.tmp 4) = FS := (S.rest.eval (by decide)).trans e4
  have nd : ¬ Done l 5 := not_done h0
  have dep : ∀ (e : Edge), e ∈ o.after → Region.binds .any e = true → Done l e.on := fun e he hb => ha e he hb
  obtain rfl : { dst := some 90, op := Op.load 42 (Operand.tmp 89), type := 42, pos := "law.go:134", after := #[{ on := 4, ground := Ground.data }], guard := none } = o := Option.some.inj ho
  have k4 : Done l 4 := dep ⟨4, Ground.data⟩ (by simp) rfl
  have e89 : a.eval (.tmp 89) = .pointer (some ⟨fb, 0, none⟩) := S.fct 4 k4
  have cc := HC w S.bel 0 kv hkv
  clear hKV
  refine wpOp_step (o := { dst := some 90, op := Op.load 42 (Operand.tmp 89), type := 42, pos := "law.go:134", after := #[{ on := 4, ground := Ground.data }], guard := none }) rfl fun K hK => ?_
  rw [if_pos (by simp [Region.wanted])]
  unfold Oper.wp
  simp only [execOp, e89]
  go_simp
  exact hK _ _ (S.set hi (by decide) (Below.refl _ _) (fun j hj hdj => slot_ne 5 90 (by decide) j (S.lt hdj) hj) (ev_eq _ (by omega)))
set_option maxHeartbeats 1000000 in
theorem op23_6 (H : Hyp W0 n fc FS fb vals ka kn kc kv fs2 c0 c1 c2 a0) (S : St W0 n FS fb vals kv fs2 c0 c1 c2 a0 l a w) (hi : 6 ∈ Region.ready .any ops23 l) : wpOp Tryd.prog ops23 Q 6 (St W0 n FS fb vals kv fs2 c0 c1 c2 a0 (l.setIfInBounds 6 true)) a w := by
  obtain ⟨hz, e4, hFS, hKV, hn, hn2, hl, HC, h1, hkv, hf2, HK, HT⟩ := H
  obtain ⟨i0, hi0, hz0, hz1, hz2⟩ := info_parts infoRows
  obtain ⟨h0, o, ho, ha⟩ := mem_ready.1 hi
  have hsz : 96 ≤ a.tmps.size := by rw [S.rest.size]; exact hz
  have ev4 : a.eval (.tmp 4) = FS := (S.rest.eval (by decide)).trans e4
  have nd : ¬ Done l 6 := not_done h0
  have dep : ∀ (e : Edge), e ∈ o.after → Region.binds .any e = true → Done l e.on := fun e he hb => ha e he hb
  obtain rfl : { dst := some 91, op := Op.buildSlice 24 1 #[(0, Operand.tmp 90)], type := 24, pos := "law.go:134", after := #[{ on := 5, ground := Ground.data }], guard := none } = o := Option.some.inj ho
  have k5 : Done l 5 := dep ⟨5, Ground.data⟩ (by simp) rfl
  have e90 : a.eval (.tmp 90) = kv := S.fct 5 k5
  rw [← hKV] at e90
  simp [Act.eval] at e90
  have HKV := Lib.hid hKV
  clear hKV
  refine wpOp_step (o := { dst := some 91, op := Op.buildSlice 24 1 #[(0, Operand.tmp 90)], type := 24, pos := "law.go:134", after := #[{ on := 5, ground := Ground.data }], guard := none }) rfl fun K hK => ?_
  rw [if_pos (by simp [Region.wanted])]
  unfold Oper.wp
  simp only [execOp]
  go_simp
  exact hK _ _ (S.set hi (by decide) ((Below.refl _ _).alloc (Nat.le_refl _) _) (fun j hj hdj => slot_ne 6 91 (by decide) j (S.lt hdj) hj) fun _ => ⟨_, ev_eq _ (by omega), by rw [← HKV.out]; exact RowAt.new w 42 _⟩)
set_option maxHeartbeats 1000000 in
theorem op23_7 (H : Hyp W0 n fc FS fb vals ka kn kc kv fs2 c0 c1 c2 a0) (S : St W0 n FS fb vals kv fs2 c0 c1 c2 a0 l a w) (hi : 7 ∈ Region.ready .any ops23 l) : wpOp Tryd.prog ops23 Q 7 (St W0 n FS fb vals kv fs2 c0 c1 c2 a0 (l.setIfInBounds 7 true)) a w := by
  obtain ⟨hz, e4, hFS, hKV, hn, hn2, hl, HC, h1, hkv, hf2, HK, HT⟩ := H
  obtain ⟨i0, hi0, hz0, hz1, hz2⟩ := info_parts infoRows
  obtain ⟨h0, o, ho, ha⟩ := mem_ready.1 hi
  have hsz : 96 ≤ a.tmps.size := by rw [S.rest.size]; exact hz
  have ev4 : a.eval (.tmp 4) = FS := (S.rest.eval (by decide)).trans e4
  have nd : ¬ Done l 7 := not_done h0
  have dep : ∀ (e : Edge), e ∈ o.after → Region.binds .any e = true → Done l e.on := fun e he hb => ha e he hb
  obtain rfl : { dst := some 92, op := Op.call { callee := Callee.builtin Builtin.append, args := #[Operand.tmp 87, Operand.tmp 91], argTypes := #[24, 24] }, type := 24, pos := "law.go:134", after := #[{ on := 2, ground := Ground.data }, { on := 6, ground := Ground.data }, { on := 2, ground := Ground.chain }], guard := none } = o := Option.some.inj ho
  have k2 : Done l 2 := dep ⟨2, Ground.data⟩ (by simp) rfl
  have k6 : Done l 6 := dep ⟨6, Ground.data⟩ (by simp) rfl
  obtain ⟨g, c, e87, own87⟩ : ∃ g c, a.eval (.tmp 87) = .slice (some ⟨g, 0, none⟩) n c ∧ w.ownsRow W0.heap.size 42 1 (.slice (some ⟨g, 0, none⟩) n c) n vals := S.fct 2 k2 nd
  obtain ⟨g6, e91, r91⟩ : ∃ g, a.eval (.tmp 91) = .slice (some ⟨g, 0, none⟩) 1 1 ∧ RowAt w g 42 #[kv] := S.fct 6 k6 nd
  obtain ⟨cs87, r87⟩ := own_cells own87
  refine wpOp_step (o := { dst := some 92, op := Op.call { callee := Callee.builtin Builtin.append, args := #[Operand.tmp 87, Operand.tmp 91], argTypes := #[24, 24] }, type := 24, pos := "law.go:134", after := #[{ on := 2, ground := Ground.data }, { on := 6, ground := Ground.data }, { on := 2, ground := Ground.chain }], guard := none }) rfl fun K hK => ?_
  refine step_append_lies w rfl (.tmp 87) (.tmp 91) 24 rfl W0.heap.size 42 i0 _ 1 24 Tryd.underlying24 hi0 hz0 hz1 hz2 rfl (by decide) _ n vals e87 own87 ⟨g6, 0, none⟩ 1 1 [kv] e91 rfl (World.news_of_block r91) (fun u hu => by obtain rfl := List.mem_singleton.1 hu; rw [← hKV]; rfl) (by decide) (by unfold maxLen; omega) (by omega) S.bel.size w.heap.size rfl ?_
  intro g' c' w' hown hgr hat hlt
  have hbel : Below W0.heap.size W0 w' := S.bel.grown hgr S.bel.size fun k hk => by obtain rfl := Option.some.inj hk; exact (own87.lt g rfl).1
  refine hK _ _ (S.next hi (S.rest.put (by decide) _) hbel (fun _ => by
    rw [ev_eq _ (by omega)]
    exact files_own hown hf2 hbel HK) fun j hj hdj h => ?_)
  have hput : ∀ (h' : Fct W0 n FS fb vals kv fs2 c0 c1 c2 (l.setIfInBounds 7 true) a w' j), Fct W0 n FS fb vals kv fs2 c0 c1 c2 (l.setIfInBounds 7 true) (a.put (some 92) (.slice (some ⟨g', 0, none⟩) (n + 1) c')) w' j := fun h' => h'.put (slot_ne 7 92 (by decide) j (S.lt hdj) hj)
  refine hput ?_
  match j, S.lt hdj with
  | 0, _ => exact fun h2 => absurd k2.more h2
  | 2, _ => exact fun h2 => absurd (Done.new (by have := S.size; omega)) h2
  | 6, _ => exact fun h2 => absurd (Done.new (by have := S.size; omega)) h2
  | 7, _ => exact absurd rfl hj
  | 12, _ =>
    obtain ⟨g6, x, y, z, e6, r6, h6⟩ : ∃ g x y z, a.eval (.tmp 15) = .pointer (some ⟨g, 0, none⟩) ∧ RowAt w g 30 #[.int .i64 x, .int .i64 y, .int .i64 z] ∧ W0.heap.size ≤ g := h
    exact ⟨g6, x, y, z, e6, rowGrownN (row_ne r6 r87 (by decide)) hgr r6, h6⟩
  | 14, _ => exact absurd (S.deps 14 hdj ({ dst := none, op := Op.store 30 (Operand.tmp 15) (Operand.tmp 95), type := 0, pos := "law.go:134", after := #[{ on := 12, ground := Ground.data }, { on := 11, ground := Ground.data }, { on := 13, ground := Ground.chain }, { on := 0, ground := Ground.phase }, { on := 1, ground := Ground.phase }, { on := 2, ground := Ground.phase }, { on := 3, ground := Ground.phase }, { on := 4, ground := Ground.phase }, { on := 5, ground := Ground.phase }, { on := 6, ground := Ground.phase }, { on := 7, ground := Ground.phase }, { on := 8, ground := Ground.phase }, { on := 9, ground := Ground.phase }, { on := 10, ground := Ground.phase }, { on := 11, ground := Ground.phase }, { on := 12, ground := Ground.phase }, { on := 13, ground := Ground.phase }], guard := none }) rfl ⟨7, Ground.phase⟩ (by simp) rfl) nd
  | 1, _ => exact h
  | 3, _ => exact h
  | 4, _ => exact h
  | 5, _ => exact h
  | 8, _ => exact h
  | 9, _ => exact h
  | 10, _ => exact h
  | 11, _ => exact h
  | 13, _ => exact h
set_option maxHeartbeats 1000000 in
theorem op23_8 (H : Hyp W0 n fc FS fb vals ka kn kc kv fs2 c0 c1 c2 a0) (S : St W0 n FS fb vals kv fs2 c0 c1 c2 a0 l a w) (hi : 8 ∈ Region.ready .any ops23 l) : wpOp Tryd.prog ops23 Q 8 (St W0 n FS fb vals kv fs2 c0 c1 c2 a0 (l.setIfInBounds 8 true)) a w := by
  obtain ⟨hz, e4, hFS, hKV, hn, hn2, hl, HC, h1, hkv, hf2, HK, HT⟩ := H
  obtain ⟨i0, hi0, hz0, hz1, hz2⟩ := info_parts infoRows
  obtain ⟨h0, o, ho, ha⟩ := mem_ready.1 hi
  have hsz : 96 ≤ a.tmps.size := by rw [S.rest.size]; exact hz
  have ev4 : a.eval (.tmp 4) = FS := (S.rest.eval (by decide)).trans e4
  have nd : ¬ Done l 8 := not_done h0
  have dep : ∀ (e : Edge), e ∈ o.after → Region.binds .any e = true → Done l e.on := fun e he hb => ha e he hb
  obtain rfl : { dst := some 93, op := Op.call { callee := Callee.value (Operand.func 8), args := #[Operand.tmp 92], argTypes := #[24] }, type := 31, pos := "law.go:134", after := #[{ on := 7, ground := Ground.data }, { on := 7, ground := Ground.chain }], guard := none } = o := Option.some.inj ho
  have k7 : Done l 7 := dep ⟨7, Ground.data⟩ (by simp) rfl
  have hfa : FilesAt w (a.eval (.tmp 92)) fs2 := S.fct 7 k7 nd
  obtain ⟨V, hV⟩ : ∃ x, a.eval (.tmp 92) = x := ⟨_, rfl⟩
  rw [hV] at hfa
  refine wpOp_step (o := { dst := some 93, op := Op.call { callee := Callee.value (Operand.func 8), args := #[Operand.tmp 92], argTypes := #[24] }, type := 31, pos := "law.go:134", after := #[{ on := 7, ground := Ground.data }, { on := 7, ground := Ground.chain }], guard := none }) rfl fun K hK => ?_
  rw [if_pos (by simp [Region.wanted])]
  unfold Oper.wp
  simp [execOp, resolve, invoke, hV, show a.eval (Operand.func 8) = .func (.func 8) #[] #[] from rfl, Deferred.ofValue, callFunc, Result.andThen]
  rw [if_neg (by decide +kernel), if_neg (fun h => by have h2 : Tryd.f8.body.isSome = true := by kernel_rfl
                                                      rw [h] at h2; cases h2), Oper.upon_enter]
  refine (HT V w hfa S.bel).mono ?_
  rintro e w' ⟨⟨v', rfl⟩, hb⟩
  exact hK _ _ (S.set hi (by decide) hb (fun j hj hdj => slot_ne 8 93 (by decide) j (S.lt hdj) hj) ⟨v', ev_eq _ (by omega)⟩)
set_option maxHeartbeats 1000000 in
theorem op23_9 (H : Hyp W0 n fc FS fb vals ka kn kc kv fs2 c0 c1 c2 a0) (S : St W0 n FS fb vals kv fs2 c0 c1 c2 a0 l a w) (hi : 9 ∈ Region.ready .any ops23 l) : wpOp Tryd.prog ops23 Q 9 (St W0 n FS fb vals kv fs2 c0 c1 c2 a0 (l.setIfInBounds 9 true)) a w := by
  obtain ⟨hz, e4, hFS, hKV, hn, hn2, hl, HC, h1, hkv, hf2, HK, HT⟩ := H
  obtain ⟨i0, hi0, hz0, hz1, hz2⟩ := info_parts infoRows
  obtain ⟨h0, o, ho, ha⟩ := mem_ready.1 hi
  have hsz : 96 ≤ a.tmps.size := by rw [S.rest.size]; exact hz
  have ev4 : a.eval (.tmp 4) = FS := (S.rest.eval (by decide)).trans e4
  have nd : ¬ Done l 9 := not_done h0
  have dep : ∀ (e : Edge), e ∈ o.after → Region.binds .any e = true → Done l e.on := fun e he hb => ha e he hb
  obtain rfl : { dst := some 84, op := Op.move (Operand.tmp 93), type := 31, pos := "law.go:134", after := #[{ on := 8, ground := Ground.data }], guard := none } = o := Option.some.inj ho
  have k8 : Done l 8 := dep ⟨8, Ground.data⟩ (by simp) rfl
  obtain ⟨v', e93⟩ : ∃ v, a.eval (.tmp 93) = .tuple #[v, .agg #[.int .i64 c0, .int .i64 c1, .int .i64 c2]] := S.fct 8 k8
  refine wpOp_step (o := { dst := some 84, op := Op.move (Operand.tmp 93), type := 31, pos := "law.go:134", after := #[{ on := 8, ground := Ground.data }], guard := none }) rfl fun K hK => ?_
  rw [if_pos (by simp [Region.wanted])]
  unfold Oper.wp
  simp only [execOp, e93]
  go_simp
  exact hK _ _ (S.set hi (by decide) (Below.refl _ _) (fun j hj hdj => slot_ne 9 84 (by decide) j (S.lt hdj) hj) (⟨v', ev_eq _ (by omega)⟩))
set_option maxHeartbeats 1000000 in
theorem op23_10 (H : Hyp W0 n fc FS fb vals ka kn kc kv fs2 c0 c1 c2 a0) (S : St W0 n FS fb vals kv fs2 c0 c1 c2 a0 l a w) (hi : 10 ∈ Region.ready .any ops23 l) : wpOp Tryd.prog ops23 Q 10 (St W0 n FS fb vals kv fs2 c0 c1 c2 a0 (l.setIfInBounds 10 true)) a w := by
  obtain ⟨hz, e4, hFS, hKV, hn, hn2, hl, HC, h1, hkv, hf2, HK, HT⟩ := H
  obtain ⟨i0, hi0, hz0, hz1, hz2⟩ := info_parts infoRows
  obtain ⟨h0, o, ho, ha⟩ := mem_ready.1 hi
  have hsz : 96 ≤ a.tmps.size := by rw [S.rest.size]; exact hz
  have ev4 : a.eval (.tmp 4) = FS := (S.rest.eval (by decide)).trans e4
  have nd : ¬ Done l 10 := not_done h0
  have dep : ∀ (e : Edge), e ∈ o.after → Region.binds .any e = true → Done l e.on := fun e he hb => ha e he hb
  obtain rfl : { dst := some 94, op := Op.extract (Operand.tmp 84) 0, type := 27, pos := "law.go:134", after := #[{ on := 9, ground := Ground.data }], guard := none } = o := Option.some.inj ho
  have k9 : Done l 9 := dep ⟨9, Ground.data⟩ (by simp) rfl
  obtain ⟨v', e84⟩ : ∃ v, a.eval (.tmp 84) = .tuple #[v, .agg #[.int .i64 c0, .int .i64 c1, .int .i64 c2]] := S.fct 9 k9
  refine wpOp_step (o := { dst := some 94, op := Op.extract (Operand.tmp 84) 0, type := 27, pos := "law.go:134", after := #[{ on := 9, ground := Ground.data }], guard := none }) rfl fun K hK => ?_
  rw [if_pos (by simp [Region.wanted])]
  unfold Oper.wp
  simp only [execOp, e84]
  go_simp
  exact hK _ _ (S.set hi (by decide) (Below.refl _ _) (fun j hj hdj => slot_ne 10 94 (by decide) j (S.lt hdj) hj) (trivial))
set_option maxHeartbeats 1000000 in
theorem op23_11 (H : Hyp W0 n fc FS fb vals ka kn kc kv fs2 c0 c1 c2 a0) (S : St W0 n FS fb vals kv fs2 c0 c1 c2 a0 l a w) (hi : 11 ∈ Region.ready .any ops23 l) : wpOp Tryd.prog ops23 Q 11 (St W0 n FS fb vals kv fs2 c0 c1 c2 a0 (l.setIfInBounds 11 true)) a w := by
  obtain ⟨hz, e4, hFS, hKV, hn, hn2, hl, HC, h1, hkv, hf2, HK, HT⟩ := H
  obtain ⟨i0, hi0, hz0, hz1, hz2⟩ := info_parts infoRows
  obtain ⟨h0, o, ho, ha⟩ := mem_ready.1 hi
  have hsz : 96 ≤ a.tmps.size := by rw [S.rest.size]; exact hz
  have ev4 : a.eval (.tmp 4) = FS := (S.rest.eval (by decide)).trans e4
  have nd : ¬ Done l 11 := not_done h0
  have dep : ∀ (e : Edge), e ∈ o.after → Region.binds .any e = true → Done l e.on := fun e he hb => ha e he hb
  obtain rfl : { dst := some 95, op := Op.extract (Operand.tmp 84) 1, type := 30, pos := "law.go:134", after := #[{ on := 9, ground := Ground.data }, { on := 13, ground := Ground.gcOnly Departure.lateStores }], guard := none } = o := Option.some.inj ho
  have k9 : Done l 9 := dep ⟨9, Ground.data⟩ (by simp) rfl
  obtain ⟨v', e84⟩ : ∃ v, a.eval (.tmp 84) = .tuple #[v, .agg #[.int .i64 c0, .int .i64 c1, .int .i64 c2]] := S.fct 9 k9
  refine wpOp_step (o := { dst := some 95, op := Op.extract (Operand.tmp 84) 1, type := 30, pos := "law.go:134", after := #[{ on := 9, ground := Ground.data }, { on := 13, ground := Ground.gcOnly Departure.lateStores }], guard := none }) rfl fun K hK => ?_
  rw [if_pos (by simp [Region.wanted])]
  unfold Oper.wp
  simp only [execOp, e84]
  go_simp
  exact hK _ _ (S.set hi (by decide) (Below.refl _ _) (fun j hj hdj => slot_ne 11 95 (by decide) j (S.lt hdj) hj) (ev_eq _ (by omega)))
set_option maxHeartbeats 1000000 in
theorem op23_12 (H : Hyp W0 n fc FS fb vals ka kn kc kv fs2 c0 c1 c2 a0) (S : St W0 n FS fb vals kv fs2 c0 c1 c2 a0 l a w) (hi : 12 ∈ Region.ready .any ops23 l) : wpOp Tryd.prog ops23 Q 12 (St W0 n FS fb vals kv fs2 c0 c1 c2 a0 (l.setIfInBounds 12 true)) a w := by
  obtain ⟨hz, e4, hFS, hKV, hn, hn2, hl, HC, h1, hkv, hf2, HK, HT⟩ := H
  obtain ⟨i0, hi0, hz0, hz1, hz2⟩ := info_parts infoRows
  obtain ⟨h0, o, ho, ha⟩ := mem_ready.1 hi
  have hsz : 96 ≤ a.tmps.size := by rw [S.rest.size]; exact hz
  have ev4 : a.eval (.tmp 4) = FS := (S.rest.eval (by decide)).trans e4
  have nd : ¬ Done l 12 := not_done h0
  have dep : ∀ (e : Edge), e ∈ o.after → Region.binds .any e = true → Done l e.on := fun e he hb => ha e he hb
  refine wpOp_step (o := { dst := some 15, op := Op.alloc 30, type := 0, pos := "law.go:134", after := #[], guard := none }) rfl fun K hK => ?_
  rw [if_pos (by simp [Region.wanted])]
  unfold Oper.wp
  simp only [execOp]
  go_simp
  refine hK _ _ (S.set hi (by decide) ((Below.refl _ _).alloc (Nat.le_refl _) _) (fun j hj hdj => ?_) ⟨_, _, _, _, ev_eq _ (by omega), RowAt.new w 30 _, S.bel.size⟩)
  by_cases h14 : j = 14
  · subst h14
    exact absurd (S.deps 14 hdj ({ dst := none, op := Op.store 30 (Operand.tmp 15) (Operand.tmp 95), type := 0, pos := "law.go:134", after := #[{ on := 12, ground := Ground.data }, { on := 11, ground := Ground.data }, { on := 13, ground := Ground.chain }, { on := 0, ground := Ground.phase }, { on := 1, ground := Ground.phase }, { on := 2, ground := Ground.phase }, { on := 3, ground := Ground.phase }, { on := 4, ground := Ground.phase }, { on := 5, ground := Ground.phase }, { on := 6, ground := Ground.phase }, { on := 7, ground := Ground.phase }, { on := 8, ground := Ground.phase }, { on := 9, ground := Ground.phase }, { on := 10, ground := Ground.phase }, { on := 11, ground := Ground.phase }, { on := 12, ground := Ground.phase }, { on := 13, ground := Ground.phase }], guard := none }) rfl ⟨12, Ground.data⟩ (by simp) rfl) nd
  · intro e
    have := S.lt hdj
    have h2 : (List.range 15).all (fun j => j == 12 || j == 14 || !(15 == slot23 j)) = true := by decide
    have h3 := List.all_eq_true.1 h2 j (List.mem_range.2 this)
    rw [← e] at h3
    simp [hj, h14] at h3
set_option maxHeartbeats 1000000 in
theorem op23_13 (H : Hyp W0 n fc FS fb vals ka kn kc kv fs2 c0 c1 c2 a0) (S : St W0 n FS fb vals kv fs2 c0 c1 c2 a0 l a w) (hi : 13 ∈ Region.ready .any ops23 l) : wpOp Tryd.prog ops23 Q 13 (St W0 n FS fb vals kv fs2 c0 c1 c2 a0 (l.setIfInBounds 13 true)) a w := by
  obtain ⟨hz, e4, hFS, hKV, hn, hn2, hl, HC, h1, hkv, hf2, HK, HT⟩ := H
  obtain ⟨i0, hi0, hz0, hz1, hz2⟩ := info_parts infoRows
  obtain ⟨h0, o, ho, ha⟩ := mem_ready.1 hi
  have hsz : 96 ≤ a.tmps.size := by rw [S.rest.size]; exact hz
  have ev4 : a.eval (.tmp 4) = FS := (S.rest.eval (by decide)).trans e4
  have nd : ¬ Done l 13 := not_done h0
  have dep : ∀ (e : Edge), e ∈ o.after → Region.binds .any e = true → Done l e.on := fun e he hb => ha e he hb
  obtain rfl : { dst := some 14, op := Op.assign (Operand.tmp 94), type := 27, pos := "law.go:134", after := #[{ on := 10, ground := Ground.data }, { on := 8, ground := Ground.chain }, { on := 0, ground := Ground.phase }, { on := 1, ground := Ground.phase }, { on := 2, ground := Ground.phase }, { on := 3, ground := Ground.phase }, { on := 4, ground := Ground.phase }, { on := 5, ground := Ground.phase }, { on := 6, ground := Ground.phase }, { on := 7, ground := Ground.phase }, { on := 8, ground := Ground.phase }, { on := 9, ground := Ground.phase }, { on := 10, ground := Ground.phase }, { on := 11, ground := Ground.textOnly Departure.lateStores }, { on := 12, ground := Ground.phase }], guard := none } = o := Option.some.inj ho
  obtain ⟨V, hV⟩ : ∃ x, a.eval (.tmp 94) = x := ⟨_, rfl⟩
  refine wpOp_step (o := { dst := some 14, op := Op.assign (Operand.tmp 94), type := 27, pos := "law.go:134", after := #[{ on := 10, ground := Ground.data }, { on := 8, ground := Ground.chain }, { on := 0, ground := Ground.phase }, { on := 1, ground := Ground.phase }, { on := 2, ground := Ground.phase }, { on := 3, ground := Ground.phase }, { on := 4, ground := Ground.phase }, { on := 5, ground := Ground.phase }, { on := 6, ground := Ground.phase }, { on := 7, ground := Ground.phase }, { on := 8, ground := Ground.phase }, { on := 9, ground := Ground.phase }, { on := 10, ground := Ground.phase }, { on := 11, ground := Ground.textOnly Departure.lateStores }, { on := 12, ground := Ground.phase }], guard := none }) rfl fun K hK => ?_
  rw [if_pos (by simp [Region.wanted])]
  unfold Oper.wp
  simp only [execOp, hV]
  go_simp
  exact hK _ _ (S.set hi (by decide) (Below.refl _ _) (fun j hj hdj => slot_ne 13 14 (by decide) j (S.lt hdj) hj) trivial)
set_option maxHeartbeats 1000000 in
theorem op23_14 (H : Hyp W0 n fc FS fb vals ka kn kc kv fs2 c0 c1 c2 a0) (S : St W0 n FS fb vals kv fs2 c0 c1 c2 a0 l a w) (hi : 14 ∈ Region.ready .any ops23 l) : wpOp Tryd.prog ops23 Q 14 (St W0 n FS fb vals kv fs2 c0 c1 c2 a0 (l.setIfInBounds 14 true)) a w := by
  obtain ⟨hz, e4, hFS, hKV, hn, hn2, hl, HC, h1, hkv, hf2, HK, HT⟩ := H
  obtain ⟨i0, hi0, hz0, hz1, hz2⟩ := info_parts infoRows
  obtain ⟨h0, o, ho, ha⟩ := mem_ready.1 hi
  have hsz : 96 ≤ a.tmps.size := by rw [S.rest.size]; exact hz
  have ev4 : a.eval (.tmp 4) = FS := (S.rest.eval (by decide)).trans e4
  have nd : ¬ Done l 14 := not_done h0
  have dep : ∀ (e : Edge), e ∈ o.after → Region.binds .any e = true → Done l e.on := fun e he hb => ha e he hb
  obtain rfl : { dst := none, op := Op.store 30 (Operand.tmp 15) (Operand.tmp 95), type := 0, pos := "law.go:134", after := #[{ on := 12, ground := Ground.data }, { on := 11, ground := Ground.data }, { on := 13, ground := Ground.chain }, { on := 0, ground := Ground.phase }, { on := 1, ground := Ground.phase }, { on := 2, ground := Ground.phase }, { on := 3, ground := Ground.phase }, { on := 4, ground := Ground.phase }, { on := 5, ground := Ground.phase }, { on := 6, ground := Ground.phase }, { on := 7, ground := Ground.phase }, { on := 8, ground := Ground.phase }, { on := 9, ground := Ground.phase }, { on := 10, ground := Ground.phase }, { on := 11, ground := Ground.phase }, { on := 12, ground := Ground.phase }, { on := 13, ground := Ground.phase }], guard := none } = o := Option.some.inj ho
  have k12 : Done l 12 := dep ⟨12, Ground.data⟩ (by simp) rfl
  have k11 : Done l 11 := dep ⟨11, Ground.data⟩ (by simp) rfl
  have k2 : Done l 2 := dep ⟨2, Ground.phase⟩ (by simp) rfl
  have k7 : Done l 7 := dep ⟨7, Ground.phase⟩ (by simp) rfl
  have k8 : Done l 8 := dep ⟨8, Ground.phase⟩ (by simp) rfl
  obtain ⟨g, x, y, z, e15, r15, hg⟩ : ∃ g x y z, a.eval (.tmp 15) = .pointer (some ⟨g, 0, none⟩) ∧ RowAt w g 30 #[.int .i64 x, .int .i64 y, .int .i64 z] ∧ W0.heap.size ≤ g := S.fct 12 k12
  have e95 : a.eval (.tmp 95) = .agg #[.int .i64 c0, .int .i64 c1, .int .i64 c2] := S.fct 11 k11
  obtain ⟨z0, z1, z2⟩ := store3 r15
  obtain ⟨q1, q2, q3, q4⟩ := three_cells r15 (.int .i64 c0) (.int .i64 c1) (.int .i64 c2) rfl
  have hf0 := r15.frozen 0
  have hf1 := r15.frozen 1
  have hf2_ := r15.frozen 2
  refine wpOp_step (o := { dst := none, op := Op.store 30 (Operand.tmp 15) (Operand.tmp 95), type := 0, pos := "law.go:134", after := #[{ on := 12, ground := Ground.data }, { on := 11, ground := Ground.data }, { on := 13, ground := Ground.chain }, { on := 0, ground := Ground.phase }, { on := 1, ground := Ground.phase }, { on := 2, ground := Ground.phase }, { on := 3, ground := Ground.phase }, { on := 4, ground := Ground.phase }, { on := 5, ground := Ground.phase }, { on := 6, ground := Ground.phase }, { on := 7, ground := Ground.phase }, { on := 8, ground := Ground.phase }, { on := 9, ground := Ground.phase }, { on := 10, ground := Ground.phase }, { on := 11, ground := Ground.phase }, { on := 12, ground := Ground.phase }, { on := 13, ground := Ground.phase }], guard := none }) rfl fun K hK => ?_
  rw [if_pos (by simp [Region.wanted])]
  unfold Oper.wp
  simp only [execOp, e15, e95]
  go_simp
  refine hK _ _ (S.next hi S.rest (S.bel.trans (q4 W0.heap.size hg)) ⟨g, e15, q1, hg⟩ fun j hj hdj h => ?_)
  match j, S.lt hdj with
  | 0, _ => exact fun h2 => absurd k2.more h2
  | 2, _ => exact fun h2 => absurd k7.more h2
  | 6, _ => exact fun h2 => absurd k7.more h2
  | 7, _ => exact fun h2 => absurd k8.more h2
  | 12, _ => exact ⟨g, _, _, _, e15, q1, hg⟩
  | 14, _ => exact absurd rfl hj
  | 1, _ => exact h
  | 3, _ => exact h
  | 4, _ => exact h
  | 5, _ => exact h
  | 8, _ => exact h
  | 9, _ => exact h
  | 10, _ => exact h
  | 11, _ => exact h
  | 13, _ => exact h
theorem not_any {j : Nat} (h : Done (Array.replicate ops23.size false) j) : False := by
  unfold Done at h
  rw [Array.getD_eq_getD_getElem?, Array.getElem?_replicate] at h
  split at h <;> cases h
theorem region23 (H : Hyp W0 n fc FS fb vals ka kn kc kv fs2 c0 c1 c2 a0)
    (hQ : ∀ a' w', (∃ x85 x86 x87 x88 x89 x90 x91 x92 x93 x84 x94 x95 g x14, a' = ((((((((((((((a0.put (some 85) x85).put (some 86) x86).put (some 87) x87).put (some 88) x88).put (some 89) x89).put (some 90) x90).put (some 91) x91).put (some 92) x92).put (some 93) x93).put (some 84) x84).put (some 94) x94).put (some 95) x95).put (some 15) (.pointer (some ⟨g, 0, none⟩))).put (some 14) x14) ∧ RowAt w' g 30 #[.int .i64 c0, .int .i64 c1, .int .i64 c2] ∧ Below W0.heap.size W0 w') → Q .normal a' w') : (Code.region 23 ops23 true).wp Tryd.prog Q a0 W0 := by
  refine wp_region_any (by kernel_rfl) ?_
  refine wpAny_inv (St W0 n FS fb vals kv fs2 c0 c1 c2 a0) ?_ ?_ _ _ _ _ rfl (by decide) ⟨rfl, Rest.refl _ _, (Below.refl _ _).drew, fun j hj => (not_any hj).elim, fun j hj => (not_any hj).elim⟩
  · intro l a w i S hi
    obtain ⟨h0, o, ho, ha⟩ := mem_ready.1 hi
    have hil : i < 15 := (Array.getElem?_eq_some_iff.1 ho).1
    match i, hil with
    | 0, _ => exact op23_0 H S hi
    | 1, _ => exact op23_1 H S hi
    | 2, _ => exact op23_2 H S hi
    | 3, _ => exact op23_3 H S hi
    | 4, _ => exact op23_4 H S hi
    | 5, _ => exact op23_5 H S hi
    | 6, _ => exact op23_6 H S hi
    | 7, _ => exact op23_7 H S hi
    | 8, _ => exact op23_8 H S hi
    | 9, _ => exact op23_9 H S hi
    | 10, _ => exact op23_10 H S hi
    | 11, _ => exact op23_11 H S hi
    | 12, _ => exact op23_12 H S hi
    | 13, _ => exact op23_13 H S hi
    | 14, _ => exact op23_14 H S hi
  · intro l a w S hr
    have hall := all_done ord23 S.size hr
    obtain ⟨g, e15, r, -⟩ : ∃ g, a.eval (.tmp 15) = .pointer (some ⟨g, 0, none⟩) ∧ RowAt w g 30 #[.int .i64 c0, .int .i64 c1, .int .i64 c2] ∧ W0.heap.size ≤ g := S.fct 14 (hall 14 (by decide))
    have hc := S.rest.chain H.hz
    rw [e15] at hc
    exact hQ a w ⟨_, _, _, _, _, _, _, _, _, _, _, _, g, _, hc, r, S.bel⟩
end
end Go.Proofs.YtbnbmjdjkadgoaaDoor.D
/-
  For the laws of decls: the walk of DeclsFiles. Condition: the table of the powers of ten holds them.
-/
namespace Go.Proofs.YtbnbmjdjkadgoaaDoor.D
open Go.RowKit Go.Shelf Go.Maps Go.WideMaps
set_option linter.unusedSimpArgs false
set_option linter.unusedVariables false

def cod (R : List En × Option En) : Int := match R.2 with | none => 0 | some _ => 150
def fil (R : List En × Option En) : Int := match R.2 with | none => 0 | some x => x.file
def atR (R : List En × Option En) : Int := match R.2 with | none => 0 | some x => x.at_
def lst (R : List En × Option En) : List En := match R.2 with | none => R.1 | some _ => []
theorem TableIs.form {R : List En × Option En} {lo : Nat} {e : Ending} {w' : World} (h : TableIs R lo e w') : ∃ la lc, e = .returned (.tuple #[.slice la (lst R).length lc, .agg #[.int .i64 (cod R), .int .i64 (fil R), .int .i64 (atR R)]]) ∧ EnsAt w' (.slice la (lst R).length lc) (lst R) := by
  obtain ⟨E, y⟩ := R
  cases y with
  | none =>
    obtain ⟨v, ps, rfl, hown, hps⟩ := h
    have h1 := hown.at_
    rw [show ps.map (·.1) = E from hps] at h1
    obtain ⟨a, c, rfl⟩ := ens_slice h1
    exact ⟨a, c, rfl, h1⟩
  | some x =>
    obtain rfl := h
    exact ⟨none, 0, rfl, EnsAt.nil _⟩
theorem lst_z (E : List En) (y : Option En) : lst (E.map zE, y.map zE) = (lst (E, y)).map zE := by cases y <;> rfl
theorem cod_z (E : List En) (y : Option En) : cod (E.map zE, y.map zE) = cod (E, y) := by cases y <;> rfl
theorem FsOwn.parts {W : World} {base n : Nat} {u : Value} {fs : List (List Nd × Value)} (h : FsOwn W base u fs) (hn : fs.length = n) (h0 : 0 < n) : ∃ ub uc, u = .slice (some ⟨ub, 0, none⟩) n uc ∧ n ≤ uc ∧ uc ≤ maxLen ∧ (∀ U, Below W.heap.size W U → ∀ (j : Nat) (x : Value), (fs.map (·.2))[j]? = some x → U.cell? ⟨ub, j, none⟩ = some x) ∧
    (∀ (k : Nat) (l : List Nd), (fs.map (·.1))[k]? = some l → ∃ x, (fs.map (·.2))[k]? = some x ∧ KidsAt W l x) ∧ ∀ x ∈ fs.map (·.2), x.oneCell' = true := by
  have hk : ∀ p ∈ fs, KidsAt W p.1 p.2 := fun p hp => by
    obtain ⟨lo, F, h1, -⟩ := h.sup p hp
    exact h1.kids
  rcases h.row.2 with ⟨rfl, h1⟩ | ⟨g, cap, cur, rfl, _, hg, h1, h2, h3, h4⟩
  · omega
  · refine ⟨g, cap, by rw [hn], by omega, h2, fun U hU j x hj => ?_, fun k l hkl => ?_, fun x hx => ?_⟩
    · have hjl := (List.getElem?_eq_some_iff.1 hj).1
      rw [List.length_map] at hjl
      have hc : W.cell? ⟨g, j, none⟩ = some x := by
        rw [← h4, List.getElem?_take_of_lt (by omega)] at hj
        simp [World.cell?, hg]
        simpa using hj
      exact (hU.cell (p := ⟨g, j, none⟩) (World.block_lt_of_cell? W _ hc)).trans hc
    · rw [List.getElem?_map] at hkl
      cases hp : fs[k]? with
      | none => rw [hp] at hkl; cases hkl
      | some p =>
        rw [hp] at hkl
        obtain rfl := Option.some.inj hkl
        exact ⟨p.2, by rw [List.getElem?_map, hp]; rfl, hk p (List.mem_of_getElem? hp)⟩
    · obtain ⟨p, hp, rfl⟩ := List.mem_map.1 hx
      exact slice_one (hk p hp)
theorem total_take (fs : List (List Nd)) (i : Nat) : total (fs.take i) ≤ total fs := by
  have h := total_append (fs.take i) (fs.drop i)
  rw [List.take_append_drop] at h
  omega
theorem take_flat {ss : List B8} (h : okTexts ss = true) (i : Nat) : ((filesR ss).take i).flatten.length ≤ 10000 := by
  have h1 := cntL_len ((filesR ss).take i).flatten
  rw [cntL_flat] at h1
  have h2 := total_take (filesR ss) i
  have h3 := files_total h
  omega
theorem file_len {ss : List B8} (h : okTexts ss = true) {i : Nat} {l : List Nd} (hl : (filesR ss)[i]? = some l) : l.length ≤ 10000 := by
  have h1 := take_flat h (i + 1)
  rw [List.take_add_one, hl, List.flatten_append, List.length_append] at h1
  simp at h1
  omega
theorem RowP.below {W W' : World} {a : Option Addr} {ps : List Pr} (h : RowP W a ps) (hb : Below W.heap.size W W') : RowP W' a ps := fun k p hk => by
  obtain ⟨b, off, e, hc, hkk⟩ := h k p hk
  exact ⟨b, off, e, hc.later hb, hkk.below hb⟩
theorem flat_P {ss : List B8} (h : okTexts ss = true) : ∀ l ∈ [(filesR ss).flatten], ∀ t ∈ l, Pn t := fun l hl t ht => by
  obtain rfl := List.mem_singleton.1 hl
  obtain ⟨f, hf, ht⟩ := List.mem_flatten.1 ht
  exact files_P h f hf t ht
theorem flat_total {ss : List B8} (h : okTexts ss = true) : total [(filesR ss).flatten] ≤ 10000 := by
  rw [total_cons, cntL_flat]
  have := files_total h
  have h2 : total [] = 0 := rfl
  omega
theorem more_P {ss : List B8} (h : okTexts ss = true) {f : List Nd} (hf : f ∈ filesR ss) : ∀ l ∈ filesR ss ++ [f], ∀ t ∈ l, Pn t := fun l hl t ht => by
  rcases List.mem_append.1 hl with hl | hl
  · exact files_P h l hl t ht
  · obtain rfl := List.mem_singleton.1 hl
    exact files_P h _ hf t ht
theorem more_total {ss : List B8} (h : okTexts ss = true) {f : List Nd} (hf : (filesR ss)[0]? = some f) : total (filesR ss ++ [f]) ≤ 20000 := by
  rw [total_append]
  have h1 := files_total h
  have h2 : total [f] ≤ total (filesR ss) := by
    have h3 := total_take (filesR ss) 1
    have h4 : (filesR ss).take 1 = [f] := by rw [show (1 : Nat) = 0 + 1 from rfl, List.take_add_one, hf]; rfl
    rw [h4] at h3
    exact h3
  omega
theorem cod_isSome (R : List En × Option En) : (cod R == 150) = R.2.isSome := by
  unfold cod
  cases R.2 <;> rfl
set_option maxRecDepth 100000 in
set_option maxHeartbeats 64000000 in
theorem Files_law (v : Value) (ss : List B8) (w : World) (h : StrsAt w v ss) (hp : Pow w) : Calls Tryd.prog 5 #[v] w fun e w' => e = .returned (.bool true) ∧ Below w.heap.size w w' := by
  have HSS := Lib.hid h
  obtain ⟨sa, sc, rfl, hsl, hsc, hsx⟩ := h
  obtain ⟨n, hn⟩ : ∃ n, Hid (ss.length = n) := ⟨_, Lib.hid rfl⟩
  rw [hn.out] at HSS hsl ⊢
  unfold maxLen at hsc
  have HPow := Lib.hid hp
  clear hsx hp
  go_enter Tryd.func5, Tryd.ntmps5
  go_wp2_with fail
  refine (awake_any w HPow.out).mono ?_
  rintro e w1 ⟨rfl, b1⟩
  have B1 := Lib.hid b1
  have S1 := Lib.hid (HSS.out.below b1)
  clear b1
  go_wp2_with fail
  refine (parsed_any _ ss w1 S1.out).mono ?_
  rintro e w2 ⟨hpr, b2⟩
  have B2 := Lib.hid (B1.out.trans (b2.mono B1.out.size))
  unfold ParsedIs at hpr
  by_cases hok : okTexts ss = true
  · rw [if_pos hok] at hpr
    obtain ⟨u, fs, rfl, hown, hfs⟩ := hpr
    have hfl : fs.length = n := by
      have h1 := congrArg List.length hfs
      rw [List.length_map] at h1
      unfold filesR at h1
      rw [List.length_map, hn.out] at h1
      exact h1
    by_cases h0 : n = 0
    · have g0 : ((n : Int) == 0) = true := by rw [h0]; rfl
      obtain ⟨ua, uc, rfl⟩ := own_slice' hown.row
      clear hown hfs hok
      go_wp2_with fail
      go_ret
      exact ⟨rfl, B2.out⟩
    · have g0 : ((n : Int) == 0) = false := by rw [beq_eq_false_iff_ne]; omega
      have hn6 : n ≤ 6 := by
        have h9 := hok
        unfold okTexts at h9
        rw [Bool.and_eq_true] at h9
        have h8 := of_decide_eq_true h9.1
        rw [hn.out] at h8
        exact h8
      have HF0 := hown.files
      obtain ⟨ub, uc, rfl, hnc, hucm, hC, hK, hV1⟩ := hown.parts hfl (by omega)
      rw [hfs] at HF0 hK
      have HF := Lib.hid HF0
      have HC := Lib.hid hC
      have HK := Lib.hid hK
      have HV1 := Lib.hid hV1
      have HOK := Lib.hid hok
      have HVL : Hid ((fs.map (·.2)).length = n) := Lib.hid (by rw [List.length_map, hfl])
      obtain ⟨vals, hvals⟩ : ∃ x, fs.map (·.2) = x := ⟨_, rfl⟩
      rw [hvals] at HC HK HV1 HVL
      have HRL : Hid ((filesR ss).length = n) := Lib.hid (by unfold filesR; rw [List.length_map, hn.out])
      unfold maxLen at hucm
      have O1 : Hid (OwnP w2 w2.heap.size w2 (.slice none 0 0) []) := Lib.hid (OwnP.nil (Below.refl _ _) (Nat.le_refl _) (Nat.le_refl _))
      clear hown hfs hok HF0 hC hK hV1 b2 hvals hfl fs
      go_wp2_with fail
      go_loopw [6, 7] (fun z c wr => ∃ (i : Nat) (ps : List Pr), c = .int .i64 i ∧ i ≤ n ∧ Hid (ps.map (·.1) = ((filesR ss).take i).flatten) ∧ Hid (OwnP w2 w2.heap.size wr z ps)) (fun _ c _ => n - (intOf c).toNat)
      case atStart => exact ⟨0, [], rfl, by omega, Lib.hid (by simp), O1⟩
      case round =>
        clear O1
        obtain ⟨i, ps, rfl, hi, hps, hO⟩ := hrel
        have BW := Lib.hid hO.out.2.1
        by_cases hlt : i < n
        · obtain ⟨l, hl⟩ : ∃ l, (filesR ss)[i]? = some l := ⟨_, List.getElem?_eq_getElem (by rw [HRL.out]; exact hlt)⟩
          obtain ⟨x, hx, hkx⟩ := HK.out i l hl
          obtain ⟨ad, cap, qs, rfl, hq, hqc, hcm, hrp, hqk⟩ := KidsAt.rows hkx
          obtain ⟨qn, hqn⟩ : ∃ y, Hid (qs.length = y) := ⟨_, Lib.hid rfl⟩
          have c0 := HC.out wr BW.out i _ hx
          rw [hqn.out] at c0
          have HRP := Lib.hid (RowP.below hrp BW.out)
          have HQK := Lib.hid hqk
          have hpl : ps.length ≤ 10000 := by
            have h1 := congrArg List.length hps.out
            rw [List.length_map] at h1
            have h2 := take_flat HOK.out i
            omega
          have hql : qn ≤ 10000 := by
            have h1 := file_len HOK.out hl
            rw [← hq, List.length_map, hqn.out] at h1
            exact h1
          have hqq : Hid (ps.length + qs.length ≤ 5000000) := Lib.hid (by rw [hqn.out]; omega)
          have HPS : Hid ((ps ++ qs).map (·.1) = ((filesR ss).take (i + 1)).flatten) := Lib.hid (by rw [List.map_append, hps.out, hq, List.take_add_one, hl]; simp)
          have hxa : Hid (Value.slice ad qn cap = .slice ad qs.length cap) := Lib.hid (by rw [hqn.out])
          have i1 : (0 : Int) ≤ (i : Int) := by omega
          have i2 : (i : Int) < (n : Int) := by omega
          clear hx hkx hq hrp hqk hqc hcm hl
          go_wp2_with (at_builtin; refine wpList_append_nds (w0 := w2) rfl _ _ rfl _ ps qs ad cap rfl hO.out hxa.out HRP.out HQK.out hqq.out ?_; intro v5 w5 hown5 hb5)
          go_roundw
          case rel => exact ⟨i + 1, ps ++ qs, by go_num, by omega, HPS, Lib.hid hown5⟩
          case measure => simp [intOf]; omega
        · obtain rfl : n = i := by omega
          have hfin : Hid (ps.map (·.1) = (filesR ss).flatten) := Lib.hid (by rw [hps.out, List.take_of_length_le (Nat.le_of_eq HRL.out)])
          obtain ⟨aa, ac, rfl, hal, ham, hrp⟩ := hO.out.row
          have HA := Lib.hid (KidsAt.of_rows hal ham hrp)
          rw [hfin.out] at HA
          have BR := Lib.hid (B2.out.trans (BW.out.mono B2.out.size))
          have CT := Lib.hid (Table_any (filesR ss) _ wr (HF.out.below BW.out) Pn Pn.ok (files_P HOK.out) (Nat.le_trans (files_total HOK.out) (by omega)) (pow_below HPow.out BR.out))
          obtain ⟨R, hR⟩ : ∃ R, Hid (table (filesR ss) = R) := ⟨_, Lib.hid rfl⟩
          rw [hR.out] at CT
          obtain ⟨pn, hpn⟩ : ∃ y, Hid (ps.length = y) := ⟨_, Lib.hid rfl⟩
          rw [hpn.out] at HA ⊢
          clear hal ham hrp hO hps
          go_wp2_with fail
          refine CT.out.mono ?_
          rintro e w3 ⟨ht, b3⟩
          obtain ⟨la, lc, rfl, hE⟩ := ht.form
          have BW3 := Lib.hid (BW.out.trans (b3.mono BW.out.size))
          have HA3 := Lib.hid (HA.out.below b3)
          have hlz : Hid ((lst R).length ≤ 10000) := Lib.hid (by
            rw [← hR.out]
            unfold lst
            cases hy : (table (filesR ss)).2 with
            | none => exact tab_len HOK.out
            | some x => exact Nat.zero_le _)
          have hcod : Hid (cod (table [(filesR ss).flatten]) = cod R ∧ lst (table [(filesR ss).flatten]) = (lst R).map zE) := Lib.hid (by
            rw [table_flat, hR.out]
            exact ⟨cod_z _ _, lst_z _ _⟩)
          obtain ⟨E, hEE⟩ : ∃ x, Hid (lst R = x) := ⟨_, Lib.hid rfl⟩
          obtain ⟨c, hc⟩ : ∃ x, Hid (cod R = x) := ⟨_, Lib.hid rfl⟩
          obtain ⟨f3, hf3⟩ : ∃ x, Hid (fil R = x) := ⟨_, Lib.hid rfl⟩
          obtain ⟨t3, ht3⟩ : ∃ x, Hid (atR R = x) := ⟨_, Lib.hid rfl⟩
          rw [hEE.out] at hE hlz hcod
          rw [hc.out] at hcod
          rw [hEE.out, hc.out, hf3.out, ht3.out]
          have HE := Lib.hid hE
          obtain ⟨ln, hln⟩ : ∃ x, Hid (E.length = x) := ⟨_, Lib.hid rfl⟩
          have hlnm : ln ≤ 10000 := by have h9 := hlz.out; rw [hln.out] at h9; exact h9
          rw [hln.out] at HE ⊢
          clear CT ht b3 hE HA hlz
          go_upto_region 13 with fail
          refine YtbnbmjdjkadgoaaDoor.X.wp_gen (fun V => RowAt V w3.heap.size 30 #[.int .i64 c, .int .i64 f3, .int .i64 t3] ∧ Below w3.heap.size w3 V) ⟨RowAt.new w3 30 _, (Below.refl _ _).alloc (Nat.le_refl _) _⟩ ?_
          rintro V ⟨rv, bv_⟩
          have RV := Lib.hid rv
          have EV := Lib.hid (HE.out.below bv_)
          have BWV := Lib.hid (BW3.out.trans (bv_.mono BW3.out.size))
          have AV := Lib.hid (HA3.out.below bv_)
          obtain ⟨mg, hmg⟩ : ∃ x, Hid (w3.heap.size = x) := ⟨_, Lib.hid rfl⟩
          rw [hmg.out] at RV ⊢
          clear rv bv_ HE HA3
          have CK : Hid (Calls Tryd.prog 8 #[.slice (some ⟨V.heap.size, 0, none⟩) 1 1] (V.alloc (.cells #[.slice aa pn ac] 42)) fun e w' => TableIs (table [(filesR ss).flatten]) (V.alloc (.cells #[.slice aa pn ac] 42)).heap.size e w' ∧ Below (V.alloc (.cells #[.slice aa pn ac] 42)).heap.size (V.alloc (.cells #[.slice aa pn ac] 42)) w') := Lib.hid (Table_any [(filesR ss).flatten] _ _ (files_one (RowAt.new V 42 _) (AV.out.below ((Below.refl _ _).alloc (Nat.le_refl _) _))) Pn Pn.ok (flat_P HOK.out) (Nat.le_trans (flat_total HOK.out) (by omega)) (pow_below HPow.out ((B2.out.trans (BWV.out.mono B2.out.size)).alloc (Nat.le_trans B2.out.size BWV.out.size) _)))
          have bA : Hid (Below V.heap.size V (V.alloc (.cells #[.slice aa pn ac] 42))) := Lib.hid ((Below.refl _ _).alloc (Nat.le_refl _) _)
          go_wp2_with fail
          refine CK.out.mono ?_
          rintro e w4 ⟨ht4, b4⟩
          have b4' := bA.out.trans (b4.mono bA.out.size)
          obtain ⟨ka, kc, rfl, hK4⟩ := ht4.form
          rw [hcod.out.2] at hK4
          rw [hcod.out.1, hcod.out.2]
          have R4 := Lib.hid (RV.out.later b4')
          have E4 := Lib.hid (EV.out.below b4')
          have BW4 := Lib.hid (BWV.out.trans (b4'.mono BWV.out.size))
          have hkl : (E.map zE).length = ln := by rw [List.length_map, hln.out]
          rw [hkl] at hK4 ⊢
          have K4 := Lib.hid hK4
          clear ht4 b4 b4' CK bA hK4 hkl EV RV AV
          obtain ⟨f4, hf4⟩ : ∃ x, Hid (fil (table [(filesR ss).flatten]) = x) := ⟨_, Lib.hid rfl⟩
          obtain ⟨t4, ht4⟩ : ∃ x, Hid (atR (table [(filesR ss).flatten]) = x) := ⟨_, Lib.hid rfl⟩
          rw [hf4.out, ht4.out]
          go_upto_region 14 with fail
          refine YtbnbmjdjkadgoaaDoor.X.wp_gen (fun V => RowAt V w4.heap.size 30 #[.int .i64 c, .int .i64 f4, .int .i64 t4] ∧ Below w4.heap.size w4 V) ⟨RowAt.new w4 30 _, (Below.refl _ _).alloc (Nat.le_refl _) _⟩ ?_
          rintro U ⟨ru, bu_⟩
          have m0 : U.cell? ⟨mg, 0, none⟩ = some (.int .i64 c) := (R4.out.later bu_).cell rfl
          have m1 : U.cell? ⟨w4.heap.size, 0, none⟩ = some (.int .i64 c) := ru.cell rfl
          have RU := Lib.hid (R4.out.later bu_)
          have EU := Lib.hid (E4.out.below bu_)
          have KU := Lib.hid (K4.out.below bu_)
          have BWU := Lib.hid (BW4.out.trans (bu_.mono BW4.out.size))
          have g1 : (c != c) = false := bne_self_eq_false c
          have g2 : ((ln : Int) != (ln : Int)) = false := bne_self_eq_false _
          clear ru bu_
          go_wp2_with fail
          go_loopw [12] (fun c wr => ∃ k : Nat, c = .int .i64 k ∧ k ≤ ln ∧ Hid (Below U.heap.size U wr)) (fun c _ => ln - (intOf c).toNat)
          case atStart => exact ⟨0, rfl, by omega, Lib.hid (Below.refl _ _)⟩
          case round =>
            clear m0 m1
            obtain ⟨k, rfl, hk, hB⟩ := hrel
            have ER := Lib.hid (EU.out.below hB.out)
            have KR := Lib.hid (KU.out.below hB.out)
            have RR := Lib.hid (RU.out.later hB.out)
            have BR2 := Lib.hid (BWU.out.trans (hB.out.mono BWU.out.size))
            by_cases hlt2 : k < ln
            · obtain ⟨y, hy⟩ : ∃ x, E[k]? = some x := ⟨_, List.getElem?_eq_getElem (by rw [hln.out]; exact hlt2)⟩
              have hyz : (E.map zE)[k]? = some (zE y) := by rw [List.getElem?_map, hy]; rfl
              obtain ⟨la', lc', hv', _, hvcm, hvx⟩ := ER.out
              obtain ⟨b, off, pv, hva, cs, hst⟩ := hvx k y hy
              obtain ⟨rfl, -, rfl⟩ : la = la' ∧ ln = E.length ∧ lc = lc' := by injection hv' with h1 h2 h3; exact ⟨h1, h2, h3⟩
              subst hva
              obtain ⟨ka', kc', hv'', _, hvcm2, hvx2⟩ := KR.out
              obtain ⟨kb, koff, kpv, hka, kcs, kst⟩ := hvx2 k (zE y) hyz
              obtain ⟨rfl, -, rfl⟩ : ka = ka' ∧ ln = (E.map zE).length ∧ kc = kc' := by injection hv'' with h1 h2 h3; exact ⟨h1, h2, h3⟩
              subst hka
              obtain ⟨pa, pc, rfl⟩ := strs_slice hst
              obtain ⟨qa, qc, rfl⟩ := strs_slice kst
              have HST := Lib.hid hst
              have KST := Lib.hid kst
              obtain ⟨yn, hyn⟩ : ∃ x, Hid (y.params.length = x) := ⟨_, Lib.hid rfl⟩
              have hyn2 : (zE y).params.length = yn := hyn.out
              rw [hyn.out] at cs HST
              rw [hyn2] at kcs KST
              obtain ⟨d0, d1, d2, d3, d4, d5, d6, d7, d8⟩ := cs
              have KCS := Lib.hid kcs
              have i1 : (0 : Int) ≤ (k : Int) := by omega
              have i2 : (k : Int) < (ln : Int) := by omega
              obtain ⟨q9, hq9⟩ : ∃ x, Hid (wr.heap.size = x) := ⟨_, Lib.hid rfl⟩
              clear hv' hvx hst hy hyz hv'' hvx2 kst kcs hyn2
              go_upto_region 20 with fail
              refine YtbnbmjdjkadgoaaDoor.X.wp_gen (fun X => RowAt X q9 34 #[.int .i64 y.kind, .string (bs y.id), .string (bs y.name), .string (bs y.owner), .string (bs y.type), .bool y.stat, .slice pa yn pc, .int .i64 y.file, .int .i64 y.at_] ∧ Below wr.heap.size wr X) ⟨YtbnbmjdjkadgoaaDoor.X.row_new hq9.out.symm, (Below.refl _ _).alloc (Nat.le_refl _) _⟩ ?_
              rw [hq9.out]
              rintro Y ⟨r9, by_⟩
              have z7 : Y.cell? ⟨q9, 7, none⟩ = some (.int .i64 y.file) := r9.cell rfl
              have fz7 := r9.frozen 7
              have hset : Hid (RowAt (Y.setCell ⟨q9, 7, none⟩ (.int .i64 0)) q9 34 #[.int .i64 y.kind, .string (bs y.id), .string (bs y.name), .string (bs y.owner), .string (bs y.type), .bool y.stat, .slice pa yn pc, .int .i64 0, .int .i64 y.at_] ∧ Below wr.heap.size wr (Y.setCell ⟨q9, 7, none⟩ (.int .i64 0))) := Lib.hid ⟨r9.set 7 _, by rw [hq9.out]; exact by_.setCell (p := ⟨q9, 7, none⟩) (Nat.le_refl _) _⟩
              clear d0 d1 d2 d3 d4 d5 d6 d7 d8 r9 by_
              go_upto_region 21 with fail
              refine YtbnbmjdjkadgoaaDoor.X.wp_gen (fun X => RowAt X q9 34 #[.int .i64 y.kind, .string (bs y.id), .string (bs y.name), .string (bs y.owner), .string (bs y.type), .bool y.stat, .slice pa yn pc, .int .i64 0, .int .i64 y.at_] ∧ Below wr.heap.size wr X) hset.out ?_
              rintro Z ⟨rz, bz⟩
              have RZ := Lib.hid rz
              have KZ := Lib.hid (KCS.out.later bz)
              have HSZ := Lib.hid (HST.out.below bz)
              have KSZ := Lib.hid (KST.out.below bz)
              have BZ := Lib.hid (BR2.out.trans (bz.mono BR2.out.size))
              have BUZ := Lib.hid (hB.out.trans (bz.mono hB.out.size))
              clear z7 fz7 hset rz bz
              have C1 : Hid (∀ U, Below Z.heap.size Z U → Calls Tryd.prog 13 #[.agg #[.int .i64 y.kind, .string (bs y.id), .string (bs y.name), .string (bs y.owner), .string (bs y.type), .bool y.stat, .slice pa yn pc, .int .i64 0, .int .i64 y.at_], .agg #[.int .i64 y.kind, .string (bs y.id), .string (bs y.name), .string (bs y.owner), .string (bs y.type), .bool y.stat, .slice qa yn qc, .int .i64 0, .int .i64 y.at_]] U fun e w' => e = .returned (.bool true) ∧ Below U.heap.size U w') := Lib.hid (fun U hU => (One_any U (zE y) (zE y) (.slice pa yn pc) (.slice qa yn qc) (HSZ.out.below hU) (KSZ.out.below hU)).mono fun e w' hh => ⟨by
                have h9 := hh.1.bool
                rw [decide_eq_true rfl] at h9
                exact h9, hh.2⟩)
              have S18 : Hid (∀ W, Below Z.heap.size Z W → (W.cell? ⟨q9, 0, none⟩ = some (.int .i64 y.kind) ∧ W.cell? ⟨q9, 1, none⟩ = some (.string (bs y.id)) ∧ W.cell? ⟨q9, 2, none⟩ = some (.string (bs y.name)) ∧ W.cell? ⟨q9, 3, none⟩ = some (.string (bs y.owner)) ∧ W.cell? ⟨q9, 4, none⟩ = some (.string (bs y.type)) ∧ W.cell? ⟨q9, 5, none⟩ = some (.bool y.stat) ∧ W.cell? ⟨q9, 6, none⟩ = some (.slice pa yn pc) ∧ W.cell? ⟨q9, 7, none⟩ = some (.int .i64 0) ∧ W.cell? ⟨q9, 8, none⟩ = some (.int .i64 y.at_) ∧ W.cell? ⟨kb, koff + k * 9, none⟩ = some (.int .i64 y.kind) ∧ W.cell? ⟨kb, koff + k * 9 + 1, none⟩ = some (.string (bs y.id)) ∧ W.cell? ⟨kb, koff + k * 9 + 2, none⟩ = some (.string (bs y.name)) ∧ W.cell? ⟨kb, koff + k * 9 + 3, none⟩ = some (.string (bs y.owner)) ∧ W.cell? ⟨kb, koff + k * 9 + 4, none⟩ = some (.string (bs y.type)) ∧ W.cell? ⟨kb, koff + k * 9 + 5, none⟩ = some (.bool y.stat) ∧ W.cell? ⟨kb, koff + k * 9 + 6, none⟩ = some (.slice qa yn qc) ∧ W.cell? ⟨kb, koff + k * 9 + 7, none⟩ = some (.int .i64 0) ∧ W.cell? ⟨kb, koff + k * 9 + 8, none⟩ = some (.int .i64 y.at_))) := Lib.hid (fun W hW => by
                have r := RZ.out.later hW
                have q := KZ.out.later hW
                exact ⟨r.cell rfl, r.cell rfl, r.cell rfl, r.cell rfl, r.cell rfl, r.cell rfl, r.cell rfl, r.cell rfl, r.cell rfl, q.c0, q.c1, q.c2, q.c3, q.c4, q.c5, q.c6, q.c7, q.c8⟩)
              have bD : Hid (Below Z.heap.size Z Z.drew) := Lib.hid (below_drew (Below.refl _ _))
              have F0 := Lib.hid (S18.out Z (Below.refl _ _))
              have FD := Lib.hid (S18.out Z.drew bD.out)
              go_region_held3 (fun W => W.cell? ⟨q9, 0, none⟩ = some (.int .i64 y.kind) ∧ W.cell? ⟨q9, 1, none⟩ = some (.string (bs y.id)) ∧ W.cell? ⟨q9, 2, none⟩ = some (.string (bs y.name)) ∧ W.cell? ⟨q9, 3, none⟩ = some (.string (bs y.owner)) ∧ W.cell? ⟨q9, 4, none⟩ = some (.string (bs y.type)) ∧ W.cell? ⟨q9, 5, none⟩ = some (.bool y.stat) ∧ W.cell? ⟨q9, 6, none⟩ = some (.slice pa yn pc) ∧ W.cell? ⟨q9, 7, none⟩ = some (.int .i64 0) ∧ W.cell? ⟨q9, 8, none⟩ = some (.int .i64 y.at_) ∧ W.cell? ⟨kb, koff + k * 9, none⟩ = some (.int .i64 y.kind) ∧ W.cell? ⟨kb, koff + k * 9 + 1, none⟩ = some (.string (bs y.id)) ∧ W.cell? ⟨kb, koff + k * 9 + 2, none⟩ = some (.string (bs y.name)) ∧ W.cell? ⟨kb, koff + k * 9 + 3, none⟩ = some (.string (bs y.owner)) ∧ W.cell? ⟨kb, koff + k * 9 + 4, none⟩ = some (.string (bs y.type)) ∧ W.cell? ⟨kb, koff + k * 9 + 5, none⟩ = some (.bool y.stat) ∧ W.cell? ⟨kb, koff + k * 9 + 6, none⟩ = some (.slice qa yn qc) ∧ W.cell? ⟨kb, koff + k * 9 + 7, none⟩ = some (.int .i64 0) ∧ W.cell? ⟨kb, koff + k * 9 + 8, none⟩ = some (.int .i64 y.at_))
                (first | (with_reducible exact F0.out) | (with_reducible exact FD.out) | (with_reducible exact F5.out))
                (first | (go_at_call 13; ((with_reducible refine (C1.out Z.drew bD.out).mono ?_); rintro e wf ⟨rfl, bf⟩; have B5 := Lib.hid (bD.out.trans (bf.mono bD.out.size)); have F5 := Lib.hid (S18.out wf B5.out))))
              have BU5 := Lib.hid (BUZ.out.trans (B5.out.mono BUZ.out.size))
              go_wp2_with fail
              go_roundw
              case rel => exact ⟨k + 1, by go_num, by omega, BU5⟩
              case measure => simp [intOf]; omega
            · obtain rfl : k = ln := by omega
              obtain ⟨f0, hf0⟩ : ∃ l, (filesR ss)[0]? = some l := ⟨_, List.getElem?_eq_getElem (by rw [HRL.out]; omega)⟩
              obtain ⟨x0, hx0, hkx⟩ := HK.out 0 f0 hf0
              obtain ⟨za, zc, rfl, -⟩ := hkx.get
              have HX0 := Lib.hid hx0
              have HKX := Lib.hid hkx
              have HF0 := Lib.hid hf0
              have hfm : Hid (f0 ∈ filesR ss) := Lib.hid (List.mem_of_getElem? hf0)
              obtain ⟨fl, hfl⟩ : ∃ y, Hid (f0.length = y) := ⟨_, Lib.hid rfl⟩
              obtain ⟨R2, hR2⟩ : ∃ y, Hid (table (filesR ss ++ [f0]) = y) := ⟨_, Lib.hid rfl⟩
              obtain ⟨tc, htc⟩ : ∃ y, Hid (cod R2 = y) := ⟨_, Lib.hid rfl⟩
              have HTW : Hid (c = 150 ∨ (c = 0 ∧ (tc == 150) = decide (0 < fl))) := Lib.hid (by
                rw [← hc.out, ← htc.out, cod_isSome]
                cases hy : R.2 with
                | some x => left; unfold cod; rw [hy]
                | none =>
                  right
                  refine ⟨by unfold cod; rw [hy], ?_⟩
                  rw [← hR2.out, ← hfl.out]
                  obtain ⟨rest, hrest⟩ : ∃ rest, filesR ss = f0 :: rest := by
                    cases hq : filesR ss with
                    | nil => rw [hq] at hf0; cases hf0
                    | cons a r => rw [hq] at hf0; obtain rfl := Option.some.inj hf0; exact ⟨r, rfl⟩
                  have h9 := hR.out
                  rw [hrest] at h9 ⊢
                  refine table_twice f0 rest (fun t ht => ?_) (by rw [h9]; exact hy)
                  obtain ⟨sx, -, hsx⟩ := List.mem_map.1 hfm.out
                  rw [← hsx] at ht
                  exact file_class sx t ht)
              have HY : Hid (∀ a0 : Act, 96 ≤ a0.tmps.size → a0.eval (.tmp 4) = .slice (some ⟨ub, 0, none⟩) n uc → Hyp wr n uc (.slice (some ⟨ub, 0, none⟩) n uc) ub vals za fl zc (.slice za fl zc) (filesR ss ++ [f0]) tc (fil R2) (atR R2) a0) := Lib.hid (fun a0 hz he => by
                have hKX : KidsAt w2 f0 (.slice za fl zc) := by rw [← hfl.out]; exact HKX.out
                have hX0 : vals[0]? = some (.slice za fl zc) := by rw [← hfl.out]; exact HX0.out
                refine ⟨hz, he, rfl, rfl, by omega, by omega, HVL.out, fun U hU j x hj => HC.out U (BR2.out.trans (hU.mono BR2.out.size)) j x hj, HV1.out, hX0, by rw [List.length_append, HRL.out]; rfl, fun k l hkl => ?_, fun v U hF hU => ?_⟩
                · by_cases hk9 : k < n
                  · rw [List.getElem?_append_left (by rw [HRL.out]; exact hk9)] at hkl
                    obtain ⟨x, hx, hkx⟩ := HK.out k l hkl
                    exact ⟨x, by rw [List.getElem?_append_left (by rw [HVL.out]; exact hk9)]; exact hx, hkx.below BR2.out⟩
                  · rw [List.getElem?_append_right (by rw [HRL.out]; omega), HRL.out] at hkl
                    have h8 : k - n = 0 := by have := (List.getElem?_eq_some_iff.1 hkl).1; simpa using this
                    rw [h8] at hkl
                    obtain rfl : f0 = l := by simpa using hkl
                    exact ⟨_, by rw [List.getElem?_append_right (by rw [HVL.out]; omega), HVL.out, h8]; rfl, hKX.below BR2.out⟩
                · refine (Table_any (filesR ss ++ [f0]) v U hF Pn Pn.ok (more_P HOK.out hfm.out) (Nat.le_trans (more_total HOK.out HF0.out) (by omega)) (pow_below HPow.out ((B2.out.trans (BR2.out.mono B2.out.size)).trans (hU.mono (Nat.le_trans B2.out.size BR2.out.size))))).mono ?_
                  rintro e w' ⟨ht, hb⟩
                  obtain ⟨la, lc, rfl, -⟩ := ht.form
                  rw [hR2.out, htc.out]
                  exact ⟨⟨_, rfl⟩, hb⟩)
              clear hf0 hx0 hkx
              go_upto_region 23 with fail
              refine region23 (HY.out _ (show 96 ≤ 110 by decide) rfl) ?_
              rintro a' w9 ⟨x85, x86, x87, x88, x89, x90, x91, x92, x93, x84, x94, x95, g, x14, rfl, r9, b9⟩
              have m0 : w9.cell? ⟨mg, 0, none⟩ = some (.int .i64 c) := (RR.out.later b9).cell rfl
              have t0 : w9.cell? ⟨g, 0, none⟩ = some (.int .i64 tc) := r9.cell rfl
              have u0 : w9.cell? ⟨ub, 0, none⟩ = some (.slice za fl zc) := by rw [← hfl.out]; exact HC.out w9 (BR2.out.trans (b9.mono BR2.out.size)) 0 _ HX0.out
              have B9 := Lib.hid (B2.out.trans ((BR2.out.trans (b9.mono BR2.out.size)).mono B2.out.size))
              have z1 : (0 : Int) < (n : Int) := by omega
              clear r9 b9 HY
              rcases HTW.out with h150 | ⟨hc0, htw⟩
              · have g3 : (c != 0) = true := by rw [h150]; rfl
                clear h150 HTW
                go_upto_region 24 with fail
                clear hlt hlt2 hsl hsc hucm hnc hn6 h0 g0 g1 g2 hk hlnm
                simp only [Act.put, List.setIfInBounds_toArray, List.set_cons_succ, List.set_cons_zero]
                go_quiet (fail)
                go_wp2_with fail
                go_ret
                exact ⟨rfl, below_draws B9.out _⟩
              · have g3 : (c != 0) = false := by rw [hc0]; rfl
                obtain ⟨bb, hbb⟩ : ∃ b, decide (0 < fl) = b := ⟨_, rfl⟩
                have g4 : (tc == 150) = bb := htw.trans hbb
                have g5 : decide ((fl : Int) > 0) = bb := by rw [← hbb]; exact decide_eq_decide.2 (by omega)
                have g6 : (bb == bb) = true := by cases bb <;> rfl
                clear hc0 htw HTW
                go_upto_region 24 with fail
                clear hlt hlt2 hsl hsc hucm hnc hn6 h0 g0 g1 g2 hk hlnm
                simp only [Act.put, List.setIfInBounds_toArray, List.set_cons_succ, List.set_cons_zero]
                go_quiet (fail)
                go_wp2_with fail
                go_ret
                exact ⟨rfl, below_draws B9.out _⟩
  · rw [if_neg hok] at hpr
    obtain rfl := hpr
    clear hok b2
    go_wp2_with fail
    go_ret
    exact ⟨rfl, B2.out⟩
end Go.Proofs.YtbnbmjdjkadgoaaDoor.D
