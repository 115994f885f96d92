/-
  For the laws of node: rows of nodes; the reference's All and Count. Condition: at most 2,000,000 nodes.
-/
import Derived.Test.YtbnbmjdjkadgoaaDoorRd
import Derived.Lib.SliceRun
namespace Go.Proofs.YtbnbmjdjkadgoaaDoor
open Go.RowKit Go.Shelf
set_option maxRecDepth 100000
set_option linter.unusedSimpArgs false
set_option linter.unusedVariables false

abbrev Pr := Nd × Value
def rowP (p : Pr) : List Value := (p.1.hd.vals p.2).toList
def fv (L : List Pr) : List Value := L.flatMap rowP
theorem rowP_len (p : Pr) : (rowP p).length = 9 := rfl
theorem fv_len (L : List Pr) : (fv L).length = L.length * 9 := by
  unfold fv
  induction L with
  | nil => rfl
  | cons x L ih => rw [List.flatMap_cons, List.length_append, ih, List.length_cons, rowP_len]; omega
theorem fv_append (A B : List Pr) : fv (A ++ B) = fv A ++ fv B := by unfold fv; rw [List.flatMap_append]
theorem fv_one (p : Pr) : fv [p] = rowP p := by simp [fv]
theorem fv_get {L : List Pr} {k : Nat} {x : Pr} (h : L[k]? = some x) (j : Nat) (hj : j < 9) : (fv L)[k * 9 + j]? = (rowP x)[j]? := by
  have e : L = L.take k ++ x :: L.drop (k + 1) := by
    obtain ⟨hk, rfl⟩ := List.getElem?_eq_some_iff.1 h
    rw [← List.drop_eq_getElem_cons hk, List.take_append_drop]
  have hkl := (List.getElem?_eq_some_iff.1 h).1
  have hl : (fv (L.take k)).length = k * 9 := by rw [fv_len, List.length_take]; congr 1; omega
  rw [e, fv_append, show x :: L.drop (k + 1) = [x] ++ L.drop (k + 1) from rfl, fv_append, fv_one]
  rw [List.getElem?_append_right (by omega), hl, show k * 9 + j - k * 9 = j by omega, List.getElem?_append_left (by rw [rowP_len]; exact hj)]
theorem fv_one_cell {L : List Pr} (hs : ∀ p ∈ L, p.2.oneCell' = true) : ∀ u ∈ fv L, u.oneCell' = true := by
  intro u hu
  obtain ⟨p, hp, hu⟩ := List.mem_flatMap.1 hu
  have h2 := hs p hp
  simp [rowP, Hd.vals] at hu
  rcases hu with rfl | rfl | rfl | rfl | rfl | rfl | rfl | rfl | rfl <;> first | rfl | exact h2
def W9 (W : World) (b o i : Nat) : Option Value := W.cell? ⟨b, o + i, none⟩
/-- A row of nodes' cells. -/
def RowP (W : World) (a : Option Addr) (ps : List Pr) : Prop := ∀ (k : Nat) (p : Pr), ps[k]? = some p → ∃ b off, a = some ⟨b, off, none⟩ ∧ Cells W b (off + k * 9) p.1.hd p.2 ∧ KidsAt W p.1.kids p.2
theorem KidsAt.of_rows {W : World} {ps : List Pr} {a : Option Addr} {cap : Nat} (h1 : ps.length ≤ cap) (h2 : cap ≤ maxLen) (hr : RowP W a ps) : KidsAt W (ps.map (·.1)) (.slice a ps.length cap) := by
  have := KidsAt.mk (W := W) (ks := ps.map (·.1)) (a := a) (cap := cap) (by simpa using h1) h2 (fun k t hk => by
    rw [List.getElem?_map] at hk
    cases hp : ps[k]? with
    | none => rw [hp] at hk; simp at hk
    | some p =>
      rw [hp] at hk
      obtain rfl : p.1 = t := by simpa using hk
      obtain ⟨b, off, e, hc, hkk⟩ := hr k p hp
      exact ⟨b, off, p.2, e, hc, hkk⟩)
  simpa using this
theorem slice_one {W : World} {ks : List Nd} {v : Value} (h : KidsAt W ks v) : v.oneCell' = true := by
  obtain ⟨a, cap, rfl, -⟩ := h.get
  rfl
/-- An owned row of nodes, whose kids lie where they lay in W0. -/
def OwnP (W0 : World) (base : Nat) (W : World) (v : Value) (ps : List Pr) : Prop := W.ownsRow base 55 9 v ps.length (fv ps) ∧ Below W0.heap.size W0 W ∧ (W0.heap.size ≤ base ∧ base ≤ W.heap.size) ∧ ∀ p ∈ ps, KidsAt W0 p.1.kids p.2
theorem OwnP.nil {W0 W : World} {base : Nat} (hb : Below W0.heap.size W0 W) (h1 : W0.heap.size ≤ base) (h2 : base ≤ W.heap.size) : OwnP W0 base W (.slice none 0 0) [] := ⟨World.ownsRow_nil _ _ _ _, hb, ⟨h1, h2⟩, fun p hp => by cases hp⟩
theorem OwnP.row {W0 W : World} {base : Nat} {v : Value} {ps : List Pr} (h : OwnP W0 base W v ps) : ∃ (a : Option Addr) (cap : Nat), v = .slice a ps.length cap ∧ ps.length ≤ cap ∧ cap ≤ maxLen ∧ RowP W a ps := by
  obtain ⟨ho, hB, -, hk⟩ := h
  rcases ho.2 with ⟨rfl, h0⟩ | ⟨g, cap, cur, rfl, _, hg, h1, h2, h3, h4⟩
  · have : ps = [] := List.length_eq_zero_iff.1 h0
    subst this
    exact ⟨none, 0, rfl, Nat.le_refl _, Nat.zero_le _, fun k p hk => by simp at hk⟩
  · refine ⟨_, cap, rfl, h1, h2, fun k p hkp => ⟨g, 0, rfl, ?_, (hk p (List.mem_of_getElem? hkp)).below hB⟩⟩
    have hkl := (List.getElem?_eq_some_iff.1 hkp).1
    have cell : ∀ j, j < 9 → W.cell? ⟨g, 0 + k * 9 + j, none⟩ = (rowP p)[j]? := fun j hj => by
      rw [← fv_get hkp j hj, ← h4, List.getElem?_take_of_lt (by omega), Nat.zero_add]
      simp [World.cell?, hg]
    exact ⟨cell 0 (by omega), cell 1 (by omega), cell 2 (by omega), cell 3 (by omega), cell 4 (by omega), cell 5 (by omega), cell 6 (by omega), cell 7 (by omega), cell 8 (by omega)⟩
theorem OwnP.below {W0 W W' : World} {base : Nat} {v : Value} {ps : List Pr} (h : OwnP W0 base W v ps) (hb : Below W.heap.size W W') : OwnP W0 base W' v ps :=
  ⟨own_below h.1 hb, h.2.1.trans (hb.mono h.2.1.size), ⟨h.2.2.1.1, Nat.le_trans h.2.2.1.2 hb.size⟩, h.2.2.2⟩
theorem OwnP.low {W0 W : World} {base base' : Nat} {v : Value} {ps : List Pr} (h : OwnP W0 base W v ps) (h1 : W0.heap.size ≤ base') (h2 : base' ≤ base) : OwnP W0 base' W v ps :=
  ⟨own_low h.1 h2, h.2.1, ⟨h1, Nat.le_trans h2 h.2.2.1.2⟩, h.2.2.2⟩
theorem wpList_append_nds {w0 w : World} {base : Nat} {ops : Array Oper} {rest : List Oper} {o : Oper} {a : Act} {Q : Exit → Act → World → Prop} (hgd : o.guard = none) (s x : Operand)
    (ho : o.op = .call { callee := .builtin .append, args := #[s, x], argTypes := #[42, 42] })
    (v : Value) (ps qs : List Pr) (ad : Option Addr) (cap : Nat) (hs : a.eval s = v) (hown : OwnP w0 base w v ps) (hx : a.eval x = .slice ad qs.length cap) (hst : RowP w ad qs)
    (hq : ∀ p ∈ qs, KidsAt w0 p.1.kids p.2) (hn : ps.length + qs.length ≤ 5000000)
    (h : ∀ v' w', OwnP w0 base w' v' (ps ++ qs) → Below base w w' → wpList Tryd.prog ops Q rest (a.put o.dst v') w') : wpList Tryd.prog ops Q (o :: rest) a w := by
  obtain ⟨i0, hi, hz0, hz1, hz2⟩ := info_parts infoNode
  have hbase := hown.2.2.1.2
  have hb0 := hown.2.2.1.1
  have hrow : ∀ {w' : World}, w.grownBy w' v.ownBlock → Below base w w' := fun hg =>
    (Below.refl base w).grown hg hbase fun k e => (hown.1.lt k e).1
  have hall : ∀ p ∈ ps ++ qs, KidsAt w0 p.1.kids p.2 := fun p hp => (List.mem_append.1 hp).elim (hown.2.2.2 p) (hq p)
  cases ad with
  | none =>
    have hy : qs = [] := by
      cases qs with
      | nil => rfl
      | cons y L =>
        obtain ⟨b, off, e, _⟩ := hst 0 y rfl
        cases e
    subst hy
    refine wpList_plain hgd fun K hK => ?_
    have hrun : (Builtin.append_ #[42, 42] o.type #[v, .slice none 0 cap]).run Tryd.prog w = .ok v w := by
      rcases hown.1.2 with ⟨rfl, h0⟩ | ⟨g, cp, cur, rfl, _, _, hnc, _⟩
      · simp [Builtin.append_, run_underlying Tryd.underlying42, sizeOf, typeInfo, hi, Builtin.lenOf, Builtin.firstCells]
      · simp [Builtin.append_, run_underlying Tryd.underlying42, sizeOf, typeInfo, hi, Builtin.lenOf, Builtin.firstCells, hnc, storeCells]
    have hx' : a.eval x = .slice none 0 cap := hx
    unfold Oper.wp
    simp [execOp, ho, resolve, invoke, builtin, hs, hx', hrun, Result.andThen]
    exact hK _ _ (h v w (by simpa using hown) (Below.refl _ _))
  | some p =>
    refine wpList_append_own w hgd s x 42 ho base 55 i0 _ 9 104 Tryd.underlying42 hi hz0 hz1 hz2 rfl (by decide) v ps.length (fv ps) hs hown.1 p qs.length cap (fv qs) hx (fv_len qs) ?_ (fv_one_cell fun q hqm => slice_one (hq q hqm)) (by unfold maxLen; omega) (by omega) hbase ?_
    · intro j u hj
      have hjl := (List.getElem?_eq_some_iff.1 hj).1
      rw [fv_len] at hjl
      obtain ⟨y, hy⟩ : ∃ y, qs[j / 9]? = some y := ⟨_, List.getElem?_eq_getElem (by omega)⟩
      obtain ⟨b, off, e, hc, -⟩ := hst (j / 9) y hy
      cases e
      have hg := fv_get hy (j % 9) (by omega)
      have ej : j / 9 * 9 + j % 9 = j := by omega
      rw [ej, hj] at hg
      rw [add_flat, hg]
      have hcell : ∀ i, i < 9 → W9 w b (off + j / 9 * 9) i = (rowP y)[i]? := fun i hi9 => by
        unfold W9
        match i, hi9 with
        | 0, _ => exact hc.c0
        | 1, _ => exact hc.c1
        | 2, _ => exact hc.c2
        | 3, _ => exact hc.c3
        | 4, _ => exact hc.c4
        | 5, _ => exact hc.c5
        | 6, _ => exact hc.c6
        | 7, _ => exact hc.c7
        | 8, _ => exact hc.c8
      rw [← hcell (j % 9) (by omega)]
      unfold W9
      congr 2
      omega
    · intro v' w' h1 h2 _
      exact h v' w' ⟨by rw [List.length_append, fv_append]; exact h1, hown.2.1.trans ((hrow h2).mono hb0), ⟨hb0, Nat.le_trans hbase (hrow h2).size⟩, hall⟩ (hrow h2)
/-- Is the node of the kind? -/
def keepN (k : Int) (t : Nd) : Bool := k == 0 || t.hd.kind == k
def allK (k : Int) (t : Nd) : List Nd := ((t.pre 0).map (·.2)).filter (keepN k)
def allKL (k : Int) (ks : List Nd) : List Nd := ((preL 0 ks).map (·.2)).filter (keepN k)
theorem allK_kids (k : Int) (t : Nd) : allK k t = [t].filter (keepN k) ++ allKL k t.kids := by
  unfold allK allKL
  rw [pre_kids, List.map_cons, preL_snd (0 + 1) 0, show t :: List.map (·.2) (preL 0 t.kids) = [t] ++ List.map (·.2) (preL 0 t.kids) from rfl, List.filter_append]
theorem allKL_take {k : Int} {ks : List Nd} {i : Nat} {x : Nd} (h : ks[i]? = some x) : allKL k (ks.take (i + 1)) = allKL k (ks.take i) ++ allK k x := by
  unfold allKL allK
  rw [preL_take h, List.map_append, List.filter_append]
theorem allKL_le (k : Int) (ks : List Nd) : (allKL k ks).length ≤ cntL ks := by
  unfold allKL
  refine Nat.le_trans (List.length_filter_le _ _) ?_
  rw [List.length_map, preL_len]; exact Nat.le_refl _
theorem allK_le (k : Int) (t : Nd) : (allK k t).length ≤ t.cnt := by
  unfold allK
  refine Nat.le_trans (List.length_filter_le _ _) ?_
  rw [List.length_map, pre_len]; exact Nat.le_refl _
/-- A row of one node, as a slice of its own. -/
theorem row_new {w0 W : World} (p : Pr) (t : TypeId) : RowP (W.alloc (.cells (p.1.hd.vals p.2) t)) (some ⟨W.heap.size, 0, none⟩) [p] ↔ KidsAt (W.alloc (.cells (p.1.hd.vals p.2) t)) p.1.kids p.2 := by
  constructor
  · intro h; obtain ⟨b, off, -, -, hk⟩ := h 0 p rfl; exact hk
  · intro h k q hk
    have h0 : k = 0 := by have := (List.getElem?_eq_some_iff.1 hk).1; simp at this; omega
    subst h0
    obtain rfl : p = q := by simpa using hk
    exact ⟨_, 0, rfl, by simpa using Cells.row (RowAt.new W t (p.1.hd.vals p.2)), h⟩
/-- By the kids: whatever holds of a node if it holds of its kids. -/
theorem kids_ind {w : World} (C : Nd → Value → Prop) (step : ∀ (t : Nd) (a : Option Addr) (cap : Nat), t.kids.length ≤ cap → cap ≤ maxLen → KidsAt w t.kids (.slice a t.kids.length cap) →
      (∀ (k : Nat) (x : Nd), t.kids[k]? = some x → ∃ b off kv, a = some ⟨b, off, none⟩ ∧ Cells w b (off + k * 9) x.hd kv ∧ KidsAt w x.kids kv ∧ C x kv) → C t (.slice a t.kids.length cap)) :
    ∀ (t : Nd) (kv : Value), KidsAt w t.kids kv → C t kv := by
  intro t kv ⟨d, h⟩
  induction d generalizing t kv with
  | zero =>
    obtain ⟨h0, a, cap, rfl, hcap⟩ := h
    have h1 : t.kids.length = 0 := by rw [h0]; rfl
    have := step t a cap (by omega) hcap (by rw [h1, h0]; exact ⟨0, rfl, a, cap, rfl, hcap⟩) (fun k x hk => by rw [h0] at hk; simp at hk)
    rwa [h1] at this
  | succ d ih =>
    have hK : KidsAt w t.kids kv := ⟨_, h⟩
    obtain ⟨a, cap, rfl, hc, hcap, hx⟩ := h
    exact step t a cap hc hcap hK (fun k x hk => by
      obtain ⟨b, off, kv, e, cs, hk2⟩ := hx k x hk
      exact ⟨b, off, kv, e, cs, ⟨d, hk2⟩, ih x kv hk2⟩)
/-- What All answers. -/
def AllIs (w : World) (base : Nat) (L : List Nd) (e : Ending) (w' : World) : Prop := ∃ v ps, e = .returned v ∧ ps.map (·.1) = L ∧ OwnP w base w' v ps
set_option maxRecDepth 100000 in
set_option maxHeartbeats 8000000 in
theorem All_at (w : World) (kind : Int) : ∀ (t : Nd) (kv : Value), KidsAt w t.kids kv → ∀ W, Below w.heap.size w W → t.cnt ≤ 2000000 → Calls Tryd.prog 36 #[.agg #[.int .i64 t.hd.kind, .string (bs t.hd.text), .string (bs t.hd.type), .int .i64 t.hd.n, .int .i64 t.hd.fr, .int .i64 t.hd.to_, .int .i64 t.hd.at_, .int .i64 t.hd.tat, kv], .int .i64 kind] W fun e w' => AllIs w W.heap.size (allK kind t) e w' ∧ Below W.heap.size W w' := by
  refine kids_ind _ ?_
  intro t a cap hc hcap hK hx W hW hm
  have Hx := Lib.hid hx
  have HK := Lib.hid hK
  have HW := Lib.hid hW
  clear hx hK hW
  have hw0 := HW.out.size
  obtain ⟨ks, hks⟩ : ∃ ks, Hid (t.kids = ks) := ⟨_, Lib.hid rfl⟩
  have hcnt : cntL ks + 1 ≤ 2000000 := by rw [← hks.out, ← cnt_kids]; exact hm
  have Hall := Lib.hid (allK_kids kind t)
  rw [hks.out] at hc Hx HK Hall
  rw [hks.out]
  obtain ⟨n, hn⟩ : ∃ n, Hid (ks.length = n) := ⟨_, Lib.hid rfl⟩
  rw [hn.out] at hc HK
  rw [hn.out]
  obtain ⟨W1, hW1⟩ : ∃ W1, Hid (W.alloc (.cells #[.int .i64 t.hd.kind, .string (bs t.hd.text), .string (bs t.hd.type), .int .i64 t.hd.n, .int .i64 t.hd.fr, .int .i64 t.hd.to_, .int .i64 t.hd.at_, .int .i64 t.hd.tat, .slice a n cap] 55) = W1) := ⟨_, Lib.hid rfl⟩
  have R1 : Hid (RowAt W1 W.heap.size 55 (t.hd.vals (.slice a n cap))) := by rw [← hW1.out]; exact Lib.hid (RowAt.new W 55 _)
  have B1 : Hid (Below W.heap.size W W1) := by rw [← hW1.out]; exact Lib.hid ((Below.refl _ W).alloc (Nat.le_refl _) _)
  have BW1 := Lib.hid (HW.out.trans (B1.out.mono hw0))
  have hs1 := B1.out.size
  have hcap' := hcap
  unfold maxLen at hcap'
  have hlim : ∀ i, (allKL kind (ks.take i)).length ≤ 2000000 := fun i => by
    have h1 := allKL_le kind (ks.take i)
    have h2 := cntL_take_le ks i
    omega
  have Hlim := Lib.hid hlim
  clear hlim
  obtain ⟨d0, d1, d2, d3, d4, d5, d6, d7, d8⟩ := Cells.row R1.out
  simp only [Nat.zero_add] at d1 d2 d3 d4 d5 d6 d7 d8
  cases hkp : keepN kind t with
  | false =>
    have hk1 : (kind == 0) = false := by unfold keepN at hkp; rw [Bool.or_eq_false_iff] at hkp; exact hkp.1
    have hk2 : (t.hd.kind == kind) = false := by unfold keepN at hkp; rw [Bool.or_eq_false_iff] at hkp; exact hkp.2
    have hp0 : Hid (([] : List Pr).map (·.1) = [t].filter (keepN kind)) := Lib.hid (by simp [hkp])
    have O0 : Hid (OwnP w W1.heap.size W1 (.slice none 0 0) []) := Lib.hid (OwnP.nil BW1.out (by omega) (Nat.le_refl _))
    obtain ⟨p0, hp00⟩ : ∃ p0 : List Pr, ([] : List Pr) = p0 := ⟨_, rfl⟩
    have hl0 : p0.length ≤ 1 := by rw [← hp00]; simp
    rw [hp00] at hp0 O0
    clear hkp hp00
    go_enter Tryd.func36, Tryd.ntmps36
    go_wp2_with fail
    rw [hW1.out]
    go_wp2_with fail
    obtain ⟨W2, hW2⟩ : ∃ W2, W1 = W2 := ⟨_, rfl⟩
    have B2 : Hid (Below W1.heap.size W1 W2) := by rw [← hW2]; exact Lib.hid (Below.refl _ _)
    have O2 : Hid (OwnP w W1.heap.size W2 (.slice none 0 0) p0) := by rw [← hW2]; exact O0
    rw [hW2] at O0
    rw [show W1 = W2 from hW2] at d0 d1 d2 d3 d4 d5 d6 d7 d8
    rw [hW2]
    go_loopw [5, 6] (fun u c wr => ∃ (k : Nat) (ps : List Pr), c = .int .i64 k ∧ k ≤ n ∧ Hid (ps.map (·.1) = [t].filter (keepN kind) ++ allKL kind (ks.take k)) ∧ Hid (OwnP w W1.heap.size wr u ps) ∧ Hid (Below W1.heap.size W1 wr)) (fun _ c _ => n - (intOf c).toNat)
    case atStart => exact ⟨0, p0, rfl, by omega, Lib.hid (by rw [hp0.out]; simp [allKL, preL]), O2, B2⟩
    case round =>
      obtain ⟨k, ps, rfl, hk, hP, hO, hB⟩ := hrel
      have hbs := hB.out.size
      have BWr := Lib.hid (BW1.out.trans (hB.out.mono (Nat.le_trans hw0 hs1)))
      have c8 : wr.cell? ⟨W.heap.size, 8, none⟩ = some (.slice a n cap) := (R1.out.later hB.out).cell (j := 8) rfl
      have hpl : ps.length ≤ 2000001 := by
        have h1 := congrArg List.length hP.out
        rw [List.length_map, List.length_append] at h1
        have h2 := Hlim.out k
        have h3 := List.length_filter_le (keepN kind) [t]
        rw [List.length_singleton] at h3
        omega
      clear d0 d1 d2 d3 d4 d5 d6 d7 d8
      by_cases hlt : k < n
      · obtain ⟨x, hx⟩ : ∃ x, ks[k]? = some x := ⟨_, List.getElem?_eq_getElem (by rw [hn.out]; exact hlt)⟩
        obtain ⟨b, off, kv, rfl, cs, hk2, call⟩ := Hx.out k x hx
        obtain ⟨d0, d1, d2, d3, d4, d5, d6, d7, d8⟩ := cs.later BWr.out
        have htk := Lib.hid (allKL_take (k := kind) hx)
        have hxc : x.cnt ≤ 2000000 := by have := cntL_mem (List.mem_of_getElem? hx); omega
        have hxl := allK_le kind x
        have Call := Lib.hid (call wr BWr.out hxc)
        clear call cs hx hk2
        go_wp2_with fail
        refine Call.out.mono ?_
        rintro e w2 ⟨⟨v3, qs, rfl, hq3, O3⟩, b2⟩
        obtain ⟨a3, cap3, rfl, hc3, hcap3, hr3⟩ := O3.row
        have hql : qs.length ≤ 2000000 := by have h1 := congrArg List.length hq3; rw [List.length_map] at h1; omega
        have HR3 := Lib.hid hr3
        have HQ3 := Lib.hid hq3
        have HK3 := Lib.hid O3.2.2.2
        have O4 := Lib.hid (hO.out.below b2)
        have B4 := Lib.hid (hB.out.trans (b2.mono hbs))
        unfold maxLen at hcap3
        clear O3 b2 hr3 hq3
        go_wp2_with (at_builtin; refine wpList_append_nds (w0 := w) rfl _ _ rfl _ ps qs a3 cap3 rfl O4.out rfl HR3.out HK3.out (by omega) ?_; intro v5 w5 hown5 hb5)
        exact ⟨⟨k + 1, ps ++ qs, by go_num, by omega, Lib.hid (by rw [List.map_append, hP.out, HQ3.out, htk.out, List.append_assoc]), Lib.hid hown5, Lib.hid (B4.out.trans hb5)⟩, by simp [intOf]; omega⟩
      · obtain rfl : k = n := by omega
        have hfin : Hid (ps.map (·.1) = allK kind t) := Lib.hid (by rw [hP.out, Hall.out, ← hn.out, List.take_length])
        go_wp2_with fail
        go_ret
        exact ⟨⟨_, ps, rfl, hfin.out, hO.out.low hw0 hs1⟩, B1.out.trans (hB.out.mono hs1)⟩
  | true =>
    have hp0 : Hid (([(t, .slice a n cap)] : List Pr).map (·.1) = [t].filter (keepN kind)) := Lib.hid (by simp [hkp])
    have O0 : Hid (OwnP w W1.heap.size (W1.alloc (.cells #[.int .i64 t.hd.kind, .string (bs t.hd.text), .string (bs t.hd.type), .int .i64 t.hd.n, .int .i64 t.hd.fr, .int .i64 t.hd.to_, .int .i64 t.hd.at_, .int .i64 t.hd.tat, .slice a n cap] 55)) (.slice none 0 0) []) := Lib.hid (OwnP.nil (BW1.out.alloc (by omega) _) (by omega) (by simp))
    have S1 : W1.heap.size = W.heap.size + 1 := by rw [← hW1.out, World.size_alloc]
    have hrow : Hid (RowP (W1.alloc (.cells #[.int .i64 t.hd.kind, .string (bs t.hd.text), .string (bs t.hd.type), .int .i64 t.hd.n, .int .i64 t.hd.fr, .int .i64 t.hd.to_, .int .i64 t.hd.at_, .int .i64 t.hd.tat, .slice a n cap] 55)) (some ⟨W.heap.size + 1, 0, none⟩) [(t, .slice a n cap)]) := Lib.hid (by rw [← S1]; exact (row_new (w0 := w) (W := W1) (t, .slice a n cap) 55).2 (by show KidsAt _ t.kids _; rw [hks.out]; exact HK.out.below (BW1.out.alloc (by omega) _)))
    have hq : Hid (∀ p ∈ [((t, .slice a n cap) : Pr)], KidsAt w p.1.kids p.2) := Lib.hid (fun p hp => by
      obtain rfl : p = (t, .slice a n cap) := by simpa using hp
      show KidsAt w t.kids _
      rw [hks.out]; exact HK.out)
    obtain ⟨p0, hp00⟩ : ∃ p0 : List Pr, [((t, .slice a n cap) : Pr)] = p0 := ⟨_, rfl⟩
    have hl0 : p0.length ≤ 1 := by rw [← hp00]; simp
    have hl1 : Hid (1 = p0.length) := Lib.hid (by rw [← hp00]; rfl)
    rw [hp00] at hp0 hrow hq
    have hcase : kind = 0 ∨ (¬ kind = 0 ∧ kind = t.hd.kind) := by
      unfold keepN at hkp
      by_cases h0 : kind = 0
      · exact .inl h0
      · refine .inr ⟨h0, ?_⟩
        have : (kind == 0) = false := by rw [beq_eq_false_iff_ne]; exact h0
        rw [this, Bool.false_or, beq_iff_eq] at hkp
        exact hkp.symm
    clear hkp hp00
    rcases hcase with rfl | ⟨hk0, rfl⟩
    · go_enter Tryd.func36, Tryd.ntmps36
      go_wp2_with (at_builtin; rw [hW1.out]; refine wpList_append_nds (w0 := w) rfl _ _ rfl _ [] p0 (some ⟨W.heap.size + 1, 0, none⟩) 1 rfl O0.out (by rw [← hl1.out]; rfl) hrow.out hq.out (by simp; omega) ?_; intro v2 W2 hown2 hb2)
      have O2 : Hid (OwnP w W1.heap.size W2 v2 p0) := Lib.hid (by simpa using hown2)
      have B2 : Hid (Below W1.heap.size W1 W2) := Lib.hid (((Below.refl _ W1).alloc (Nat.le_refl _) (.cells #[.int .i64 t.hd.kind, .string (bs t.hd.text), .string (bs t.hd.type), .int .i64 t.hd.n, .int .i64 t.hd.fr, .int .i64 t.hd.to_, .int .i64 t.hd.at_, .int .i64 t.hd.tat, .slice a n cap] 55)).trans hb2)
      clear hown2 hb2
      go_loopw [5, 6] (fun u c wr => ∃ (k : Nat) (ps : List Pr), c = .int .i64 k ∧ k ≤ n ∧ Hid (ps.map (·.1) = [t].filter (keepN 0) ++ allKL 0 (ks.take k)) ∧ Hid (OwnP w W1.heap.size wr u ps) ∧ Hid (Below W1.heap.size W1 wr)) (fun _ c _ => n - (intOf c).toNat)
      case atStart => exact ⟨0, p0, rfl, by omega, Lib.hid (by rw [hp0.out]; simp [allKL, preL]), O2, B2⟩
      case round =>
        obtain ⟨k, ps, rfl, hk, hP, hO, hB⟩ := hrel
        have hbs := hB.out.size
        have BWr := Lib.hid (BW1.out.trans (hB.out.mono (Nat.le_trans hw0 hs1)))
        have c8 : wr.cell? ⟨W.heap.size, 8, none⟩ = some (.slice a n cap) := (R1.out.later hB.out).cell (j := 8) rfl
        have hpl : ps.length ≤ 2000001 := by
          have h1 := congrArg List.length hP.out
          rw [List.length_map, List.length_append] at h1
          have h2 := Hlim.out k
          have h3 := List.length_filter_le (keepN 0) [t]
          rw [List.length_singleton] at h3
          omega
        clear d0 d1 d2 d3 d4 d5 d6 d7 d8
        by_cases hlt : k < n
        · obtain ⟨x, hx⟩ : ∃ x, ks[k]? = some x := ⟨_, List.getElem?_eq_getElem (by rw [hn.out]; exact hlt)⟩
          obtain ⟨b, off, kv, rfl, cs, hk2, call⟩ := Hx.out k x hx
          obtain ⟨d0, d1, d2, d3, d4, d5, d6, d7, d8⟩ := cs.later BWr.out
          have htk := Lib.hid (allKL_take (k := 0) hx)
          have hxc : x.cnt ≤ 2000000 := by have := cntL_mem (List.mem_of_getElem? hx); omega
          have hxl := allK_le 0 x
          have Call := Lib.hid (call wr BWr.out hxc)
          clear call cs hx hk2
          go_wp2_with fail
          refine Call.out.mono ?_
          rintro e w2 ⟨⟨v3, qs, rfl, hq3, O3⟩, b2⟩
          obtain ⟨a3, cap3, rfl, hc3, hcap3, hr3⟩ := O3.row
          have hql : qs.length ≤ 2000000 := by have h1 := congrArg List.length hq3; rw [List.length_map] at h1; omega
          have HR3 := Lib.hid hr3
          have HQ3 := Lib.hid hq3
          have HK3 := Lib.hid O3.2.2.2
          have O4 := Lib.hid (hO.out.below b2)
          have B4 := Lib.hid (hB.out.trans (b2.mono hbs))
          unfold maxLen at hcap3
          clear O3 b2 hr3 hq3
          go_wp2_with (at_builtin; refine wpList_append_nds (w0 := w) rfl _ _ rfl _ ps qs a3 cap3 rfl O4.out rfl HR3.out HK3.out (by omega) ?_; intro v5 w5 hown5 hb5)
          exact ⟨⟨k + 1, ps ++ qs, by go_num, by omega, Lib.hid (by rw [List.map_append, hP.out, HQ3.out, htk.out, List.append_assoc]), Lib.hid hown5, Lib.hid (B4.out.trans hb5)⟩, by simp [intOf]; omega⟩
        · obtain rfl : k = n := by omega
          have hfin : Hid (ps.map (·.1) = allK 0 t) := Lib.hid (by rw [hP.out, Hall.out, ← hn.out, List.take_length])
          go_wp2_with fail
          go_ret
          exact ⟨⟨_, ps, rfl, hfin.out, hO.out.low hw0 hs1⟩, B1.out.trans (hB.out.mono hs1)⟩
    · have hk1 : (t.hd.kind == 0) = false := by rw [beq_eq_false_iff_ne]; exact hk0
      have hk2 : (t.hd.kind == t.hd.kind) = true := by simp
      go_enter Tryd.func36, Tryd.ntmps36
      go_wp2_with (at_builtin; rw [hW1.out]; refine wpList_append_nds (w0 := w) rfl _ _ rfl _ [] p0 (some ⟨W.heap.size + 1, 0, none⟩) 1 rfl O0.out (by rw [← hl1.out]; rfl) hrow.out hq.out (by simp; omega) ?_; intro v2 W2 hown2 hb2)
      have O2 : Hid (OwnP w W1.heap.size W2 v2 p0) := Lib.hid (by simpa using hown2)
      have B2 : Hid (Below W1.heap.size W1 W2) := Lib.hid (((Below.refl _ W1).alloc (Nat.le_refl _) (.cells #[.int .i64 t.hd.kind, .string (bs t.hd.text), .string (bs t.hd.type), .int .i64 t.hd.n, .int .i64 t.hd.fr, .int .i64 t.hd.to_, .int .i64 t.hd.at_, .int .i64 t.hd.tat, .slice a n cap] 55)).trans hb2)
      clear hown2 hb2
      go_loopw [5, 6] (fun u c wr => ∃ (k : Nat) (ps : List Pr), c = .int .i64 k ∧ k ≤ n ∧ Hid (ps.map (·.1) = [t].filter (keepN t.hd.kind) ++ allKL t.hd.kind (ks.take k)) ∧ Hid (OwnP w W1.heap.size wr u ps) ∧ Hid (Below W1.heap.size W1 wr)) (fun _ c _ => n - (intOf c).toNat)
      case atStart => exact ⟨0, p0, rfl, by omega, Lib.hid (by rw [hp0.out]; simp [allKL, preL]), O2, B2⟩
      case round =>
        obtain ⟨k, ps, rfl, hk, hP, hO, hB⟩ := hrel
        have hbs := hB.out.size
        have BWr := Lib.hid (BW1.out.trans (hB.out.mono (Nat.le_trans hw0 hs1)))
        have c8 : wr.cell? ⟨W.heap.size, 8, none⟩ = some (.slice a n cap) := (R1.out.later hB.out).cell (j := 8) rfl
        have hpl : ps.length ≤ 2000001 := by
          have h1 := congrArg List.length hP.out
          rw [List.length_map, List.length_append] at h1
          have h2 := Hlim.out k
          have h3 := List.length_filter_le (keepN t.hd.kind) [t]
          rw [List.length_singleton] at h3
          omega
        clear d0 d1 d2 d3 d4 d5 d6 d7 d8
        by_cases hlt : k < n
        · obtain ⟨x, hx⟩ : ∃ x, ks[k]? = some x := ⟨_, List.getElem?_eq_getElem (by rw [hn.out]; exact hlt)⟩
          obtain ⟨b, off, kv, rfl, cs, hk2, call⟩ := Hx.out k x hx
          obtain ⟨d0, d1, d2, d3, d4, d5, d6, d7, d8⟩ := cs.later BWr.out
          have htk := Lib.hid (allKL_take (k := t.hd.kind) hx)
          have hxc : x.cnt ≤ 2000000 := by have := cntL_mem (List.mem_of_getElem? hx); omega
          have hxl := allK_le t.hd.kind x
          have Call := Lib.hid (call wr BWr.out hxc)
          clear call cs hx hk2
          go_wp2_with fail
          refine Call.out.mono ?_
          rintro e w2 ⟨⟨v3, qs, rfl, hq3, O3⟩, b2⟩
          obtain ⟨a3, cap3, rfl, hc3, hcap3, hr3⟩ := O3.row
          have hql : qs.length ≤ 2000000 := by have h1 := congrArg List.length hq3; rw [List.length_map] at h1; omega
          have HR3 := Lib.hid hr3
          have HQ3 := Lib.hid hq3
          have HK3 := Lib.hid O3.2.2.2
          have O4 := Lib.hid (hO.out.below b2)
          have B4 := Lib.hid (hB.out.trans (b2.mono hbs))
          unfold maxLen at hcap3
          clear O3 b2 hr3 hq3
          go_wp2_with (at_builtin; refine wpList_append_nds (w0 := w) rfl _ _ rfl _ ps qs a3 cap3 rfl O4.out rfl HR3.out HK3.out (by omega) ?_; intro v5 w5 hown5 hb5)
          exact ⟨⟨k + 1, ps ++ qs, by go_num, by omega, Lib.hid (by rw [List.map_append, hP.out, HQ3.out, htk.out, List.append_assoc]), Lib.hid hown5, Lib.hid (B4.out.trans hb5)⟩, by simp [intOf]; omega⟩
        · obtain rfl : k = n := by omega
          have hfin : Hid (ps.map (·.1) = allK t.hd.kind t) := Lib.hid (by rw [hP.out, Hall.out, ← hn.out, List.take_length])
          go_wp2_with fail
          go_ret
          exact ⟨⟨_, ps, rfl, hfin.out, hO.out.low hw0 hs1⟩, B1.out.trans (hB.out.mono hs1)⟩
end Go.Proofs.YtbnbmjdjkadgoaaDoor
