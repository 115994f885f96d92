/-
  For the laws of decls: the row of blocks around a place, and what is left to come. No condition.
-/
import Derived.Test.YtbnbmjdjkadgoaaDoorDj
namespace Go.Proofs.YtbnbmjdjkadgoaaDoor.D
open Go.RowKit Go.Shelf Go.Maps Go.WideMaps
set_option linter.unusedSimpArgs false
set_option linter.unusedVariables false

def bv (L : List Bk) : List Value := L.flatMap Bk.vals
theorem vals_len (x : Bk) : x.vals.length = 3 := rfl
theorem bv_len (L : List Bk) : (bv L).length = L.length * 3 := by
  unfold bv
  induction L with
  | nil => rfl
  | cons x L ih => rw [List.flatMap_cons, List.length_append, ih, List.length_cons, vals_len]; omega
theorem bv_append (A B : List Bk) : bv (A ++ B) = bv A ++ bv B := by unfold bv; rw [List.flatMap_append]
theorem bv_one (x : Bk) : bv [x] = x.vals := by simp [bv]
theorem bv_get {L : List Bk} {k : Nat} {x : Bk} (h : L[k]? = some x) (j : Nat) (hj : j < 3) : (bv L)[k * 3 + j]? = x.vals[j]? := by
  have e : L = L.take k ++ x :: L.drop (k + 1) := by
    obtain ⟨hk, rfl⟩ := List.getElem?_eq_some_iff.1 h
    rw [← List.drop_eq_getElem_cons hk, List.take_append_drop]
  have hkl := (List.getElem?_eq_some_iff.1 h).1
  have hl : (bv (L.take k)).length = k * 3 := by rw [bv_len, List.length_take]; congr 1; omega
  rw [e, bv_append, show x :: L.drop (k + 1) = [x] ++ L.drop (k + 1) from rfl, bv_append, bv_one]
  rw [List.getElem?_append_right (by omega), hl, show k * 3 + j - k * 3 = j by omega, List.getElem?_append_left (by rw [vals_len]; exact hj)]
/-- The row of blocks at g. -/
structure RowSt (W : World) (N g cap : Nat) (cs : Array Value) (L : List Bk) : Prop where
  row : RowAt W g 100 cs
  lo : N ≤ g
  len : L.length ≤ cap
  cap_ : cap ≤ maxLen
  size : cs.size = cap * 3
  vals : cs.toList.take (L.length * 3) = bv L
  ok : ∀ x ∈ L, x.Ok W
  maps : ∀ x ∈ L, ∀ b, x.mv = some b → N ≤ b
  nodup : (L.filterMap (·.mv)).Nodup
theorem RowSt.cell {W : World} {N g cap : Nat} {cs : Array Value} {L : List Bk} (h : RowSt W N g cap cs L) {k : Nat} {x : Bk} (hx : L[k]? = some x) (j : Nat) (hj : j < 3) : cs[k * 3 + j]? = x.vals[j]? := by
  have hk := (List.getElem?_eq_some_iff.1 hx).1
  rw [← bv_get hx j hj, ← h.vals, List.getElem?_take_of_lt (by omega), Array.getElem?_toList]
theorem RowSt.at_ {W : World} {N g cap : Nat} {cs : Array Value} {L : List Bk} (h : RowSt W N g cap cs L) : BAt W g L := fun k x hx =>
  ⟨h.row.cell (h.cell hx 0 (by omega)), h.row.cell (h.cell hx 1 (by omega)), h.row.cell (h.cell hx 2 (by omega)), h.ok x (List.mem_of_getElem? hx)⟩
theorem RowSt.own {W : World} {N g cap : Nat} {cs : Array Value} {L : List Bk} (h : RowSt W N g cap cs L) : W.ownsRow N 100 3 (.slice (some ⟨g, 0, none⟩) L.length cap) L.length (bv L) :=
  ⟨bv_len L, .inr ⟨g, cap, cs, rfl, h.lo, h.row, h.len, h.cap_, h.size, h.vals⟩⟩
/-- It stays, where its blocks do. -/
theorem RowSt.keep {W W' : World} {N g cap : Nat} {cs : Array Value} {L : List Bk} (h : RowSt W N g cap cs L) (hg : W'.heap[g]? = W.heap[g]?) (hm : ∀ b, N ≤ b → (∃ es cl, W.heap[b]? = some (.map es cl)) → W'.heap[b]? = W.heap[b]?) : RowSt W' N g cap cs L :=
  ⟨h.row.same hg, h.lo, h.len, h.cap_, h.size, h.vals, fun x hx => (h.ok x hx).later fun b hb => by
    refine hm b (h.maps x hx b hb) ?_
    rcases h.ok x hx with ⟨h1, _⟩ | ⟨c, m, h1, h2, h3⟩
    · rw [h1] at hb; cases hb
    · rw [h1] at hb; obtain rfl := Option.some.inj hb; exact h3.map, h.maps, h.nodup⟩
theorem RowSt.below {W W' : World} {N g cap : Nat} {cs : Array Value} {L : List Bk} (h : RowSt W N g cap cs L) (hb : Below W.heap.size W W') : RowSt W' N g cap cs L :=
  h.keep (hb.block g h.row.lt) fun b _ ⟨es, cl, h2⟩ => hb.block b (Array.getElem?_eq_some_iff.1 h2).1
/-- The innermost has one kid more done. -/
theorem RowSt.inc {W : World} {N g cap : Nat} {cs : Array Value} {L : List Bk} {x : Bk} (h : RowSt W N g cap cs (L ++ [x])) : RowSt (W.setCell ⟨g, L.length * 3 + 1, none⟩ (.int .i64 ((x.i : Int) + 1))) N g cap (cs.setIfInBounds (L.length * 3 + 1) (.int .i64 ((x.i : Int) + 1))) (L ++ [{ x with i := x.i + 1 }]) := by
  have hx : (L ++ [x])[L.length]? = some x := by simp
  have hl := h.len
  rw [List.length_append, List.length_singleton] at hl
  refine ⟨h.row.set _ _, h.lo, by rw [List.length_append]; exact hl, h.cap_, by simp [h.size], ?_, ?_, ?_, ?_⟩
  · have hv := h.vals
    rw [List.length_append, List.length_singleton] at hv ⊢
    rw [Array.toList_setIfInBounds, List.take_set, hv, bv_append, bv_append, bv_one, bv_one, List.set_append_right _ _ (by rw [bv_len]; omega), bv_len]
    congr 1
    rw [show L.length * 3 + 1 - L.length * 3 = 1 by omega]
    rfl
  · intro y hy
    have ho : ∀ z ∈ L ++ [x], z.Ok (W.setCell ⟨g, L.length * 3 + 1, none⟩ (.int .i64 ((x.i : Int) + 1))) := fun z hz => (h.ok z hz).later fun b hb => by
      refine Below.heap_setCell _ _ _ b ?_
      rcases h.ok z hz with ⟨h1, _⟩ | ⟨c, m, h1, h2, h3⟩
      · rw [h1] at hb; cases hb
      · rw [h1] at hb
        obtain rfl := Option.some.inj hb
        obtain ⟨es, cl, h4⟩ := h3.map
        have := row_ne_map h.row h4
        simpa using Ne.symm this
    rcases List.mem_append.1 hy with hy | hy
    · exact ho y (List.mem_append_left _ hy)
    · obtain rfl := List.mem_singleton.1 hy
      exact ho x (List.mem_append_right _ (by simp))
  · intro y hy b hb
    rcases List.mem_append.1 hy with hy | hy
    · exact h.maps y (List.mem_append_left _ hy) b hb
    · obtain rfl := List.mem_singleton.1 hy
      exact h.maps x (List.mem_append_right _ (by simp)) b hb
  · have := h.nodup
    rw [List.filterMap_append] at this ⊢
    exact this
/-- The innermost is done. -/
theorem RowSt.pop {W : World} {N g cap : Nat} {cs : Array Value} {L : List Bk} {x : Bk} (h : RowSt W N g cap cs (L ++ [x])) : RowSt W N g cap cs L := by
  have hl := h.len
  rw [List.length_append, List.length_singleton] at hl
  refine ⟨h.row, h.lo, by omega, h.cap_, h.size, ?_, fun y hy => h.ok y (List.mem_append_left _ hy), fun y hy => h.maps y (List.mem_append_left _ hy), ?_⟩
  · have hv := congrArg (List.take (L.length * 3)) h.vals
    rw [List.take_take, List.length_append, bv_append, List.take_append_of_le_length (by rw [bv_len]; omega), List.take_of_length_le (l := bv L) (by rw [bv_len]; omega)] at hv
    rw [show min (L.length * 3) ((L.length + [x].length) * 3) = L.length * 3 by simp] at hv
    exact hv
  · have := h.nodup
    rw [List.filterMap_append] at this
    exact (List.nodup_append.1 this).1
/-- A name is declared in the innermost. -/
theorem RowSt.dec {W W' : World} {N g cap b' : Nat} {cs : Array Value} {L : List Bk} {x : Bk} {nm : B8} (h : RowSt W N g cap cs (L ++ [x])) (hN : N ≤ W.heap.size) (d : Dc W g L.length cs x nm b' W') :
    RowSt W' N g cap (cs.setIfInBounds (L.length * 3 + 2) (.map (some b'))) (L ++ [{ x with mv := some b', s := nm :: x.s }]) := by
  have hl := h.len
  rw [List.length_append, List.length_singleton] at hl
  have apart : ∀ y ∈ L, ∀ b, y.mv = some b → some b ≠ x.mv := fun y hy b hb e => by
    have h9 := h.nodup
    rw [List.filterMap_append, List.nodup_append] at h9
    have h1 : b ∈ L.filterMap (·.mv) := List.mem_filterMap.2 ⟨y, hy, hb⟩
    have h2 : b ∈ [x].filterMap (·.mv) := List.mem_filterMap.2 ⟨x, by simp, e.symm⟩
    exact h9.2.2 b h1 b h2 rfl
  have ltb : ∀ y ∈ L ++ [x], ∀ b, y.mv = some b → b < W.heap.size ∧ b ≠ g := fun y hy b hb => by
    have hk := h.ok y hy
    refine ⟨hk.lt hb, ?_⟩
    rcases hk with ⟨h1, _⟩ | ⟨c, m, h1, h2, h3⟩
    · rw [h1] at hb; cases hb
    · rw [h1] at hb
      obtain rfl := Option.some.inj hb
      obtain ⟨es, cl, h4⟩ := h3.map
      exact Ne.symm (row_ne_map h.row h4)
  refine ⟨d.row, h.lo, by rw [List.length_append]; exact hl, h.cap_, by simp [h.size], ?_, ?_, ?_, ?_⟩
  · have hv := h.vals
    rw [List.length_append, List.length_singleton] at hv ⊢
    rw [Array.toList_setIfInBounds, List.take_set, hv, bv_append, bv_append, bv_one, bv_one, List.set_append_right _ _ (by rw [bv_len]; omega), bv_len]
    congr 1
    rw [show L.length * 3 + 2 - L.length * 3 = 2 by omega]
    rfl
  · intro y hy
    rcases List.mem_append.1 hy with hy | hy
    · refine (h.ok y (List.mem_append_left _ hy)).later fun b hb => ?_
      obtain ⟨k1, k2⟩ := ltb y (List.mem_append_left _ hy) b hb
      exact d.keep b k1 k2 (apart y hy b hb)
    · obtain rfl := List.mem_singleton.1 hy
      obtain ⟨m, h1, h2⟩ := d.set
      exact .inr ⟨b', m, rfl, h1, h2⟩
  · intro y hy b hb
    rcases List.mem_append.1 hy with hy | hy
    · exact h.maps y (List.mem_append_left _ hy) b hb
    · obtain rfl := List.mem_singleton.1 hy
      obtain rfl : b' = b := Option.some.inj hb
      rcases d.at_ with h1 | ⟨_, h1⟩
      · exact h.maps x (List.mem_append_right _ (by simp)) b' h1
      · omega
  · have h9 := h.nodup
    rw [List.filterMap_append, List.nodup_append] at h9 ⊢
    refine ⟨h9.1, by simp, fun a ha b hb e => ?_⟩
    have hb' : b = b' := by simpa using hb
    subst hb' e
    obtain ⟨y, hy, hy2⟩ := List.mem_filterMap.1 ha
    rcases d.at_ with h1 | ⟨_, h1⟩
    · exact apart y hy a hy2 h1.symm
    · have := (ltb y (List.mem_append_left _ hy) a hy2).1
      omega
/-- One block more. -/
theorem RowSt.app {W W' : World} {N g g' cap c' : Nat} {cs : Array Value} {L : List Bk} {b o : Nat} (h : RowSt W N g cap cs L) (hown : W'.ownsRow N 100 3 (.slice (some ⟨g', 0, none⟩) (L.length + 1) c') (L.length + 1) (bv L ++ [.pointer (some ⟨b, o, none⟩), .int .i64 0, .map none]))
    (hgrow : W.grownBy W' (some g)) : ∃ cs', RowSt W' N g' c' cs' (L ++ [⟨b, o, 0, none, []⟩]) := by
  rcases hown.2 with ⟨h0, _⟩ | ⟨g2, cap2, cur, e1, k1, hg, k2, k3, k4, k5⟩
  · cases h0
  · cases e1
    refine ⟨cur, hg, k1, by rw [List.length_append]; exact k2, k3, k4, ?_, ?_, ?_, ?_⟩
    · rw [List.length_append, List.length_singleton, k5, bv_append, bv_one]
      rfl
    · intro y hy
      rcases List.mem_append.1 hy with hy | hy
      · refine (h.ok y hy).later fun b hb => hgrow.block b ((h.ok y hy).lt hb) ?_
        rcases h.ok y hy with ⟨h1, _⟩ | ⟨c, m, h1, h2, h3⟩
        · rw [h1] at hb; cases hb
        · rw [h1] at hb
          obtain rfl := Option.some.inj hb
          obtain ⟨es, cl, h4⟩ := h3.map
          have := row_ne_map h.row h4
          simpa using Ne.symm this
      · obtain rfl := List.mem_singleton.1 hy
        exact .inl ⟨rfl, rfl⟩
    · intro y hy b hb
      rcases List.mem_append.1 hy with hy | hy
      · exact h.maps y hy b hb
      · obtain rfl := List.mem_singleton.1 hy
        cases hb
    · have h9 := h.nodup
      rw [List.filterMap_append]
      simpa using h9
theorem infoBlk : (Tryd.prog.info? 100).map (fun i => (i.zero, i.size, i.bytes)) = some (some (.agg #[.pointer none, .int .i64 0, .map none]), 3, 24) := by kernel_rfl
end Go.Proofs.YtbnbmjdjkadgoaaDoor.D
/-
  For the laws of decls: the walk through a method, as a relation; no walk. No condition.
-/
namespace Go.Proofs.YtbnbmjdjkadgoaaDoor.D
open Go.RowKit Go.Shelf Go.Maps Go.WideMaps
set_option linter.unusedSimpArgs false
set_option linter.unusedVariables false

/-- Where a table may be: its blocks from N0 on. -/
structure Tb (N0 N bl bm bt mb : Nat) : Prop where
  n : N0 ≤ N
  l : N0 ≤ bl
  m : N0 ≤ bm
  b : N0 ≤ mb
theorem Tz.below {N0 N bl bm bt mb : Nat} {v : Value} {ps : List Pe} {W W' : World} (h : Tz bl bm mb v.ownBlock W W') (hb : Tb N0 N bl bm bt mb) (own : OwnE N W v ps) (hs : N0 ≤ W.heap.size) : Below N0 W W' :=
  ⟨h.os, h.tape, h.output, h.size, fun k hk => h.keep k (by omega) (by have := hb.l; omega) (by have := hb.m; omega) (by have := hb.b; omega) (fun e => by have := (own.1.lt k e.symm).1; have := hb.n; omega)⟩
/-- What becomes of a table, all in all. -/
def RunIs (w : World) (N bl bm bt mb : Nat) (v : Value) (R : List En × Option En) (e : Ending) (w' : World) : Prop :=
  Tz bl bm mb v.ownBlock w w' ∧ match R.2 with
    | none => e = .returned (.bool true) ∧ ∃ v' ps', ps'.map (·.1) = R.1 ∧ AddSt w' N bl bm bt mb v' ps' ∧ (v'.ownBlock = v.ownBlock ∨ ∃ g, v'.ownBlock = some g ∧ w.heap.size ≤ g)
    | some x => e = .returned (.bool false) ∧ RowAt w' bm 30 #[.int .i64 150, .int .i64 x.file, .int .i64 x.at_]
theorem RunIs.yes {w w' : World} {N bl bm bt mb : Nat} {v v' : Value} {R : List En × Option En} {ps' : List Pe} (h : Tz bl bm mb v.ownBlock w w') (hR : R = (ps'.map (·.1), none)) (ha : AddSt w' N bl bm bt mb v' ps') (ho : v'.ownBlock = v.ownBlock ∨ ∃ g, v'.ownBlock = some g ∧ w.heap.size ≤ g) : RunIs w N bl bm bt mb v R (.returned (.bool true)) w' := by
  subst hR
  exact ⟨h, rfl, v', ps', rfl, ha, ho⟩
theorem RunIs.no {w w' : World} {N bl bm bt mb : Nat} {v : Value} {R : List En × Option En} {o : List En} {x : En} (h : Tz bl bm mb v.ownBlock w w') (hR : R = (o, some x)) (hr : RowAt w' bm 30 #[.int .i64 150, .int .i64 x.file, .int .i64 x.at_]) : RunIs w N bl bm bt mb v R (.returned (.bool false)) w' := by
  subst hR
  exact ⟨h, rfl, hr⟩
/-- A frame in memory: its node, the slice of its kids, its block. -/
structure Fk where
  t : Nd
  kv : Value
  x : Bk
def Fk.fr (f : Fk) : Fr := ⟨f.t, f.x.i, f.x.s⟩
def frs (fs : List Fk) : List Fr := fs.map Fk.fr
/-- Its node lies there: below, or it is the outermost. -/
def NodeIn (w0 : World) (nb : Nat) (n : Nd) (kv : Value) (f : Fk) : Prop := KidsAt w0 f.t.kids f.kv ∧ (Cells w0 f.x.b f.x.o f.t.hd f.kv ∨ (f.x.b = nb ∧ f.x.o = 0 ∧ f.t = n ∧ f.kv = kv))
theorem NodeIn.cells {w0 wr : World} {nb : Nat} {n : Nd} {kv : Value} {f : Fk} (h : NodeIn w0 nb n kv f) (hb : Below w0.heap.size w0 wr) (hr : RowAt wr nb 55 (n.hd.vals kv)) : Cells wr f.x.b f.x.o f.t.hd f.kv := by
  rcases h.2 with h1 | ⟨h1, h2, h3, h4⟩
  · exact h1.later hb
  · rw [h1, h2, h3, h4]; exact Cells.row hr
theorem vis_frs (fs : List Fk) (s : B8) : decide (s ∈ vis (frs fs)) = hasN (fs.reverse.map (·.x)) s := by
  unfold vis frs hasN
  rw [Bool.eq_iff_iff, decide_eq_true_iff, List.any_eq_true]
  constructor
  · intro h
    obtain ⟨f, hf, hs⟩ := List.mem_flatMap.1 h
    obtain ⟨k, hk, rfl⟩ := List.mem_map.1 hf
    exact ⟨k.x, List.mem_map.2 ⟨k, List.mem_reverse.2 hk, rfl⟩, decide_eq_true hs⟩
  · rintro ⟨x, hx, hs⟩
    obtain ⟨k, hk, rfl⟩ := List.mem_map.1 hx
    exact List.mem_flatMap.2 ⟨k.fr, List.mem_map.2 ⟨k, List.mem_reverse.1 hk, rfl⟩, of_decide_eq_true hs⟩
def Fk.inc (f : Fk) : Fk := { f with x := { f.x with i := f.x.i + 1 } }
def kidF (k : Nd) (kv : Value) (b o : Nat) : Fk := ⟨k, kv, ⟨b, o, 0, none, []⟩⟩
theorem frs_push (f : Fk) (r : List Fk) (k : Nd) (kv : Value) (b o : Nat) : frs (kidF k kv b o :: f.inc :: r) = ⟨k, 0, []⟩ :: { f.fr with i := f.fr.i + 1 } :: frs r := rfl
theorem rem_go {f : Fk} {r : List Fk} {k : Nd} (hk : f.t.kids[f.x.i]? = some k) (kv : Value) (b o : Nat) :
    rem (f :: r).length (frs (f :: r)) = (if isLoc k then [(k, decide (k.hd.text ∈ vis (frs (f :: r))))] else []) ++ rem (kidF k kv b o :: f.inc :: r).length (frs (kidF k kv b o :: f.inc :: r)) := by
  rw [frs_push]
  exact rem_push (f := f.fr) (fs := frs r) (n := (f :: r).length) hk (by simp [frs])
theorem wt_go {f : Fk} {r : List Fk} {k : Nd} (hk : f.t.kids[f.x.i]? = some k) (kv : Value) (b o : Nat) : wt (frs (kidF k kv b o :: f.inc :: r)) + 1 = wt (frs (f :: r)) := by
  rw [frs_push]
  exact wt_push (f := f.fr) (fs := frs r) hk
theorem wt_len (fs : List Fr) : fs.length ≤ wt fs := by
  induction fs with
  | nil => exact Nat.zero_le _
  | cons f fs ih => rw [wt_cons, List.length_cons]; omega
/-- The frames behind one that is done. -/
def updF (k : Nd) (mv : Option Nat) : List Fk → List Fk
  | [] => []
  | f :: fs => (if isLoc k then { f with x := { f.x with mv := mv, s := k.hd.text :: f.x.s } } else f) :: fs
theorem updF_no {k : Nd} {mv : Option Nat} (h : isLoc k = false) (r : List Fk) : updF k mv r = r := by
  cases r with
  | nil => rfl
  | cons a r =>
    show (if isLoc k then { a with x := { a.x with mv := mv, s := k.hd.text :: a.x.s } } else a) :: r = a :: r
    rw [if_neg (by rw [h]; exact Bool.false_ne_true)]
theorem updF_yes {k : Nd} {mv : Option Nat} (h : isLoc k = true) (a : Fk) (r : List Fk) : updF k mv (a :: r) = { a with x := { a.x with mv := mv, s := k.hd.text :: a.x.s } } :: r := by
  show (if isLoc k then { a with x := { a.x with mv := mv, s := k.hd.text :: a.x.s } } else a) :: r = _
  rw [if_pos h]
theorem frs_upd (k : Nd) (mv : Option Nat) (r : List Fk) : frs (updF k mv r) = upd k (frs r) := by
  cases r with
  | nil => rfl
  | cons f r =>
    show frs ((if isLoc k then { f with x := { f.x with mv := mv, s := k.hd.text :: f.x.s } } else f) :: r) = f.fr.done k :: frs r
    unfold Fr.done
    by_cases h : isLoc k
    · rw [if_pos h, if_pos h]; rfl
    · rw [if_neg h, if_neg h]; rfl
theorem rem_back {f : Fk} {r : List Fk} (h : f.t.kids[f.x.i]? = none) (mv : Option Nat) : rem (f :: r).length (frs (f :: r)) = rem (updF f.t mv r).length (frs (updF f.t mv r)) := by
  rw [frs_upd]
  have e : (updF f.t mv r).length = r.length := by cases r <;> rfl
  rw [e]
  exact rem_pop (f := f.fr) (fs := frs r) (n := r.length) h
theorem wt_back {f : Fk} {r : List Fk} (h : f.t.kids[f.x.i]? = none) (mv : Option Nat) : wt (frs (updF f.t mv r)) + 1 = wt (frs (f :: r)) := by
  rw [frs_upd, wt_upd]
  show _ = wt (f.fr :: frs r)
  rw [wt_cons, List.drop_eq_nil_of_le (by simpa [Fk.fr] using h), cntL]
  omega
/-- What lies in memory, ahead of a round. -/
structure Me (w0 w wr : World) (nb : Nat) (n : Nd) (kv : Value) (N bl bm bt mb : Nat) (v : Value) (fs : List Fk) (g cap : Nat) (cs : Array Value) (v' : Value) (ps' : List Pe) : Prop where
  row : RowSt wr nb g cap cs (fs.reverse.map (·.x))
  node : ∀ f ∈ fs, NodeIn w0 nb n kv f
  root : RowAt wr nb 55 (n.hd.vals kv)
  add : AddSt wr N bl bm bt mb v' ps'
  tz : Tz bl bm mb v.ownBlock w wr
  ob : v'.ownBlock = v.ownBlock ∨ ∃ g, v'.ownBlock = some g ∧ w.heap.size ≤ g
  hw : w.heap.size = nb
  hn : N ≤ nb
section
variable {w0 w wr W' : World} {nb : Nat} {n : Nd} {kv : Value} {N bl bm bt mb : Nat} {v : Value} {fs r : List Fk} {f : Fk} {g cap : Nat} {cs : Array Value} {v' : Value} {ps' : List Pe}
theorem tz_drop {ob : Option Nat} (h : Tz bl bm mb ob w wr) (hs : wr.heap.size ≤ W'.heap.size) (h1 : W'.os = wr.os) (h2 : W'.tape = wr.tape) (h3 : W'.output = wr.output) (hk : ∀ k, k < w.heap.size → W'.heap[k]? = wr.heap[k]?) : Tz bl bm mb ob w W' :=
  ⟨h1.trans h.os, h2.trans h.tape, h3.trans h.output, Nat.le_trans h.size hs, fun k k0 k1 k2 k3 k4 => (hk k k0).trans (h.keep k k0 k1 k2 k3 k4)⟩
theorem Me.below (h : Me w0 w wr nb n kv N bl bm bt mb v fs g cap cs v' ps') (hb : Below wr.heap.size wr W') : Me w0 w W' nb n kv N bl bm bt mb v fs g cap cs v' ps' :=
  ⟨h.row.below hb, h.node, h.root.later hb, h.add.later hb, tz_drop h.tz hb.size hb.os hb.tape hb.output fun k hk => hb.block k (Nat.lt_of_lt_of_le hk h.tz.size), h.ob, h.hw, h.hn⟩
theorem rev_cons (f : Fk) (r : List Fk) : (f :: r).reverse.map (·.x) = r.reverse.map (·.x) ++ [f.x] := by rw [List.reverse_cons, List.map_append]; rfl
theorem rev_len (r : List Fk) : (r.reverse.map (·.x)).length = r.length := by simp
theorem Me.root_ne (h : Me w0 w wr nb n kv N bl bm bt mb v fs g cap cs v' ps') : nb ≠ g := row_ne h.root h.row.row (by decide)
/-- One kid more is begun. -/
theorem Me.inc (h : Me w0 w wr nb n kv N bl bm bt mb v (f :: r) g cap cs v' ps') : ∃ cs', Me w0 w (wr.setCell ⟨g, r.length * 3 + 1, none⟩ (.int .i64 ((f.x.i : Int) + 1))) nb n kv N bl bm bt mb v (f.inc :: r) g cap cs' v' ps' := by
  have hr := h.row
  rw [rev_cons] at hr
  have hi := hr.inc
  rw [rev_len] at hi
  have hk : ∀ b, b ≠ g → (wr.setCell ⟨g, r.length * 3 + 1, none⟩ (.int .i64 ((f.x.i : Int) + 1))).heap[b]? = wr.heap[b]? := fun b hb => Below.heap_setCell _ _ _ b (by simpa using hb)
  have hlo := h.row.lo
  have hs : (wr.setCell ⟨g, r.length * 3 + 1, none⟩ (.int .i64 ((f.x.i : Int) + 1))).heap.size = wr.heap.size := by simp [World.setCell]
  refine ⟨_, ⟨by rw [rev_cons]; exact hi, fun k hk' => ?_, h.root.same (hk _ h.root_ne), h.add.kept (Nat.le_of_eq hs.symm) fun b _ hE => hk b ?_, tz_drop h.tz (Nat.le_of_eq hs.symm) rfl rfl rfl fun k k0 => hk k ?_, h.ob, h.hw, h.hn⟩⟩
  · rcases List.mem_cons.1 hk' with rfl | hk'
    · exact h.node f (by simp)
    · exact h.node k (by simp [hk'])
  · rcases hE with hE | ⟨cs, t, fr, h1, h2⟩
    · have := h.hn; omega
    · rintro rfl
      have := h.row.row
      unfold RowAt at this
      rw [this] at h1
      cases h1
      rcases h2 with h2 | h2 <;> exact absurd h2 (by decide)
  · have := h.hw; omega
/-- An entity is added. -/
theorem Me.more {p : Pe} {v2 : Value} (h : Me w0 w wr nb n kv N bl bm bt mb v fs g cap cs v' ps') (ht : Tz bl bm mb v'.ownBlock wr W') (ha : AddSt W' N bl bm bt mb v2 (ps' ++ [p])) (ho : v2.ownBlock = v'.ownBlock ∨ ∃ g, v2.ownBlock = some g ∧ wr.heap.size ≤ g) : Me w0 w W' nb n kv N bl bm bt mb v fs g cap cs v2 (ps' ++ [p]) := by
  have ne : ∀ b cs t, RowAt wr b t cs → t ≠ 27 → t ≠ 30 → t ≠ 34 → W'.heap[b]? = wr.heap[b]? := fun b cs t hr h1 h2 h3 => by
    refine ht.keep b hr.lt (row_ne hr h.add.rl h1) (row_ne hr h.add.rm h2) ?_ (own_ne h.add.own.1 hr h3)
    obtain ⟨m, _, hset⟩ := h.add.set
    obtain ⟨es, cl, hmap⟩ := hset.map
    exact row_ne_map hr hmap
  refine ⟨h.row.keep (ne g cs 100 h.row.row (by decide) (by decide) (by decide)) fun b hb ⟨es, cl, hm⟩ => ?_, h.node, h.root.same (ne nb _ 55 h.root (by decide) (by decide) (by decide)), ha, h.tz.trans ht h.ob, ?_, h.hw, h.hn⟩
  · refine ht.keep b (Array.getElem?_eq_some_iff.1 hm).1 (Ne.symm (row_ne_map h.add.rl hm)) (Ne.symm (row_ne_map h.add.rm hm)) ?_ ?_
    · have h1 := h.add.lb; have h2 := h.hn; omega
    · intro e
      rcases h.add.own.1.2 with ⟨e1, _⟩ | ⟨g2, cap2, cur, e1, _, hg, _⟩
      · rw [e1] at e; cases e
      · rw [e1] at e
        obtain rfl := Option.some.inj e
        rw [hm] at hg
        cases hg
  · rcases ho with ho | ⟨g2, h1, h2⟩
    · rw [ho]; exact h.ob
    · exact .inr ⟨g2, h1, Nat.le_trans h.tz.size h2⟩
/-- A block more. -/
theorem Me.app {g' c' b o : Nat} {k : Nd} {kkv : Value} (h : Me w0 w wr nb n kv N bl bm bt mb v fs g cap cs v' ps') (hk : NodeIn w0 nb n kv (kidF k kkv b o))
    (hown : W'.ownsRow nb 100 3 (.slice (some ⟨g', 0, none⟩) (fs.length + 1) c') (fs.length + 1) (bv (fs.reverse.map (·.x)) ++ [.pointer (some ⟨b, o, none⟩), .int .i64 0, .map none])) (hgrow : wr.grownBy W' (some g)) :
    ∃ cs', Me w0 w W' nb n kv N bl bm bt mb v (kidF k kkv b o :: fs) g' c' cs' v' ps' := by
  have hl := h.row.lo
  obtain ⟨cs', hr⟩ := h.row.app (by rw [rev_len]; exact hown) hgrow
  refine ⟨cs', by rw [rev_cons]; exact hr, fun f hf => ?_, h.root.same (hgrow.block _ h.root.lt (by have := h.root_ne; simpa using this)), h.add.kept hgrow.size fun b hb hE => hgrow.block b hb ?_, tz_drop h.tz hgrow.size hgrow.os hgrow.tape hgrow.output fun k k0 => hgrow.block k (Nat.lt_of_lt_of_le k0 h.tz.size) ?_, h.ob, h.hw, h.hn⟩
  · rcases List.mem_cons.1 hf with rfl | hf
    · exact hk
    · exact h.node f hf
  · intro e
    obtain rfl := Option.some.inj e
    rcases hE with hE | ⟨cs, t, fr, h1, h2⟩
    · have := h.hn; omega
    · have := h.row.row
      unfold RowAt at this
      rw [this] at h1
      cases h1
      rcases h2 with h2 | h2 <;> exact absurd h2 (by decide)
  · have := h.hw
    intro e
    obtain rfl := Option.some.inj e
    omega
/-- The innermost is done, and is no parameter and no local. -/
theorem Me.pop (h : Me w0 w wr nb n kv N bl bm bt mb v (f :: r) g cap cs v' ps') : Me w0 w wr nb n kv N bl bm bt mb v r g cap cs v' ps' := by
  have hr := h.row
  rw [rev_cons] at hr
  exact ⟨hr.pop, fun k hk => h.node k (by simp [hk]), h.root, h.add, h.tz, h.ob, h.hw, h.hn⟩
/-- A name is declared. -/
theorem Me.dec {b' : Nat} {nm : B8} (h : Me w0 w wr nb n kv N bl bm bt mb v (f :: r) g cap cs v' ps') (d : Dc wr g r.length cs f.x nm b' W') :
    ∃ cs', Me w0 w W' nb n kv N bl bm bt mb v ({ f with x := { f.x with mv := some b', s := nm :: f.x.s } } :: r) g cap cs' v' ps' := by
  have hr := h.row
  rw [rev_cons] at hr
  have hd := hr.dec (by have := h.hw; have := h.tz.size; omega) (by rw [rev_len]; exact d)
  have hl := h.row.lo
  have hx : ∀ b, f.x.mv = some b → nb ≤ b ∧ ∃ es cl, wr.heap[b]? = some (.map es cl) := fun b hb => by
    refine ⟨hr.maps f.x (by simp) b hb, ?_⟩
    rcases hr.ok f.x (by simp) with ⟨h1, _⟩ | ⟨c, m, h1, h2, h3⟩
    · rw [h1] at hb; cases hb
    · rw [h1] at hb; obtain rfl := Option.some.inj hb; exact h3.map
  refine ⟨_, ⟨by rw [rev_cons]; exact hd, fun k hk' => ?_, h.root.same (d.keep _ h.root.lt h.root_ne ?_), h.add.kept d.size fun b hb hE => d.keep b hb ?_ ?_, tz_drop h.tz d.size d.os d.tape d.output fun k k0 => d.keep k (Nat.lt_of_lt_of_le k0 h.tz.size) ?_ ?_, h.ob, h.hw, h.hn⟩⟩
  · rcases List.mem_cons.1 hk' with rfl | hk'
    · exact h.node f (by simp)
    · exact h.node k (by simp [hk'])
  · intro e
    obtain ⟨es, cl, hm⟩ := (hx _ e.symm).2
    exact row_ne_map h.root hm rfl
  · rcases hE with hE | ⟨cs, t, fr, h1, h2⟩
    · have := h.hn; omega
    · rintro rfl
      have := h.row.row
      unfold RowAt at this
      rw [this] at h1
      cases h1
      rcases h2 with h2 | h2 <;> exact absurd h2 (by decide)
  · intro e
    obtain ⟨h5, es, cl, hm⟩ := hx _ e.symm
    rcases hE with hE | ⟨cs, t, fr, h1, h2⟩
    · have := h.hn; omega
    · rw [hm] at h1; cases h1
  · have := h.hw; omega
  · intro e
    have h5 := (hx _ e.symm).1
    have := h.hw
    omega
end
/-- What is still to come, ahead of a round. -/
structure Pu (R : List En × Option En) (file : Int) (owner : B8) (P : Nd → Prop) (fs : List Fk) (num : Nat) (ps' : List Pe) : Prop where
  run : R = runs (ps'.map (·.1)) (locs file owner num (rem fs.length (frs fs)))
  cnt : ps'.length + (rem fs.length (frs fs)).length ≤ 1000000
  num_ : num + (rem fs.length (frs fs)).length ≤ 900000
  pr : ∀ f ∈ fs, P f.t
  last : ∀ f, fs.getLast? = some f → isLoc f.t = false
  top : ∀ f r, fs = f :: r → f.x.s.length ≤ f.x.i ∧ f.x.i ≤ f.t.kids.length
  oth : ∀ f r, fs = f :: r → ∀ f' ∈ r, f'.x.s.length + 1 ≤ f'.x.i ∧ f'.x.i ≤ f'.t.kids.length
  wt_ : wt (frs fs) ≤ 2000000
section
variable {R : List En × Option En} {file : Int} {owner : B8} {P : Nd → Prop} {f : Fk} {r : List Fk} {num : Nat} {ps' : List Pe} {k : Nd} {kv : Value} {b o : Nat}
theorem Pu.next_ (h : Pu R file owner P (f :: r) num ps') (hP : ∀ t, P t → ∀ k ∈ t.kids, P k) (hk : f.t.kids[f.x.i]? = some k) :
    (∀ x ∈ kidF k kv b o :: f.inc :: r, P x.t) ∧ (∀ x, (kidF k kv b o :: f.inc :: r).getLast? = some x → isLoc x.t = false) ∧ (∀ x s, kidF k kv b o :: f.inc :: r = x :: s → x.x.s.length ≤ x.x.i ∧ x.x.i ≤ x.t.kids.length) ∧
      (∀ x s, kidF k kv b o :: f.inc :: r = x :: s → ∀ f' ∈ s, f'.x.s.length + 1 ≤ f'.x.i ∧ f'.x.i ≤ f'.t.kids.length) ∧ wt (frs (kidF k kv b o :: f.inc :: r)) ≤ 2000000 := by
  have hlt := (List.getElem?_eq_some_iff.1 hk).1
  have ht := h.top f r rfl
  refine ⟨fun x hx => ?_, fun x hx => ?_, fun x s hx => ?_, fun x s hx f' hf' => ?_, ?_⟩
  · rcases List.mem_cons.1 hx with rfl | hx
    · exact hP f.t (h.pr f (by simp)) k (List.mem_of_getElem? hk)
    · rcases List.mem_cons.1 hx with rfl | hx
      · exact h.pr f (by simp)
      · exact h.pr x (by simp [hx])
  · rw [List.getLast?_cons_cons] at hx
    cases r with
    | nil =>
      obtain rfl : f.inc = x := by simpa using hx
      exact h.last f rfl
    | cons a r =>
      rw [List.getLast?_cons_cons] at hx
      exact h.last x (by rw [List.getLast?_cons_cons]; exact hx)
  · injection hx with h1 h2
    subst h1
    exact ⟨Nat.le_refl _, Nat.zero_le _⟩
  · injection hx with h1 h2
    subst h2
    rcases List.mem_cons.1 hf' with rfl | hf'
    · exact ⟨by have := ht.1; simp only [Fk.inc]; omega, by simp only [Fk.inc]; omega⟩
    · exact h.oth f r rfl f' hf'
  · have := wt_go (r := r) hk kv b o
    have := h.wt_
    omega
theorem Pu.go (h : Pu R file owner P (f :: r) num ps') (hP : ∀ t, P t → ∀ k ∈ t.kids, P k) (hk : f.t.kids[f.x.i]? = some k) (hl : isLoc k = false) : Pu R file owner P (kidF k kv b o :: f.inc :: r) num ps' := by
  obtain ⟨h1, h2, h3, h4, h5⟩ := h.next_ (kv := kv) (b := b) (o := o) hP hk
  have e := rem_go (r := r) hk kv b o
  rw [if_neg (by rw [hl]; exact Bool.false_ne_true), List.nil_append] at e
  exact ⟨by rw [← e]; exact h.run, by rw [← e]; exact h.cnt, by rw [← e]; exact h.num_, h1, h2, h3, h4, h5⟩
theorem Pu.run_loc (h : Pu R file owner P (f :: r) num ps') (hk : f.t.kids[f.x.i]? = some k) (hl : isLoc k = true) :
    R = if step (ps'.map (·.1)) (ent 4 file k (idL owner num) owner) (decide (k.hd.text ∈ vis (frs (f :: r)))) then (ps'.map (·.1), some (ent 4 file k (idL owner num) owner))
      else runs (ps'.map (·.1) ++ [ent 4 file k (idL owner num) owner]) (locs file owner (num + 1) (rem (kidF k kv b o :: f.inc :: r).length (frs (kidF k kv b o :: f.inc :: r)))) := by
  rw [h.run, rem_go (r := r) hk kv b o, if_pos hl, List.singleton_append, locs, locE, runs]
theorem Pu.goLoc {pv : Value} (h : Pu R file owner P (f :: r) num ps') (hP : ∀ t, P t → ∀ k ∈ t.kids, P k) (hk : f.t.kids[f.x.i]? = some k) (hl : isLoc k = true)
    (hs : step (ps'.map (·.1)) (ent 4 file k (idL owner num) owner) (decide (k.hd.text ∈ vis (frs (f :: r)))) = false) : Pu R file owner P (kidF k kv b o :: f.inc :: r) (num + 1) (ps' ++ [(ent 4 file k (idL owner num) owner, pv)]) := by
  obtain ⟨h1, h2, h3, h4, h5⟩ := h.next_ (kv := kv) (b := b) (o := o) hP hk
  have e := rem_go (r := r) hk kv b o
  rw [if_pos hl] at e
  have e2 := congrArg List.length e
  rw [List.length_append, List.length_singleton] at e2
  have hc := h.cnt
  have hn := h.num_
  refine ⟨?_, by rw [List.length_append, List.length_singleton]; omega, by omega, h1, h2, h3, h4, h5⟩
  rw [h.run_loc (kv := kv) (b := b) (o := o) hk hl, if_neg (by rw [hs]; exact Bool.false_ne_true), List.map_append]
  rfl
theorem Pu.stop (h : Pu R file owner P (f :: r) num ps') (hk : f.t.kids[f.x.i]? = some k) (hl : isLoc k = true)
    (hs : step (ps'.map (·.1)) (ent 4 file k (idL owner num) owner) (decide (k.hd.text ∈ vis (frs (f :: r)))) = true) : R = (ps'.map (·.1), some (ent 4 file k (idL owner num) owner)) := by
  rw [h.run_loc (kv := .map none) (b := 0) (o := 0) hk hl, if_pos hs]
theorem Pu.back (h : Pu R file owner P (f :: r) num ps') (hk : f.t.kids[f.x.i]? = none) (mv : Option Nat) : Pu R file owner P (updF f.t mv r) num ps' := by
  have e := rem_back (r := r) hk mv
  have w1 := wt_back (r := r) hk mv
  have hw := h.wt_
  refine ⟨by rw [← e]; exact h.run, by rw [← e]; exact h.cnt, by rw [← e]; exact h.num_, ?_, ?_, ?_, ?_, by omega⟩
  · intro x hx
    cases r with
    | nil => cases hx
    | cons a r =>
      rcases List.mem_cons.1 hx with rfl | hx
      · have := h.pr a (by simp)
        split <;> exact this
      · exact h.pr x (by simp [hx])
  · intro x hx
    cases r with
    | nil => cases hx
    | cons a r =>
      unfold updF at hx
      cases r with
      | nil =>
        have ha := h.last a (by simp)
        simp only [List.getLast?_singleton, Option.some.injEq] at hx
        subst hx
        split <;> exact ha
      | cons c r =>
        rw [List.getLast?_cons_cons] at hx
        exact h.last x (by rw [List.getLast?_cons_cons, List.getLast?_cons_cons]; exact hx)
  · intro x s hx
    cases r with
    | nil => cases hx
    | cons a r =>
      have ha := h.oth f _ rfl a (by simp)
      unfold updF at hx
      injection hx with h1 h2
      subst h1
      split
      · exact ⟨by simp only [List.length_cons]; omega, ha.2⟩
      · exact ⟨by omega, ha.2⟩
  · intro x s hx f' hf'
    cases r with
    | nil => cases hx
    | cons a r =>
      unfold updF at hx
      injection hx with h1 h2
      subst h2
      exact h.oth f _ rfl f' (by simp [hf'])
theorem Pu.done (h : Pu R file owner P [] num ps') : R = (ps'.map (·.1), none) := h.run
end
end Go.Proofs.YtbnbmjdjkadgoaaDoor.D
