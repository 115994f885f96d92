/-
  Texts as lists of bytes; a Builder of the call's own; slices of texts. Condition: at most 2 to the 47 bytes in all.
-/
import Derived.WalkKit
import Derived.WalkSpells
import Derived.WalkMore
import Derived.Lib.Hide
import Derived.Lib.IndexMore
import Derived.Lib.IndexBytes
import Derived.Deep.QuietTactic
import Derived.Deep.AppendLies
import Derived.BigQuiet
import Derived.IntWalk
import Derived.Laws.AppendOwn
import Derived.RangeFuncBox
import Derived.Lib.Builder
import Derived.Laws.ResultCell
import Derived.Laws.Rows
import Derived.Test.YtbekbllffphfeaaDoorShelf
namespace Go.Proofs.YtbekbllffphfeaaDoor
open Go.RowKit Go.Shelf
set_option linter.unusedSimpArgs false

abbrev tl (s : ByteArray) : List UInt8 := s.data.toList
theorem tl_length (s : ByteArray) : (tl s).length = s.size := by simp [tl]
abbrev bs (l : List UInt8) : ByteArray := ⟨l.toArray⟩
theorem tl_bs (l : List UInt8) : tl (bs l) = l := by simp [tl]
theorem bs_tl (s : ByteArray) : bs (tl s) = s := by cases s; simp [tl, bs]
theorem bs_size (l : List UInt8) : (bs l).size = l.length := by rw [← tl_length, tl_bs]
theorem add_flat (b off j : Nat) : (⟨b, off, none⟩ : Addr).add j = ⟨b, off + j, none⟩ := by
  by_cases h0 : j = 0 <;> simp [Addr.add, h0]
theorem below_draws {B : Nat} {a w : World} (h : Below B a w) (q : Nat) : Below B a (w.drewN q) := ⟨h.os, h.tape, h.output, h.size, h.block⟩

theorem own_below {W W' : World} {base e size n : Nat} {v : Value} {xs : List Value} (h : W.ownsRow base e size v n xs) (hb : Below W.heap.size W W') : W'.ownsRow base e size v n xs := by
  refine ⟨h.1, ?_⟩
  rcases h.2 with h0 | ⟨g, cap, cur, e1, h1, hg, h2, h3, h4, h5⟩
  · exact .inl h0
  · exact .inr ⟨g, cap, cur, e1, h1, (hb.block _ (Array.getElem?_eq_some_iff.1 hg).1).trans hg, h2, h3, h4, h5⟩
theorem sizeBuilder : (Tryd.prog.info? 74).map (·.size) = some 2 := by kernel_rfl
theorem liesBuilder : liesAt Tryd.prog Tryd.prog.depth 74 (2 / Tryd.prog.cellsOf 74) 0 74 1 = true := by kernel_rfl
theorem infoByte : (Tryd.prog.info? 5).map (fun i => (i.zero, i.size, i.bytes)) = some (some (.int .u8 0), 1, 1) := by kernel_rfl

set_option maxHeartbeats 1000000 in
set_option maxRecDepth 100000 in
theorem copyCheck_used (b : Nat) (w : World) (h0 : w.cell? ⟨b, 0, none⟩ = some (.pointer (some ⟨b, 0, none⟩))) :
    Calls Tryd.prog 42 #[.pointer (some ⟨b, 0, none⟩)] w fun e w' => e = .returned (.tuple #[]) ∧ w' = w := by
  obtain ⟨j, hj, _⟩ := Option.map_eq_some_iff.1 sizeBuilder
  go_enter Tryd.func42, Tryd.ntmps42
  go_wp2
  rw [Lib.run_neq_ptr_same _ _ Tryd.underlying71 hj]
  go_wp2
  go_end0
  exact ⟨rfl, rfl⟩
set_option maxHeartbeats 1000000 in
set_option maxRecDepth 100000 in
theorem copyCheck_fresh (b : Nat) (w : World) (h0 : w.cell? ⟨b, 0, none⟩ = some (.pointer none)) (hsh : w.shape? b = some (74, 2)) (hfz : w.frozen? ⟨b, 0, none⟩ = false) :
    Calls Tryd.prog 42 #[.pointer (some ⟨b, 0, none⟩)] w fun e w' => e = .returned (.tuple #[]) ∧ w' = w.setCell ⟨b, 0, none⟩ (.pointer (some ⟨b, 0, none⟩)) := by
  obtain ⟨j, hj, hjs⟩ := Option.map_eq_some_iff.1 sizeBuilder
  go_enter Tryd.func42, Tryd.ntmps42
  go_wp2
  rw [Lib.run_to_unsafe _ ⟨b, 0, none⟩ Tryd.underlying71 Tryd.underlying112 hj (by rw [hjs]; decide) hsh (Nat.zero_lt_succ 1)]
  simp only [Result.andThen]
  rw [Oper.upon_value]
  go_wp2
  rw [run_callFunc_extern Tryd.func53 (by kernel_rfl) (by kernel_rfl) (by kernel_rfl) (e := Extern.AbiNoEscape.same) (by kernel_rfl)]
  rw [Lib.run_noEscape]
  simp only [Result.andThen]
  rw [Oper.upon_value]
  go_wp2
  rw [Lib.run_from_unsafe _ ⟨b, 0, none⟩ Tryd.underlying112 Tryd.underlying71 hj hsh liesBuilder]
  simp only [Result.andThen]
  rw [Oper.upon_value]
  go_wp2
  go_end0
  exact ⟨rfl, rfl⟩
theorem own_slice {W : World} {base e size n : Nat} {v : Value} {xs : List Value} (h : W.ownsRow base e size v n xs) : ∃ ao n' cap, v = .slice ao n' cap := by
  rcases h.2 with ⟨hv, _⟩ | ⟨g, cap, cur, hv, _⟩
  · exact ⟨_, _, _, hv⟩
  · exact ⟨_, _, _, hv⟩

theorem copyCheck_k (B b : Nat) (xs : List Value) (w : World) (h : Lib.IsBuilder 74 5 B b xs w) :
    Calls Tryd.prog 42 #[.pointer (some ⟨b, 0, none⟩)] w fun e w' => e = .returned (.tuple #[]) ∧ Lib.BuilderAt 74 5 B b (.pointer (some ⟨b, 0, none⟩)) xs w' ∧ Below B w w' ∧ ∀ q, q ≠ b → w'.heap[q]? = w.heap[q]? := by
  rcases h with h | h
  · refine (copyCheck_fresh b w h.cell0 h.shape h.frozen0).mono ?_
    rintro e w' ⟨rfl, rfl⟩
    exact ⟨rfl, h.used _, (Below.refl B w).setCell (p := ⟨b, 0, none⟩) h.1 _, fun q hq => Below.heap_setCell _ _ _ _ (by simpa using hq)⟩
  · refine (copyCheck_used b w h.cell0).mono ?_
    rintro e w' ⟨rfl, rfl⟩
    exact ⟨rfl, h, Below.refl B _, fun _ _ => rfl⟩

/-- Behind a write: what the builder holds, what lies below, and each block of another kind. -/
def Writes (B b : Nat) (ys : List Value) (w : World) (n : Nat) (e : Ending) (w' : World) : Prop :=
  e = .returned (.tuple #[.int .i64 n, .nilIface]) ∧ Lib.BuilderAt 74 5 B b (.pointer (some ⟨b, 0, none⟩)) ys w' ∧ Below B w w' ∧ ∀ q cs t m, w.heap[q]? = some (.cells cs t m) → t ≠ 5 → q ≠ b → w'.heap[q]? = w.heap[q]?
set_option maxHeartbeats 1000000 in
set_option maxRecDepth 100000 in
theorem WriteString_k (B b : Nat) (xs : List Value) (s : ByteArray) (w : World) (h : Lib.IsBuilder 74 5 B b xs w) (hlen : xs.length + s.size ≤ 140737488355328) (hBw : B ≤ w.heap.size) :
    Calls Tryd.prog 30 #[.pointer (some ⟨b, 0, none⟩), .string s] w (Writes B b (xs ++ Lib.strCells s) w s.size) := by
  obtain ⟨i0, hi, hz0, hz1, hz2⟩ := info_parts infoByte
  go_enter Tryd.func30, Tryd.ntmps30
  go_wp2_with (go_at_call 42; refine (copyCheck_k B b xs _ h).mono ?_)
  rintro e w1 ⟨rfl, h1, hb1, hq1⟩
  obtain ⟨hB, v, hbk, hown, hne⟩ := h1
  have c0 : w1.cell? ⟨b, 0, none⟩ = some (.pointer (some ⟨b, 0, none⟩)) := by rw [Lib.cell_of_heap hbk]; rfl
  have c1 : w1.cell? ⟨b, 1, none⟩ = some v := by rw [Lib.cell_of_heap hbk]; rfl
  have hs1 := hb1.size
  have Hq1 := Lib.hid hq1; clear hq1
  go_wp2_with (at_builtin; refine Lib.wpList_append_own_string _ rfl _ _ 72 9 rfl B 5 i0 Tryd.underlying72 Tryd.underlying9 hi hz0 hz1 hz2 _ _ _ rfl hown s rfl (by unfold maxLen; omega) (by omega) (by omega) ?_; intro v' w2 hown' hgrow _; have hlt : b < w1.heap.size := (Array.getElem?_eq_some_iff.1 hbk).1; have hb2 : w2.heap[b]? = some (.cells #[.pointer (some ⟨b, 0, none⟩), v] 74 (0, 0)) := (hgrow.block b hlt (fun e => hne e.symm)).trans hbk; have d0 : w2.cell? ⟨b, 0, none⟩ = some (.pointer (some ⟨b, 0, none⟩)) := (by rw [Lib.cell_of_heap hb2]; rfl); have d1 : w2.cell? ⟨b, 1, none⟩ = some v := (by rw [Lib.cell_of_heap hb2]; rfl); have f1 : w2.frozen? ⟨b, 1, none⟩ = false := Lib.frozen_of_heap hb2 1; obtain ⟨ao, n', cap, rfl⟩ := own_slice hown')
  go_ret2
  refine ⟨rfl, ?_, ?_, ?_⟩
  · exact Lib.BuilderAt.put (T := 74) (e := 5) hB hb2 (bs' := xs ++ Lib.strCells s) (by simpa [Lib.strCells_length] using hown') (by decide)
  · exact (hb1.grown hgrow (by omega) (fun k hk => (hown.lt k hk).1)).setCell (p := ⟨b, 1, none⟩) hB _
  · intro q cs t m hq ht hqb
    have hq1 := Hq1.out q hqb
    rw [Below.heap_setCell _ _ _ _ (by simpa using hqb)]
    have hq2 : w1.heap[q]? = some (.cells cs t m) := hq1.trans hq
    have hg2 : w1.grownBy w2 v.ownBlock := hgrow
    rw [hg2.block q (Array.getElem?_eq_some_iff.1 hq2).1 ?_, hq1]
    intro e
    rcases hown.2 with ⟨rfl, _⟩ | ⟨g, cap, cur, rfl, _, hg, _⟩
    · simp [Value.ownBlock] at e
    · obtain rfl : q = g := by simpa [Value.ownBlock] using e
      rw [hq2] at hg
      simp at hg
      exact ht hg.2.1
theorem strCells_bs (l : List UInt8) : Lib.strCells (bs l) = Lib.byteCells l := by
  simp [Lib.strCells, Lib.byteCells]
theorem byteCells_append (a b : List UInt8) : Lib.byteCells (a ++ b) = Lib.byteCells a ++ Lib.byteCells b := by simp [Lib.byteCells]
theorem byteCells_length (a : List UInt8) : (Lib.byteCells a).length = a.length := by simp [Lib.byteCells]
theorem builder_new (w : World) : Lib.IsBuilder 74 5 w.heap.size w.heap.size [] (w.alloc (.cells #[.pointer none, .slice none 0 0] 74)) :=
  .inl ⟨Nat.le_refl _, .slice none 0 0, World.alloc_heap_new w _, World.ownsRow_nil _ _ _ _, by simp [Value.ownBlock]⟩

theorem builder_below {B b : Nat} {xs : List Value} {w w' : World} (h : Lib.IsBuilder 74 5 B b xs w) (hb : Below w.heap.size w w') : Lib.IsBuilder 74 5 B b xs w' := by
  have one : ∀ p, Lib.BuilderAt 74 5 B b p xs w → Lib.BuilderAt 74 5 B b p xs w' := by
    rintro p ⟨h1, v, h2, h3, h4⟩
    exact ⟨h1, v, (hb.block _ (Array.getElem?_eq_some_iff.1 h2).1).trans h2, own_below h3 hb, h4⟩
  exact h.imp (one _) (one _)
theorem infoStr : (Tryd.prog.info? 9).map (fun i => (i.zero, i.size, i.bytes)) = some (some (.string ⟨#[]⟩), 1, 16) := by kernel_rfl
def RowAt (W : World) (b : Nat) (t : TypeId) (vs : Array Value) : Prop := W.heap[b]? = some (.cells vs t (0, 0))
section
variable {W W' : World} {b : Nat} {t : TypeId} {vs : Array Value}
theorem RowAt.lt (h : RowAt W b t vs) : b < W.heap.size := (Array.getElem?_eq_some_iff.1 h).1
theorem RowAt.cell (h : RowAt W b t vs) {j : Nat} {v : Value} (hj : vs[j]? = some v) : W.cell? ⟨b, j, none⟩ = some v := by
  simp [World.cell?, show W.heap[b]? = _ from h, hj]
theorem RowAt.frozen (h : RowAt W b t vs) (j : Nat) : W.frozen? ⟨b, j, none⟩ = false := by
  simp [World.frozen?, show W.heap[b]? = _ from h]
theorem RowAt.new (W : World) (t : TypeId) (vs : Array Value) : RowAt (W.alloc (.cells vs t)) W.heap.size t vs := by
  show (W.heap.push _)[W.heap.size]? = _
  simp
theorem RowAt.later (h : RowAt W b t vs) (hb : Below W.heap.size W W') : RowAt W' b t vs := (hb.block b h.lt).trans h
theorem RowAt.alloc (h : RowAt W b t vs) (o : Obj) : RowAt (W.alloc o) b t vs := (Below.heap_alloc W o b h.lt).trans h
theorem RowAt.other (h : RowAt W b t vs) {c : Nat} (hne : b ≠ c) (j : Nat) (v : Value) : RowAt (W.setCell ⟨c, j, none⟩ v) b t vs :=
  (Below.heap_setCell W ⟨c, j, none⟩ v b (by simpa using hne)).trans h
theorem RowAt.set (h : RowAt W b t vs) (j : Nat) (v : Value) : RowAt (W.setCell ⟨b, j, none⟩ v) b t (vs.setIfInBounds j v) := by
  obtain ⟨hlt, hk⟩ := Array.getElem?_eq_some_iff.1 h
  show (W.heap.modify b _)[b]? = _
  rw [Array.getElem?_eq_getElem (by rw [Array.size_modify]; exact hlt), Array.getElem_modify_self, hk]
  rfl
end
end Go.Proofs.YtbekbllffphfeaaDoor
/-
  For the laws of weave: a slice of parts. Condition: as handed in.
-/
namespace Go.Proofs.YtbekbllffphfeaaDoor
open Go.RowKit Go.Shelf
set_option linter.unusedSimpArgs false
set_option linter.unusedVariables false

abbrev By := List UInt8
/-- A part: its three texts, and whether it is a clash. -/
structure Pt where
  clash : Bool
  o : By
  a : By
  b : By
deriving DecidableEq
def rowP (p : Pt) : List Value := [.bool p.clash, .string (bs p.o), .string (bs p.a), .string (bs p.b)]
/-- The value v is a slice that reads as the parts L. -/
def Prts (W : World) (v : Value) (L : List Pt) : Prop :=
  ∃ (a : Option Addr) (cap : Nat), v = .slice a L.length cap ∧ L.length ≤ cap ∧ cap ≤ maxLen ∧ ∀ k (p : Pt), L[k]? = some p → ∃ b off, a = some ⟨b, off, none⟩ ∧ b < W.heap.size ∧ W.cell? ⟨b, off + k * 4, none⟩ = some (.bool p.clash) ∧ W.cell? ⟨b, off + k * 4 + 1, none⟩ = some (.string (bs p.o)) ∧ W.cell? ⟨b, off + k * 4 + 2, none⟩ = some (.string (bs p.a)) ∧ W.cell? ⟨b, off + k * 4 + 3, none⟩ = some (.string (bs p.b))
theorem Prts.below {W W' : World} {v : Value} {L : List Pt} (h : Prts W v L) (hb : Below W.heap.size W W') : Prts W' v L := by
  obtain ⟨a, cap, rfl, hc, hm, hx⟩ := h
  refine ⟨a, cap, rfl, hc, hm, fun k x hk => ?_⟩
  obtain ⟨b, off, rfl, hl, h1, h2, h3, h4⟩ := hx k x hk
  exact ⟨b, off, rfl, by have := hb.size; omega, (hb.cell (p := ⟨b, off + k * 4, none⟩) hl).trans h1, (hb.cell (p := ⟨b, off + k * 4 + 1, none⟩) hl).trans h2, (hb.cell (p := ⟨b, off + k * 4 + 2, none⟩) hl).trans h3, (hb.cell (p := ⟨b, off + k * 4 + 3, none⟩) hl).trans h4⟩
def pv (L : List Pt) : List Value := L.flatMap rowP
theorem pv_len (L : List Pt) : (pv L).length = L.length * 4 := by
  unfold pv
  induction L with
  | nil => rfl
  | cons x L ih => rw [List.flatMap_cons, List.length_append, ih, List.length_cons]; simp [rowP]; omega
theorem pv_append (A B : List Pt) : pv (A ++ B) = pv A ++ pv B := by unfold pv; rw [List.flatMap_append]
theorem drop_at {α : Type} {L : List α} {k : Nat} {x : α} (h : L[k]? = some x) : L.drop k = x :: L.drop (k + 1) := by
  obtain ⟨hk, rfl⟩ := List.getElem?_eq_some_iff.1 h
  exact List.drop_eq_getElem_cons hk
theorem pv_get {L : List Pt} {k : Nat} {x : Pt} (h : L[k]? = some x) : (pv L)[k * 4]? = some (.bool x.clash) ∧ (pv L)[k * 4 + 1]? = some (.string (bs x.o)) ∧ (pv L)[k * 4 + 2]? = some (.string (bs x.a)) ∧ (pv L)[k * 4 + 3]? = some (.string (bs x.b)) := by
  have e : L = L.take k ++ x :: L.drop (k + 1) := by
    rw [← drop_at h, List.take_append_drop]
  have hl : (pv (L.take k)).length = k * 4 := by
    rw [pv_len, List.length_take, Nat.min_eq_left (Nat.le_of_lt (List.getElem?_eq_some_iff.1 h).1)]
  have e2 : pv L = pv (L.take k) ++ (rowP x ++ pv (L.drop (k + 1))) := by
    conv => lhs; rw [e]
    unfold pv
    rw [List.flatMap_append, List.flatMap_cons]
  rw [e2]
  refine ⟨?_, ?_, ?_, ?_⟩
  · rw [List.getElem?_append_right (by omega), hl, Nat.sub_self]; rfl
  · rw [List.getElem?_append_right (by omega), hl, Nat.add_sub_cancel_left]; rfl
  · rw [List.getElem?_append_right (by omega), hl, Nat.add_sub_cancel_left]; rfl
  · rw [List.getElem?_append_right (by omega), hl, Nat.add_sub_cancel_left]; rfl
theorem own_prts {W : World} {base n : Nat} {v : Value} {L : List Pt} (h : W.ownsRow base 52 4 v n (pv L)) : Prts W v L := by
  have hl := h.1
  rw [pv_len] at hl
  obtain rfl : n = L.length := by omega
  rcases h.2 with ⟨rfl, h0⟩ | ⟨g, cap, cur, rfl, _, hg, h1, h2, h3, h4⟩
  · obtain rfl : L = [] := List.eq_nil_of_length_eq_zero h0
    exact ⟨none, 0, rfl, Nat.le_refl _, Nat.zero_le _, by simp⟩
  · refine ⟨_, cap, rfl, h1, h2, fun k x hk => ⟨g, 0, rfl, (Array.getElem?_eq_some_iff.1 hg).1, ?_⟩⟩
    have hkl := (List.getElem?_eq_some_iff.1 hk).1
    obtain ⟨g1, g2, g3, g4⟩ := pv_get hk
    rw [Nat.zero_add]
    refine ⟨?_, ?_, ?_, ?_⟩
    · rw [← g1, ← h4, List.getElem?_take_of_lt (by omega)]
      simp [World.cell?, hg]
    · rw [← g2, ← h4, List.getElem?_take_of_lt (by omega)]
      simp [World.cell?, hg]
    · rw [← g3, ← h4, List.getElem?_take_of_lt (by omega)]
      simp [World.cell?, hg]
    · rw [← g4, ← h4, List.getElem?_take_of_lt (by omega)]
      simp [World.cell?, hg]
theorem infoPt : (Tryd.prog.info? 52).map (fun i => (i.zero, i.size, i.bytes)) = some (some (.agg #[.bool false, .string ⟨#[]⟩, .string ⟨#[]⟩, .string ⟨#[]⟩]), 4, 56) := by kernel_rfl
theorem prts_nil (W : World) : Prts W (.slice none 0 0) [] := ⟨none, 0, rfl, Nat.le_refl _, Nat.zero_le _, by simp⟩
/-- What of a part a side has. -/
def Pt.side (n : Int) (p : Pt) : By := if n = 0 then p.o else if n = 1 then p.a else if n = 2 then p.b else []
def sideP (l : List Pt) (n : Int) : By := l.flatMap (Pt.side n)
def clashP (l : List Pt) : Bool := l.any Pt.clash
def joinP (l : List Pt) : By × Bool := if clashP l then ([], false) else (sideP l 1, true)
theorem prts_at {w : World} {v : Value} {L : List Pt} (h : Prts w v L) : ∃ (a : Option Addr) (cap : Nat), v = .slice a L.length cap ∧ L.length ≤ cap ∧ cap ≤ maxLen ∧ ∀ (wr : World), Below w.heap.size w wr → ∀ (k : Nat) (p : Pt), L[k]? = some p → ∃ b off, a = some ⟨b, off, none⟩ ∧ wr.cell? ⟨b, off + k * 4, none⟩ = some (.bool p.clash) ∧ wr.cell? ⟨b, off + k * 4 + 1, none⟩ = some (.string (bs p.o)) ∧ wr.cell? ⟨b, off + k * 4 + 2, none⟩ = some (.string (bs p.a)) ∧ wr.cell? ⟨b, off + k * 4 + 3, none⟩ = some (.string (bs p.b)) := by
  obtain ⟨a, cap, rfl, hc, hm, hx⟩ := h
  refine ⟨a, cap, rfl, hc, hm, fun wr hB k p hk => ?_⟩
  obtain ⟨b, off, rfl, hl, h1, h2, h3, h4⟩ := hx k p hk
  exact ⟨b, off, rfl, (hB.cell (p := ⟨b, off + k * 4, none⟩) hl).trans h1, (hB.cell (p := ⟨b, off + k * 4 + 1, none⟩) hl).trans h2, (hB.cell (p := ⟨b, off + k * 4 + 2, none⟩) hl).trans h3, (hB.cell (p := ⟨b, off + k * 4 + 3, none⟩) hl).trans h4⟩
theorem get_lt {α : Type} {l : List α} {k : Nat} (h : k < l.length) : ∃ x, l[k]? = some x := ⟨_, List.getElem?_eq_getElem h⟩

set_option maxRecDepth 100000 in
set_option maxHeartbeats 4000000 in
theorem clashes_any (v : Value) (L : List Pt) (w : World) (h : Prts w v L) : Calls Tryd.prog 37 #[v] w fun e w' => e = .returned (.bool (clashP L)) ∧ Below w.heap.size w w' := by
  obtain ⟨a, cap, rfl, hc, hm, hx⟩ := prts_at h
  have HX := Lib.hid hx
  clear hx h
  unfold maxLen at hm
  obtain ⟨n, hn⟩ : ∃ n, Hid (L.length = n) := ⟨_, Lib.hid rfl⟩
  rw [hn.out] at hc ⊢
  go_enter Tryd.func37, Tryd.ntmps37
  go_wp2_with fail
  go_loopw [7] (fun c wr => ∃ k : Nat, c = .int .i64 k ∧ k ≤ n ∧ Hid (clashP (L.take k) = false) ∧ Hid (Below w.heap.size w wr)) (fun c _ => n + 1 - (intOf c).toNat)
  case atStart => exact ⟨0, rfl, Nat.zero_le _, Lib.hid rfl, Lib.hid (Below.refl _ _)⟩
  case round =>
    obtain ⟨k, rfl, hk, hP, hB⟩ := hrel
    rcases Nat.lt_or_ge k n with hkn | hkn
    · obtain ⟨p, hp⟩ := get_lt (l := L) (k := k) (by rw [hn.out]; exact hkn)
      obtain ⟨b, off, rfl, e0, e1, e2, e3⟩ := HX.out wr hB.out k p hp
      have d1 : decide (k < n) = true := decide_eq_true hkn
      have d2 : (0 : Int) ≤ (k : Int) := by omega
      have d3 : (k : Int) < (n : Int) := by omega
      have Hp := Lib.hid hp
      clear hp
      have B1 : Hid (∀ o, Below w.heap.size w (wr.alloc o)) := Lib.hid (fun o => hB.out.alloc hB.out.size o)
      cases hcl : p.clash with
      | true =>
        rw [hcl] at e0
        have hall : Hid (clashP L = true) := Lib.hid (by unfold clashP; rw [List.any_eq_true]; exact ⟨p, List.mem_of_getElem? Hp.out, hcl⟩)
        go_wp2_with fail
        go_ret
        exact ⟨by rw [hall.out]; rfl, B1.out _⟩
      | false =>
        rw [hcl] at e0
        have hnx : Hid (clashP (L.take (k + 1)) = false) := Lib.hid (by
          have h1 := hP.out
          unfold clashP at h1 ⊢
          rw [List.take_add_one, Hp.out, List.any_append, h1]
          simp [hcl])
        go_wp2_with fail
        exact ⟨⟨k + 1, by go_num, by omega, hnx, Lib.hid (B1.out _)⟩, by simp [intOf]; omega⟩
    · have d1 : decide (k < n) = false := decide_eq_false (by omega)
      have hall : Hid (clashP L = false) := Lib.hid (by have h1 := hP.out; rwa [List.take_of_length_le (by rw [hn.out]; exact hkn)] at h1)
      go_wp2_with fail
      go_ret
      exact ⟨by rw [hall.out]; rfl, hB.out⟩
end Go.Proofs.YtbekbllffphfeaaDoor
/-
  For the laws of weave: one side of parts, and the text of parts that don't clash, by the program. Condition: at most 72,000 parts of texts of at most 1,000,000 bytes each.
-/
namespace Go.Proofs.YtbekbllffphfeaaDoor
open Go.RowKit Go.Shelf
set_option linter.unusedSimpArgs false
set_option linter.unusedVariables false

def okS (p : Pt) : Prop := p.o.length ≤ 1000000 ∧ p.a.length ≤ 1000000 ∧ p.b.length ≤ 1000000
theorem side_le {p : Pt} (h : okS p) (n : Int) : (p.side n).length ≤ 1000000 := by
  obtain ⟨h1, h2, h3⟩ := h
  unfold Pt.side
  split
  · exact h1
  split
  · exact h2
  split
  · exact h3
  · simp
theorem sideP_take {L : List Pt} {k : Nat} {p : Pt} (h : L[k]? = some p) (n : Int) : sideP (L.take (k + 1)) n = sideP (L.take k) n ++ p.side n := by
  unfold sideP
  rw [List.take_add_one, h, List.flatMap_append]; simp
theorem sideP_le {L : List Pt} (h : ∀ p ∈ L, okS p) (n : Int) : (sideP L n).length ≤ L.length * 1000000 := by
  unfold sideP
  induction L with
  | nil => simp
  | cons x L ih =>
    have h1 := side_le (h x (by simp)) n
    have h2 := ih (fun p hp => h p (by simp [hp]))
    rw [List.flatMap_cons, List.length_append, List.length_cons, Nat.add_mul]
    omega
theorem sideP_take_le {L : List Pt} (h : ∀ p ∈ L, okS p) (n : Int) (hl : L.length ≤ 100000) (k : Nat) : (sideP (L.take k) n).length ≤ 100000000000 := by
  have h1 := sideP_le (L := L.take k) (fun p hp => h p (List.mem_of_mem_take hp)) n
  have h2 : (L.take k).length ≤ 100000 := Nat.le_trans (List.length_take_le' _ _) hl
  omega
set_option maxRecDepth 100000 in
set_option maxHeartbeats 8000000 in
theorem Side_any (v : Value) (L : List Pt) (n : Int) (hl : L.length ≤ 100000) (hok : ∀ p ∈ L, okS p) (w : World) (hv : Prts w v L) :
    Calls Tryd.prog 19 #[v, .int .i64 n] w fun e w' => e = .returned (.string (bs (sideP L n))) ∧ Below w.heap.size w w' := by
  obtain ⟨a, cap, rfl, hc, hcm, hat⟩ := prts_at hv
  unfold maxLen at hcm
  have Hat := Lib.hid hat
  have Hok := Lib.hid hok
  clear hat hok hv
  obtain ⟨r, hr⟩ : ∃ r, Hid (sideP L n = r) := ⟨_, Lib.hid rfl⟩
  rw [hr.out]
  obtain ⟨W1, hW1'⟩ : ∃ W1, Hid (w.alloc (.cells #[.pointer none, .slice none 0 0] 74) = W1) := ⟨_, Lib.hid rfl⟩
  have B1 : Hid (Below w.heap.size w W1) := by rw [← hW1'.out]; exact Lib.hid ((Below.refl _ w).alloc (Nat.le_refl _) _)
  have U1 : Hid (Lib.IsBuilder 74 5 w.heap.size w.heap.size (Lib.byteCells []) W1) := by rw [← hW1'.out]; exact Lib.hid (builder_new w)
  obtain ⟨m, hm⟩ : ∃ m, Hid (L.length = m) := ⟨_, Lib.hid rfl⟩
  rw [hm.out] at hc hl ⊢
  go_enter Tryd.func19, Tryd.ntmps19
  go_wp2_with fail
  rw [hW1'.out]
  go_loopw [10] (fun c wr => ∃ k : Nat, c = .int .i64 k ∧ k ≤ m ∧ Hid (Below w.heap.size w wr) ∧ Hid (Lib.IsBuilder 74 5 w.heap.size w.heap.size (Lib.byteCells (sideP (L.take k) n)) wr)) (fun c _ => m - (intOf c).toNat)
  case atStart => exact ⟨0, rfl, by omega, B1, U1⟩
  case round =>
    obtain ⟨k, rfl, hk, hB, hU⟩ := hrel
    have hbs := hB.out.size
    have hpl := sideP_take_le Hok.out n (by rw [hm.out]; exact hl) k
    obtain ⟨X, hX⟩ : ∃ X, Hid (sideP (L.take k) n = X) := ⟨_, Lib.hid rfl⟩
    rw [hX.out] at hU hpl
    rcases Nat.lt_or_ge k m with hlt | hlt
    · obtain ⟨p, hp⟩ := get_lt (l := L) (k := k) (by rw [hm.out]; exact hlt)
      obtain ⟨b, off, rfl, c0, c1, c2, c3⟩ := Hat.out wr hB.out k p hp
      have hpo := Hok.out p (List.mem_of_getElem? hp)
      have hp1 := hpo.1
      have hp2 := hpo.2.1
      have hp3 := hpo.2.2
      have hnx : Hid (sideP (L.take (k + 1)) n = X ++ p.side n) := Lib.hid (by rw [← hX.out]; exact sideP_take hp n)
      clear hp hpo
      have d1 : decide (k < m) = true := decide_eq_true hlt
      have d2 : (0 : Int) ≤ (k : Int) := by omega
      have d3 : (k : Int) < (m : Int) := by omega
      obtain ⟨W2, hW2⟩ : ∃ W2, Hid (wr.alloc (.cells #[.bool p.clash, .string (bs p.o), .string (bs p.a), .string (bs p.b)] 52) = W2) := ⟨_, Lib.hid rfl⟩
      have B2 : Hid (Below wr.heap.size wr W2) := by rw [← hW2.out]; exact Lib.hid ((Below.refl _ wr).alloc (Nat.le_refl _) _)
      have R2 : Hid (RowAt W2 wr.heap.size 52 #[.bool p.clash, .string (bs p.o), .string (bs p.a), .string (bs p.b)]) := by rw [← hW2.out]; exact Lib.hid (RowAt.new wr 52 _)
      have U2 := Lib.hid (builder_below hU.out B2.out)
      have B3 := Lib.hid (hB.out.trans (B2.out.mono hbs))
      have h3 := B3.out.size
      by_cases n0 : n = 0
      · have f0 : (n == 0) = true := by simpa using n0
        have e1 : p.side n = p.o := by unfold Pt.side; rw [if_pos n0]
        rw [e1] at hnx
        clear n0 e1
        go_wp2_with fail
        rw [hW2.out]
        refine (WriteString_k w.heap.size w.heap.size _ (bs p.o) W2 U2.out (by rw [byteCells_length, bs_size]; omega) h3).mono ?_
        rintro e w4 ⟨rfl, g4, b4, -⟩
        rw [strCells_bs, ← byteCells_append, ← hnx.out] at g4
        have U4 : Hid (Lib.IsBuilder 74 5 w.heap.size w.heap.size (Lib.byteCells (sideP (L.take (k + 1)) n)) w4) := Lib.hid (.inr g4)
        have B5 := Lib.hid (B3.out.trans b4)
        clear g4 b4 c0 c1 c2 c3
        go_wp2_with fail
        exact ⟨⟨k + 1, by go_num, by omega, B5, U4⟩, by simp [intOf]; omega⟩
      by_cases n1 : n = 1
      · have f0 : (n == 0) = false := by simpa using n0
        have f1 : (n == 1) = true := by simpa using n1
        have e1 : p.side n = p.a := by unfold Pt.side; rw [if_neg n0, if_pos n1]
        rw [e1] at hnx
        clear n0 n1 e1
        go_wp2_with fail
        rw [hW2.out]
        refine (WriteString_k w.heap.size w.heap.size _ (bs p.a) W2 U2.out (by rw [byteCells_length, bs_size]; omega) h3).mono ?_
        rintro e w4 ⟨rfl, g4, b4, -⟩
        rw [strCells_bs, ← byteCells_append, ← hnx.out] at g4
        have U4 : Hid (Lib.IsBuilder 74 5 w.heap.size w.heap.size (Lib.byteCells (sideP (L.take (k + 1)) n)) w4) := Lib.hid (.inr g4)
        have B5 := Lib.hid (B3.out.trans b4)
        clear g4 b4 c0 c1 c2 c3
        go_wp2_with fail
        exact ⟨⟨k + 1, by go_num, by omega, B5, U4⟩, by simp [intOf]; omega⟩
      by_cases n2 : n = 2
      · have f0 : (n == 0) = false := by simpa using n0
        have f1 : (n == 1) = false := by simpa using n1
        have f2 : (n == 2) = true := by simpa using n2
        have e1 : p.side n = p.b := by unfold Pt.side; rw [if_neg n0, if_neg n1, if_pos n2]
        rw [e1] at hnx
        clear n0 n1 n2 e1
        go_wp2_with fail
        rw [hW2.out]
        refine (WriteString_k w.heap.size w.heap.size _ (bs p.b) W2 U2.out (by rw [byteCells_length, bs_size]; omega) h3).mono ?_
        rintro e w4 ⟨rfl, g4, b4, -⟩
        rw [strCells_bs, ← byteCells_append, ← hnx.out] at g4
        have U4 : Hid (Lib.IsBuilder 74 5 w.heap.size w.heap.size (Lib.byteCells (sideP (L.take (k + 1)) n)) w4) := Lib.hid (.inr g4)
        have B5 := Lib.hid (B3.out.trans b4)
        clear g4 b4 c0 c1 c2 c3
        go_wp2_with fail
        exact ⟨⟨k + 1, by go_num, by omega, B5, U4⟩, by simp [intOf]; omega⟩
      · have f0 : (n == 0) = false := by simpa using n0
        have f1 : (n == 1) = false := by simpa using n1
        have f2 : (n == 2) = false := by simpa using n2
        have e1 : p.side n = [] := by unfold Pt.side; rw [if_neg n0, if_neg n1, if_neg n2]
        rw [e1, List.append_nil] at hnx
        have U5 : Hid (Lib.IsBuilder 74 5 w.heap.size w.heap.size (Lib.byteCells (sideP (L.take (k + 1)) n)) W2) := Lib.hid (by rw [hnx.out]; exact U2.out)
        clear n0 n1 n2 e1
        go_wp2_with fail
        rw [hW2.out]
        exact ⟨⟨k + 1, by go_num, by omega, B3, U5⟩, by simp [intOf]; omega⟩
    · have d1 : decide (k < m) = false := decide_eq_false (by omega)
      rw [List.take_of_length_le (by rw [hm.out]; exact hlt), hr.out] at hX
      rw [← hX.out] at hU
      go_wp2_with fail
      refine (Tryd.Builder_String_any _ _ r wr hU.out hbs).mono ?_
      rintro e w5 ⟨rfl, b5⟩
      go_wp2_with fail
      go_ret
      exact ⟨rfl, hB.out.trans b5⟩

set_option maxRecDepth 100000 in
set_option maxHeartbeats 8000000 in
theorem Join_any (v : Value) (L : List Pt) (hl : L.length ≤ 100000) (hok : ∀ p ∈ L, okS p) (w : World) (hv : Prts w v L) :
    Calls Tryd.prog 23 #[v] w fun e w' => e = .returned (.tuple #[.string (bs (joinP L).1), .bool (joinP L).2]) ∧ Below w.heap.size w w' := by
  have C1 := Lib.hid (clashes_any v L w hv)
  have C2 := Lib.hid (fun W (h : Below w.heap.size w W) => Side_any v L 1 hl hok W (hv.below h))
  obtain ⟨a, cap, rfl, -⟩ := hv
  obtain ⟨c, hcl⟩ : ∃ c, Hid (clashP L = c) := ⟨_, Lib.hid rfl⟩
  rw [hcl.out] at C1
  obtain ⟨⟨jt, jb⟩, hj⟩ : ∃ j : By × Bool, Hid (joinP L = j) := ⟨_, Lib.hid rfl⟩
  rw [hj.out]
  dsimp only
  go_enter Tryd.func23, Tryd.ntmps23
  go_wp2_with fail
  refine C1.out.mono ?_
  rintro e w1 ⟨rfl, b1⟩
  have B1 := Lib.hid b1
  clear b1
  cases c with
  | true =>
    have hj2 : joinP L = ([], false) := by unfold joinP; rw [hcl.out]; rfl
    rw [hj.out] at hj2
    cases hj2
    go_wp2_with fail
    go_ret2
    exact ⟨rfl, B1.out⟩
  | false =>
    have hj2 : joinP L = (sideP L 1, true) := by unfold joinP; rw [hcl.out]; rfl
    rw [hj.out] at hj2
    cases hj2
    go_wp2_with fail
    refine (C2.out w1 B1.out).mono ?_
    rintro e w2 ⟨rfl, b2⟩
    have B2 := Lib.hid (B1.out.trans (b2.mono B1.out.size))
    clear b2
    go_wp2_with fail
    go_ret2
    exact ⟨rfl, B2.out⟩
end Go.Proofs.YtbekbllffphfeaaDoor
/-
  For the laws of weave: the text of parts, and one side of them, by the reference. Condition: at most 72,000 parts of texts of at most 1,000,000 bytes each.
-/
namespace Go.Proofs.YtbekbllffphfeaaDoor
open Go.RowKit Go.Shelf
set_option linter.unusedSimpArgs false
set_option linter.unusedVariables false

end Go.Proofs.YtbekbllffphfeaaDoor
