/-
  For the laws of node: texts as lists of bytes, rows, owned slices. No condition.
-/
import Derived.WalkKit
import Derived.WalkSpells
import Derived.WalkMore
import Derived.Lib.Hide
import Derived.Deep.QuietTactic
import Derived.Deep.AppendLies
import Derived.BigQuiet
import Derived.IntWalk
import Derived.Laws.AppendOwn
import Derived.OwnWalk
import Derived.RangeFuncBox
import Derived.Laws.ResultCell
import Derived.Laws.Rows
import Derived.Shelf.Abstract
import Derived.Test.YtbnbmjdjkadgoaaDoorProg
namespace Go.Proofs.YtbnbmjdjkadgoaaDoor
open Go.RowKit Go.Shelf
set_option linter.unusedSimpArgs false
set_option linter.unusedVariables false

abbrev By := List UInt8
abbrev tl (s : ByteArray) : List UInt8 := s.data.toList
theorem tl_length (s : ByteArray) : (tl s).length = s.size := by simp [tl]
abbrev bs (l : List UInt8) : ByteArray := ⟨l.toArray⟩
theorem tl_bs (l : List UInt8) : tl (bs l) = l := by simp [tl]
theorem bs_size (l : List UInt8) : (bs l).size = l.length := by rw [← tl_length, tl_bs]
theorem add_flat (b off j : Nat) : (⟨b, off, none⟩ : Addr).add j = ⟨b, off + j, none⟩ := by
  by_cases h0 : j = 0 <;> simp [Addr.add, h0]
theorem below_draws {B : Nat} {a w : World} (h : Below B a w) (q : Nat) : Below B a (w.drewN q) := ⟨h.os, h.tape, h.output, h.size, h.block⟩

theorem below_drew {B : Nat} {a w : World} (h : Below B a w) : Below B a w.drew := below_draws h 1
theorem own_below {W W' : World} {base e size n : Nat} {v : Value} {xs : List Value} (h : W.ownsRow base e size v n xs) (hb : Below W.heap.size W W') : W'.ownsRow base e size v n xs := by
  refine ⟨h.1, ?_⟩
  rcases h.2 with h0 | ⟨g, cap, cur, e1, h1, hg, h2, h3, h4, h5⟩
  · exact .inl h0
  · exact .inr ⟨g, cap, cur, e1, h1, (hb.block _ (Array.getElem?_eq_some_iff.1 hg).1).trans hg, h2, h3, h4, h5⟩
def RowAt (W : World) (b : Nat) (t : TypeId) (vs : Array Value) : Prop := W.heap[b]? = some (.cells vs t (0, 0))
section
variable {W W' : World} {b : Nat} {t : TypeId} {vs : Array Value}
theorem RowAt.lt (h : RowAt W b t vs) : b < W.heap.size := (Array.getElem?_eq_some_iff.1 h).1
theorem RowAt.cell (h : RowAt W b t vs) {j : Nat} {v : Value} (hj : vs[j]? = some v) : W.cell? ⟨b, j, none⟩ = some v := by
  simp [World.cell?, show W.heap[b]? = _ from h, hj]
theorem RowAt.frozen (h : RowAt W b t vs) (j : Nat) : W.frozen? ⟨b, j, none⟩ = false := by
  simp [World.frozen?, show W.heap[b]? = _ from h]
theorem RowAt.new (W : World) (t : TypeId) (vs : Array Value) : RowAt (W.alloc (.cells vs t)) W.heap.size t vs := by
  show (W.heap.push _)[W.heap.size]? = _
  simp
theorem RowAt.same (h : RowAt W b t vs) (hb : W'.heap[b]? = W.heap[b]?) : RowAt W' b t vs := hb.trans h
theorem RowAt.later (h : RowAt W b t vs) (hb : Below W.heap.size W W') : RowAt W' b t vs := (hb.block b h.lt).trans h
theorem RowAt.alloc (h : RowAt W b t vs) (o : Obj) : RowAt (W.alloc o) b t vs := (Below.heap_alloc W o b h.lt).trans h
theorem RowAt.other (h : RowAt W b t vs) {c : Nat} (hne : b ≠ c) (j : Nat) (v : Value) : RowAt (W.setCell ⟨c, j, none⟩ v) b t vs :=
  (Below.heap_setCell W ⟨c, j, none⟩ v b (by simpa using hne)).trans h
theorem RowAt.set (h : RowAt W b t vs) (j : Nat) (v : Value) : RowAt (W.setCell ⟨b, j, none⟩ v) b t (vs.setIfInBounds j v) := by
  obtain ⟨hlt, hk⟩ := Array.getElem?_eq_some_iff.1 h
  show (W.heap.modify b _)[b]? = _
  rw [Array.getElem?_eq_getElem (by rw [Array.size_modify]; exact hlt), Array.getElem_modify_self, hk]
  rfl
end
theorem results_cell_row {P : Program} {fn : Func} {p : Tmp} {ty : TypeId} (h : fn.results = #[.cell p ty]) (tmps : Array Value) (w : World) (g : Nat) (t : TypeId) (cs : Array Value) (fr : Nat × Nat) (d : TypeDesc)
    (hp : tmps.getD p undef = .pointer (some ⟨g, 0, none⟩)) (hg : w.heap[g]? = some (.cells cs t fr))
    (hu : P.underlying ty = some d) (hd : (match d with | .struct _ | .array _ _ => true | _ => false) = true) (hi : (P.info? ty).map (·.size) = some cs.size) :
    (results fn tmps).run P w = .ok (.agg cs) w := by
  have e : (results fn tmps).run P w = ((asAddr (tmps.getD p undef)).run P w).andThen fun a w₁ => (loadVar ty a).run P w₁ := by
    simp only [results, h]
    simp [Sem.run_bind, Result.andThen]
  rw [e, hp]
  simp [asAddr, run_loadVar_row w g t ty cs fr d hg hu hd hi, Result.andThen]
theorem own_low {W : World} {base base' e size n : Nat} {v : Value} {xs : List Value} (h : W.ownsRow base e size v n xs) (hb : base' ≤ base) : W.ownsRow base' e size v n xs := by
  refine ⟨h.1, ?_⟩
  rcases h.2 with h0 | ⟨g, cap, cur, e1, h1, hg, h2, h3, h4, h5⟩
  · exact .inl h0
  · exact .inr ⟨g, cap, cur, e1, Nat.le_trans hb h1, hg, h2, h3, h4, h5⟩
end Go.Proofs.YtbnbmjdjkadgoaaDoor
