/-
  Texts as lists of bytes; a Builder of the call's own; slices of texts. Condition: at most 2 to the 47 bytes in all.
-/
import Derived.WalkKit
import Derived.WalkSpells
import Derived.WalkMore
import Derived.Lib.Hide
import Derived.Lib.IndexMore
import Derived.Lib.IndexBytes
import Derived.Deep.QuietTactic
import Derived.Deep.AppendLies
import Derived.BigQuiet
import Derived.IntWalk
import Derived.Laws.AppendOwn
import Derived.RangeFuncBox
import Derived.Lib.Builder
import Derived.Laws.ResultCell
import Derived.Laws.Rows
import Derived.Test.YtbekbllffphfeaaGreatDoorShelf
namespace Go.Proofs.YtbekbllffphfeaaGreatDoor.T
open Go.RowKit Go.Shelf
set_option linter.unusedSimpArgs false

abbrev tl (s : ByteArray) : List UInt8 := s.data.toList
theorem tl_length (s : ByteArray) : (tl s).length = s.size := by simp [tl]
theorem byte_bd (c : UInt8) : 0 ≤ (c.toNat : Int) ∧ (c.toNat : Int) < 256 := by have := c.toNat_lt; omega

theorem ret_bool {a b : Bool} (h : a = b) : Ending.returned (.bool a) = Ending.returned (.bool b) := by rw [h]
theorem ret_int {a b : Int} (h : a = b) : Ending.returned (.int .i64 a) = Ending.returned (.int .i64 b) := by rw [h]

theorem tl_get (s : ByteArray) {k : Nat} (h : k < s.size) : (tl s)[k]? = some s[k] := by
  rw [List.getElem?_eq_getElem (by rw [tl_length]; exact h)]
  rfl

abbrev bs (l : List UInt8) : ByteArray := ⟨l.toArray⟩
theorem tl_bs (l : List UInt8) : tl (bs l) = l := by simp [tl]
theorem bs_tl (s : ByteArray) : bs (tl s) = s := by cases s; simp [tl, bs]
theorem bs_size (l : List UInt8) : (bs l).size = l.length := by rw [← tl_length, tl_bs]
theorem ext_bs (s : ByteArray) (a b : Nat) : s.extract a b = bs (((tl s).drop a).take (b - a)) := by
  rw [← bs_tl (s.extract a b)]
  show bs (s.extract a b).data.toList = _
  rw [Lib.extract_data]
theorem add_flat (b off j : Nat) : (⟨b, off, none⟩ : Addr).add j = ⟨b, off + j, none⟩ := by
  by_cases h0 : j = 0 <;> simp [Addr.add, h0]
theorem below_draws {B : Nat} {a w : World} (h : Below B a w) (q : Nat) : Below B a (w.drewN q) := ⟨h.os, h.tape, h.output, h.size, h.block⟩

theorem below_drew {B : Nat} {a w : World} (h : Below B a w) : Below B a w.drew := below_draws h 1
theorem bs_beq (s : ByteArray) (x : List UInt8) : (x == s.toList) = decide (x = tl s) := by
  rw [Lib.toList_data, Bool.eq_iff_iff]
  simp [tl]
theorem boxed_below {W W' : World} {B : Nat} {t : TypeId} {v : Value} (h : Boxed W B t v) (hb : Below W.heap.size W W') : Boxed W' B t v := (hb.block _ h.lt).trans h
theorem own_below {W W' : World} {base e size n : Nat} {v : Value} {xs : List Value} (h : W.ownsRow base e size v n xs) (hb : Below W.heap.size W W') : W'.ownsRow base e size v n xs := by
  refine ⟨h.1, ?_⟩
  rcases h.2 with h0 | ⟨g, cap, cur, e1, h1, hg, h2, h3, h4, h5⟩
  · exact .inl h0
  · exact .inr ⟨g, cap, cur, e1, h1, (hb.block _ (Array.getElem?_eq_some_iff.1 hg).1).trans hg, h2, h3, h4, h5⟩
theorem infoStr : (Tryz.prog.info? 9).map (fun i => (i.zero, i.size, i.bytes)) = some (some (.string ⟨#[]⟩), 1, 16) := by kernel_rfl
def strV (L : List (List UInt8)) : List Value := L.map fun x => .string (bs x)
theorem str_new2 (W : World) (o : Obj) (x : ByteArray) (t : TypeId) : ∀ j u, ([.string x] : List Value)[j]? = some u → ((W.alloc o).alloc (.cells #[.string x] t)).cell? ((⟨W.heap.size + 1, 0, none⟩ : Addr).add j) = some u := by
  intro j u hj
  have h := World.alloc_heap_new (W.alloc o) (.cells #[.string x] t)
  rw [World.size_alloc] at h
  rw [add_flat, Nat.zero_add, Lib.cell_of_heap h]
  simpa using hj
def Strs (W : World) (v : Value) (L : List (List UInt8)) : Prop :=
  ∃ (a : Option Addr) (cap : Nat), v = .slice a L.length cap ∧ L.length ≤ cap ∧ cap ≤ maxLen ∧ ∀ k (x : List UInt8), L[k]? = some x → ∃ b off, a = some ⟨b, off, none⟩ ∧ b < W.heap.size ∧ W.cell? ⟨b, off + k, none⟩ = some (.string (bs x))
theorem Strs.below {W W' : World} {v : Value} {L : List (List UInt8)} (h : Strs W v L) (hb : Below W.heap.size W W') : Strs W' v L := by
  obtain ⟨a, cap, rfl, hc, hm, hx⟩ := h
  refine ⟨a, cap, rfl, hc, hm, fun k x hk => ?_⟩
  obtain ⟨b, off, rfl, hl, hat⟩ := hx k x hk
  exact ⟨b, off, rfl, by have := hb.size; omega, (hb.cell (p := ⟨b, off + k, none⟩) hl).trans hat⟩
theorem own_strs {W : World} {base n : Nat} {v : Value} {L : List (List UInt8)} (h : W.ownsRow base 9 1 v n (strV L)) : Strs W v L := by
  have hl := h.1
  rw [strV, List.length_map] at hl
  obtain rfl : n = L.length := by omega
  rcases h.2 with ⟨rfl, h0⟩ | ⟨g, cap, cur, rfl, _, hg, h1, h2, h3, h4⟩
  · obtain rfl : L = [] := List.eq_nil_of_length_eq_zero h0
    exact ⟨none, 0, rfl, Nat.le_refl _, Nat.zero_le _, by simp⟩
  · refine ⟨_, cap, rfl, h1, h2, fun k x hk => ⟨g, 0, rfl, (Array.getElem?_eq_some_iff.1 hg).1, ?_⟩⟩
    have hkl := (List.getElem?_eq_some_iff.1 hk).1
    have h5 : (strV L)[k]? = some (.string (bs x)) := by rw [strV, List.getElem?_map, hk]; rfl
    rw [← h5, ← h4, List.getElem?_take_of_lt (by omega), Nat.zero_add]
    simp [World.cell?, hg]
def RowAt (W : World) (b : Nat) (t : TypeId) (vs : Array Value) : Prop := W.heap[b]? = some (.cells vs t (0, 0))
section
variable {W W' : World} {b : Nat} {t : TypeId} {vs : Array Value}
theorem RowAt.lt (h : RowAt W b t vs) : b < W.heap.size := (Array.getElem?_eq_some_iff.1 h).1
theorem RowAt.cell (h : RowAt W b t vs) {j : Nat} {v : Value} (hj : vs[j]? = some v) : W.cell? ⟨b, j, none⟩ = some v := by
  simp [World.cell?, show W.heap[b]? = _ from h, hj]
theorem RowAt.frozen (h : RowAt W b t vs) (j : Nat) : W.frozen? ⟨b, j, none⟩ = false := by
  simp [World.frozen?, show W.heap[b]? = _ from h]
theorem RowAt.new (W : World) (t : TypeId) (vs : Array Value) : RowAt (W.alloc (.cells vs t)) W.heap.size t vs := by
  show (W.heap.push _)[W.heap.size]? = _
  simp
theorem RowAt.same (h : RowAt W b t vs) (hb : W'.heap[b]? = W.heap[b]?) : RowAt W' b t vs := hb.trans h
theorem RowAt.later (h : RowAt W b t vs) (hb : Below W.heap.size W W') : RowAt W' b t vs := (hb.block b h.lt).trans h
theorem RowAt.alloc (h : RowAt W b t vs) (o : Obj) : RowAt (W.alloc o) b t vs := (Below.heap_alloc W o b h.lt).trans h
theorem RowAt.other (h : RowAt W b t vs) {c : Nat} (hne : b ≠ c) (j : Nat) (v : Value) : RowAt (W.setCell ⟨c, j, none⟩ v) b t vs :=
  (Below.heap_setCell W ⟨c, j, none⟩ v b (by simpa using hne)).trans h
theorem RowAt.set (h : RowAt W b t vs) (j : Nat) (v : Value) : RowAt (W.setCell ⟨b, j, none⟩ v) b t (vs.setIfInBounds j v) := by
  obtain ⟨hlt, hk⟩ := Array.getElem?_eq_some_iff.1 h
  show (W.heap.modify b _)[b]? = _
  rw [Array.getElem?_eq_getElem (by rw [Array.size_modify]; exact hlt), Array.getElem_modify_self, hk]
  rfl
end
theorem results_cell_row_tmp {P : Program} {fn : Func} {p u : Tmp} {ty : TypeId} (h : fn.results = #[.cell p ty, .tmp u]) (tmps : Array Value) (w : World) (g : Nat) (t : TypeId) (cs : Array Value) (fr : Nat × Nat) (d : TypeDesc)
    (hp : tmps.getD p undef = .pointer (some ⟨g, 0, none⟩)) (hg : w.heap[g]? = some (.cells cs t fr))
    (hu : P.underlying ty = some d) (hd : (match d with | .struct _ | .array _ _ => true | _ => false) = true) (hi : (P.info? ty).map (·.size) = some cs.size) :
    (results fn tmps).run P w = .ok (.tuple #[.agg cs, tmps.getD u undef]) w := by
  rw [results_cell_tmp h, hp]
  simp [asAddr, run_loadVar_row w g t ty cs fr d hg hu hd hi]

end Go.Proofs.YtbekbllffphfeaaGreatDoor.T
