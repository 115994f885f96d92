/-
  Texts as lists of bytes; a Builder of the call's own; slices of texts. Condition: at most 2 to the 47 bytes in all.
-/
import Derived.WalkKit
import Derived.WalkSpells
import Derived.WalkMore
import Derived.Lib.Hide
import Derived.Lib.IndexMore
import Derived.Lib.IndexBytes
import Derived.Deep.QuietTactic
import Derived.Deep.AppendLies
import Derived.BigQuiet
import Derived.IntWalk
import Derived.Laws.AppendOwn
import Derived.RangeFuncBox
import Derived.Lib.Builder
import Derived.Laws.ResultCell
import Derived.Laws.Rows
import Derived.Test.YtbekbllffphfeaaDoorShelf
namespace Go.Proofs.YtbekbllffphfeaaDoor.T
open Go.RowKit Go.Shelf
set_option linter.unusedSimpArgs false

abbrev tl (s : ByteArray) : List UInt8 := s.data.toList
abbrev bs (l : List UInt8) : ByteArray := ⟨l.toArray⟩
theorem tl_bs (l : List UInt8) : tl (bs l) = l := by simp [tl]
theorem add_flat (b off j : Nat) : (⟨b, off, none⟩ : Addr).add j = ⟨b, off + j, none⟩ := by
  by_cases h0 : j = 0 <;> simp [Addr.add, h0]
theorem below_draws {B : Nat} {a w : World} (h : Below B a w) (q : Nat) : Below B a (w.drewN q) := ⟨h.os, h.tape, h.output, h.size, h.block⟩

theorem below_drew {B : Nat} {a w : World} (h : Below B a w) : Below B a w.drew := below_draws h 1
theorem bs_beq (s : ByteArray) (x : List UInt8) : (x == s.toList) = decide (x = tl s) := by
  rw [Lib.toList_data, Bool.eq_iff_iff]
  simp [tl]
theorem own_below {W W' : World} {base e size n : Nat} {v : Value} {xs : List Value} (h : W.ownsRow base e size v n xs) (hb : Below W.heap.size W W') : W'.ownsRow base e size v n xs := by
  refine ⟨h.1, ?_⟩
  rcases h.2 with h0 | ⟨g, cap, cur, e1, h1, hg, h2, h3, h4, h5⟩
  · exact .inl h0
  · exact .inr ⟨g, cap, cur, e1, h1, (hb.block _ (Array.getElem?_eq_some_iff.1 hg).1).trans hg, h2, h3, h4, h5⟩
theorem infoStr : (Tryd.prog.info? 9).map (fun i => (i.zero, i.size, i.bytes)) = some (some (.string ⟨#[]⟩), 1, 16) := by kernel_rfl
def strV (L : List (List UInt8)) : List Value := L.map fun x => .string (bs x)
theorem str_new2 (W : World) (o : Obj) (x : ByteArray) (t : TypeId) : ∀ j u, ([.string x] : List Value)[j]? = some u → ((W.alloc o).alloc (.cells #[.string x] t)).cell? ((⟨W.heap.size + 1, 0, none⟩ : Addr).add j) = some u := by
  intro j u hj
  have h := World.alloc_heap_new (W.alloc o) (.cells #[.string x] t)
  rw [World.size_alloc] at h
  rw [add_flat, Nat.zero_add, Lib.cell_of_heap h]
  simpa using hj
def Strs (W : World) (v : Value) (L : List (List UInt8)) : Prop :=
  ∃ (a : Option Addr) (cap : Nat), v = .slice a L.length cap ∧ L.length ≤ cap ∧ cap ≤ maxLen ∧ ∀ k (x : List UInt8), L[k]? = some x → ∃ b off, a = some ⟨b, off, none⟩ ∧ b < W.heap.size ∧ W.cell? ⟨b, off + k, none⟩ = some (.string (bs x))
theorem own_strs {W : World} {base n : Nat} {v : Value} {L : List (List UInt8)} (h : W.ownsRow base 9 1 v n (strV L)) : Strs W v L := by
  have hl := h.1
  rw [strV, List.length_map] at hl
  obtain rfl : n = L.length := by omega
  rcases h.2 with ⟨rfl, h0⟩ | ⟨g, cap, cur, rfl, _, hg, h1, h2, h3, h4⟩
  · obtain rfl : L = [] := List.eq_nil_of_length_eq_zero h0
    exact ⟨none, 0, rfl, Nat.le_refl _, Nat.zero_le _, by simp⟩
  · refine ⟨_, cap, rfl, h1, h2, fun k x hk => ⟨g, 0, rfl, (Array.getElem?_eq_some_iff.1 hg).1, ?_⟩⟩
    have hkl := (List.getElem?_eq_some_iff.1 hk).1
    have h5 : (strV L)[k]? = some (.string (bs x)) := by rw [strV, List.getElem?_map, hk]; rfl
    rw [← h5, ← h4, List.getElem?_take_of_lt (by omega), Nat.zero_add]
    simp [World.cell?, hg]
section
variable {W W' : World} {b : Nat} {t : TypeId} {vs : Array Value}
end
end Go.Proofs.YtbekbllffphfeaaDoor.T
