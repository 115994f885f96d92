/-
  For the laws of lcs: rows of cells in memory: what a store, a new block and a draw leave of them; a slice that reads as numbers. No program but its types.
-/
import Derived.WalkKit
import Derived.WalkSpells
import Derived.Lib.Hide
import Derived.Deep.QuietTactic
import Derived.BigQuiet
import Derived.IntWalk
import Derived.Laws.MakeOwn
import Derived.Test.YtfjmhnnjgjcmeaaDoorLMath
namespace Go.Proofs.YtfjmhnnjgjcmeaaDoor.L
open Go.RowKit

/-- BLOCK b IS A ROW OF CELLS of type t, not frozen. -/
def RowAt (W : World) (b : Nat) (t : TypeId) (vs : Array Value) : Prop := W.heap[b]? = some (.cells vs t (0, 0))
section
variable {W W' : World} {b : Nat} {t : TypeId} {vs : Array Value}
theorem RowAt.lt (h : RowAt W b t vs) : b < W.heap.size := (Array.getElem?_eq_some_iff.1 h).1
theorem RowAt.cell (h : RowAt W b t vs) {j : Nat} {v : Value} (hj : vs[j]? = some v) : W.cell? ⟨b, j, none⟩ = some v := by
  simp [World.cell?, show W.heap[b]? = _ from h, hj]
theorem RowAt.frozen (h : RowAt W b t vs) (j : Nat) : W.frozen? ⟨b, j, none⟩ = false := by
  simp [World.frozen?, show W.heap[b]? = _ from h]
theorem RowAt.new (W : World) (t : TypeId) (vs : Array Value) : RowAt (W.alloc (.cells vs t)) W.heap.size t vs := by
  show (W.heap.push _)[W.heap.size]? = _
  simp
theorem RowAt.later (h : RowAt W b t vs) (hb : Below W.heap.size W W') : RowAt W' b t vs := (hb.block b h.lt).trans h
theorem RowAt.same (h : RowAt W b t vs) (hb : W'.heap[b]? = W.heap[b]?) : RowAt W' b t vs := hb.trans h
theorem RowAt.alloc (h : RowAt W b t vs) (o : Obj) : RowAt (W.alloc o) b t vs := (Below.heap_alloc W o b h.lt).trans h
theorem RowAt.drewN (h : RowAt W b t vs) (n : Nat) : RowAt (W.drewN n) b t vs := h
theorem RowAt.drew (h : RowAt W b t vs) : RowAt W.drew b t vs := h
theorem RowAt.other (h : RowAt W b t vs) {c : Nat} (hne : b ≠ c) (j : Nat) (v : Value) : RowAt (W.setCell ⟨c, j, none⟩ v) b t vs :=
  (Below.heap_setCell W ⟨c, j, none⟩ v b (by simpa using hne)).trans h
theorem RowAt.set (h : RowAt W b t vs) (j : Nat) (v : Value) : RowAt (W.setCell ⟨b, j, none⟩ v) b t (vs.setIfInBounds j v) := by
  obtain ⟨hlt, hk⟩ := Array.getElem?_eq_some_iff.1 h
  show (W.heap.modify b _)[b]? = _
  rw [Array.getElem?_eq_getElem (by rw [Array.size_modify]; exact hlt), Array.getElem_modify_self, hk]
  rfl
end

theorem below_draws {B : Nat} {a w : World} (h : Below B a w) (q : Nat) : Below B a (w.drewN q) := ⟨h.os, h.tape, h.output, h.size, h.block⟩

/-- The value v is a slice that reads as the numbers xs (of kind k). -/
def Ints (W : World) (k : IntKind) (v : Value) (xs : List Int) : Prop :=
  ∃ (a : Option Addr) (cap : Nat), v = .slice a xs.length cap ∧ xs.length ≤ cap ∧ cap ≤ maxLen ∧ (xs = [] ∨ ∃ b off, a = some ⟨b, off, none⟩ ∧ b < W.heap.size ∧ ∀ j x, xs[j]? = some x → W.cell? ⟨b, off + j, none⟩ = some (.int k x))

theorem Ints.below {W W' : World} {k : IntKind} {v : Value} {xs : List Int} (h : Ints W k v xs) (hb : Below W.heap.size W W') : Ints W' k v xs := by
  rcases h with ⟨a, cap, rfl, hc, hm, h | ⟨b, off, rfl, hlt, hx⟩⟩
  · exact ⟨a, cap, rfl, hc, hm, .inl h⟩
  · exact ⟨_, cap, rfl, hc, hm, .inr ⟨b, off, rfl, by have := hb.size; omega, fun j x hj => (hb.cell (p := ⟨b, off + j, none⟩) hlt).trans (hx j x hj)⟩⟩

theorem ints_of_row {W : World} {b : Nat} {xs : List Int} {t : TypeId} {k : IntKind} (h : RowAt W b t (xs.map (Value.int k)).toArray) (hm : xs.length ≤ maxLen) : Ints W k (.slice (some ⟨b, 0, none⟩) xs.length xs.length) xs :=
  ⟨_, _, rfl, Nat.le_refl _, hm, .inr ⟨b, 0, rfl, h.lt, fun j x hj => by rw [Nat.zero_add]; exact h.cell (by simp [hj])⟩⟩

set_option maxHeartbeats 1000000 in
theorem tooLong_any (p q : Option Addr) (n m c d : Nat) (w : World) : Calls Tryd.prog 70 #[.slice p n c, .slice q m d] w fun e w' => e = .returned (.bool (decide (2000 < n) || decide (2000 < m))) ∧ w = w' := by
  by_cases h : 2000 < n
  · have hd : decide ((2000 : Int) < (n : Int)) = true := by simp; omega
    have hv : (decide (2000 < n) || decide (2000 < m)) = true := by simp [h]
    have Hv := Lib.hid hv; clear hv
    go_enter Tryd.func70, Tryd.ntmps70
    go_wp2
    go_ret
    exact ⟨by rw [Hv.out]; rfl, rfl⟩
  · have hd : decide ((2000 : Int) < (n : Int)) = false := by simp; omega
    have hv : (decide (2000 < n) || decide (2000 < m)) = decide ((2000 : Int) < (m : Int)) := by
      rw [Bool.eq_iff_iff]; simp [h]; omega
    have Hv := Lib.hid hv; clear hv
    go_enter Tryd.func70, Tryd.ntmps70
    go_wp2
    go_ret
    exact ⟨by rw [Hv.out]; rfl, rfl⟩
end Go.Proofs.YtfjmhnnjgjcmeaaDoor.L
