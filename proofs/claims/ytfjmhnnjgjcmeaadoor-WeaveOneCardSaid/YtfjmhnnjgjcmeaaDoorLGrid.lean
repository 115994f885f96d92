/-
  For the laws of lcs: a row of the table of lengths, as it lies in memory, and how it is filled; what a slice of numbers is cut to. No condition.
-/
import Derived.Test.YtfjmhnnjgjcmeaaDoorLEnds
namespace Go.Proofs.YtfjmhnnjgjcmeaaDoor.L
open Go.RowKit

theorem lc_snoc_same (x : Int) (a b : List Int) : lc (a ++ [x]) (b ++ [x]) = lc a b + 1 := lc_append_right a b [x]
theorem lc_snoc_diff {x y : Int} (h : x ≠ y) (a b : List Int) : lc (a ++ [x]) (b ++ [y]) = max (lc a (b ++ [y])) (lc (a ++ [x]) b) := by
  rw [← lc_rev (a ++ [x]) (b ++ [y]), List.reverse_append, List.reverse_append]
  show lc (x :: a.reverse) (y :: b.reverse) = _
  rw [lc_diff h]
  congr 1
  · rw [← lc_rev a (b ++ [y]), List.reverse_append]; rfl
  · rw [← lc_rev (a ++ [x]) b, List.reverse_append]; rfl

/-- How much the first i of the one and the first k of the other have in common. -/
def D (a b : List Int) (i k : Nat) : Int := lc (a.take i) (b.take k)
theorem D_zero_right (a b : List Int) (i : Nat) : D a b i 0 = 0 := by simp [D, lc_nil_right]
theorem D_zero_left (a b : List Int) (k : Nat) : D a b 0 k = 0 := by simp [D, lc_nil_left]
theorem take_succ_get {a : List Int} {i : Nat} {x : Int} (h : a[i]? = some x) : a.take (i + 1) = a.take i ++ [x] := by
  rw [List.take_add_one, h]; rfl
theorem D_same {a b : List Int} {i k : Nat} {x : Int} (h1 : a[i]? = some x) (h2 : b[k]? = some x) : D a b (i + 1) (k + 1) = D a b i k + 1 := by
  unfold D
  rw [take_succ_get h1, take_succ_get h2, lc_snoc_same]; rfl
theorem D_diff {a b : List Int} {i k : Nat} {x y : Int} (h1 : a[i]? = some x) (h2 : b[k]? = some y) (h : x ≠ y) : D a b (i + 1) (k + 1) = max (D a b i (k + 1)) (D a b (i + 1) k) := by
  unfold D
  rw [take_succ_get h1, take_succ_get h2, lc_snoc_diff h]; omega
theorem D_bd (a b : List Int) (i k : Nat) : 0 ≤ D a b i k ∧ D a b i k ≤ a.length := by
  unfold D
  have := lc_le_left (a.take i) (b.take k)
  have h2 : (a.take i).length ≤ a.length := List.length_take_le' _ _
  omega

/-- A row of m + 1 numbers. -/
def rowOf (m : Nat) (f : Nat → Int) : Array Value := ((List.range (m + 1)).map fun j => Value.int .i64 (f j)).toArray
theorem rowOf_get {m j : Nat} (f : Nat → Int) (h : j ≤ m) : (rowOf m f)[j]? = some (.int .i64 (f j)) := by
  simp [rowOf, List.getElem?_range (show j < m + 1 by omega)]
theorem rowOf_set {m j : Nat} (f : Nat → Int) (v : Int) : (rowOf m f).setIfInBounds j (.int .i64 v) = rowOf m (fun i => if i = j then v else f i) := by
  apply Array.ext
  · simp [rowOf]
  · intro i h1 h2
    simp [rowOf] at h1
    rw [Array.getElem_setIfInBounds (by simp [rowOf]; omega)]
    simp [rowOf]
    by_cases e : j = i
    · simp [e]
    · simp [e, Ne.symm e]
theorem rowOf_made (m : Nat) : madeCells (Value.int .i64 0).cells ((((m : Nat) : Int) + 1).toNat * 1) = rowOf m (fun _ => 0) := by
  rw [show ((((m : Nat) : Int) + 1).toNat * 1) = m + 1 by omega]
  apply Array.ext
  · simp [rowOf, madeCells]
  · intro i h1 h2
    simp [rowOf, madeCells, Value.cells, Nat.mod_one]

theorem size3 (w : World) : (Go.sizeOf 3).run Tryd.prog w = .ok 1 w := by kernel_rfl
theorem slice22 : Tryd.prog.underlying 85 = some (.slice (Tryd.prog.elem 85)) := by rw [Tryd.underlying85]; kernel_rfl
theorem elem22 : Tryd.prog.elem 85 = 3 := by kernel_rfl
/-- 'v[lo:hi]' of a slice that reads as numbers. -/
theorem Ints.cut {W : World} {v : Value} {xs : List Int} (h : Ints W .i64 v xs) (lo hi : Nat) (h1 : lo ≤ hi) (h2 : hi ≤ xs.length) (l r : Int) (hl : l = lo) (hr : r = hi) :
    ∃ v', (∀ V : World, (Instr.slice 85 v (some (.int .i64 l)) (some (.int .i64 r)) none).run Tryd.prog V = .ok v' V) ∧ Ints W .i64 v' ((xs.drop lo).take (hi - lo)) := by
  subst hl hr
  obtain ⟨a, cap, rfl, hc, hm, hx⟩ := h
  have hrun : ∀ V : World, (Instr.slice 85 (.slice a xs.length cap) (some (.int .i64 (lo : Int))) (some (.int .i64 (hi : Int))) none).run Tryd.prog V = .ok (.slice (if cap = lo then a else a.map (·.add (lo * 1))) (hi - lo) (cap - lo)) V := by
    intro V
    rw [run_slice_lh V 85 _ _ _ slice22 .i64 .i64 _ _ (by omega) (by omega) (by omega), elem22, size3]
    simp [Result.andThen, sliced]
  refine ⟨_, hrun, ?_⟩
  have hlen : ((xs.drop lo).take (hi - lo)).length = hi - lo := by simp; omega
  refine ⟨_, _, by rw [hlen], by omega, by omega, ?_⟩
  by_cases he : hi - lo = 0
  · left; rw [he]; rfl
  · right
    rcases hx with rfl | ⟨b, off, rfl, hb, hx⟩
    · simp at h2; omega
    · rw [if_neg (by omega)]
      refine ⟨b, off + lo, ?_, hb, fun j x hj => ?_⟩
      · simp [Addr.add]
      · rw [Nat.add_assoc]
        refine hx _ _ ?_
        rw [List.getElem?_take] at hj
        split at hj
        · rw [List.getElem?_drop] at hj; exact hj
        · cases hj
/-- A slice's cell. -/
theorem Ints.at {W : World} {v : Value} {xs : List Int} (h : Ints W .i64 v xs) : ∃ a cap, v = .slice a xs.length cap ∧ xs.length ≤ cap ∧ cap ≤ maxLen ∧ ∀ k x, xs[k]? = some x → ∃ b off, a = some ⟨b, off, none⟩ ∧ b < W.heap.size ∧ W.cell? ⟨b, off + k, none⟩ = some (.int .i64 x) := by
  obtain ⟨a, cap, rfl, hc, hm, hx⟩ := h
  refine ⟨a, cap, rfl, hc, hm, fun k x hk => ?_⟩
  rcases hx with h | ⟨b, off, rfl, hb, hx⟩
  · rw [h] at hk; simp at hk
  · exact ⟨b, off, rfl, hb, hx k x hk⟩
end Go.Proofs.YtfjmhnnjgjcmeaaDoor.L
