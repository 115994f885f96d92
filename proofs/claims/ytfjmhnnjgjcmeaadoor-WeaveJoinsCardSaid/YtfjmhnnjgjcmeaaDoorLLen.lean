/-
  For the laws of lcs: Length: how much two rows have in common. Condition: at most 1,000,000 numbers each.
-/
import Derived.Test.YtfjmhnnjgjcmeaaDoorLGrid
import Derived.RegionTactic
import Derived.ChangeAlike
namespace Go.Proofs.YtfjmhnnjgjcmeaaDoor.L
open Go.RowKit

/-- What Length tells. -/
def lenOf (a b : List Int) : Int := if 2000 < a.length ∨ 2000 < b.length then pfx a b + sfx a b else lc a b

theorem made_row (m : Nat) (hm : m ≤ 1000000) (V : World) : (Instr.makeSlice 85 (.int .i64 ((m : Int) + 1)) (.int .i64 ((m : Int) + 1))).run Tryd.prog V = .ok (.slice (some ⟨V.heap.size, 0, none⟩) (m + 1) (m + 1)) (V.alloc (.cells (rowOf m fun _ => 0) 3)) := by
  obtain ⟨i0, hi, hz0, hz1, hz2⟩ : ∃ i0, Tryd.prog.info? 3 = some i0 ∧ i0.zero = some (.int .i64 0) ∧ i0.size = 1 ∧ i0.bytes = 8 := info_parts (by kernel_rfl)
  rw [run_make V 85 3 i0 _ Tryd.underlying85 hi hz0 .i64 .i64 _ _ (by omega) (by omega) (by rw [hz2]; omega) (by omega), hz1, rowOf_made]
  simp

theorem RowAt.ne_ {W : World} {b b' : Nat} {t t' : TypeId} {vs vs' : Array Value} (h : RowAt W b t vs) (h' : RowAt W b' t' vs') (hne : t ≠ t') : b ≠ b' := by
  rintro rfl
  unfold RowAt at h h'
  rw [h] at h'
  injection h' with h'
  injection h' with _ ht
  exact hne ht
/-- The slice of the whole row g of m + 1 numbers. -/
abbrev sl (g m : Nat) : Value := .slice (some ⟨g, 0, none⟩) (m + 1) (m + 1)
theorem rowOf_congr {m : Nat} {f g : Nat → Int} (h : ∀ j, j ≤ m → f j = g j) : rowOf m f = rowOf m g := by
  unfold rowOf
  congr 1
  apply List.map_congr_left
  intro j hj
  rw [h j (by have := List.mem_range.1 hj; omega)]
/-- While the row of i + 1 is filled: ga has the row above; gr's first k + 1 numbers are there. -/
def Row2 (W : World) (ga gr i k : Nat) (A B : List Int) : Prop :=
  RowAt W ga 3 (rowOf B.length (D A B i)) ∧ ∃ f : Nat → Int, (∀ j, j ≤ k → f j = D A B (i + 1) j) ∧ RowAt W gr 3 (rowOf B.length f)
theorem Row2.step {W : World} {ga gr i k : Nat} {A B : List Int} {v : Int} (h : Row2 W ga gr i k A B) (hne : ga ≠ gr) (hv : v = D A B (i + 1) (k + 1)) : Row2 (W.setCell ⟨gr, k + 1, none⟩ (.int .i64 v)) ga gr i (k + 1) A B := by
  obtain ⟨q1, f, q2, q3⟩ := h
  refine ⟨q1.other hne _ _, _, ?_, by have := q3.set (k + 1) (.int .i64 v); rw [rowOf_set] at this; exact this⟩
  intro j hj
  show (if j = k + 1 then v else f j) = _
  by_cases e : j = k + 1
  · rw [if_pos e, e, hv]
  · rw [if_neg e, q2 j (by omega)]
theorem keepR {W : World} {R g j : Nat} (h : R < g) (v : Value) : (W.setCell ⟨g, j, none⟩ v).heap[R]? = W.heap[R]? := Below.heap_setCell W ⟨g, j, none⟩ v R (by show R ≠ g; omega)
/-- The two rows, k of them made. -/
def Two (W : World) (R m : Nat) : Nat → Prop
  | 0 => RowAt W R 60 #[.slice none 0 0, .slice none 0 0]
  | 1 => ∃ g0, R < g0 ∧ RowAt W R 60 #[sl g0 m, .slice none 0 0] ∧ RowAt W g0 3 (rowOf m fun _ => 0)
  | _ => ∃ g0 g1, g0 ≠ g1 ∧ R < g0 ∧ R < g1 ∧ RowAt W R 60 #[sl g0 m, sl g1 m] ∧ RowAt W g0 3 (rowOf m fun _ => 0) ∧ RowAt W g1 3 (rowOf m fun _ => 0)
/-- Behind i rounds: ga has the row above, gr the other one, whose first number is 0. -/
def Pair (W : World) (R m ga gr i : Nat) (A B : List Int) : Prop :=
  ga ≠ gr ∧ R < ga ∧ R < gr ∧ (i % 2 = 0 → RowAt W R 60 #[sl ga m, sl gr m]) ∧ (i % 2 = 1 → RowAt W R 60 #[sl gr m, sl ga m]) ∧ RowAt W ga 3 (rowOf m (D A B i)) ∧ ∃ f : Nat → Int, f 0 = 0 ∧ RowAt W gr 3 (rowOf m f)

theorem Pair.next {V W : World} {R ga gr i : Nat} {A B : List Int} (hP : Pair V R B.length ga gr i A B) (h : Row2 W ga gr i B.length A B) (hR : W.heap[R]? = V.heap[R]?) : Pair W R B.length gr ga (i + 1) A B := by
  obtain ⟨p1, p2, p3, p4, p5, _, _⟩ := hP
  obtain ⟨q1, f, q2, q3⟩ := h
  refine ⟨Ne.symm p1, p3, p2, fun h => (p5 (by omega)).same hR, fun h => (p4 (by omega)).same hR, ?_, D A B i, D_zero_right A B i, q1⟩
  rw [← rowOf_congr q2]
  exact q3

theorem lenOf_small {xs ys : List Int} (h1 : xs.length ≤ 2000) (h2 : ys.length ≤ 2000) : lenOf xs ys = lc xs ys := if_neg (by omega)
end Go.Proofs.YtfjmhnnjgjcmeaaDoor.L
