/-
  For the laws of lcs: Match. Condition: at most 1,000,000 numbers each.
-/
import Derived.Test.YtfjmhnnjgjcmeaaDoorLFill
import Derived.StillTailTactics
namespace Go.Proofs.YtfjmhnnjgjcmeaaDoor.L
open Go.RowKit

theorem gm_take : ∀ (p a b : List Int) (k : Int), gm (p ++ a) (p ++ b) k = (List.range p.length).map (fun j : Nat => k + (j : Int)) ++ gm a b (k + p.length)
  | [], a, b, k => by simp
  | x :: p, a, b, k => by
    show gm (x :: (p ++ a)) (x :: (p ++ b)) k = _
    rw [gm_same, gm_take p a b (k + 1), List.length_cons, List.range_succ_eq_map, List.map_cons, List.map_map]
    have e1 : k + 1 + (p.length : Int) = k + ((p.length + 1 : Nat) : Int) := by push_cast; omega
    have e2 : (fun j : Nat => k + 1 + (j : Int)) = (fun j : Nat => k + (j : Int)) ∘ Nat.succ := by
      funext j
      simp only [Function.comp_apply, Nat.succ_eq_add_one]
      push_cast
      omega
    rw [e1, e2]
    simp
/-- The match begins with the common beginning. -/
theorem gm_pfx (a b : List Int) : gm a b 0 = (List.range (pfx a b)).map (fun j : Nat => (j : Int)) ++ gm (a.drop (pfx a b)) (b.drop (pfx a b)) (pfx a b : Nat) := by
  have hp := pfx_le a b
  have h := gm_take (a.take (pfx a b)) (a.drop (pfx a b)) (b.drop (pfx a b)) 0
  rw [List.take_append_drop] at h
  rw [pfx_take a b, List.take_append_drop, List.length_take, Nat.min_eq_left hp.2] at h
  rw [h]
  simp

/-- What is told where a table would be too large. -/
def longAt (n m p s : Nat) (j : Nat) : Int := if j < p then (j : Int) else if n - s ≤ j then (m : Int) - (n - j) else -1
/-- What Match tells. -/
def matchOf (a b : List Int) : List Int :=
  if 2000 < a.length ∨ 2000 < b.length then (List.range a.length).map (longAt a.length b.length (pfx a b) (sfx a b)) else gm a b 0
theorem matchOf_length (a b : List Int) : (matchOf a b).length = a.length := by
  unfold matchOf
  split
  · simp
  · exact gm_length a b 0

/-- A row of n numbers. -/
def rowN (n : Nat) (f : Nat → Int) : Array Value := ((List.range n).map fun j => Value.int .i64 (f j)).toArray
theorem rowN_size (n : Nat) (f : Nat → Int) : (rowN n f).size = n := by simp [rowN]
theorem rowN_get {n j : Nat} (f : Nat → Int) (h : j < n) : (rowN n f)[j]? = some (.int .i64 (f j)) := by
  simp [rowN, List.getElem?_range h]
theorem rowN_set {n j : Nat} (f : Nat → Int) (v : Int) : (rowN n f).setIfInBounds j (.int .i64 v) = rowN n (fun i => if i = j then v else f i) := by
  apply Array.ext
  · simp [rowN]
  · intro i h1 h2
    simp [rowN] at h1
    rw [Array.getElem_setIfInBounds (by simp [rowN]; omega)]
    simp [rowN]
    by_cases e : j = i
    · simp [e]
    · simp [e, Ne.symm e]
theorem rowN_congr {n : Nat} {f g : Nat → Int} (h : ∀ j, j < n → f j = g j) : rowN n f = rowN n g := by
  unfold rowN
  congr 1
  apply List.map_congr_left
  intro j hj
  rw [h j (List.mem_range.1 hj)]
theorem rowN_made (n : Nat) : madeCells (Value.int .i64 0).cells (((n : Nat) : Int).toNat * 1) = rowN n (fun _ => 0) := by
  rw [show (((n : Nat) : Int).toNat * 1) = n by omega]
  apply Array.ext
  · simp [rowN, madeCells]
  · intro i h1 h2
    simp [rowN, madeCells, Value.cells, Nat.mod_one]
theorem made_rowN (n : Nat) (hn : n ≤ 1000000) (V : World) : (Instr.makeSlice 85 (.int .i64 (n : Int)) (.int .i64 (n : Int))).run Tryd.prog V = .ok (.slice (some ⟨V.heap.size, 0, none⟩) n n) (V.alloc (.cells (rowN n fun _ => 0) 3)) := by
  obtain ⟨i0, hi, hz0, hz1, hz2⟩ : ∃ i0, Tryd.prog.info? 3 = some i0 ∧ i0.zero = some (.int .i64 0) ∧ i0.size = 1 ∧ i0.bytes = 8 := info_parts (by kernel_rfl)
  rw [run_make V 85 3 i0 _ Tryd.underlying85 hi hz0 .i64 .i64 _ _ (by omega) (by omega) (by rw [hz2]; omega) (by omega), hz1, rowN_made]
  simp
theorem rowN_list (l : List Int) (f : Nat → Int) (h : ∀ j x, l[j]? = some x → f j = x) : rowN l.length f = (l.map (Value.int .i64)).toArray := by
  apply Array.ext
  · simp [rowN]
  · intro i h1 h2
    simp [rowN] at h1 ⊢
    exact h i _ (List.getElem?_eq_getElem h1)

/-- What is so behind a call that gives a new row of numbers. -/
def Gives (w : World) (l : List Int) (e : Ending) (w' : World) : Prop :=
  ∃ g, e = .returned (.slice (some ⟨g, 0, none⟩) l.length l.length) ∧ w.heap.size ≤ g ∧ RowAt w' g 3 (l.map (Value.int .i64)).toArray ∧ Below w.heap.size w w'

/-- 'v[lo:]' of a slice that reads as numbers. -/
theorem Ints.cutFrom {W : World} {v : Value} {xs : List Int} (h : Ints W .i64 v xs) (lo : Nat) (h1 : lo ≤ xs.length) :
    ∃ v', (∀ V : World, (Instr.slice 85 v (some (.int .i64 (lo : Int))) none none).run Tryd.prog V = .ok v' V) ∧ Ints W .i64 v' (xs.drop lo) := by
  obtain ⟨a, cap, rfl, hc, hm, hx⟩ := h
  have hrun : ∀ V : World, (Instr.slice 85 (.slice a xs.length cap) (some (.int .i64 (lo : Int))) none none).run Tryd.prog V = .ok (.slice (if cap = lo then a else a.map (·.add (lo * 1))) (xs.length - lo) (cap - lo)) V := by
    intro V
    rw [run_slice_l V 85 _ xs.length _ slice22 .i64 _ (by omega) (by omega), elem22, size3]
    simp [Result.andThen, sliced]
  refine ⟨_, hrun, ?_⟩
  refine ⟨_, _, by rw [List.length_drop], by simp; omega, by omega, ?_⟩
  by_cases he : xs.length - lo = 0
  · left; exact List.drop_of_length_le (by omega)
  · right
    rcases hx with rfl | ⟨b, off, rfl, hb, hx⟩
    · simp at he
    · rw [if_neg (by omega)]
      refine ⟨b, off + lo, ?_, hb, fun j x hj => ?_⟩
      · simp [Addr.add]
      · rw [Nat.add_assoc]
        refine hx _ _ ?_
        rw [List.getElem?_drop] at hj; exact hj

/-- The first loop of Match, behind i rounds. -/
def Init (W : World) (O n p i : Nat) : Prop := ∃ f : Nat → Int, (∀ j, j < i → f j = if j < p then (j : Int) else -1) ∧ RowAt W O 3 (rowN n f)

theorem Init.step {W : World} {O n p i : Nat} {v : Int} (h : Init W O n p i) (hv : v = if i < p then (i : Int) else -1) : Init (W.setCell ⟨O, i, none⟩ (.int .i64 v)) O n p (i + 1) := by
  obtain ⟨f, q2, q3⟩ := h
  refine ⟨_, ?_, by have := q3.set i (.int .i64 v); rw [rowN_set] at this; exact this⟩
  intro j h1
  show (if j = i then v else f j) = _
  by_cases e : j = i
  · rw [if_pos e, e, hv]
  · rw [if_neg e, q2 j (by omega)]
theorem Init.put {W : World} {O n p i : Nat} (h : Init W O n p i) (v : Int) : Init (W.setCell ⟨O, i, none⟩ (.int .i64 v)) O n p i := by
  obtain ⟨f, q2, q3⟩ := h
  refine ⟨_, ?_, by have := q3.set i (.int .i64 v); rw [rowN_set] at this; exact this⟩
  intro j h1
  show (if j = i then v else f j) = _
  rw [if_neg (by omega), q2 j h1]
theorem Init.done {W : World} {O n p : Nat} (h : Init W O n p n) : RowAt W O 3 (rowN n fun j => if j < p then (j : Int) else -1) := by
  obtain ⟨f, q2, q3⟩ := h
  rw [← rowN_congr q2]
  exact q3
/-- The second loop of Match, behind i rounds. -/
def tailAt (n m p i : Nat) (j : Nat) : Int := if n - i ≤ j then (m : Int) - (n - j) else if j < p then (j : Int) else -1
theorem tail_zero (n m p : Nat) : rowN n (fun j => if j < p then (j : Int) else -1) = rowN n (tailAt n m p 0) :=
  rowN_congr fun j h => by unfold tailAt; rw [if_neg (show ¬ n - 0 ≤ j by omega)]
theorem tail_step {n m p i q : Nat} (hq : n - 1 - i = q) (hi : i < n) : (rowN n (tailAt n m p i)).setIfInBounds q (.int .i64 ((m : Int) - 1 - (i : Int))) = rowN n (tailAt n m p (i + 1)) := by
  rw [rowN_set]
  refine rowN_congr fun j h => ?_
  unfold tailAt
  by_cases e : j = q
  · rw [if_pos e, if_pos (by omega)]
    omega
  · rw [if_neg e]
    by_cases e2 : n - i ≤ j
    · rw [if_pos e2, if_pos (by omega)]
    · rw [if_neg e2, if_neg (show ¬ n - (i + 1) ≤ j by omega)]
theorem tail_done {n m p s : Nat} (h : s + p ≤ n) : rowN n (tailAt n m p s) = (((List.range n).map (longAt n m p s)).map (Value.int .i64)).toArray := by
  unfold rowN
  rw [List.map_map]
  congr 1
  apply List.map_congr_left
  intro j hj
  have := List.mem_range.1 hj
  simp only [Function.comp_apply]
  congr 1
  unfold tailAt longAt
  by_cases e : j < p
  · rw [if_neg (show ¬ n - s ≤ j by omega)]
    simp [e]
  · by_cases e2 : n - s ≤ j
    · rw [if_pos e2, if_neg e, if_pos e2]
    · rw [if_neg e2, if_neg e, if_neg e, if_neg e2]

theorem Tab.other {W : World} {T i O : Nat} {a b : List Int} (h : Tab W T i a b) (hO : O < T) (j : Nat) (v : Value) : Tab (W.setCell ⟨O, j, none⟩ v) T i a b := by
  obtain ⟨vs, h1, h2, h3⟩ := h
  refine ⟨vs, h1.other (by omega) _ _, h2, fun j h4 h5 => ?_⟩
  obtain ⟨g, g1, g2, g3⟩ := h3 j h4 h5
  exact ⟨g, g1, g2, g3.other (by omega) _ _⟩
theorem Tab.draws {W : World} {T i : Nat} {a b : List Int} (h : Tab W T i a b) (q : Nat) : Tab (W.drewN q) T i a b := h
/-- The third loop of Match: where it stands, and what is told so far. -/
def Walk (W : World) (O T i k p : Nat) (A B : List Int) : Prop :=
  p ≤ i ∧ i ≤ A.length ∧ p ≤ k ∧ k ≤ B.length ∧ O < T ∧ Tab W T 0 (A.drop p) (B.drop p) ∧
    ∃ pre : List Int, pre.length = i ∧ gm A B 0 = pre ++ gm (A.drop i) (B.drop k) k ∧ RowAt W O 3 ((pre ++ List.replicate (A.length - i) (-1)).map (Value.int .i64)).toArray
theorem row_put (pre : List Int) (n i : Nat) (v : Int) (h1 : pre.length = i) (h2 : i < n) :
    (((pre ++ List.replicate (n - i) (-1)).map (Value.int .i64)).toArray).setIfInBounds i (.int .i64 v) = (((pre ++ [v]) ++ List.replicate (n - (i + 1)) (-1)).map (Value.int .i64)).toArray := by
  obtain ⟨d, hd⟩ : ∃ d, n - i = d + 1 := ⟨n - i - 1, by omega⟩
  rw [hd, show n - (i + 1) = d by omega, List.replicate_succ]
  apply Array.toList_inj.1
  simp [h1]
theorem Walk.same {W : World} {O T i k p : Nat} {A B : List Int} {x : Int} (h : Walk W O T i k p A B) (hx : A[i]? = some x) (hy : B[k]? = some x) : Walk (W.setCell ⟨O, i, none⟩ (.int .i64 (k : Int))) O T (i + 1) (k + 1) p A B := by
  obtain ⟨a1, a2, a3, a4, a5, hT, pre, b1, b2, b3⟩ := h
  have l1 := (List.getElem?_eq_some_iff.1 hx).1
  have l2 := (List.getElem?_eq_some_iff.1 hy).1
  refine ⟨by omega, by omega, by omega, by omega, a5, hT.other a5 _ _, pre ++ [(k : Int)], by simp [b1], ?_, ?_⟩
  · rw [b2, drop_get hx, drop_get hy, gm_same]
    simp
  · rw [← row_put pre A.length i k b1 l1]
    exact b3.set i _
theorem Walk.skip {W : World} {O T i k p : Nat} {A B : List Int} {x y : Int} (h : Walk W O T i k p A B) (hx : A[i]? = some x) (hy : B[k]? = some y) (hne : x ≠ y) (hl : lc (A.drop i) (B.drop (k + 1)) ≤ lc (A.drop (i + 1)) (B.drop k)) : Walk W O T (i + 1) k p A B := by
  obtain ⟨a1, a2, a3, a4, a5, hT, pre, b1, b2, b3⟩ := h
  have l1 := (List.getElem?_eq_some_iff.1 hx).1
  refine ⟨by omega, by omega, a3, a4, a5, hT, pre ++ [(-1 : Int)], by simp [b1], ?_, ?_⟩
  · rw [drop_get hx, drop_get hy] at b2
    rw [drop_get hx, drop_get hy] at hl
    rw [b2, gm_skip hne _ _ _ hl, drop_get hy]
    simp
  · obtain ⟨d, hd⟩ : ∃ d, A.length - i = d + 1 := ⟨A.length - i - 1, by omega⟩
    rw [hd, List.replicate_succ] at b3
    rw [show A.length - (i + 1) = d by omega, List.append_assoc]
    exact b3
theorem Walk.next {W : World} {O T i k p : Nat} {A B : List Int} {x y : Int} (h : Walk W O T i k p A B) (hx : A[i]? = some x) (hy : B[k]? = some y) (hne : x ≠ y) (hl : ¬ lc (A.drop i) (B.drop (k + 1)) ≤ lc (A.drop (i + 1)) (B.drop k)) : Walk W O T i (k + 1) p A B := by
  obtain ⟨a1, a2, a3, a4, a5, hT, pre, b1, b2, b3⟩ := h
  have l2 := (List.getElem?_eq_some_iff.1 hy).1
  refine ⟨a1, a2, by omega, by omega, a5, hT, pre, b1, ?_, b3⟩
  rw [drop_get hx, drop_get hy] at b2
  rw [drop_get hx, drop_get hy] at hl
  rw [b2, gm_next hne _ _ _ hl, drop_get hx]
  push_cast
  rfl
theorem Walk.done {W : World} {O T i k p : Nat} {A B : List Int} (h : Walk W O T i k p A B) (he : ¬ (i < A.length ∧ k < B.length)) : RowAt W O 3 ((gm A B 0).map (Value.int .i64)).toArray := by
  obtain ⟨a1, a2, a3, a4, a5, hT, pre, b1, b2, b3⟩ := h
  rw [b2]
  by_cases hi : i < A.length
  · rw [List.drop_of_length_le (show B.length ≤ k by omega), gm_nil_right, List.length_drop]
    exact b3
  · rw [List.drop_of_length_le (show A.length ≤ i by omega), gm]
    rw [show A.length - i = 0 by omega] at b3
    exact b3
theorem Walk.start {W : World} {O T n p : Nat} {A B : List Int} (hn : A.length = n) (h1 : p = pfx A B) (hO : O < T) (hT : Tab W T 0 (A.drop p) (B.drop p)) (hr : RowAt W O 3 (rowN n fun j => if j < p then (j : Int) else -1)) : Walk W O T p p p A B := by
  subst h1 hn
  have hp := pfx_le A B
  refine ⟨Nat.le_refl _, hp.1, Nat.le_refl _, hp.2, hO, hT, (List.range (pfx A B)).map (fun j : Nat => (j : Int)), by simp, gm_pfx A B, ?_⟩
  have he : (((List.range (pfx A B)).map (fun j : Nat => (j : Int)) ++ List.replicate (A.length - pfx A B) (-1)).map (Value.int .i64)).toArray = rowN A.length (fun j => if j < pfx A B then (j : Int) else -1) := ?_
  · rw [he]
    exact hr
  · apply Array.ext
    · simp [rowN]; omega
    · intro j h1 h2
      simp [rowN] at h2 ⊢
      rw [List.getElem_append]
      by_cases e : j < pfx A B
      · simp [e]
      · simp [e]
/-- What the walk reads of the table. -/
theorem Walk.reads {W : World} {O T i k p : Nat} {A B : List Int} (h : Walk W O T i k p A B) (hi : i < A.length) (hk : k < B.length) :
    ∃ g0 g1, W.cell? ⟨T, i + 1 - p, none⟩ = some (sl g1 (B.length - p)) ∧ W.cell? ⟨g1, k - p, none⟩ = some (.int .u16 (lc (A.drop (i + 1)) (B.drop k))) ∧ W.cell? ⟨T, i - p, none⟩ = some (sl g0 (B.length - p)) ∧ W.cell? ⟨g0, k + 1 - p, none⟩ = some (.int .u16 (lc (A.drop i) (B.drop (k + 1)))) := by
  obtain ⟨a1, a2, a3, a4, a5, ⟨vs, t1, t2, t3⟩, _⟩ := h
  obtain ⟨g1, _, e1, r1⟩ := t3 (i + 1 - p) (by omega) (by simp; omega)
  obtain ⟨g0, _, e0, r0⟩ := t3 (i - p) (by omega) (by simp; omega)
  rw [List.length_drop] at e1 e0 r1 r0
  refine ⟨g0, g1, t1.cell e1, ?_, t1.cell e0, ?_⟩
  · rw [r1.cell (rowU_get _ (by omega : k - p ≤ B.length - p))]
    unfold E
    rw [List.drop_drop, List.drop_drop, show p + (i + 1 - p) = i + 1 by omega, show p + (k - p) = k by omega]
  · rw [r0.cell (rowU_get _ (by omega : k + 1 - p ≤ B.length - p))]
    unfold E
    rw [List.drop_drop, List.drop_drop, show p + (i - p) = i by omega, show p + (k + 1 - p) = k + 1 by omega]

set_option maxRecDepth 100000 in
set_option maxHeartbeats 16000000 in
theorem Match_any (v1 v2 : Value) (A B : List Int) (w : World) (h1 : Ints w .i64 v1 A) (h2 : Ints w .i64 v2 B) (hl1 : A.length ≤ 1000000) (hl2 : B.length ≤ 1000000) :
    Calls Tryd.prog 55 #[v1, v2] w (Gives w (matchOf A B)) := by
  obtain ⟨aA, cA, rfl, -, hmxA, -⟩ := h1.at
  obtain ⟨aB, cB, rfl, -, hmxB, -⟩ := h2.at
  have HB := Lib.hid h2; clear h2
  have hpl := pfx_le A B
  have hsl := sfx_le A B
  obtain ⟨p, hp⟩ : ∃ p, Hid (pfx A B = p) := ⟨_, Lib.hid rfl⟩
  obtain ⟨s, hs⟩ : ∃ s, Hid (sfx A B = s) := ⟨_, Lib.hid rfl⟩
  rw [hp.out] at hpl hsl
  rw [hs.out] at hsl
  obtain ⟨n, hn⟩ : ∃ n, A.length = n := ⟨_, rfl⟩
  rw [hn] at h1 hpl hsl hl1 ⊢
  have HA := Lib.hid h1; clear h1
  have Hn := Lib.hid hn; clear hn
  obtain ⟨O, hO⟩ : ∃ O, w.heap.size = O := ⟨_, rfl⟩
  obtain ⟨W2, hW2⟩ : ∃ W2, Hid (w.alloc (.cells (rowN n fun _ => 0) 3) = W2) := ⟨_, Lib.hid rfl⟩
  have hmk : (Instr.makeSlice 85 (.int .i64 (n : Int)) (.int .i64 (n : Int))).run Tryd.prog w = .ok (.slice (some ⟨O, 0, none⟩) n n) W2 := by rw [made_rowN n hl1, hW2.out, hO]
  have rO : RowAt W2 O 3 (rowN n fun _ => 0) := by rw [← hW2.out, ← hO]; exact RowAt.new _ _ _
  have b2 : Below O w W2 := by rw [← hW2.out, ← hO]; exact (Below.refl _ w).alloc (Nat.le_refl _) _
  clear hW2
  have HA2 := Lib.hid (HA.out.below (W' := W2) (by rw [hO]; exact b2))
  have HB2 := Lib.hid (HB.out.below (W' := W2) (by rw [hO]; exact b2))
  go_enter Tryd.func55, Tryd.ntmps55
  go_wp2_with fail
  refine (ends_any _ _ A B _ HA2.out HB2.out (by rw [Hn.out]; exact hl1) hl2).mono ?_
  rw [hp.out, hs.out]
  rintro e w1 ⟨rfl, b1⟩
  have rO1 := rO.later b1
  have bO1 : Below O w w1 := b2.trans (b1.mono (by have := rO.lt; omega))
  clear hmk rO b2 b1 HA2 HB2
  go_wp2_with fail
  go_loopw [24] (fun c wr => ∃ i : Nat, i ≤ n ∧ c = .int .i64 i ∧ Init wr O n p i ∧ Below O w wr) (fun c _ => n - (intOf c).toNat)
  case atStart => exact ⟨0, Nat.zero_le _, rfl, ⟨_, fun j h => by omega, rO1⟩, bO1⟩
  case round =>
    clear rO1 bO1
    obtain ⟨i, hi, rfl, ⟨f, hf, rO⟩, hB⟩ := hrel
    by_cases hlt : i < n
    · have c0 : wr.cell? ⟨O, i, none⟩ = some (.int .i64 (f i)) := rO.cell (rowN_get _ hlt)
      have f0 := rO.frozen i
      have hlO := rO.lt
      have Hf := Lib.hid hf; clear hf
      have HI : Hid (Init wr O n p i) := Lib.hid ⟨f, Hf.out, rO⟩
      clear rO
      by_cases hip : i < p
      · have hd : decide (i < p) = true := by simpa using hip
        go_wp2_with fail
        exact ⟨⟨i + 1, by omega, by go_num, (HI.out.put (-1)).step (by rw [if_pos hip]), (hB.setCell (p := ⟨O, i, none⟩) (Nat.le_refl _) _).setCell (p := ⟨O, i, none⟩) (Nat.le_refl _) _⟩, by simp [intOf]; omega⟩
      · have hd : decide (i < p) = false := by simpa using hip
        go_wp2_with fail
        exact ⟨⟨i + 1, by omega, by go_num, HI.out.step (by rw [if_neg hip]), hB.setCell (p := ⟨O, i, none⟩) (Nat.le_refl _) _⟩, by simp [intOf]; omega⟩
    · obtain rfl : i = n := by omega
      have rI := Init.done ⟨f, hf, rO⟩
      clear hf rO hlt hi
      go_wp2_with fail
      refine (tooLong_any _ _ _ _ _ _ _).mono ?_
      by_cases hl : 2000 < i ∨ 2000 < B.length
      · have hd : (decide (2000 < i) || decide (2000 < B.length)) = true := by simpa using hl
        rw [hd]
        rintro e w' ⟨rfl, rfl⟩
        have hm : matchOf A B = (List.range i).map (longAt i B.length p s) := by
          unfold matchOf
          rw [if_pos (by rw [Hn.out]; exact hl), Hn.out, hp.out, hs.out]
        have hml := matchOf_length A B
        rw [Hn.out] at hml
        have Hm := Lib.hid hm; clear hm
        have Hml := Lib.hid hml; clear hml
        rw [tail_zero i B.length p] at rI
        clear hl hd
        go_wp2_with fail
        go_loopw [42] (fun c wr => ∃ k : Nat, k ≤ s ∧ c = .int .i64 k ∧ RowAt wr O 3 (rowN i (tailAt i B.length p k)) ∧ Below O w wr) (fun c _ => s - (intOf c).toNat)
        case atStart => exact ⟨0, Nat.zero_le _, rfl, rI, hB⟩
        case round =>
          clear rI hB
          obtain ⟨k, hk, rfl, rO, hB⟩ := hrel
          by_cases hlt : k < s
          · obtain ⟨q, hq⟩ : ∃ q, i - 1 - k = q := ⟨_, rfl⟩
            have Hs := tail_step (m := B.length) (p := p) hq (by omega)
            have hqi : q < i := by omega
            have c0 : wr.cell? ⟨O, q, none⟩ = some (.int .i64 _) := rO.cell (rowN_get _ hqi)
            have f0 := rO.frozen q
            have hlO := rO.lt
            have i1 : (i : Int) - 1 - (k : Int) = (q : Int) := by omega
            have Hrow : Hid (RowAt (wr.setCell ⟨O, q, none⟩ (.int .i64 ((B.length : Int) - 1 - (k : Int)))) O 3 (rowN i (tailAt i B.length p (k + 1)))) := by rw [← Hs]; exact Lib.hid (rO.set q _)
            clear Hs rO hq
            go_wp2_with fail
            exact ⟨⟨k + 1, by omega, by go_num, Hrow.out, hB.setCell (p := ⟨O, q, none⟩) (Nat.le_refl _) _⟩, by simp [intOf]; omega⟩
          · obtain rfl : k = s := by omega
            rw [tail_done (by omega), ← Hm.out] at rO
            clear hlt hk
            go_wp2_with fail
            go_ret
            exact ⟨O, by rw [Hml.out]; rfl, by omega, rO, hB.mono (by omega)⟩
      · have hd : (decide (2000 < i) || decide (2000 < B.length)) = false := by simp; omega
        rw [hd]
        rintro e w' ⟨rfl, rfl⟩
        have hm : matchOf A B = gm A B 0 := by
          unfold matchOf
          rw [if_neg (by rw [Hn.out]; exact hl)]
        have hml := matchOf_length A B
        rw [Hn.out] at hml
        have Hm := Lib.hid hm
        obtain ⟨vA, ra, hA'⟩ := HA.out.cutFrom p (by rw [Hn.out]; omega)
        obtain ⟨vB, rb, hB'⟩ := HB.out.cutFrom p (by omega)
        have HA2 := Lib.hid (hA'.below (W' := wr) (by rw [hO]; exact hB))
        have HB2 := Lib.hid (hB'.below (W' := wr) (by rw [hO]; exact hB))
        have Hml := Lib.hid hml; clear hml
        clear hm hA' hB'
        go_wp2_with fail
        go_still_tail 6, (by kernel_rfl)
        change wpList _ _ _ _ _ wr.drew
        obtain ⟨V, hV⟩ : ∃ V, Hid (wr.drew = V) := ⟨_, Lib.hid rfl⟩
        have HA3 : Hid (Ints V .i64 vA (A.drop p)) := by rw [← hV.out]; exact HA2
        have HB3 : Hid (Ints V .i64 vB (B.drop p)) := by rw [← hV.out]; exact HB2
        have hBV : Below O w V := by rw [← hV.out]; exact below_draws hB 1
        have rV : RowAt V O 3 (rowN i fun j => if j < p then (j : Int) else -1) := by rw [← hV.out]; exact rI
        rw [hV.out]
        clear hV HA2 HB2 hB rI ra rb hd
        obtain ⟨aA', cA', eA, -, -, hatA⟩ := HA.out.at
        injection eA with q1 q2 q3
        subst q1
        clear q2 q3
        obtain ⟨aB', cB', eB, -, -, hatB⟩ := HB.out.at
        injection eB with q1 q2 q3
        subst q1
        clear q2 q3
        have HcA := Lib.hid hatA; clear hatA
        have HcB := Lib.hid hatB; clear hatB
        go_wp2_with fail
        refine (fill_any _ _ _ _ _ HA3.out HB3.out (by simp; have := Hn.out; omega) (by simp; omega)).mono ?_
        rintro e w' ⟨T, rfl, hT, hTab, hBT⟩
        have hlO := rV.lt
        have hW : Walk w' O T p p p A B := Walk.start Hn.out hp.out.symm (by omega) hTab (rV.later hBT)
        have hBw : Below O w w' := hBV.trans (hBT.mono (by omega))
        have hOT : O < T := by omega
        clear hTab hBT rV hBV hT HA3 HB3 hlO
        go_wp2_with fail
        go_loopw [11, 12] (fun c d wr => ∃ j k : Nat, c = .int .i64 j ∧ d = .int .i64 k ∧ Walk wr O T j k p A B ∧ Below O w wr) (fun c d _ => (i - (intOf c).toNat) + (B.length - (intOf d).toNat))
        case atStart => exact ⟨p, p, rfl, rfl, hW, hBw⟩
        case round =>
          clear hW hBw
          obtain ⟨j, k, rfl, rfl, hW, hB⟩ := hrel
          have HW := Lib.hid hW
          obtain ⟨hpj, hjA, hpk, hkB, -, -⟩ := hW
          rw [Hn.out] at hjA
          by_cases hin : j < i ∧ k < B.length
          · obtain ⟨hlj, hlk⟩ := hin
            have hlj' : j < A.length := by rw [Hn.out]; exact hlj
            obtain ⟨x, hx⟩ : ∃ x, Hid (A[j]? = some x) := ⟨A[j], Lib.hid (List.getElem?_eq_getElem hlj')⟩
            obtain ⟨y, hy⟩ : ∃ y, Hid (B[k]? = some y) := ⟨B[k], Lib.hid (List.getElem?_eq_getElem hlk)⟩
            obtain ⟨bA, oA, rfl, hbA, cellA⟩ := HcA.out j x hx.out
            obtain ⟨bB, oB, rfl, hbB, cellB⟩ := HcB.out k y hy.out
            have ca : wr.cell? ⟨bA, oA + j, none⟩ = some (.int .i64 x) := (hB.cell (p := ⟨bA, oA + j, none⟩) (by show bA < O; omega)).trans cellA
            have cb : wr.cell? ⟨bB, oB + k, none⟩ = some (.int .i64 y) := (hB.cell (p := ⟨bB, oB + k, none⟩) (by show bB < O; omega)).trans cellB
            have hd1 : decide (j < i) = true := by simpa using hlj
            have hd2 : decide (k < B.length) = true := by simpa using hlk
            have Hbel := Lib.hid hB; clear hB
            clear cellA cellB hlj'
            by_cases hxy : x = y
            · have hb : (x == y) = true := by simpa using hxy
              obtain ⟨O0, c0, f0⟩ : ∃ v0, wr.cell? ⟨O, j, none⟩ = some v0 ∧ wr.frozen? ⟨O, j, none⟩ = false := by
                obtain ⟨_, _, _, _, _, _, pre, p1, _, p3⟩ := HW.out
                refine ⟨_, p3.cell (Array.getElem?_eq_getElem (show j < _ by simp [p1]; have := Hn.out; omega)), p3.frozen j⟩
              have Hnew := Lib.hid (fun q => Walk.same (W := wr.drewN q) HW.out hx.out (by rw [hxy]; exact hy.out))
              clear hxy HW
              go_wp2_with fail
              go_quiet (fail)
              go_wp2_with fail
              exact ⟨⟨j + 1, k + 1, by go_num, by go_num, Hnew.out nq, (below_draws Hbel.out nq).setCell (p := ⟨O, j, none⟩) (Nat.le_refl _) _⟩, by simp [intOf]; omega⟩
            · have hb : (x == y) = false := by simpa using hxy
              obtain ⟨g0, g1, t1, t2, t3, t4⟩ := Walk.reads HW.out (by rw [Hn.out]; exact hlj) hlk
              have hs1 : IntKind.i64.wrap ((j : Int) + 1) = (j : Int) + 1 := IntWalk.i64_in _ (by omega)
              have hs2 : IntKind.i64.wrap ((j : Int) + 1 - (p : Int)) = ((j + 1 - p : Nat) : Int) := by rw [IntWalk.i64_in _ (by omega)]; omega
              have hs3 : IntKind.i64.wrap ((k : Int) - (p : Int)) = ((k - p : Nat) : Int) := by rw [IntWalk.i64_in _ (by omega)]; omega
              have hs4 : IntKind.i64.wrap ((j : Int) - (p : Int)) = ((j - p : Nat) : Int) := by rw [IntWalk.i64_in _ (by omega)]; omega
              have hs5 : IntKind.i64.wrap ((k : Int) + 1) = (k : Int) + 1 := IntWalk.i64_in _ (by omega)
              have hs6 : IntKind.i64.wrap ((k : Int) + 1 - (p : Int)) = ((k + 1 - p : Nat) : Int) := by rw [IntWalk.i64_in _ (by omega)]; omega
              have q1 : j + 1 - p < 2001 := by omega
              have q2 : j - p < 2001 := by omega
              have q3 : k - p < B.length - p + 1 := by omega
              have q4 : k + 1 - p < B.length - p + 1 := by omega
              generalize j + 1 - p = j1 at hs2 t1 q1
              generalize k - p = k0 at hs3 t2 q3
              generalize j - p = j0 at hs4 t3 q2
              generalize k + 1 - p = k1 at hs6 t4 q4
              by_cases hle : lc (A.drop j) (B.drop (k + 1)) ≤ lc (A.drop (j + 1)) (B.drop k)
              · have Hnew := Lib.hid (fun q => Walk.skip (W := wr.drewN q) HW.out hx.out hy.out hxy hle)
                generalize lc (A.drop j) (B.drop (k + 1)) = z1 at hle t4
                generalize lc (A.drop (j + 1)) (B.drop k) = z0 at hle t2
                have hz : decide (z1 ≤ z0) = true := by simpa using hle
                clear hxy HW hle
                go_wp2_with fail
                go_quiet (fail)
                go_wp2_with fail
                go_quiet (fail)
                go_wp2_with fail
                exact ⟨⟨j + 1, k, by go_num, rfl, Hnew.out _, below_draws Hbel.out _⟩, by simp [intOf]; omega⟩
              · have Hnew := Lib.hid (fun q => Walk.next (W := wr.drewN q) HW.out hx.out hy.out hxy hle)
                generalize lc (A.drop j) (B.drop (k + 1)) = z1 at hle t4
                generalize lc (A.drop (j + 1)) (B.drop k) = z0 at hle t2
                have hz : decide (z1 ≤ z0) = false := by simpa using hle
                clear hxy HW hle
                go_wp2_with fail
                go_quiet (fail)
                go_wp2_with fail
                go_quiet (fail)
                go_wp2_with fail
                exact ⟨⟨j, k + 1, rfl, by go_num, Hnew.out _, below_draws Hbel.out _⟩, by simp [intOf]; omega⟩
          · have hfin := Walk.done HW.out (by rw [Hn.out]; exact hin)
            rw [← Hm.out] at hfin
            have hOw : w.heap.size ≤ O := by omega
            have hBw := hB.mono hOw
            have HOw := Lib.hid hOw; clear hOw
            clear hO hB HW
            by_cases hlj : j < i
            all_goals
              first
              | (have hd1 : decide (j < i) = true := by simpa using hlj
                 have hd2 : decide (k < B.length) = false := by simp; omega
                 clear hin hlj
                 go_wp2_with fail
                 go_ret
                 exact ⟨O, by rw [Hml.out]; rfl, HOw.out, hfin, hBw⟩)
              | (have hd1 : decide (j < i) = false := by simpa using hlj
                 clear hin hlj
                 go_wp2_with fail
                 go_ret
                 exact ⟨O, by rw [Hml.out]; rfl, HOw.out, hfin, hBw⟩)
end Go.Proofs.YtfjmhnnjgjcmeaaDoor.L
