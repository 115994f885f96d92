/-
  For the laws of weave: the kind of a chunk, and the iterator over chunks as a value. Condition: rows of at most 1,000,000 things.
-/
import Derived.Test.YtfjmhnnjgjcmeaaDoorDa
import Derived.Test.YtfjmhnnjgjcmeaaDoorShelf
namespace Go.Proofs.YtfjmhnnjgjcmeaaDoor.L
open Go.RowKit Go.Shelf
set_option linter.unusedVariables false
set_option linter.unusedSimpArgs false

theorem Equal_any (v1 v2 : Value) (xs ys : List Int) (w : World) (h1 : Ints w .i64 v1 xs) (h2 : Ints w .i64 v2 ys) :
    Calls Tryd.prog 72 #[v1, v2] w fun e w' => e = .returned (.bool (decide (xs = ys))) ∧ ∃ q, w' = w.drewN q := by
  obtain ⟨a1, c1, rfl, hc1, hm1, h1⟩ := h1
  obtain ⟨a2, c2, rfl, hc2, hm2, h2⟩ := h2
  unfold maxLen at hm1 hm2
  by_cases hlen : xs.length = ys.length
  · rcases h1 with rfl | ⟨b1, o1, rfl, hb1, hx1⟩
    · have hy : ys = [] := List.length_eq_zero_iff.1 (by simpa using hlen.symm)
      subst hy
      refine (Tryd.slices_Equal_int_empty a1 a2 c1 0 c2 w (by omega)).mono ?_
      rintro e w' ⟨rfl, rfl⟩
      exact ⟨by simp, 0, rfl⟩
    · rcases h2 with rfl | ⟨b2, o2, rfl, hb2, hx2⟩
      · have hx : xs = [] := List.length_eq_zero_iff.1 (by simpa using hlen)
        subst hx
        refine (Tryd.slices_Equal_int_empty _ a2 c1 0 c2 w (by omega)).mono ?_
        rintro e w' ⟨rfl, rfl⟩
        exact ⟨by simp, 0, rfl⟩
      · refine (Tryd.slices_Equal_int b1 o1 xs.length c1 b2 o2 ys.length c2 xs ys w (Nat.le_refl _) (Nat.le_refl _) (by omega) (by omega) (fun j hj => ?_) (fun j hj => ?_)).mono ?_
        · rw [hx1 j _ (List.getElem?_eq_getElem hj)]; simp [List.getD, List.getElem?_eq_getElem hj]
        · rw [hx2 j _ (List.getElem?_eq_getElem hj)]; simp [List.getD, List.getElem?_eq_getElem hj]
        · rintro e w' ⟨rfl, hq⟩
          refine ⟨?_, hq⟩
          rw [List.take_length, List.take_length]
          congr 2
          rw [Bool.eq_iff_iff]; simp
  · refine (Tryd.slices_Equal_int_lens a1 a2 xs.length c1 ys.length c2 w hlen).mono ?_
    rintro e w' ⟨rfl, rfl⟩
    refine ⟨?_, 0, rfl⟩
    have : decide (xs = ys) = false := decide_eq_false (fun h => hlen (by rw [h]))
    rw [this]

theorem drewN_add (w : World) (a b : Nat) : (w.drewN a).drewN b = w.drewN (a + b) := by simp [World.drewN, Nat.add_assoc]
/-- A chunk's kind. -/
def kindN (x y z : List Int) : Int := if x = y then (if x = z then 0 else 2) else if x = z then 1 else if y = z then 3 else 4
theorem Ints.drewN {w : World} {v : Value} {xs : List Int} (h : Ints w .i64 v xs) (q : Nat) : Ints (w.drewN q) .i64 v xs := h
set_option maxRecDepth 100000 in
set_option maxHeartbeats 4000000 in
theorem kind_any (v1 v2 v3 : Value) (x y z : List Int) (w : World) (h1 : Ints w .i64 v1 x) (h2 : Ints w .i64 v2 y) (h3 : Ints w .i64 v3 z) :
    Calls Tryd.prog 58 #[v1, v2, v3] w fun e w' => e = .returned (.int .i64 (kindN x y z)) ∧ ∃ q, w' = w.drewN q := by
  have C1 : Hid (∀ q, Calls Tryd.prog 72 #[v1, v2] (w.drewN q) fun e w' => e = .returned (.bool (decide (x = y))) ∧ ∃ q, w' = w.drewN q) := Lib.hid (fun q => (Equal_any v1 v2 x y (w.drewN q) (h1.drewN q) (h2.drewN q)).mono fun e w' ⟨a, q', b⟩ => ⟨a, q + q', by rw [b]; exact drewN_add w q q'⟩)
  have C2 : Hid (∀ q, Calls Tryd.prog 72 #[v1, v3] (w.drewN q) fun e w' => e = .returned (.bool (decide (x = z))) ∧ ∃ q, w' = w.drewN q) := Lib.hid (fun q => (Equal_any v1 v3 x z (w.drewN q) (h1.drewN q) (h3.drewN q)).mono fun e w' ⟨a, q', b⟩ => ⟨a, q + q', by rw [b]; exact drewN_add w q q'⟩)
  have C3 : Hid (∀ q, Calls Tryd.prog 72 #[v2, v3] (w.drewN q) fun e w' => e = .returned (.bool (decide (y = z))) ∧ ∃ q, w' = w.drewN q) := Lib.hid (fun q => (Equal_any v2 v3 y z (w.drewN q) (h2.drewN q) (h3.drewN q)).mono fun e w' ⟨a, q', b⟩ => ⟨a, q + q', by rw [b]; exact drewN_add w q q'⟩)
  obtain ⟨b1, hb1⟩ : ∃ b, Hid (decide (x = y) = b) := ⟨_, Lib.hid rfl⟩
  obtain ⟨b2, hb2⟩ : ∃ b, Hid (decide (x = z) = b) := ⟨_, Lib.hid rfl⟩
  obtain ⟨b3, hb3⟩ : ∃ b, Hid (decide (y = z) = b) := ⟨_, Lib.hid rfl⟩
  have hk : Hid (kindN x y z = if b1 then (if b2 then 0 else 2) else if b2 then 1 else if b3 then 3 else 4) := Lib.hid (by
    rw [← hb1.out, ← hb2.out, ← hb3.out]
    unfold kindN
    simp)
  rw [hb1.out] at C1
  rw [hb2.out] at C2
  rw [hb3.out] at C3
  rw [hk.out]
  clear h1 h2 h3 hb1 hb2 hb3 hk
  go_enter Tryd.func58, Tryd.ntmps58
  go_wp2_with fail
  refine (C1.out 0).mono ?_
  rintro e w' ⟨rfl, q1, rfl⟩
  go_wp2_with fail
  refine (C2.out q1).mono ?_
  rintro e w' ⟨rfl, q2, rfl⟩
  cases b1 <;> cases b2
  case false.false =>
    go_wp2_with fail
    refine (C3.out q2).mono ?_
    rintro e w' ⟨rfl, q3, rfl⟩
    cases b3
    all_goals
      go_wp2_with fail
      go_ret
      exact ⟨by simp, q3, rfl⟩
  all_goals
    go_wp2_with fail
    go_ret
    exact ⟨by simp, q2, rfl⟩

theorem each_any (v1 v2 v3 : Value) (x y z : List Int) (w : World) (h1 : Ints w .i64 v1 x) (h2 : Ints w .i64 v2 y) (h3 : Ints w .i64 v3 z) :
    Calls Tryd.prog 46 #[v1, v2, v3] w fun e w' => e = .returned (.func (.func 54) #[] #[.pointer (some ⟨w.heap.size, 0, none⟩), .pointer (some ⟨w.heap.size + 1, 0, none⟩), .pointer (some ⟨w.heap.size + 1 + 1, 0, none⟩)]) ∧ w' = ((w.alloc (.cells #[v1] 85)).alloc (.cells #[v2] 85)).alloc (.cells #[v3] 85) := by
  obtain ⟨a1, c1, rfl, -⟩ := h1
  obtain ⟨a2, c2, rfl, -⟩ := h2
  obtain ⟨a3, c3, rfl, -⟩ := h3
  go_enter Tryd.func46, Tryd.ntmps46
  go_wp2_with fail
  go_ret
  exact ⟨rfl, rfl⟩
end Go.Proofs.YtfjmhnnjgjcmeaaDoor.L
