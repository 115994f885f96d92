/-
  For the laws of lex: what a text's tokens owe to what stands behind and between them; facts on lists of bytes alone, no program.
-/
import Derived.Test.YtamhlobjolnlhaaDoorChain
namespace Go.Proofs.YtamhlobjolnlhaaDoor

theorem tw_take {p : UInt8 → Bool} {r : List UInt8} : r.take (r.takeWhile p).length = r.takeWhile p := by
  induction r with
  | nil => rfl
  | cons c r ih =>
    rw [List.takeWhile_cons]
    split
    · simp [ih]
    · rfl
theorem tw_stop {p : UInt8 → Bool} {r : List UInt8} {c : UInt8} (h : r[(r.takeWhile p).length]? = some c) : p c = false := by
  induction r with
  | nil => simp at h
  | cons d r ih =>
    rw [List.takeWhile_cons] at h
    split at h
    · simp only [List.length_cons, List.getElem?_cons_succ] at h
      exact ih h
    · simp at h
      subst h
      simp_all
theorem tw_all {p : UInt8 → Bool} {r : List UInt8} {c : UInt8} (h : c ∈ r.takeWhile p) : p c = true := by
  induction r with
  | nil => simp at h
  | cons d r ih =>
    rw [List.takeWhile_cons] at h
    split at h
    · rcases List.mem_cons.1 h with rfl | h
      · assumption
      · exact ih h
    · simp at h
theorem tw_eq {p : UInt8 → Bool} {r : List UInt8} {j : Nat} (h1 : ∀ c ∈ r.take j, p c = true) (h2 : ∀ c, r[j]? = some c → p c = false) (h3 : j ≤ r.length) : (r.takeWhile p).length = j := by
  induction r generalizing j with
  | nil => simp at h3; simp [h3]
  | cons d r ih =>
    rw [List.takeWhile_cons]
    cases j with
    | zero =>
      have := h2 d (by simp)
      rw [if_neg (by simp [this])]
      rfl
    | succ j =>
      have := h1 d (by simp)
      rw [if_pos this, List.length_cons, ih (fun c hc => h1 c (by rw [List.take_succ_cons]; exact List.mem_cons_of_mem _ hc)) (fun c hc => h2 c (by simpa using hc)) (by simpa using h3)]
/-- The list y begins as x does for m bytes, and then goes on as x, or with a space, or ends. -/
def Alike (x y : List UInt8) (m : Nat) : Prop := y.take m = x.take m ∧ m ≤ y.length ∧ ∀ c, y[m]? = some c → x[m]? = some c ∨ c = 32
theorem tw_alike {p : UInt8 → Bool} {x y : List UInt8} (h : Alike x y (x.takeWhile p).length) (h32 : p 32 = false) : (y.takeWhile p).length = (x.takeWhile p).length := by
  obtain ⟨h1, h2, h3⟩ := h
  refine tw_eq ?_ ?_ h2
  · rw [h1, tw_take]
    intro c hc
    exact tw_all hc
  · intro c hc
    rcases h3 c hc with h | rfl
    · exact tw_stop h
    · exact h32
theorem Alike.cons {c d : UInt8} {x y : List UInt8} {m : Nat} (h : Alike (c :: x) (d :: y) (m + 1)) : d = c ∧ Alike x y m := by
  obtain ⟨h1, h2, h3⟩ := h
  simp only [List.take_succ_cons, List.cons.injEq] at h1
  refine ⟨h1.1, h1.2, by simpa using h2, fun e he => ?_⟩
  have := h3 e (by simpa using he)
  simpa using this
theorem name_alike {x y : List UInt8} (h0 : 0 < nameLen x) (h : Alike x y (nameLen x)) : nameLen y = nameLen x := by
  cases x with
  | nil => simp [nameLen] at h0
  | cons c r =>
    rw [nameLen] at h0 h ⊢
    split at h0
    · rename_i hl
      rw [if_pos hl] at h ⊢
      cases y with
      | nil => have := h.2.1; simp at this
      | cons d z =>
        obtain ⟨e, h'⟩ := h.cons
        clear h
        subst e
        rw [nameLen, if_pos hl, tw_alike h' (by decide)]
    · omega
theorem num_alike {x y : List UInt8} (h : Alike x y (numLen x)) : numLen y = numLen x := tw_alike h (by decide)
theorem name_zero {c : UInt8} {r z : List UInt8} (h : nameLen (c :: r) = 0) : nameLen (c :: z) = 0 := by
  rw [nameLen] at h ⊢
  split at h
  · omega
  · rename_i hl; rw [if_neg hl]
theorem num_zero {c : UInt8} {r z : List UInt8} (h : numLen (c :: r) = 0) : numLen (c :: z) = 0 := by
  unfold numLen at h ⊢
  rw [List.takeWhile_cons] at h ⊢
  split at h
  · simp at h
  · rename_i hl; rw [if_neg hl]; rfl
theorem mark_alike {x y : List UInt8} (h0 : 0 < markLen x) (h : Alike x y (markLen x)) : markLen y = markLen x := by
  cases x with
  | nil => simp [markLen] at h0
  | cons c r =>
    cases y with
    | nil => have := h.2.1; simp at this; omega
    | cons d z =>
      rw [markLen] at h0 h
      split at h0
      · rename_i h2
        rw [if_pos h2] at h
        rw [markLen, markLen, if_pos (by rw [h.1]; exact h2), if_pos h2]
      · rename_i h2
        split at h0
        · rename_i h1
          rw [if_neg h2, if_pos h1] at h
          obtain ⟨rfl, h⟩ := h.cons
          have h4 : (d :: z).take 2 ∉ twoM := by
            intro hm
            cases z with
            | nil => simp [twoM] at hm
            | cons e z =>
              rcases h.2.2 e (by simp) with h5 | rfl
              · cases r with
                | nil => simp at h5
                | cons g r =>
                  obtain rfl : g = e := by simpa using h5
                  exact h2 (by simpa using hm)
              · simp [twoM] at hm
          rw [markLen, markLen, if_neg h4, if_neg h2]
        · omega
theorem first_alike {x y : List UInt8} (h0 : 0 < (first x).2.1) (h : Alike x y (first x).2.1) : first y = first x := by
  have hx : x ≠ [] := by rintro rfl; simp [first, nameLen, numLen, markLen] at h0
  obtain ⟨c, r, rfl⟩ := List.exists_cons_of_ne_nil hx
  have hy : y ≠ [] := by rintro rfl; have := h.2.1; simp at this; omega
  obtain ⟨d, z, rfl⟩ := List.exists_cons_of_ne_nil hy
  obtain rfl : d = c := by
    have := h.1
    obtain ⟨m, hm⟩ : ∃ m, (first (c :: r)).2.1 = m + 1 := ⟨_, (Nat.sub_add_cancel h0).symm⟩
    rw [hm] at h
    exact h.cons.1
  unfold first at h0 h ⊢
  by_cases a1 : 0 < nameLen (d :: r)
  · rw [if_pos a1] at h0 h ⊢
    by_cases a2 : 20 < nameLen (d :: r)
    · rw [if_pos a2] at h0; simp at h0
    · have h' : Alike (d :: r) (d :: z) (nameLen (d :: r)) := by
        rw [if_neg a2] at h
        split at h <;> exact h
      have e := name_alike a1 h'
      rw [e, if_pos a1, h'.1]
  · rw [if_neg a1] at h0 h ⊢
    have a1' := name_zero (z := z) (by omega : nameLen (d :: r) = 0)
    rw [if_neg (by omega)]
    by_cases a2 : 0 < numLen (d :: r)
    · rw [if_pos a2] at h0 h ⊢
      by_cases a3 : badNum ((d :: r).take (numLen (d :: r))) = true
      · rw [if_pos a3] at h0; simp at h0
      · have h' : Alike (d :: r) (d :: z) (numLen (d :: r)) := by
          rw [if_neg a3] at h; exact h
        have e := num_alike h'
        rw [e, if_pos a2, h'.1]
    · rw [if_neg a2] at h0 h ⊢
      have a2' := num_zero (z := z) (by omega : numLen (d :: r) = 0)
      rw [if_neg (by omega)]
      by_cases a3 : 0 < markLen (d :: r)
      · rw [if_pos a3] at h0 h ⊢
        have e := mark_alike a3 h
        rw [e, if_pos a3]
      · rw [if_neg a3] at h0; simp at h0
theorem closeAt_take : ∀ {l : List UInt8} {n k : Nat}, closeAt l = some n → n + 2 ≤ k → closeAt (l.take k) = some n
  | [], n, k, h, _ => by simp [closeAt] at h
  | [_], n, k, h, _ => by simp [closeAt] at h
  | a :: b :: r, n, k, h, hk => by
    obtain ⟨k, rfl⟩ : ∃ j, k = j + 2 := ⟨k - 2, by omega⟩
    rw [List.take_succ_cons, List.take_succ_cons]
    unfold closeAt at h ⊢
    split at h
    · rename_i h1; rw [if_pos h1]; exact h
    · rename_i h1
      rw [if_neg h1]
      cases hc : closeAt (b :: r) with
      | none => rw [hc] at h; simp at h
      | some m =>
        rw [hc] at h
        obtain rfl : m + 1 = n := by simpa using h
        have ih := closeAt_take (k := k + 1) hc (by omega)
        rw [List.take_succ_cons] at ih
        rw [ih]; rfl
theorem closeAt_append : ∀ {l : List UInt8} {n : Nat} (b : List UInt8), closeAt l = some n → closeAt (l ++ b) = some n
  | [], n, _, h => by simp [closeAt] at h
  | [_], n, _, h => by simp [closeAt] at h
  | a :: b :: r, n, w, h => by
    rw [List.cons_append, List.cons_append]
    unfold closeAt at h ⊢
    split at h
    · rename_i h1; rw [if_pos h1]; exact h
    · rename_i h1
      rw [if_neg h1]
      cases hc : closeAt (b :: r) with
      | none => rw [hc] at h; simp at h
      | some m =>
        rw [hc] at h
        obtain rfl : m + 1 = n := by simpa using h
        have ih := closeAt_append w hc
        rw [List.cons_append] at ih
        rw [ih]; rfl
theorem line_take {r : List UInt8} {k : Nat} (h : lineLen r ≤ k) : lineLen (r.take k) = lineLen r := by
  refine tw_eq ?_ ?_ (by rw [List.length_take]; have := lineLen_le r; omega)
  · rw [List.take_take, Nat.min_eq_left h]
    intro c hc
    rw [lineLen, tw_take] at hc
    exact tw_all (p := fun c => c != 10) hc
  · intro c hc
    rw [List.getElem?_take] at hc
    split at hc
    · exact tw_stop (p := fun c => c != 10) hc
    · simp at hc
theorem line_append {r b : List UInt8} (h : lineLen r < r.length) : lineLen (r ++ b) = lineLen r := by
  refine tw_eq ?_ ?_ (by rw [List.length_append]; omega)
  · rw [List.take_append_of_le_length (Nat.le_of_lt h)]
    intro c hc
    rw [lineLen, tw_take] at hc
    exact tw_all (p := fun c => c != 10) hc
  · intro c hc
    rw [List.getElem?_append_left h] at hc
    exact tw_stop (p := fun c => c != 10) hc
theorem sep_nil : sep [] = (0, true) := by rw [sep]
theorem sep_else {c : UInt8} {r : List UInt8} (h1 : blank c = false) (h2 : ¬ (c = 47 ∧ r.head? = some 47)) (h3 : ¬ (c = 47 ∧ r.head? = some 42)) : sep (c :: r) = (0, true) := by
  rw [sep, if_neg (by simp [h1]), if_neg h2, if_neg h3]
theorem line_pos {r : List UInt8} (h : r.head? = some 47) : 0 < lineLen r := by
  cases r with
  | nil => simp at h
  | cons c r =>
    obtain rfl : c = 47 := by simpa using h
    simp [lineLen]
theorem head_take {r : List UInt8} {k : Nat} (h : 0 < k) : (r.take k).head? = r.head? := by
  cases r with
  | nil => simp
  | cons c r => obtain ⟨k, rfl⟩ : ∃ j, k = j + 1 := ⟨k - 1, by omega⟩; simp
theorem sep_take : ∀ (m : Nat) (x : List UInt8) (k : Nat), x.length ≤ m → (sep x).1 ≤ k → ((sep x).2 = true ∨ k = (sep x).1) → sep (x.take k) = ((sep x).1, true)
  | m, [], k, _, _, _ => by simp [sep_nil]
  | 0, c :: r, k, hm, _, _ => by simp at hm
  | m + 1, c :: r, k, hm, hk, hor => by
    rw [List.length_cons] at hm
    by_cases h1 : blank c = true
    · rw [sep, if_pos h1] at hk hor ⊢
      simp only at hk hor ⊢
      obtain ⟨k, rfl⟩ : ∃ j, k = j + 1 := ⟨k - 1, by omega⟩
      rw [List.take_succ_cons, sep, if_pos h1, sep_take m r k (by omega) (by omega) (hor.imp_right fun h => by omega)]
    · by_cases h2 : c = 47 ∧ r.head? = some 47
      · rw [sep, if_neg h1, if_pos h2] at hk hor ⊢
        simp only at hk hor ⊢
        have hp := line_pos h2.2
        obtain ⟨k, rfl⟩ : ∃ j, k = j + 1 := ⟨k - 1, by omega⟩
        rw [List.take_succ_cons, sep, if_neg h1, if_pos ⟨h2.1, by rw [head_take (by omega)]; exact h2.2⟩, line_take (by omega), List.drop_take, sep_take m (r.drop (lineLen r)) (k - lineLen r) (by rw [List.length_drop]; omega) (by omega) (hor.imp_right fun h => by omega)]
      · by_cases h3 : c = 47 ∧ r.head? = some 42
        · rw [sep, if_neg h1, if_neg h2, if_pos h3] at hk hor ⊢
          cases hc : closeAt (r.drop 1) with
          | none =>
            rw [hc] at hk hor
            simp only at hk hor ⊢
            obtain rfl : k = 0 := by rcases hor with h | h; (· simp at h); exact h
            simp [sep_nil]
          | some n =>
            rw [hc] at hk hor
            simp only at hk hor ⊢
            obtain ⟨k, rfl⟩ : ∃ j, k = j + 1 := ⟨k - 1, by omega⟩
            have hh : (r.take k).head? = some 42 := by rw [head_take (by omega)]; exact h3.2
            rw [List.take_succ_cons, sep, if_neg h1, if_neg (by rw [hh]; simp), if_pos ⟨h3.1, hh⟩, List.drop_take, closeAt_take hc (by omega)]
            simp only
            rw [List.drop_take, sep_take m (r.drop (n + 3)) (k - (n + 3)) (by rw [List.length_drop]; omega) (by omega) (hor.imp_right fun h => by omega)]
        · rw [sep_else (by simpa using h1) h2 h3]
          cases k with
          | zero => simp [sep_nil]
          | succ k =>
            rw [List.take_succ_cons]
            cases k with
            | zero => exact sep_else (by simpa using h1) (by simp) (by simp)
            | succ k => exact sep_else (by simpa using h1) (by rw [head_take (by omega)]; exact h2) (by rw [head_take (by omega)]; exact h3)
theorem sep_append : ∀ (m : Nat) (x : List UInt8) (c : UInt8) (z b : List UInt8), x.length ≤ m → (sep x).2 = true → x.drop (sep x).1 = c :: z → (c ≠ 47 ∨ z ≠ []) → sep (x ++ b) = sep x
  | m, [], c, z, b, _, _, h, _ => by simp at h
  | 0, d :: r, _, _, _, hm, _, _, _ => by simp at hm
  | m + 1, d :: r, c, z, b, hm, ht, hd, hor => by
    rw [List.length_cons] at hm
    by_cases h1 : blank d = true
    · rw [sep, if_pos h1] at ht hd
      simp only [List.drop_succ_cons] at ht hd
      rw [List.cons_append, sep, if_pos h1, sep, if_pos h1, sep_append m r c z b (by omega) ht hd hor]
    · by_cases h2 : d = 47 ∧ r.head? = some 47
      · rw [sep, if_neg h1, if_pos h2] at ht hd
        simp only at ht hd
        have hd' : (r.drop (lineLen r)).drop (sep (r.drop (lineLen r))).1 = c :: z := by
          rw [List.drop_drop, ← hd, ← Nat.add_assoc, List.drop_succ_cons, Nat.add_comm]
        have hlt : lineLen r < r.length := by
          rcases Nat.lt_or_ge (lineLen r) r.length with h | h
          · exact h
          · rw [List.drop_of_length_le h] at hd'; simp at hd'
        have hh : (r ++ b).head? = some 47 := by
          cases r with
          | nil => simp at hlt
          | cons e r => simpa using h2.2
        rw [List.cons_append, sep, if_neg h1, if_pos ⟨h2.1, hh⟩, line_append hlt, List.drop_append_of_le_length (Nat.le_of_lt hlt), sep_append m (r.drop (lineLen r)) c z b (by rw [List.length_drop]; omega) ht hd' hor]
        conv => rhs; rw [sep, if_neg h1, if_pos h2]
      · by_cases h3 : d = 47 ∧ r.head? = some 42
        · rw [sep, if_neg h1, if_neg h2, if_pos h3] at ht hd
          cases hc : closeAt (r.drop 1) with
          | none => rw [hc] at ht; simp at ht
          | some n =>
            rw [hc] at ht hd
            simp only at ht hd
            have hl := closeAt_le hc
            rw [List.length_drop] at hl
            have hd' : (r.drop (n + 3)).drop (sep (r.drop (n + 3))).1 = c :: z := by
              rw [List.drop_drop, ← hd, show (sep (r.drop (n + 3))).1 + (n + 4) = (n + 3 + (sep (r.drop (n + 3))).1) + 1 from by omega, List.drop_succ_cons]
            have hh : (r ++ b).head? = some 42 := by
              cases r with
              | nil => simp at hl
              | cons e r => simpa using h3.2
            rw [List.cons_append, sep, if_neg h1, if_neg (by rw [hh]; simp), if_pos ⟨h3.1, hh⟩, List.drop_append_of_le_length (by omega), closeAt_append b hc]
            simp only
            rw [List.drop_append_of_le_length (by omega), sep_append m (r.drop (n + 3)) c z b (by rw [List.length_drop]; omega) ht hd' hor]
            conv => rhs; rw [sep, if_neg h1, if_neg h2, if_pos h3, hc]
        · have e := sep_else (by simpa using h1) h2 h3
          rw [e] at hd
          simp only [List.drop_zero, List.cons.injEq] at hd
          obtain ⟨rfl, rfl⟩ := hd
          rw [e, List.cons_append]
          cases r with
          | nil =>
            rcases hor with h | h
            · exact sep_else (by simpa using h1) (by simp [h]) (by simp [h])
            · exact absurd rfl h
          | cons g r => exact sep_else (by simpa using h1) (by simpa using h2) (by simpa using h3)
theorem sep_idem : ∀ (m : Nat) (x : List UInt8), x.length ≤ m → (sep x).2 = true → sep (x.drop (sep x).1) = (0, true)
  | m, [], _, _ => by simp [sep_nil]
  | 0, d :: r, hm, _ => by simp at hm
  | m + 1, d :: r, hm, ht => by
    rw [List.length_cons] at hm
    by_cases h1 : blank d = true
    · rw [sep, if_pos h1] at ht ⊢
      simp only [List.drop_succ_cons] at ht ⊢
      exact sep_idem m r (by omega) ht
    · by_cases h2 : d = 47 ∧ r.head? = some 47
      · rw [sep, if_neg h1, if_pos h2] at ht ⊢
        simp only at ht ⊢
        have := sep_idem m (r.drop (lineLen r)) (by rw [List.length_drop]; omega) ht
        rw [List.drop_drop] at this
        rw [← Nat.add_assoc, List.drop_succ_cons, Nat.add_comm]
        exact this
      · by_cases h3 : d = 47 ∧ r.head? = some 42
        · rw [sep, if_neg h1, if_neg h2, if_pos h3] at ht ⊢
          cases hc : closeAt (r.drop 1) with
          | none => rw [hc] at ht; simp at ht
          | some n =>
            rw [hc] at ht
            simp only at ht ⊢
            have := sep_idem m (r.drop (n + 3)) (by rw [List.length_drop]; omega) ht
            rw [List.drop_drop] at this
            rw [show (sep (r.drop (n + 3))).1 + (n + 4) = (n + 3 + (sep (r.drop (n + 3))).1) + 1 from by omega, List.drop_succ_cons]
            exact this
        · have e := sep_else (by simpa using h1) h2 h3
          rw [e]; exact e
theorem sep_zero {c : UInt8} {r : List UInt8} (h : sep (c :: r) = (0, true)) : blank c = false ∧ ¬ (c = 47 ∧ r.head? = some 47) ∧ ¬ (c = 47 ∧ r.head? = some 42) := by
  rw [sep] at h
  split at h
  · simp at h
  · rename_i h1
    split at h
    · simp at h
    · rename_i h2
      split at h
      · split at h
        · simp at h
        · simp at h
      · rename_i h3
        exact ⟨by simpa using h1, h2, h3⟩

theorem lexR_low : ∀ (m : Nat) (l : List UInt8) (n : Nat), l.length ≤ m → (lexR n l).2.2 ≠ 0 → n + (sep l).1 ≤ (lexR n l).2.1
  | m, l, n, hm, h => by
    rw [lexR] at h ⊢
    split at h
    · rename_i h1; rw [if_pos h1]; exact Nat.le_refl _
    · rename_i h1
      rw [if_neg h1]
      split at h
      · simp at h
      · rename_i h2
        rw [if_neg h2]
        split at h
        · rename_i h3; rw [if_pos h3]; exact Nat.le_refl _
        · rename_i h3
          rw [if_neg h3]
          split at h
          · rename_i h4
            rw [if_pos h4]
            have hl : 0 < (l.drop (sep l).1).length := List.length_pos_iff.2 h2
            have hd := List.length_drop (i := (sep l).1) (l := l)
            cases m with
            | zero => omega
            | succ m =>
              have ih := lexR_low m ((l.drop (sep l).1).drop (first (l.drop (sep l).1)).2.1) (n + (sep l).1 + (first (l.drop (sep l).1)).2.1) (by rw [List.length_drop]; omega) h4
              show _ ≤ (lexR _ _).2.1
              omega
          · simp at h
theorem lexR_cut : ∀ (m : Nat) (l : List UInt8) (n : Nat) (q : List Tk × Nat × Int), l.length ≤ m → lexR n l = q → q.2.2 ≠ 0 → (lexR n (l.take (q.2.1 - n))).2.2 = 0
  | m, l, n, q, hm, hq, h => by
    have hsl := sep_le l
    have here : ∀ k, k = (sep l).1 → (lexR n (l.take k)).2.2 = 0 := by
      rintro k rfl
      have e := sep_take _ l (sep l).1 (Nat.le_refl _) (Nat.le_refl _) (.inr rfl)
      rw [lexR, if_neg (by rw [e]; simp), if_pos (by rw [e]; simp)]
    rw [lexR] at hq
    split at hq
    · subst hq; exact here _ (by simp)
    · rename_i h1
      split at hq
      · subst hq; simp at h
      · rename_i h2
        split at hq
        · subst hq; exact here _ (by simp)
        · rename_i h3
          split at hq
          · rename_i h4
            have hl : 0 < (l.drop (sep l).1).length := List.length_pos_iff.2 h2
            have hd := List.length_drop (i := (sep l).1) (l := l)
            have hf := first_cases (l.drop (sep l).1)
            cases m with
            | zero => omega
            | succ m =>
              have ih := lexR_cut m ((l.drop (sep l).1).drop (first (l.drop (sep l).1)).2.1) (n + (sep l).1 + (first (l.drop (sep l).1)).2.1) _ (by rw [List.length_drop]; omega) rfl h4
              have lo := lexR_low _ ((l.drop (sep l).1).drop (first (l.drop (sep l).1)).2.1) (n + (sep l).1 + (first (l.drop (sep l).1)).2.1) (Nat.le_refl _) h4
              obtain ⟨qT, qp, qe⟩ := q
              obtain ⟨-, e0⟩ := Prod.mk.injEq .. ▸ hq
              rw [e0] at ih lo
              simp only at ih lo ⊢
              have ht : (sep l).2 = true := by simpa using h1
              have e := sep_take _ l (qp - n) (Nat.le_refl _) (by omega) (.inl ht)
              have e2 : (l.take (qp - n)).drop (sep l).1 = (l.drop (sep l).1).take (qp - n - (sep l).1) := List.drop_take ..
              have hal : Alike (l.drop (sep l).1) ((l.drop (sep l).1).take (qp - n - (sep l).1)) (first (l.drop (sep l).1)).2.1 := by
                refine ⟨?_, ?_, ?_⟩
                · rw [List.take_take, Nat.min_eq_left (by omega)]
                · rw [List.length_take]; omega
                · intro c hc
                  rw [List.getElem?_take] at hc
                  split at hc
                  · exact .inl hc
                  · simp at hc
              have e3 := first_alike (by omega) hal
              have hne : (l.drop (sep l).1).take (qp - n - (sep l).1) ≠ [] := by
                intro he
                have := congrArg List.length he
                rw [List.length_take, List.length_nil] at this
                omega
              rw [lexR, if_neg (by rw [e]; simp), e]
              simp only
              rw [e2, if_neg hne, e3, if_neg h3, List.drop_take, show qp - n - (sep l).1 - (first (l.drop (sep l).1)).2.1 = qp - (n + (sep l).1 + (first (l.drop (sep l).1)).2.1) from by omega]
              rw [if_neg (by rw [ih]; simp)]
          · subst hq; simp at h
end Go.Proofs.YtamhlobjolnlhaaDoor
