/-
  For the laws LexAhead and LexLead: an error stays one whatever stands behind; tokens with one space between them are the same tokens. Facts on lists of bytes alone, no program.
-/
import Derived.Test.YtamhlobjolnlhaaDoorMath
namespace Go.Proofs.YtamhlobjolnlhaaDoor

theorem first_30 {c : UInt8} {z : List UInt8} (h : (first (c :: z)).2.2 = 30) : nameLen (c :: z) = 0 ∧ numLen (c :: z) = 0 ∧ markLen (c :: z) = 0 := by
  unfold first at h
  split at h
  · split at h
    · simp at h
    · split at h <;> simp at h
  · split at h
    · split at h <;> simp at h
    · split at h
      · simp at h
      · omega
theorem first_30_any {c : UInt8} {z : List UInt8} (h : (first (c :: z)).2.2 = 30) (h1 : c ≠ 38) (h2 : c ≠ 124) (y : List UInt8) : first (c :: y) = (0, 0, 30) ∧ first (c :: z) = (0, 0, 30) ∧ c ≠ 47 := by
  obtain ⟨a1, a2, a3⟩ := first_30 h
  have b1 := name_zero (z := y) a1
  have b2 := num_zero (z := y) a2
  have hone : c ∉ oneM := by
    rw [markLen] at a3
    split at a3
    · simp at a3
    · split at a3
      · simp at a3
      · assumption
  have b3 : markLen (c :: y) = 0 := by
    rw [markLen, if_neg, if_neg hone]
    intro hm
    cases y with
    | nil => simp [twoM] at hm
    | cons d y =>
      simp only [twoM, List.take_succ_cons, List.take_zero, List.mem_cons, List.cons.injEq, List.not_mem_nil, or_false] at hm
      apply hone
      simp only [oneM, List.mem_cons, List.not_mem_nil, or_false]
      rcases hm with hm | hm | hm | hm | hm | hm
      · simp [hm.1]
      · simp [hm.1]
      · simp [hm.1]
      · simp [hm.1]
      · exact absurd hm.1 h1
      · exact absurd hm.1 h2
  refine ⟨?_, ?_, ?_⟩
  · unfold first; rw [if_neg (by omega), if_neg (by omega), if_neg (by omega)]
  · unfold first; rw [if_neg (by omega), if_neg (by omega), if_neg (by omega)]
  · rintro rfl; exact hone (by decide)
theorem lexR_more : ∀ (m : Nat) (l : List UInt8) (n : Nat) (q : List Tk × Nat × Int), l.length ≤ m → lexR n l = q → q.2.2 = 30 → n ≤ q.2.1 ∧ q.2.1 < n + l.length ∧ ∀ (b : List UInt8) (c : UInt8), l[q.2.1 - n]? = some c → c ≠ 38 → c ≠ 124 → lexR n (l ++ b) = q
  | m, l, n, q, hm, hq, h => by
    have hsl := sep_le l
    rw [lexR] at hq
    split at hq
    · subst hq; simp at h
    · rename_i h1
      have ht : (sep l).2 = true := by simpa using h1
      split at hq
      · subst hq; simp at h
      · rename_i h2
        have hl : 0 < (l.drop (sep l).1).length := List.length_pos_iff.2 h2
        have hd := List.length_drop (i := (sep l).1) (l := l)
        obtain ⟨c0, z, hx⟩ := List.exists_cons_of_ne_nil h2
        split at hq
        · rename_i h3
          subst hq
          simp only at h ⊢
          refine ⟨by omega, by omega, fun b c hc h38 h124 => ?_⟩
          have hc0 : c = c0 := by
            have := congrArg (·[0]?) hx
            simp only [List.getElem?_drop, Nat.add_zero, List.getElem?_cons_zero] at this
            rw [Nat.add_sub_cancel_left, this] at hc
            exact (Option.some.inj hc).symm
          subst hc0
          rw [hx] at h
          obtain ⟨f1, f2, f3⟩ := first_30_any h h38 h124 (z ++ b)
          have e := sep_append _ l c z b (Nat.le_refl _) ht hx (.inl f3)
          have e2 : (l ++ b).drop (sep l).1 = c :: (z ++ b) := by rw [List.drop_append_of_le_length hsl, hx]; rfl
          rw [lexR, if_neg (by rw [e]; simp [ht]), e, e2, if_neg (by simp), f1, if_pos rfl, hx, f2]
        · rename_i h3
          split at hq
          · rename_i h4
            have hf := first_cases (l.drop (sep l).1)
            cases m with
            | zero => omega
            | succ m =>
              obtain ⟨qT, qp, qe⟩ := q
              obtain ⟨e1, e0⟩ := Prod.mk.injEq .. ▸ hq
              simp only at h ⊢
              have ih := lexR_more m ((l.drop (sep l).1).drop (first (l.drop (sep l).1)).2.1) (n + (sep l).1 + (first (l.drop (sep l).1)).2.1) _ (by rw [List.length_drop]; omega) rfl (by rw [e0]; exact h)
              rw [e0] at ih h4
              obtain ⟨i1, i2, i3⟩ := ih
              simp only at i1 i2 i3
              have hd2 := List.length_drop (i := (first (l.drop (sep l).1)).2.1) (l := l.drop (sep l).1)
              refine ⟨by omega, by omega, fun b c hc h38 h124 => ?_⟩
              have i4 := i3 b c (by rw [List.drop_drop, List.getElem?_drop, ← hc]; congr 1; omega) h38 h124
              have hz : z ≠ [] := by
                rintro rfl
                have h1' : (l.drop (sep l).1).length = 1 := by rw [hx]; rfl
                omega
              have e := sep_append _ l c0 z b (Nat.le_refl _) ht hx (.inr hz)
              have e2 : (l ++ b).drop (sep l).1 = l.drop (sep l).1 ++ b := List.drop_append_of_le_length hsl
              have hal : Alike (l.drop (sep l).1) (l.drop (sep l).1 ++ b) (first (l.drop (sep l).1)).2.1 := by
                refine ⟨?_, ?_, ?_⟩
                · rw [List.take_append_of_le_length (by omega)]
                · rw [List.length_append]; omega
                · intro c hc
                  rw [List.getElem?_append_left (by omega)] at hc
                  exact .inl hc
              have e3 := first_alike (by omega) hal
              have e4 : (l.drop (sep l).1 ++ b).drop (first (l.drop (sep l).1)).2.1 = (l.drop (sep l).1).drop (first (l.drop (sep l).1)).2.1 ++ b := List.drop_append_of_le_length (by omega)
              rw [lexR, if_neg (by rw [e]; simp [ht]), e, e2, if_neg (by simp [h2]), e3, if_neg h3, e4, i4]
              have : lexR (n + (sep l).1 + (first (l.drop (sep l).1)).2.1) ((l.drop (sep l).1).drop (first (l.drop (sep l).1)).2.1) = (qT, qp, qe) := by
                have := lexR_err _ _ (by rw [e0]; exact h4 : (lexR (n + (sep l).1 + (first (l.drop (sep l).1)).2.1) ((l.drop (sep l).1).drop (first (l.drop (sep l).1)).2.1)).2.2 ≠ 0)
                rw [← e1, ← this, ← e0]
              rw [this, if_pos (by exact h4), ← e1]
          · subst hq; simp at h

/-- The texts of tokens, a space ahead of each. -/
def sp (T : List Tk) : List UInt8 := T.flatMap fun t => 32 :: t.text
theorem lexR_ne {n : Nat} {l : List UInt8} (h : (lexR n l).2.2 = 0) : (lexR n l).1 ≠ [] := by
  rw [lexR] at h ⊢
  split at h
  · simp at h
  · rename_i h1
    rw [if_neg h1]
    split at h
    · rename_i h2; rw [if_pos h2]; simp
    · rename_i h2
      rw [if_neg h2]
      split at h
      · rename_i h3
        have := first_cases (l.drop (sep l).1)
        simp only at h
        omega
      · rename_i h3
        rw [if_neg h3]
        split at h
        · rename_i h4; exact absurd h h4
        · rename_i h4; rw [if_neg h4]; simp
theorem lexR_spaced : ∀ (m : Nat) (l : List UInt8) (n : Nat), l.length ≤ m → (lexR n l).2.2 = 0 → ∀ n2, ∃ T', lexR n2 (sp (lexR n l).1) = (T', 0, 0) ∧ T'.map (fun t => (t.kind, t.text, t.lead)) = (lexR n l).1.map (fun t => (t.kind, t.text, [32]))
  | m, l, n, hm, h, n2 => by
    have hsl := sep_le l
    obtain ⟨q, hq⟩ : ∃ q, lexR n l = q := ⟨_, rfl⟩
    rw [hq] at h ⊢
    rw [lexR] at hq
    split at hq
    · subst hq; simp at h
    · rename_i h1
      have ht : (sep l).2 = true := by simpa using h1
      split at hq
      · subst hq
        have e : sep [32] = (1, true) := by rw [sep, if_pos (by decide), sep_nil]
        refine ⟨[⟨5, [], ((n2 + 1 : Nat) : Int), [32]⟩], ?_, by simp⟩
        rw [show sp _ = [32] from rfl, lexR, e]
        simp
      · rename_i h2
        have hl : 0 < (l.drop (sep l).1).length := List.length_pos_iff.2 h2
        have hd := List.length_drop (i := (sep l).1) (l := l)
        have hid := sep_idem _ l (Nat.le_refl _) ht
        obtain ⟨c, z, hx⟩ := List.exists_cons_of_ne_nil h2
        have hf := first_cases (l.drop (sep l).1)
        split at hq
        · subst hq; simp only at h; omega
        · rename_i h3
          split at hq
          · rename_i h4; subst hq; exact absurd h h4
          · rename_i h4
            cases m with
            | zero => omega
            | succ m =>
              have h4' : (lexR (n + (sep l).1 + (first (l.drop (sep l).1)).2.1) ((l.drop (sep l).1).drop (first (l.drop (sep l).1)).2.1)).2.2 = 0 := by simpa using h4
              have ih := lexR_spaced m ((l.drop (sep l).1).drop (first (l.drop (sep l).1)).2.1) (n + (sep l).1 + (first (l.drop (sep l).1)).2.1) (by rw [List.length_drop]; omega) h4'
              have hne := lexR_ne h4'
              subst hq
              simp only
              generalize (lexR (n + (sep l).1 + (first (l.drop (sep l).1)).2.1) ((l.drop (sep l).1).drop (first (l.drop (sep l).1)).2.1)).1 = r at ih hne
              obtain ⟨t, r, rfl⟩ := List.exists_cons_of_ne_nil hne
              obtain ⟨T', i1, i2⟩ := ih (n2 + 1 + (first (l.drop (sep l).1)).2.1)
              obtain ⟨w, hw⟩ : ∃ w, sp (t :: r) = 32 :: w := ⟨_, rfl⟩
              rw [hw] at i1
              have f1 : 0 < (first (l.drop (sep l).1)).2.1 := by omega
              have f2 : (first (l.drop (sep l).1)).2.1 ≤ (l.drop (sep l).1).length := by omega
              have hal : Alike (l.drop (sep l).1) ((l.drop (sep l).1).take (first (l.drop (sep l).1)).2.1 ++ 32 :: w) (first (l.drop (sep l).1)).2.1 := by
                have hlen : ((l.drop (sep l).1).take (first (l.drop (sep l).1)).2.1).length = (first (l.drop (sep l).1)).2.1 := by rw [List.length_take]; omega
                refine ⟨?_, ?_, ?_⟩
                · rw [List.take_append_of_le_length (by omega), List.take_take, Nat.min_self]
                · rw [List.length_append]; omega
                · intro d hd
                  rw [List.getElem?_append_right (by omega), hlen, Nat.sub_self] at hd
                  right
                  simpa using hd.symm
              have e3 := first_alike f1 hal
              have e4 : ((l.drop (sep l).1).take (first (l.drop (sep l).1)).2.1 ++ 32 :: w).take (first (l.drop (sep l).1)).2.1 = (l.drop (sep l).1).take (first (l.drop (sep l).1)).2.1 := hal.1
              have e5 : ((l.drop (sep l).1).take (first (l.drop (sep l).1)).2.1 ++ 32 :: w).drop (first (l.drop (sep l).1)).2.1 = 32 :: w := by
                have hlen : ((l.drop (sep l).1).take (first (l.drop (sep l).1)).2.1).length = (first (l.drop (sep l).1)).2.1 := by rw [List.length_take]; omega
                exact List.drop_left' hlen
              have hy : sep ((l.drop (sep l).1).take (first (l.drop (sep l).1)).2.1 ++ 32 :: w) = (0, true) := by
                rw [hx] at hid
                obtain ⟨s1, s2, s3⟩ := sep_zero hid
                obtain ⟨j, hj⟩ : ∃ j, (first (l.drop (sep l).1)).2.1 = j + 1 := ⟨_, (Nat.sub_add_cancel f1).symm⟩
                rw [hj, hx, List.take_succ_cons, List.cons_append]
                have hh : (z.take j ++ 32 :: w).head? = z.head? ∨ (z.take j ++ 32 :: w).head? = some 32 := by
                  cases j with
                  | zero => right; simp
                  | succ j =>
                    cases z with
                    | nil => right; simp
                    | cons d z => left; simp
                refine sep_else s1 ?_ ?_
                · rcases hh with hh | hh
                  · rw [hh]; exact s2
                  · rw [hh]; simp
                · rcases hh with hh | hh
                  · rw [hh]; exact s3
                  · rw [hh]; simp
              generalize hY : (l.drop (sep l).1).take (first (l.drop (sep l).1)).2.1 ++ 32 :: w = Y at *
              have hsp : sp (⟨(first (l.drop (sep l).1)).1, (l.drop (sep l).1).take (first (l.drop (sep l).1)).2.1, ((n + (sep l).1 : Nat) : Int), l.take (sep l).1⟩ :: t :: r) = 32 :: Y := by
                rw [← hY, ← hw]; rfl
              have e6 : sep (32 :: Y) = (1, true) := by rw [sep, if_pos (by decide), hy]
              have hYn : Y ≠ [] := by rw [← hY]; simp
              refine ⟨⟨(first (l.drop (sep l).1)).1, (l.drop (sep l).1).take (first (l.drop (sep l).1)).2.1, ((n2 + 1 : Nat) : Int), [32]⟩ :: T', ?_, by rw [List.map_cons, List.map_cons, i2]⟩
              rw [hsp, lexR, e6]
              simp only [List.drop_succ_cons, List.drop_zero]
              rw [if_neg (by simp), if_neg hYn, e3, if_neg (by omega), e4, e5, i1]
              simp
end Go.Proofs.YtamhlobjolnlhaaDoor
