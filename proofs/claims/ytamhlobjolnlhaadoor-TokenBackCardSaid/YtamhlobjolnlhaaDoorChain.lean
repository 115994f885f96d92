/-
  For the laws of lex: how the tokens of a text stand in it; facts on lists of bytes alone, no program.
-/
import Derived.Test.YtamhlobjolnlhaaDoorUnlex
namespace Go.Proofs.YtamhlobjolnlhaaDoor

/-- The tokens stand in s one behind the other, from n to its end; the last one, and no other, is the end. -/
def okT (s : List UInt8) : Nat → List Tk → Prop
  | n, [] => n = s.length
  | n, t :: r => t.at_ = ((n + t.lead.length : Nat) : Int) ∧ (s.drop n).take t.lead.length = t.lead ∧ n + t.lead.length + t.text.length ≤ s.length ∧ (s.drop (n + t.lead.length)).take t.text.length = t.text ∧
      (t.kind = 5 ↔ r = []) ∧ (t.text = [] ↔ r = []) ∧ okT s (n + t.lead.length + t.text.length) r

theorem lexR_good : ∀ (m : Nat) (l : List UInt8) (n : Nat), l.length ≤ m → (lexR n l).2.2 = 0 → ∀ s : List UInt8, s.drop n = l → n ≤ s.length → okT s n (lexR n l).1 ∧ (lexR n l).1 ≠ []
  | m, l, n, hm, h0, s, hs, hn => by
    have hsl := sep_le l
    have hll : l.length = s.length - n := by rw [← hs, List.length_drop]
    rw [lexR] at h0 ⊢
    split at h0
    · simp at h0
    · rename_i h1
      rw [if_neg h1]
      split at h0
      · rename_i h2
        rw [if_pos h2]
        have h3 : (sep l).1 = l.length := by
          have := congrArg List.length h2
          rw [List.length_drop, List.length_nil] at this
          omega
        refine ⟨⟨?_, ?_, ?_, ?_, by simp, by simp, ?_⟩, by simp⟩
        · rw [List.length_take, Nat.min_eq_left hsl]
        · rw [hs, List.length_take, Nat.min_eq_left hsl]
        · rw [List.length_take, Nat.min_eq_left hsl, List.length_nil]; omega
        · simp
        · show _ = s.length
          rw [List.length_take, Nat.min_eq_left hsl, List.length_nil]; omega
      · rename_i h2
        rw [if_neg h2]
        rcases first_cases (l.drop (sep l).1) with hf | hf
        · obtain ⟨f1, f2, f3, f4, f5⟩ := hf
          rw [if_neg (by omega)] at h0 ⊢
          split at h0
          · rename_i h3
            simp only at h0
            exact absurd h0 h3
          · rename_i h3
            rw [if_neg h3]
            rw [List.length_drop] at f3
            cases m with
            | zero => omega
            | succ m =>
              have ih := lexR_good m ((l.drop (sep l).1).drop (first (l.drop (sep l).1)).2.1) (n + (sep l).1 + (first (l.drop (sep l).1)).2.1) (by rw [List.length_drop, List.length_drop]; omega) (by simpa using h3) s (by rw [← hs, List.drop_drop, List.drop_drop]) (by omega)
              obtain ⟨i1, i2⟩ := ih
              have e1 : (l.take (sep l).1).length = (sep l).1 := by rw [List.length_take, Nat.min_eq_left hsl]
              have e2 : ((l.drop (sep l).1).take (first (l.drop (sep l).1)).2.1).length = (first (l.drop (sep l).1)).2.1 := by rw [List.length_take, List.length_drop]; omega
              refine ⟨⟨?_, ?_, ?_, ?_, ?_, ?_, ?_⟩, by simp⟩
              · show _ = ((n + (l.take (sep l).1).length : Nat) : Int)
                rw [e1]
              · show (s.drop n).take (l.take (sep l).1).length = _
                rw [e1, hs]
              · show n + (l.take (sep l).1).length + ((l.drop (sep l).1).take (first (l.drop (sep l).1)).2.1).length ≤ _
                rw [e1, e2]; omega
              · show (s.drop (n + (l.take (sep l).1).length)).take ((l.drop (sep l).1).take (first (l.drop (sep l).1)).2.1).length = _
                rw [e1, e2, ← hs, List.drop_drop]
              · constructor
                · intro h; simp only at h; omega
                · intro h; exact absurd h i2
              · constructor
                · intro h
                  have := congrArg List.length h
                  rw [e2, List.length_nil] at this
                  omega
                · intro h; exact absurd h i2
              · show okT s (n + (l.take (sep l).1).length + ((l.drop (sep l).1).take (first (l.drop (sep l).1)).2.1).length) _
                rw [e1, e2]; exact i1
        · rw [if_pos hf.1] at h0
          simp only at h0
          omega
theorem lexR_at : ∀ (m : Nat) (l : List UInt8) (n : Nat), l.length ≤ m → (lexR n l).2.1 ≤ n + l.length
  | m, l, n, hm => by
    have hsl := sep_le l
    rw [lexR]
    split
    · show n + (sep l).1 ≤ _; omega
    · split
      · exact Nat.zero_le _
      · rename_i h2
        split
        · show n + (sep l).1 ≤ _; omega
        · rename_i h3
          rcases first_cases (l.drop (sep l).1) with hf | hf
          · obtain ⟨f1, f2, f3, f4, f5⟩ := hf
            rw [List.length_drop] at f3
            split
            · cases m with
              | zero => omega
              | succ m =>
                have ih := lexR_at m ((l.drop (sep l).1).drop (first (l.drop (sep l).1)).2.1) (n + (sep l).1 + (first (l.drop (sep l).1)).2.1) (by rw [List.length_drop, List.length_drop]; omega)
                rw [List.length_drop, List.length_drop] at ih
                show (lexR _ _).2.1 ≤ _
                omega
            · exact Nat.zero_le _
          · omega
theorem okT.all : ∀ {s : List UInt8} {n : Nat} {T : List Tk}, okT s n T → s.drop n = allB T
  | s, n, [], h => by
    have h : n = s.length := h
    rw [h]; simp [allB]
  | s, n, t :: r, h => by
    obtain ⟨-, h1, -, h2, -, -, h3⟩ := h
    have ih := okT.all h3
    rw [show allB (t :: r) = t.lead ++ t.text ++ allB r from by simp [allB, tkB], ← ih]
    conv => lhs; rw [← List.take_append_drop t.lead.length (s.drop n), h1, List.drop_drop, ← List.take_append_drop t.text.length (s.drop (n + t.lead.length)), h2, List.drop_drop]
    simp
theorem okT.few : ∀ {s : List UInt8} {n : Nat} {T : List Tk}, okT s n T → n + T.length ≤ s.length + 1
  | s, n, [], h => by
    have h : n = s.length := h
    simp; omega
  | s, n, t :: r, h => by
    obtain ⟨-, h1, h0, h2, -, he, h3⟩ := h
    have ih := okT.few h3
    rw [List.length_cons]
    by_cases hr : r = []
    · subst hr; simp; omega
    · have : t.text ≠ [] := fun e => hr (he.1 e)
      have := List.length_pos_iff.2 this
      omega
theorem drop_cons {T : List Tk} {k : Nat} {t : Tk} (h : T[k]? = some t) : T.drop k = t :: T.drop (k + 1) := by
  obtain ⟨hk, rfl⟩ := List.getElem?_eq_some_iff.1 h
  exact List.drop_eq_getElem_cons hk
theorem drop_nil_iff {T : List Tk} {k : Nat} (h : k < T.length) : T.drop (k + 1) = [] ↔ k = T.length - 1 := by
  rw [List.drop_eq_nil_iff]; omega
end Go.Proofs.YtamhlobjolnlhaaDoor
