/-
  For the laws of lcs: the length of a longest common row of two lists, and the match that is told from the beginning on; facts on lists alone, no program.
-/
import Derived.Test.YtfjmhnnjgjcmeaaDoorProg
namespace Go.Proofs.YtfjmhnnjgjcmeaaDoor.L

/-- How long a longest common row is. -/
def lc : List Int → List Int → Nat
  | [], _ => 0
  | _ :: _, [] => 0
  | x :: a, y :: b => if x = y then lc a b + 1 else max (lc a (y :: b)) (lc (x :: a) b)
termination_by a b => a.length + b.length

theorem lc_nil_left (b : List Int) : lc [] b = 0 := by rw [lc]
theorem lc_nil_right (a : List Int) : lc a [] = 0 := by cases a <;> rw [lc]
theorem lc_same (x : Int) (a b : List Int) : lc (x :: a) (x :: b) = lc a b + 1 := by rw [lc, if_pos rfl]
theorem lc_diff {x y : Int} (h : x ≠ y) (a b : List Int) : lc (x :: a) (y :: b) = max (lc a (y :: b)) (lc (x :: a) b) := by rw [lc, if_neg h]

/-- There is a common row of that length. -/
theorem lc_has : ∀ a b : List Int, ∃ l : List Int, l.Sublist a ∧ l.Sublist b ∧ l.length = lc a b
  | [], b => ⟨[], List.nil_sublist _, List.nil_sublist _, by rw [lc_nil_left]; rfl⟩
  | x :: a, [] => ⟨[], List.nil_sublist _, List.nil_sublist _, by rw [lc_nil_right]; rfl⟩
  | x :: a, y :: b => by
    by_cases h : x = y
    · subst h
      obtain ⟨l, h1, h2, h3⟩ := lc_has a b
      exact ⟨x :: l, h1.cons_cons x, h2.cons_cons x, by rw [lc_same]; simp [h3]⟩
    · rw [lc_diff h]
      obtain ⟨l, h1, h2, h3⟩ := lc_has a (y :: b)
      obtain ⟨m, k1, k2, k3⟩ := lc_has (x :: a) b
      by_cases hm : lc a (y :: b) ≤ lc (x :: a) b
      · exact ⟨m, k1, k2.cons y, by omega⟩
      · exact ⟨l, h1.cons x, h2, by omega⟩
termination_by a b => a.length + b.length

theorem sublist_cons_cases {l : List Int} {x : Int} {a : List Int} (h : l.Sublist (x :: a)) : l.Sublist a ∨ ∃ l', l = x :: l' ∧ l'.Sublist a := by
  cases h with
  | cons _ h => exact .inl h
  | cons_cons _ h => exact .inr ⟨_, rfl, h⟩

/-- No common row is longer. -/
theorem lc_most : ∀ (a b l : List Int), l.Sublist a → l.Sublist b → l.length ≤ lc a b
  | [], b, l, h1, _ => by rw [List.sublist_nil.1 h1]; simp
  | x :: a, [], l, _, h2 => by rw [List.sublist_nil.1 h2]; simp
  | x :: a, y :: b, l, h1, h2 => by
    by_cases h : x = y
    · subst h
      rw [lc_same]
      rcases sublist_cons_cases h1 with h1' | ⟨l', rfl, h1'⟩
      · rcases sublist_cons_cases h2 with h2' | ⟨l', rfl, h2'⟩
        · have := lc_most a b l h1' h2'; omega
        · have := lc_most a b l' ((List.sublist_cons_self x l').trans h1') h2'; simp; omega
      · have h2' : l'.Sublist b := List.cons_sublist_cons.1 h2
        have := lc_most a b l' h1' h2'; simp; omega
    · rw [lc_diff h]
      rcases sublist_cons_cases h1 with h1' | ⟨l', rfl, h1'⟩
      · have := lc_most a (y :: b) l h1' h2; omega
      · rcases sublist_cons_cases h2 with h2' | ⟨l'', e, h2'⟩
        · have := lc_most (x :: a) b (x :: l') h1 h2'; omega
        · exact absurd (List.cons.inj e).1 h
termination_by a b => a.length + b.length

theorem lc_le_of {a b c d : List Int} (h : ∀ l : List Int, l.Sublist a → l.Sublist b → ∃ m : List Int, m.Sublist c ∧ m.Sublist d ∧ l.length ≤ m.length) : lc a b ≤ lc c d := by
  obtain ⟨l, h1, h2, h3⟩ := lc_has a b
  obtain ⟨m, k1, k2, k3⟩ := h l h1 h2
  have := lc_most c d m k1 k2
  omega

theorem lc_comm (a b : List Int) : lc a b = lc b a :=
  Nat.le_antisymm (lc_le_of fun l h1 h2 => ⟨l, h2, h1, Nat.le_refl _⟩) (lc_le_of fun l h1 h2 => ⟨l, h2, h1, Nat.le_refl _⟩)
theorem lc_rev_le (a b : List Int) : lc a b ≤ lc a.reverse b.reverse :=
  lc_le_of fun l h1 h2 => ⟨l.reverse, List.reverse_sublist.2 h1, List.reverse_sublist.2 h2, by simp⟩
theorem lc_rev (a b : List Int) : lc a.reverse b.reverse = lc a b := by
  refine Nat.le_antisymm ?_ (lc_rev_le a b)
  have := lc_rev_le a.reverse b.reverse
  simpa using this
theorem lc_append (p a b : List Int) : lc (p ++ a) (p ++ b) = p.length + lc a b := by
  induction p with
  | nil => simp
  | cons x p ih => simp only [List.cons_append, lc_same, ih, List.length_cons]; omega
theorem lc_append_right (a b s : List Int) : lc (a ++ s) (b ++ s) = lc a b + s.length := by
  rw [← lc_rev, List.reverse_append, List.reverse_append, lc_append, lc_rev, List.length_reverse]; omega
theorem lc_sub {a b : List Int} (h : a.Sublist b) : lc a b = a.length := by
  have h1 := lc_most a b a (List.Sublist.refl _) h
  obtain ⟨l, h2, _, h3⟩ := lc_has a b
  have := h2.length_le
  omega
theorem lc_self (a : List Int) : lc a a = a.length := lc_sub (List.Sublist.refl a)
theorem lc_le_left (a b : List Int) : lc a b ≤ a.length := by
  obtain ⟨l, h2, _, h3⟩ := lc_has a b
  have := h2.length_le
  omega
theorem lc_le_right (a b : List Int) : lc a b ≤ b.length := by rw [lc_comm]; exact lc_le_left b a
theorem lc_mono_left {a c : List Int} (h : a.Sublist c) (b : List Int) : lc a b ≤ lc c b :=
  lc_le_of fun l h1 h2 => ⟨l, h1.trans h, h2, Nat.le_refl _⟩

/-- What is left of a row keeps of each row within it all but as many as are gone. -/
theorem left_keeps {left a : List Int} (hs : left.Sublist a) : ∀ l : List Int, l.Sublist a → ∃ m : List Int, m.Sublist left ∧ m.Sublist l ∧ l.length + left.length ≤ m.length + a.length := by
  induction hs with
  | slnil => intro l h; exact ⟨l, h, List.Sublist.refl _, by simp⟩
  | @cons left a x hs ih =>
    intro l h
    rcases sublist_cons_cases h with h' | ⟨l', rfl, h'⟩
    · obtain ⟨m, h1, h2, h3⟩ := ih l h'
      exact ⟨m, h1, h2, by simp; omega⟩
    · obtain ⟨m, h1, h2, h3⟩ := ih l' h'
      exact ⟨m, h1, h2.cons x, by simp; omega⟩
  | @cons_cons left a x hs ih =>
    intro l h
    rcases sublist_cons_cases h with h' | ⟨l', rfl, h'⟩
    · obtain ⟨m, h1, h2, h3⟩ := ih l h'
      exact ⟨m, h1.cons x, h2, by simp; omega⟩
    · obtain ⟨m, h1, h2, h3⟩ := ih l' h'
      exact ⟨x :: m, h1.cons_cons x, h2.cons_cons x, by simp; omega⟩
theorem lc_left {left a : List Int} (hs : left.Sublist a) (b : List Int) : lc a b + left.length ≤ lc left b + a.length := by
  obtain ⟨l, h1, h2, h3⟩ := lc_has a b
  obtain ⟨m, k1, k2, k3⟩ := left_keeps hs l h1
  have := lc_most left b m k1 (k2.trans h2)
  omega

/-- How many things both begin with. -/
def pfx : List Int → List Int → Nat
  | x :: a, y :: b => if x = y then pfx a b + 1 else 0
  | _, _ => 0
theorem pfx_le : ∀ a b : List Int, pfx a b ≤ a.length ∧ pfx a b ≤ b.length
  | [], _ => ⟨Nat.zero_le _, Nat.zero_le _⟩
  | _ :: _, [] => ⟨Nat.zero_le _, Nat.zero_le _⟩
  | x :: a, y :: b => by
    have := pfx_le a b
    unfold pfx
    split <;> simp <;> omega
theorem pfx_take : ∀ a b : List Int, a.take (pfx a b) = b.take (pfx a b)
  | [], _ => by simp [pfx]
  | _ :: _, [] => by simp [pfx]
  | x :: a, y :: b => by
    unfold pfx
    split
    · rename_i h
      subst h
      simp [pfx_take a b]
    · simp
/-- The row goes on while things are alike. -/
theorem pfx_of : ∀ (a b : List Int) (k : Nat), a.take k = b.take k → k ≤ a.length → k ≤ b.length → (k < a.length → k < b.length → a[k]? ≠ b[k]?) → pfx a b = k
  | [], b, k, _, h1, _, _ => by simp at h1; subst h1; simp [pfx]
  | x :: a, [], k, _, _, h2, _ => by simp at h2; subst h2; simp [pfx]
  | x :: a, y :: b, 0, _, _, _, h => by
    have := h (by simp) (by simp)
    simp at this
    simp [pfx, this]
  | x :: a, y :: b, k + 1, ht, h1, h2, h => by
    simp at ht
    obtain ⟨rfl, ht⟩ := ht
    simp only [pfx, if_pos]
    rw [pfx_of a b k ht (by simpa using h1) (by simpa using h2) (fun q1 q2 => by simpa using h (by simpa using q1) (by simpa using q2))]

/-- How many things both end with, of what is left behind the beginning. -/
def sfx (a b : List Int) : Nat := pfx (a.drop (pfx a b)).reverse (b.drop (pfx a b)).reverse

/-- The middle. -/
def mid (a b : List Int) : List Int := (a.drop (pfx a b)).take (a.length - pfx a b - sfx a b)

theorem sfx_le (a b : List Int) : sfx a b + pfx a b ≤ a.length ∧ sfx a b + pfx a b ≤ b.length := by
  have h1 := pfx_le a b
  have h2 := pfx_le (a.drop (pfx a b)).reverse (b.drop (pfx a b)).reverse
  unfold sfx
  simp at h2
  omega

theorem take_rev (l : List Int) (k : Nat) : (l.reverse.take k).reverse = l.drop (l.length - k) := by
  rw [← List.reverse_reverse (l.drop (l.length - k)), List.reverse_drop]
  by_cases h : k ≤ l.length
  · rw [show l.length - (l.length - k) = k by omega]
  · rw [List.take_of_length_le (by simp; omega), List.take_of_length_le (by simp; omega)]

/-- All that is common: the beginning, the end, and what the middles have in common. -/
theorem lc_mid (a b : List Int) : lc a b = pfx a b + sfx a b + lc (mid a b) ((b.drop (pfx a b)).take (b.length - pfx a b - sfx a b)) := by
  have hp := pfx_le a b
  have hs := sfx_le a b
  obtain ⟨p, hpp⟩ : ∃ p, a.take (pfx a b) = p := ⟨_, rfl⟩
  have hpb : b.take (pfx a b) = p := by rw [← pfx_take, hpp]
  have hpl : p.length = pfx a b := by rw [← hpp, List.length_take]; omega
  have ht := pfx_take (a.drop (pfx a b)).reverse (b.drop (pfx a b)).reverse
  have ht2 : (a.drop (pfx a b)).drop (a.length - pfx a b - sfx a b) = (b.drop (pfx a b)).drop (b.length - pfx a b - sfx a b) := by
    have h := congrArg List.reverse ht
    rw [take_rev, take_rev, List.length_drop, List.length_drop] at h
    exact h
  have ea : a = p ++ ((a.drop (pfx a b)).take (a.length - pfx a b - sfx a b) ++ (a.drop (pfx a b)).drop (a.length - pfx a b - sfx a b)) := by
    rw [List.take_append_drop, ← hpp, List.take_append_drop]
  have eb : b = p ++ ((b.drop (pfx a b)).take (b.length - pfx a b - sfx a b) ++ (a.drop (pfx a b)).drop (a.length - pfx a b - sfx a b)) := by
    rw [ht2, List.take_append_drop, ← hpb, List.take_append_drop]
  have h := lc_append_right ((a.drop (pfx a b)).take (a.length - pfx a b - sfx a b)) ((b.drop (pfx a b)).take (b.length - pfx a b - sfx a b)) ((a.drop (pfx a b)).drop (a.length - pfx a b - sfx a b))
  have h2 := lc_append p ((a.drop (pfx a b)).take (a.length - pfx a b - sfx a b) ++ (a.drop (pfx a b)).drop (a.length - pfx a b - sfx a b)) ((b.drop (pfx a b)).take (b.length - pfx a b - sfx a b) ++ (a.drop (pfx a b)).drop (a.length - pfx a b - sfx a b))
  rw [← ea, ← eb, h] at h2
  rw [h2, hpl, List.length_drop, List.length_drop]
  unfold mid
  omega

/-- The match, from the beginning on: for each thing of the first row its place in the second one (from k on), or -1. -/
def gm : List Int → List Int → Int → List Int
  | [], _, _ => []
  | _ :: a, [], k => -1 :: gm a [] k
  | x :: a, y :: b, k => if x = y then k :: gm a b (k + 1) else if lc (x :: a) b ≤ lc a (y :: b) then -1 :: gm a (y :: b) k else gm (x :: a) b (k + 1)
termination_by a b => a.length + b.length

theorem gm_nil_right : ∀ (a : List Int) (k : Int), gm a [] k = List.replicate a.length (-1)
  | [], k => by rw [gm]; rfl
  | x :: a, k => by rw [gm, gm_nil_right a k]; rfl
theorem gm_same (x : Int) (a b : List Int) (k : Int) : gm (x :: a) (x :: b) k = k :: gm a b (k + 1) := by rw [gm, if_pos rfl]
theorem gm_skip {x y : Int} (h : x ≠ y) (a b : List Int) (k : Int) (hl : lc (x :: a) b ≤ lc a (y :: b)) : gm (x :: a) (y :: b) k = -1 :: gm a (y :: b) k := by rw [gm, if_neg h, if_pos hl]
theorem gm_next {x y : Int} (h : x ≠ y) (a b : List Int) (k : Int) (hl : ¬ lc (x :: a) b ≤ lc a (y :: b)) : gm (x :: a) (y :: b) k = gm (x :: a) b (k + 1) := by rw [gm, if_neg h, if_neg hl]

theorem gm_length : ∀ (a b : List Int) (k : Int), (gm a b k).length = a.length
  | [], b, k => by rw [gm]
  | x :: a, [], k => by rw [gm_nil_right]; simp
  | x :: a, y :: b, k => by
    by_cases h : x = y
    · subst h; rw [gm_same]; simp [gm_length a b (k + 1)]
    · by_cases hl : lc (x :: a) b ≤ lc a (y :: b)
      · rw [gm_skip h _ _ _ hl]; simp [gm_length a (y :: b) k]
      · rw [gm_next h _ _ _ hl, gm_length (x :: a) b (k + 1)]
termination_by a b => a.length + b.length

/-- What is told of a match l of the row a to the row b, whose first thing has the place k: each place is -1, or rises, and the thing there is the same. -/
def good : List Int → List Int → List Int → Int → Prop
  | [], [], _, _ => True
  | m :: l, x :: a, b, k => (m = -1 ∧ good l a b k) ∨ (k ≤ m ∧ m < k + b.length ∧ b[(m - k).toNat]? = some x ∧ good l a (b.drop ((m - k).toNat + 1)) (m + 1))
  | _, _, _, _ => False

theorem good_drop1 : ∀ (l a b : List Int) (y : Int) (k : Int), good l a b (k + 1) → good l a (y :: b) k
  | [], [], _, _, _, _ => trivial
  | m :: l, x :: a, b, y, k, h => by
    rcases h with ⟨h1, h2⟩ | ⟨h1, h2, h3, h4⟩
    · exact .inl ⟨h1, good_drop1 l a b y k h2⟩
    · have e : (m - k).toNat = (m - (k + 1)).toNat + 1 := by omega
      refine .inr ⟨by omega, by simp; omega, by rw [e]; simpa using h3, ?_⟩
      rw [e]
      simpa using h4
  | [], _ :: _, _, _, _, h => h.elim
  | _ :: _, [], _, _, _, h => h.elim

theorem good_none : ∀ (a b : List Int) (k : Int), good (List.replicate a.length (-1)) a b k
  | [], _, _ => trivial
  | _ :: a, b, k => .inl ⟨rfl, good_none a b k⟩

theorem gm_good : ∀ (a b : List Int) (k : Int), good (gm a b k) a b k
  | [], b, k => by rw [gm]; trivial
  | x :: a, [], k => by rw [gm_nil_right]; exact good_none (x :: a) [] k
  | x :: a, y :: b, k => by
    by_cases h : x = y
    · subst h
      rw [gm_same]
      have := gm_good a b (k + 1)
      exact .inr ⟨by omega, by simp; omega, by simp, by simpa using this⟩
    · by_cases hl : lc (x :: a) b ≤ lc a (y :: b)
      · rw [gm_skip h _ _ _ hl]
        exact .inl ⟨rfl, gm_good a (y :: b) k⟩
      · rw [gm_next h _ _ _ hl]
        exact good_drop1 _ _ _ _ _ (gm_good (x :: a) b (k + 1))
termination_by a b => a.length + b.length

/-- How many are matched. -/
def many (l : List Int) : Nat := (l.filter fun m => decide (0 ≤ m)).length
theorem gm_many : ∀ (a b : List Int) (k : Int), 0 ≤ k → many (gm a b k) = lc a b
  | [], b, k, _ => by rw [gm, lc_nil_left]; rfl
  | x :: a, [], k, _ => by
    rw [gm_nil_right, lc_nil_right]
    simp [many]
  | x :: a, y :: b, k, hk => by
    by_cases h : x = y
    · subst h
      rw [gm_same, lc_same, ← gm_many a b (k + 1) (by omega)]
      simp [many, hk]
    · by_cases hl : lc (x :: a) b ≤ lc a (y :: b)
      · rw [gm_skip h _ _ _ hl, lc_diff h, Nat.max_eq_left hl, ← gm_many a (y :: b) k hk]
        simp [many]
      · rw [gm_next h _ _ _ hl, lc_diff h, Nat.max_eq_right (by omega), ← gm_many (x :: a) b (k + 1) (by omega)]
termination_by a b => a.length + b.length
end Go.Proofs.YtfjmhnnjgjcmeaaDoor.L
