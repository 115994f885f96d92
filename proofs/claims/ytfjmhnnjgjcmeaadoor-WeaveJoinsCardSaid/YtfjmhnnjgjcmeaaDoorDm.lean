/-
  For the laws of weave: the chunks that two matches leave, as plain lists of places. No condition.
-/
import Derived.Test.YtfjmhnnjgjcmeaaDoorLMatch
namespace Go.Proofs.YtfjmhnnjgjcmeaaDoor.L
set_option linter.unusedVariables false

/-- A match into n things, whose next place is at least q: each place is -1, or rises. -/
def isMatch (n : Int) : Int → List Int → Prop
  | _, [] => 0 ≤ n
  | q, x :: M => -1 ≤ x ∧ x < n ∧ (0 ≤ x → q ≤ x) ∧ isMatch n (if 0 ≤ x then x + 1 else q) M
/-- Three places. -/
structure P3 where
  o : Nat
  a : Nat
  b : Nat
deriving DecidableEq
/-- How far both matches go on place by place. -/
def stab : List Int → List Int → Nat → Nat → Nat
  | l :: L, r :: R, a, b => if l = a ∧ r = b then stab L R (a + 1) (b + 1) + 1 else 0
  | _, _, _, _ => 0
/-- The next place that both sides have. -/
def uns : List Int → List Int → Nat → Option P3
  | l :: L, r :: R, i => if 0 ≤ l ∧ 0 ≤ r then some ⟨i, l.toNat, r.toNat⟩ else uns L R (i + 1)
  | _, _, _ => none
/-- Where the chunk that begins at p ends. -/
def nxt (L R : List Int) (ends p : P3) : P3 :=
  if stab (L.drop p.o) (R.drop p.o) p.a p.b = 0 then (uns (L.drop p.o) (R.drop p.o) p.o).getD ends
  else ⟨p.o + stab (L.drop p.o) (R.drop p.o) p.a p.b, p.a + stab (L.drop p.o) (R.drop p.o) p.a p.b, p.b + stab (L.drop p.o) (R.drop p.o) p.a p.b⟩
def cuts (L R : List Int) (ends : P3) : Nat → P3 → List (P3 × P3)
  | 0, _ => []
  | n + 1, p => if p = ends then [] else (p, nxt L R ends p) :: cuts L R ends n (nxt L R ends p)
def P3.sum (p : P3) : Nat := p.o + p.a + p.b
/-- What holds of each place at which a chunk begins. -/
structure InvP (L R : List Int) (ends p : P3) : Prop where
  o : p.o ≤ ends.o
  a : p.a ≤ ends.a
  b : p.b ≤ ends.b
  l : L.length = ends.o
  r : R.length = ends.o
  ma : isMatch ends.a p.a (L.drop p.o)
  mb : isMatch ends.b p.b (R.drop p.o)
theorem isMatch_mono {n : Int} : ∀ {M : List Int} {q q' : Int}, q' ≤ q → isMatch n q M → isMatch n q' M
  | [], _, _, _, h => h
  | x :: M, q, q', hq, ⟨h1, h2, h3, h4⟩ => by
    refine ⟨h1, h2, fun h => by have := h3 h; omega, ?_⟩
    by_cases hx : 0 ≤ x
    · rw [if_pos hx] at h4 ⊢; exact h4
    · rw [if_neg hx] at h4 ⊢; exact isMatch_mono hq h4
theorem isMatch_n {n : Int} : ∀ {M : List Int} {q : Int}, isMatch n q M → 0 ≤ n
  | [], _, h => h
  | _ :: _, _, h => isMatch_n h.2.2.2
theorem stab_le : ∀ (L R : List Int) (a b : Nat), stab L R a b ≤ L.length ∧ stab L R a b ≤ R.length
  | l :: L, r :: R, a, b => by
    have := stab_le L R (a + 1) (b + 1)
    unfold stab
    split <;> simp <;> omega
  | [], _, _, _ => by simp [stab]
  | _ :: _, [], _, _ => by simp [stab]
theorem stab_ma {n m : Int} : ∀ (L R : List Int) (a b : Nat), (a : Int) ≤ n → (b : Int) ≤ m → isMatch n a L → isMatch m b R → ((a + stab L R a b : Nat) : Int) ≤ n ∧ ((b + stab L R a b : Nat) : Int) ≤ m ∧ isMatch n (a + stab L R a b : Nat) (L.drop (stab L R a b)) ∧ isMatch m (b + stab L R a b : Nat) (R.drop (stab L R a b))
  | l :: L, r :: R, a, b, ha, hb, h1, h2 => by
    unfold stab
    split
    · rename_i he
      obtain ⟨e1, e2⟩ := he
      obtain ⟨-, p2, -, p4⟩ := h1
      obtain ⟨-, q2, -, q4⟩ := h2
      rw [if_pos (by omega), e1] at p4
      rw [if_pos (by omega), e2] at q4
      obtain ⟨g1, g2, g3, g4⟩ := stab_ma (n := n) (m := m) L R (a + 1) (b + 1) (by omega) (by omega) (by simpa using p4) (by simpa using q4)
      refine ⟨by omega, by omega, ?_, ?_⟩
      · rw [List.drop_succ_cons, show a + (stab L R (a + 1) (b + 1) + 1) = a + 1 + stab L R (a + 1) (b + 1) from by omega]; exact g3
      · rw [List.drop_succ_cons, show b + (stab L R (a + 1) (b + 1) + 1) = b + 1 + stab L R (a + 1) (b + 1) from by omega]; exact g4
    · exact ⟨ha, hb, h1, h2⟩
  | [], R, a, b, ha, hb, h1, h2 => by simpa [stab] using ⟨ha, hb, h1, h2⟩
  | _ :: _, [], a, b, ha, hb, h1, h2 => by simpa [stab] using ⟨ha, hb, h1, h2⟩
theorem uns_ma {n m : Int} : ∀ (L R : List Int) (i : Nat) (a b : Int) (q : P3), isMatch n a L → isMatch m b R → uns L R i = some q → 0 ≤ a → 0 ≤ b → i ≤ q.o ∧ q.o < i + L.length ∧ a ≤ q.a ∧ b ≤ q.b ∧ (q.a : Int) < n ∧ (q.b : Int) < m ∧ L[q.o - i]? = some (q.a : Int) ∧ R[q.o - i]? = some (q.b : Int) ∧ isMatch n q.a (L.drop (q.o - i)) ∧ isMatch m q.b (R.drop (q.o - i))
  | l :: L, r :: R, i, a, b, q, h1, h2, hu, ha, hb => by
    unfold uns at hu
    split at hu
    · rename_i he
      obtain ⟨e1, e2⟩ := he
      obtain rfl := Option.some.inj hu
      obtain ⟨p1, p2, p3, p4⟩ := h1
      obtain ⟨q1, q2, q3, q4⟩ := h2
      have e3 : (l.toNat : Int) = l := Int.toNat_of_nonneg e1
      have e4 : (r.toNat : Int) = r := Int.toNat_of_nonneg e2
      simp only [Nat.sub_self, List.drop_zero]
      rw [e3, e4]
      exact ⟨Nat.le_refl _, by simp, p3 e1, q3 e2, p2, q2, rfl, rfl, ⟨p1, p2, fun _ => Int.le_refl _, by rw [if_pos e1] at p4 ⊢; exact p4⟩, ⟨q1, q2, fun _ => Int.le_refl _, by rw [if_pos e2] at q4 ⊢; exact q4⟩⟩
    · obtain ⟨p1, p2, p3, p4⟩ := h1
      obtain ⟨q1, q2, q3, q4⟩ := h2
      have k1 : isMatch n a L := by
        by_cases hl : 0 ≤ l
        · rw [if_pos hl] at p4; exact isMatch_mono (by have := p3 hl; omega) p4
        · rw [if_neg hl] at p4; exact p4
      have k2 : isMatch m b R := by
        by_cases hl : 0 ≤ r
        · rw [if_pos hl] at q4; exact isMatch_mono (by have := q3 hl; omega) q4
        · rw [if_neg hl] at q4; exact q4
      obtain ⟨g1, g2, g3, g4, g5, g6, g7, g8, g9, g10⟩ := uns_ma L R (i + 1) a b q k1 k2 hu ha hb
      have e : q.o - i = q.o - (i + 1) + 1 := by omega
      rw [e]
      exact ⟨by omega, by simp; omega, g3, g4, g5, g6, by simpa using g7, by simpa using g8, by simpa using g9, by simpa using g10⟩
  | [], _, _, _, _, _, _, _, hu, _, _ => by simp [uns] at hu
  | _ :: _, [], _, _, _, _, _, _, hu, _, _ => by simp [uns] at hu
theorem InvP.next {L R : List Int} {ends p : P3} (h : InvP L R ends p) (hne : p ≠ ends) : InvP L R ends (nxt L R ends p) ∧ p.o ≤ (nxt L R ends p).o ∧ p.a ≤ (nxt L R ends p).a ∧ p.b ≤ (nxt L R ends p).b ∧ p.sum < (nxt L R ends p).sum := by
  have hs : p.sum < ends.sum := by
    have h1 := h.o; have h2 := h.a; have h3 := h.b
    unfold P3.sum
    rcases Nat.lt_or_ge p.o ends.o with k | k
    · omega
    rcases Nat.lt_or_ge p.a ends.a with k2 | k2
    · omega
    rcases Nat.lt_or_ge p.b ends.b with k3 | k3
    · omega
    exact absurd (by cases p; cases ends; simp at *; omega) hne
  unfold nxt
  by_cases hn : stab (L.drop p.o) (R.drop p.o) p.a p.b = 0
  · rw [if_pos hn]
    cases hu : uns (L.drop p.o) (R.drop p.o) p.o with
    | none =>
      rw [Option.getD_none]
      refine ⟨⟨Nat.le_refl _, Nat.le_refl _, Nat.le_refl _, h.l, h.r, ?_, ?_⟩, h.o, h.a, h.b, hs⟩
      · rw [← h.l, List.drop_length]; exact Int.natCast_nonneg _
      · rw [← h.r, List.drop_length]; exact Int.natCast_nonneg _
    | some q =>
      rw [Option.getD_some]
      obtain ⟨g1, g2, g3, g4, g5, g6, g7, g8, g9, g10⟩ := uns_ma _ _ _ _ _ q h.ma h.mb hu (by omega) (by omega)
      rw [List.length_drop, h.l] at g2
      rw [List.drop_drop, show p.o + (q.o - p.o) = q.o from by omega] at g9 g10
      have ho := h.o
      refine ⟨⟨by omega, by omega, by omega, h.l, h.r, g9, g10⟩, g1, by omega, by omega, ?_⟩
      unfold P3.sum
      rcases Nat.lt_or_ge p.o q.o with k | k
      · omega
      rcases Nat.lt_or_ge p.a q.a with k2 | k2
      · omega
      rcases Nat.lt_or_ge p.b q.b with k3 | k3
      · omega
      exfalso
      have e0 : q.o - p.o = 0 := by omega
      rw [e0] at g7 g8
      cases hL : L.drop p.o with
      | nil => rw [hL] at g7; simp at g7
      | cons l L' =>
        cases hR : R.drop p.o with
        | nil => rw [hR] at g8; simp at g8
        | cons r R' =>
          rw [hL] at g7 hn
          rw [hR] at g8 hn
          simp at g7 g8
          unfold stab at hn
          rw [if_pos ⟨by omega, by omega⟩] at hn
          omega
  · rw [if_neg hn]
    have h1 := h.o; have h2 := h.a; have h3 := h.b
    obtain ⟨g1, g2, g3, g4⟩ := stab_ma _ _ _ _ (by omega) (by omega) h.ma h.mb
    have g5 := (stab_le (L.drop p.o) (R.drop p.o) p.a p.b).1
    rw [List.length_drop, h.l] at g5
    rw [List.drop_drop] at g3 g4
    refine ⟨⟨by simp only; omega, by simp only; omega, by simp only; omega, h.l, h.r, g3, g4⟩, by simp only; omega, by simp only; omega, by simp only; omega, by simp only [P3.sum]; omega⟩
theorem InvP.start {L R : List Int} {ends : P3} (hl : L.length = ends.o) (hr : R.length = ends.o) (h1 : isMatch ends.a 0 L) (h2 : isMatch ends.b 0 R) : InvP L R ends ⟨0, 0, 0⟩ := ⟨Nat.zero_le _, Nat.zero_le _, Nat.zero_le _, hl, hr, h1, h2⟩
theorem InvP.le {L R : List Int} {ends p : P3} (h : InvP L R ends p) : p.sum ≤ ends.sum := by
  have h1 := h.o; have h2 := h.a; have h3 := h.b
  unfold P3.sum
  omega
theorem cuts_fuel {L R : List Int} {ends : P3} : ∀ (n m : Nat) (p : P3), InvP L R ends p → ends.sum - p.sum ≤ n → ends.sum - p.sum ≤ m → cuts L R ends n p = cuts L R ends m p := by
  intro n
  induction n with
  | zero =>
    intro m p h h1 _
    have he : p = ends := by
      by_cases hne : p = ends
      · exact hne
      · have := (h.next hne).2.2.2.2; have := (h.next hne).1.le; omega
    cases m with
    | zero => rfl
    | succ m => simp [cuts, he]
  | succ n ih =>
    intro m p h h1 h2
    by_cases hne : p = ends
    · cases m <;> simp [cuts, hne]
    · obtain ⟨k1, -, -, -, k2⟩ := h.next hne
      cases m with
      | zero => have := k1.le; omega
      | succ m =>
        simp only [cuts]
        rw [if_neg hne, if_neg hne, ih m _ k1 (by omega) (by omega)]
/-- All chunks from p on: where each begins and ends. -/
def cutsAt (L R : List Int) (ends p : P3) : List (P3 × P3) := cuts L R ends (ends.sum - p.sum) p
theorem cutsAt_end {L R : List Int} {ends : P3} : cutsAt L R ends ends = [] := by unfold cutsAt; rw [Nat.sub_self]; rfl
theorem cutsAt_next {L R : List Int} {ends p : P3} (h : InvP L R ends p) (hne : p ≠ ends) : cutsAt L R ends p = (p, nxt L R ends p) :: cutsAt L R ends (nxt L R ends p) := by
  obtain ⟨k1, -, -, -, k2⟩ := h.next hne
  have hl := k1.le
  unfold cutsAt
  obtain ⟨m, hm⟩ : ∃ m, ends.sum - p.sum = m + 1 := ⟨ends.sum - p.sum - 1, by omega⟩
  rw [hm]
  simp only [cuts]
  rw [if_neg hne, cuts_fuel m _ _ k1 (by omega) (Nat.le_refl _)]

theorem stab_run {L R : List Int} {a b k : Nat} (h : k < stab L R a b) : L[k]? = some ((a + k : Nat) : Int) ∧ R[k]? = some ((b + k : Nat) : Int) := by
  induction L generalizing R a b k with
  | nil => simp [stab] at h
  | cons l L ih =>
    cases R with
    | nil => simp [stab] at h
    | cons r R =>
      unfold stab at h
      split at h
      · rename_i he
        cases k with
        | zero => simp [he.1, he.2]
        | succ k =>
          obtain ⟨h1, h2⟩ := ih (a := a + 1) (b := b + 1) (R := R) (k := k) (by omega)
          rw [List.getElem?_cons_succ, List.getElem?_cons_succ, h1, h2, show a + 1 + k = a + (k + 1) from by omega, show b + 1 + k = b + (k + 1) from by omega]
          exact ⟨rfl, rfl⟩
      · omega
theorem stab_stop {L R : List Int} {a b : Nat} : ¬ (L[stab L R a b]? = some ((a + stab L R a b : Nat) : Int) ∧ R[stab L R a b]? = some ((b + stab L R a b : Nat) : Int)) := by
  induction L generalizing R a b with
  | nil => simp
  | cons l L ih =>
    cases R with
    | nil => simp
    | cons r R =>
      unfold stab
      split
      · rename_i he
        rw [List.getElem?_cons_succ, List.getElem?_cons_succ, show a + (stab L R (a + 1) (b + 1) + 1) = a + 1 + stab L R (a + 1) (b + 1) from by omega, show b + (stab L R (a + 1) (b + 1) + 1) = b + 1 + stab L R (a + 1) (b + 1) from by omega]
        exact ih
      · rename_i he
        simpa using he
theorem uns_step {L R : List Int} {i : Nat} {l r : Int} (hl : L[i]? = some l) (hr : R[i]? = some r) : uns (L.drop i) (R.drop i) i = if 0 ≤ l ∧ 0 ≤ r then some ⟨i, l.toNat, r.toNat⟩ else uns (L.drop (i + 1)) (R.drop (i + 1)) (i + 1) := by
  rw [drop_get hl, drop_get hr]
  rfl
theorem uns_end {L R : List Int} {i : Nat} (h : L.length ≤ i) : uns (L.drop i) (R.drop i) i = none := by
  rw [List.drop_of_length_le h]
  rfl
end Go.Proofs.YtfjmhnnjgjcmeaaDoor.L
