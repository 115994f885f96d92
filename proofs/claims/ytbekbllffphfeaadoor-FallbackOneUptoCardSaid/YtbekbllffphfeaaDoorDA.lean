/-
  For the laws of weave: the chunks that two matches leave, as plain lists of places. No condition.
-/
import Derived.Test.YtbekbllffphfeaaDoorLA
import Derived.Laws.Rows
import Derived.Test.YtbekbllffphfeaaDoorShelf
import Derived.RangeFuncBox
import Derived.RangeFuncLeaves
import Derived.RangeFuncNested
import Derived.RangeFuncBound
import Derived.RangeFuncCalls
import Derived.OwnWalkIn
import Derived.TacticsInMore
import Derived.LoopNIn
import Derived.LoopIn
import Derived.Sort.CutIn
import Derived.Test.YtbekbllffphfeaaDoorSA
import Derived.Laws.EntriesVeiled
import Derived.StillTailTactics
namespace Go.Proofs.YtbekbllffphfeaaDoor.L
set_option linter.unusedVariables false

/-- A match into n things, whose next place is at least q: each place is -1, or rises. -/
def isMatch (n : Int) : Int → List Int → Prop
  | _, [] => 0 ≤ n
  | q, x :: M => -1 ≤ x ∧ x < n ∧ (0 ≤ x → q ≤ x) ∧ isMatch n (if 0 ≤ x then x + 1 else q) M
/-- Three places. -/
structure P3 where
  o : Nat
  a : Nat
  b : Nat
deriving DecidableEq
/-- How far both matches go on place by place. -/
def stab : List Int → List Int → Nat → Nat → Nat
  | l :: L, r :: R, a, b => if l = a ∧ r = b then stab L R (a + 1) (b + 1) + 1 else 0
  | _, _, _, _ => 0
/-- The next place that both sides have. -/
def uns : List Int → List Int → Nat → Option P3
  | l :: L, r :: R, i => if 0 ≤ l ∧ 0 ≤ r then some ⟨i, l.toNat, r.toNat⟩ else uns L R (i + 1)
  | _, _, _ => none
/-- Where the chunk that begins at p ends. -/
def nxt (L R : List Int) (ends p : P3) : P3 :=
  if stab (L.drop p.o) (R.drop p.o) p.a p.b = 0 then (uns (L.drop p.o) (R.drop p.o) p.o).getD ends
  else ⟨p.o + stab (L.drop p.o) (R.drop p.o) p.a p.b, p.a + stab (L.drop p.o) (R.drop p.o) p.a p.b, p.b + stab (L.drop p.o) (R.drop p.o) p.a p.b⟩
def cuts (L R : List Int) (ends : P3) : Nat → P3 → List (P3 × P3)
  | 0, _ => []
  | n + 1, p => if p = ends then [] else (p, nxt L R ends p) :: cuts L R ends n (nxt L R ends p)
def P3.sum (p : P3) : Nat := p.o + p.a + p.b
/-- What holds of each place at which a chunk begins. -/
structure InvP (L R : List Int) (ends p : P3) : Prop where
  o : p.o ≤ ends.o
  a : p.a ≤ ends.a
  b : p.b ≤ ends.b
  l : L.length = ends.o
  r : R.length = ends.o
  ma : isMatch ends.a p.a (L.drop p.o)
  mb : isMatch ends.b p.b (R.drop p.o)
theorem isMatch_mono {n : Int} : ∀ {M : List Int} {q q' : Int}, q' ≤ q → isMatch n q M → isMatch n q' M
  | [], _, _, _, h => h
  | x :: M, q, q', hq, ⟨h1, h2, h3, h4⟩ => by
    refine ⟨h1, h2, fun h => by have := h3 h; omega, ?_⟩
    by_cases hx : 0 ≤ x
    · rw [if_pos hx] at h4 ⊢; exact h4
    · rw [if_neg hx] at h4 ⊢; exact isMatch_mono hq h4
theorem stab_le : ∀ (L R : List Int) (a b : Nat), stab L R a b ≤ L.length ∧ stab L R a b ≤ R.length
  | l :: L, r :: R, a, b => by
    have := stab_le L R (a + 1) (b + 1)
    unfold stab
    split <;> simp <;> omega
  | [], _, _, _ => by simp [stab]
  | _ :: _, [], _, _ => by simp [stab]
theorem stab_ma {n m : Int} : ∀ (L R : List Int) (a b : Nat), (a : Int) ≤ n → (b : Int) ≤ m → isMatch n a L → isMatch m b R → ((a + stab L R a b : Nat) : Int) ≤ n ∧ ((b + stab L R a b : Nat) : Int) ≤ m ∧ isMatch n (a + stab L R a b : Nat) (L.drop (stab L R a b)) ∧ isMatch m (b + stab L R a b : Nat) (R.drop (stab L R a b))
  | l :: L, r :: R, a, b, ha, hb, h1, h2 => by
    unfold stab
    split
    · rename_i he
      obtain ⟨e1, e2⟩ := he
      obtain ⟨-, p2, -, p4⟩ := h1
      obtain ⟨-, q2, -, q4⟩ := h2
      rw [if_pos (by omega), e1] at p4
      rw [if_pos (by omega), e2] at q4
      obtain ⟨g1, g2, g3, g4⟩ := stab_ma (n := n) (m := m) L R (a + 1) (b + 1) (by omega) (by omega) (by simpa using p4) (by simpa using q4)
      refine ⟨by omega, by omega, ?_, ?_⟩
      · rw [List.drop_succ_cons, show a + (stab L R (a + 1) (b + 1) + 1) = a + 1 + stab L R (a + 1) (b + 1) from by omega]; exact g3
      · rw [List.drop_succ_cons, show b + (stab L R (a + 1) (b + 1) + 1) = b + 1 + stab L R (a + 1) (b + 1) from by omega]; exact g4
    · exact ⟨ha, hb, h1, h2⟩
  | [], R, a, b, ha, hb, h1, h2 => by simpa [stab] using ⟨ha, hb, h1, h2⟩
  | _ :: _, [], a, b, ha, hb, h1, h2 => by simpa [stab] using ⟨ha, hb, h1, h2⟩
theorem uns_ma {n m : Int} : ∀ (L R : List Int) (i : Nat) (a b : Int) (q : P3), isMatch n a L → isMatch m b R → uns L R i = some q → 0 ≤ a → 0 ≤ b → i ≤ q.o ∧ q.o < i + L.length ∧ a ≤ q.a ∧ b ≤ q.b ∧ (q.a : Int) < n ∧ (q.b : Int) < m ∧ L[q.o - i]? = some (q.a : Int) ∧ R[q.o - i]? = some (q.b : Int) ∧ isMatch n q.a (L.drop (q.o - i)) ∧ isMatch m q.b (R.drop (q.o - i))
  | l :: L, r :: R, i, a, b, q, h1, h2, hu, ha, hb => by
    unfold uns at hu
    split at hu
    · rename_i he
      obtain ⟨e1, e2⟩ := he
      obtain rfl := Option.some.inj hu
      obtain ⟨p1, p2, p3, p4⟩ := h1
      obtain ⟨q1, q2, q3, q4⟩ := h2
      have e3 : (l.toNat : Int) = l := Int.toNat_of_nonneg e1
      have e4 : (r.toNat : Int) = r := Int.toNat_of_nonneg e2
      simp only [Nat.sub_self, List.drop_zero]
      rw [e3, e4]
      exact ⟨Nat.le_refl _, by simp, p3 e1, q3 e2, p2, q2, rfl, rfl, ⟨p1, p2, fun _ => Int.le_refl _, by rw [if_pos e1] at p4 ⊢; exact p4⟩, ⟨q1, q2, fun _ => Int.le_refl _, by rw [if_pos e2] at q4 ⊢; exact q4⟩⟩
    · obtain ⟨p1, p2, p3, p4⟩ := h1
      obtain ⟨q1, q2, q3, q4⟩ := h2
      have k1 : isMatch n a L := by
        by_cases hl : 0 ≤ l
        · rw [if_pos hl] at p4; exact isMatch_mono (by have := p3 hl; omega) p4
        · rw [if_neg hl] at p4; exact p4
      have k2 : isMatch m b R := by
        by_cases hl : 0 ≤ r
        · rw [if_pos hl] at q4; exact isMatch_mono (by have := q3 hl; omega) q4
        · rw [if_neg hl] at q4; exact q4
      obtain ⟨g1, g2, g3, g4, g5, g6, g7, g8, g9, g10⟩ := uns_ma L R (i + 1) a b q k1 k2 hu ha hb
      have e : q.o - i = q.o - (i + 1) + 1 := by omega
      rw [e]
      exact ⟨by omega, by simp; omega, g3, g4, g5, g6, by simpa using g7, by simpa using g8, by simpa using g9, by simpa using g10⟩
  | [], _, _, _, _, _, _, _, hu, _, _ => by simp [uns] at hu
  | _ :: _, [], _, _, _, _, _, _, hu, _, _ => by simp [uns] at hu
theorem InvP.next {L R : List Int} {ends p : P3} (h : InvP L R ends p) (hne : p ≠ ends) : InvP L R ends (nxt L R ends p) ∧ p.o ≤ (nxt L R ends p).o ∧ p.a ≤ (nxt L R ends p).a ∧ p.b ≤ (nxt L R ends p).b ∧ p.sum < (nxt L R ends p).sum := by
  have hs : p.sum < ends.sum := by
    have h1 := h.o; have h2 := h.a; have h3 := h.b
    unfold P3.sum
    rcases Nat.lt_or_ge p.o ends.o with k | k
    · omega
    rcases Nat.lt_or_ge p.a ends.a with k2 | k2
    · omega
    rcases Nat.lt_or_ge p.b ends.b with k3 | k3
    · omega
    exact absurd (by cases p; cases ends; simp at *; omega) hne
  unfold nxt
  by_cases hn : stab (L.drop p.o) (R.drop p.o) p.a p.b = 0
  · rw [if_pos hn]
    cases hu : uns (L.drop p.o) (R.drop p.o) p.o with
    | none =>
      rw [Option.getD_none]
      refine ⟨⟨Nat.le_refl _, Nat.le_refl _, Nat.le_refl _, h.l, h.r, ?_, ?_⟩, h.o, h.a, h.b, hs⟩
      · rw [← h.l, List.drop_length]; exact Int.natCast_nonneg _
      · rw [← h.r, List.drop_length]; exact Int.natCast_nonneg _
    | some q =>
      rw [Option.getD_some]
      obtain ⟨g1, g2, g3, g4, g5, g6, g7, g8, g9, g10⟩ := uns_ma _ _ _ _ _ q h.ma h.mb hu (by omega) (by omega)
      rw [List.length_drop, h.l] at g2
      rw [List.drop_drop, show p.o + (q.o - p.o) = q.o from by omega] at g9 g10
      have ho := h.o
      refine ⟨⟨by omega, by omega, by omega, h.l, h.r, g9, g10⟩, g1, by omega, by omega, ?_⟩
      unfold P3.sum
      rcases Nat.lt_or_ge p.o q.o with k | k
      · omega
      rcases Nat.lt_or_ge p.a q.a with k2 | k2
      · omega
      rcases Nat.lt_or_ge p.b q.b with k3 | k3
      · omega
      exfalso
      have e0 : q.o - p.o = 0 := by omega
      rw [e0] at g7 g8
      cases hL : L.drop p.o with
      | nil => rw [hL] at g7; simp at g7
      | cons l L' =>
        cases hR : R.drop p.o with
        | nil => rw [hR] at g8; simp at g8
        | cons r R' =>
          rw [hL] at g7 hn
          rw [hR] at g8 hn
          simp at g7 g8
          unfold stab at hn
          rw [if_pos ⟨by omega, by omega⟩] at hn
          omega
  · rw [if_neg hn]
    have h1 := h.o; have h2 := h.a; have h3 := h.b
    obtain ⟨g1, g2, g3, g4⟩ := stab_ma _ _ _ _ (by omega) (by omega) h.ma h.mb
    have g5 := (stab_le (L.drop p.o) (R.drop p.o) p.a p.b).1
    rw [List.length_drop, h.l] at g5
    rw [List.drop_drop] at g3 g4
    refine ⟨⟨by simp only; omega, by simp only; omega, by simp only; omega, h.l, h.r, g3, g4⟩, by simp only; omega, by simp only; omega, by simp only; omega, by simp only [P3.sum]; omega⟩
theorem InvP.start {L R : List Int} {ends : P3} (hl : L.length = ends.o) (hr : R.length = ends.o) (h1 : isMatch ends.a 0 L) (h2 : isMatch ends.b 0 R) : InvP L R ends ⟨0, 0, 0⟩ := ⟨Nat.zero_le _, Nat.zero_le _, Nat.zero_le _, hl, hr, h1, h2⟩
theorem InvP.le {L R : List Int} {ends p : P3} (h : InvP L R ends p) : p.sum ≤ ends.sum := by
  have h1 := h.o; have h2 := h.a; have h3 := h.b
  unfold P3.sum
  omega
theorem cuts_fuel {L R : List Int} {ends : P3} : ∀ (n m : Nat) (p : P3), InvP L R ends p → ends.sum - p.sum ≤ n → ends.sum - p.sum ≤ m → cuts L R ends n p = cuts L R ends m p := by
  intro n
  induction n with
  | zero =>
    intro m p h h1 _
    have he : p = ends := by
      by_cases hne : p = ends
      · exact hne
      · have := (h.next hne).2.2.2.2; have := (h.next hne).1.le; omega
    cases m with
    | zero => rfl
    | succ m => simp [cuts, he]
  | succ n ih =>
    intro m p h h1 h2
    by_cases hne : p = ends
    · cases m <;> simp [cuts, hne]
    · obtain ⟨k1, -, -, -, k2⟩ := h.next hne
      cases m with
      | zero => have := k1.le; omega
      | succ m =>
        simp only [cuts]
        rw [if_neg hne, if_neg hne, ih m _ k1 (by omega) (by omega)]
/-- All chunks from p on: where each begins and ends. -/
def cutsAt (L R : List Int) (ends p : P3) : List (P3 × P3) := cuts L R ends (ends.sum - p.sum) p
theorem cutsAt_end {L R : List Int} {ends : P3} : cutsAt L R ends ends = [] := by unfold cutsAt; rw [Nat.sub_self]; rfl
theorem cutsAt_next {L R : List Int} {ends p : P3} (h : InvP L R ends p) (hne : p ≠ ends) : cutsAt L R ends p = (p, nxt L R ends p) :: cutsAt L R ends (nxt L R ends p) := by
  obtain ⟨k1, -, -, -, k2⟩ := h.next hne
  have hl := k1.le
  unfold cutsAt
  obtain ⟨m, hm⟩ : ∃ m, ends.sum - p.sum = m + 1 := ⟨ends.sum - p.sum - 1, by omega⟩
  rw [hm]
  simp only [cuts]
  rw [if_neg hne, cuts_fuel m _ _ k1 (by omega) (Nat.le_refl _)]

theorem stab_run {L R : List Int} {a b k : Nat} (h : k < stab L R a b) : L[k]? = some ((a + k : Nat) : Int) ∧ R[k]? = some ((b + k : Nat) : Int) := by
  induction L generalizing R a b k with
  | nil => simp [stab] at h
  | cons l L ih =>
    cases R with
    | nil => simp [stab] at h
    | cons r R =>
      unfold stab at h
      split at h
      · rename_i he
        cases k with
        | zero => simp [he.1, he.2]
        | succ k =>
          obtain ⟨h1, h2⟩ := ih (a := a + 1) (b := b + 1) (R := R) (k := k) (by omega)
          rw [List.getElem?_cons_succ, List.getElem?_cons_succ, h1, h2, show a + 1 + k = a + (k + 1) from by omega, show b + 1 + k = b + (k + 1) from by omega]
          exact ⟨rfl, rfl⟩
      · omega
theorem stab_stop {L R : List Int} {a b : Nat} : ¬ (L[stab L R a b]? = some ((a + stab L R a b : Nat) : Int) ∧ R[stab L R a b]? = some ((b + stab L R a b : Nat) : Int)) := by
  induction L generalizing R a b with
  | nil => simp
  | cons l L ih =>
    cases R with
    | nil => simp
    | cons r R =>
      unfold stab
      split
      · rename_i he
        rw [List.getElem?_cons_succ, List.getElem?_cons_succ, show a + (stab L R (a + 1) (b + 1) + 1) = a + 1 + stab L R (a + 1) (b + 1) from by omega, show b + (stab L R (a + 1) (b + 1) + 1) = b + 1 + stab L R (a + 1) (b + 1) from by omega]
        exact ih
      · rename_i he
        simpa using he
theorem uns_step {L R : List Int} {i : Nat} {l r : Int} (hl : L[i]? = some l) (hr : R[i]? = some r) : uns (L.drop i) (R.drop i) i = if 0 ≤ l ∧ 0 ≤ r then some ⟨i, l.toNat, r.toNat⟩ else uns (L.drop (i + 1)) (R.drop (i + 1)) (i + 1) := by
  rw [drop_get hl, drop_get hr]
  rfl
theorem uns_end {L R : List Int} {i : Nat} (h : L.length ≤ i) : uns (L.drop i) (R.drop i) i = none := by
  rw [List.drop_of_length_le h]
  rfl
end Go.Proofs.YtbekbllffphfeaaDoor.L
/-
  For the laws of weave: where a chunk ends (stable, unstable), and its kind. Condition: rows of at most 1,000,000 things.
-/
namespace Go.Proofs.YtbekbllffphfeaaDoor.L
open Go.RowKit
set_option linter.unusedVariables false
set_option linter.unusedSimpArgs false

abbrev p3v (p : P3) : Array Value := #[.int .i64 p.o, .int .i64 p.a, .int .i64 p.b]
/-- Three cells of a row. -/
theorem row3 {W : World} {b : Nat} {t : TypeId} {x y z : Value} (h : RowAt W b t #[x, y, z]) : W.cell? ⟨b, 0, none⟩ = some x ∧ W.cell? ⟨b, 1, none⟩ = some y ∧ W.cell? ⟨b, 2, none⟩ = some z ∧ W.frozen? ⟨b, 0, none⟩ = false ∧ W.frozen? ⟨b, 1, none⟩ = false ∧ W.frozen? ⟨b, 2, none⟩ = false :=
  ⟨h.cell rfl, h.cell rfl, h.cell rfl, h.frozen 0, h.frozen 1, h.frozen 2⟩
theorem row3_set {W : World} {b : Nat} {t : TypeId} {x y z : Value} (h : RowAt W b t #[x, y, z]) (x' y' z' : Value) : RowAt (((W.setCell ⟨b, 0, none⟩ x').setCell ⟨b, 1, none⟩ y').setCell ⟨b, 2, none⟩ z') b t #[x', y', z'] := by
  simpa using ((h.set 0 x').set 1 y').set 2 z'
theorem ints_at {w : World} {v : Value} {xs : List Int} (h : Ints w .i64 v xs) : ∃ (a : Option Addr) (cap : Nat), v = .slice a xs.length cap ∧ xs.length ≤ cap ∧ cap ≤ maxLen ∧ ∀ (wr : World), Below w.heap.size w wr → ∀ (k : Nat) (x : Int), xs[k]? = some x → ∃ b off, a = some ⟨b, off, none⟩ ∧ wr.cell? ⟨b, off + k, none⟩ = some (.int .i64 x) := by
  obtain ⟨a, cap, rfl, h1, h2, h3⟩ := h
  refine ⟨a, cap, rfl, h1, h2, fun wr hB k x hk => ?_⟩
  rcases h3 with h | ⟨b, off, rfl, hb, hx⟩
  · rw [h] at hk; simp at hk
  · exact ⟨b, off, rfl, (hB.cell (p := ⟨b, off + k, none⟩) hb).trans (hx k _ hk)⟩
theorem get_lt {α : Type} {l : List α} {k : Nat} (h : k < l.length) : ∃ x, l[k]? = some x := ⟨_, List.getElem?_eq_getElem h⟩

set_option maxRecDepth 100000 in
set_option maxHeartbeats 4000000 in
theorem stable_any (v1 v2 : Value) (L R : List Int) (p : P3) (w : World) (h1 : Ints w .i64 v1 L) (h2 : Ints w .i64 v2 R) (hLR : L.length = R.length) (hL : L.length ≤ 1000000) (ho : p.o ≤ L.length) (ha : p.a ≤ 1000000) (hb : p.b ≤ 1000000) (S : Nat) (hS : stab (L.drop p.o) (R.drop p.o) p.a p.b = S) :
    Calls Tryd.prog 90 #[.agg (p3v p), v1, v2] w fun e w' => e = .returned (.agg (p3v ⟨p.o + S, p.a + S, p.b + S⟩)) ∧ Below w.heap.size w w' := by
  obtain ⟨a1, cap1, rfl, hc1, hm1, h1⟩ := ints_at h1
  obtain ⟨a2, cap2, rfl, hc2, hm2, h2⟩ := ints_at h2
  have H1 := Lib.hid h1
  have H2 := Lib.hid h2
  clear h1 h2
  unfold maxLen at hm1 hm2
  obtain ⟨po, pa, pb⟩ := p
  simp only at ho ha hb hS
  have hsl := (stab_le (L.drop po) (R.drop po) pa pb).1
  rw [hS, List.length_drop] at hsl
  obtain ⟨n, hn⟩ : ∃ n, Hid (L.length = n) := ⟨_, Lib.hid rfl⟩
  have hn2 : Hid (R.length = n) := Lib.hid (hLR ▸ hn.out)
  rw [hn.out] at hsl hL ho hc1
  rw [hn2.out] at hc2
  clear hLR
  have HS := Lib.hid hS
  clear hS
  rw [hn.out, hn2.out]
  go_enter Tryd.func90, Tryd.ntmps90
  go_wp2_with fail
  go_loopw [7] (fun _ wr => ∃ x y z k : Nat, Hid (x = po + k ∧ y = pa + k ∧ z = pb + k) ∧ k ≤ S ∧ Hid (RowAt wr w.heap.size 164 #[.int .i64 x, .int .i64 y, .int .i64 z]) ∧ Hid (RowAt wr (w.heap.size + 1) 164 #[.int .i64 0, .int .i64 0, .int .i64 0]) ∧ Hid (Below w.heap.size w wr)) (fun _ wr => n - (intOf ((wr.cell? ⟨w.heap.size, 0, none⟩).getD undef)).toNat)
  case atStart => exact ⟨po, pa, pb, 0, Lib.hid ⟨rfl, rfl, rfl⟩, Nat.zero_le _, Lib.hid ((RowAt.new w 164 _).alloc _), Lib.hid (by have := RowAt.new (w.alloc (.cells #[.int .i64 po, .int .i64 pa, .int .i64 pb] 164)) 164 #[.int .i64 0, .int .i64 0, .int .i64 0]; rwa [World.size_alloc] at this), Lib.hid (((Below.refl _ w).alloc (Nat.le_refl _) _).alloc (by simp) _)⟩
  case round =>
    obtain ⟨x, y, z, k, hk, hkS, hr, hr2, hB⟩ := hrel
    obtain ⟨c0, c1, c2, f0, f1, f2⟩ := row3 hr.out
    have hxn : x ≤ n := by have := hk.out.1; omega
    have hy : y ≤ 2000000 := by have := hk.out.2.1; omega
    have hz : z ≤ 2000000 := by have := hk.out.2.2; omega
    by_cases hlt : k < S
    · obtain ⟨g1, g2⟩ := stab_run (L := L.drop po) (R := R.drop po) (a := pa) (b := pb) (k := k) (by rw [HS.out]; exact hlt)
      rw [List.getElem?_drop, ← hk.out.1, ← hk.out.2.1] at g1
      rw [List.getElem?_drop, ← hk.out.1, ← hk.out.2.2] at g2
      have hxl : x < n := by rw [← hn.out]; exact (List.getElem?_eq_some_iff.1 g1).1
      obtain ⟨b1, o1, rfl, e1⟩ := H1.out wr hB.out x _ g1
      obtain ⟨b2, o2, rfl, e2⟩ := H2.out wr hB.out x _ g2
      clear g1 g2
      have d1 : decide ((x : Int) < (n : Int)) = true := decide_eq_true (by omega)
      have d2 : (0 : Int) ≤ (x : Int) := by omega
      have d3 : (x : Int) < (n : Int) := by omega
      have Bq := Lib.hid (fun q => below_draws hB.out q)
      have Rq := Lib.hid (fun q => hr.out.drewN q)
      have Rq2 := Lib.hid (fun q => hr2.out.drewN q)
      go_wp2_with fail
      go_quiet (fail)
      go_wp2_with fail
      refine ⟨⟨x + 1, y + 1, z + 1, k + 1, Lib.hid (by have := hk.out; omega), by omega, Lib.hid ?_, Lib.hid ?_, Lib.hid ?_⟩, ?_⟩
      · simpa using row3_set (Rq.out nq) (.int .i64 ((x : Int) + 1)) (.int .i64 ((y : Int) + 1)) (.int .i64 ((z : Int) + 1))
      · exact (((Rq2.out nq).other (by omega) 0 _).other (by omega) 1 _).other (by omega) 2 _
      · exact (((Bq.out nq).setCell (p := ⟨w.heap.size, 0, none⟩) (Nat.le_refl _) _).setCell (p := ⟨w.heap.size, 1, none⟩) (Nat.le_refl _) _).setCell (p := ⟨w.heap.size, 2, none⟩) (Nat.le_refl _) _
      · have hc := (row3 (row3_set (Rq.out nq) (.int .i64 ((x : Int) + 1)) (.int .i64 ((y : Int) + 1)) (.int .i64 ((z : Int) + 1)))).1
        rw [hc, c0]
        simp [intOf]
        omega
    · obtain rfl : k = S := by omega
      have hst := stab_stop (L := L.drop po) (R := R.drop po) (a := pa) (b := pb)
      rw [HS.out, List.getElem?_drop, List.getElem?_drop, ← hk.out.1, ← hk.out.2.1, ← hk.out.2.2] at hst
      have Bq := Lib.hid (fun q => below_draws hB.out q)
      have Rq2 := Lib.hid (fun q => hr2.out.drewN q)
      have hfin : Hid (∀ q, (∃ v, v = Value.agg #[.int .i64 x, .int .i64 y, .int .i64 z] ∧ Ending.returned v = .returned (.agg (p3v ⟨po + k, pa + k, pb + k⟩))) ∧ Below w.heap.size w ((((wr.drewN q).setCell ⟨w.heap.size + 1, 0, none⟩ (.int .i64 x)).setCell ⟨w.heap.size + 1, 1, none⟩ (.int .i64 y)).setCell ⟨w.heap.size + 1, 2, none⟩ (.int .i64 z))) := Lib.hid (fun q => ⟨⟨_, rfl, by rw [hk.out.1, hk.out.2.1, hk.out.2.2]⟩, (((Bq.out q).setCell (p := ⟨w.heap.size + 1, 0, none⟩) (Nat.le_succ _) _).setCell (p := ⟨w.heap.size + 1, 1, none⟩) (Nat.le_succ _) _).setCell (p := ⟨w.heap.size + 1, 2, none⟩) (Nat.le_succ _) _⟩)
      obtain ⟨g0, g1, g2, z0, z1, z2⟩ := row3 hr2.out
      rcases Nat.lt_or_ge x n with hxl | hxl
      · obtain ⟨l, hl⟩ := get_lt (l := L) (k := x) (by rw [hn.out]; exact hxl)
        obtain ⟨r, hr'⟩ := get_lt (l := R) (k := x) (by rw [hn2.out]; exact hxl)
        obtain ⟨b1, o1, rfl, e1⟩ := H1.out wr hB.out x _ hl
        obtain ⟨b2, o2, rfl, e2⟩ := H2.out wr hB.out x _ hr'
        rw [hl, hr'] at hst
        have d1 : decide ((x : Int) < (n : Int)) = true := decide_eq_true (by omega)
        have d2 : (0 : Int) ≤ (x : Int) := by omega
        have d3 : (x : Int) < (n : Int) := by omega
        clear hl hr' H1 H2
        by_cases hly : l = (y : Int)
        · subst hly
          have d4 : (r == (z : Int)) = false := by rw [beq_eq_false_iff_ne]; intro e; exact hst ⟨rfl, by rw [e]⟩
          clear hst
          go_wp2_with fail
          go_quiet (fail)
          go_wp2_with fail
          obtain ⟨⟨v, hv, he⟩, hb⟩ := hfin.out nq
          refine bodyPost_ret (results_cell_row (P := Tryd.prog) rfl _ _ (w.heap.size + 1) 164 _ (0, 0) _ rfl (row3_set (Rq2.out nq) _ _ _) Tryd.underlying164 rfl rfl) rfl ?_
          rw [hv] at he
          exact ⟨he, hb⟩
        · have d4 : (l == (y : Int)) = false := by rw [beq_eq_false_iff_ne]; exact hly
          clear hst hly
          go_wp2_with fail
          go_quiet (fail)
          go_wp2_with fail
          obtain ⟨⟨v, hv, he⟩, hb⟩ := hfin.out nq
          refine bodyPost_ret (results_cell_row (P := Tryd.prog) rfl _ _ (w.heap.size + 1) 164 _ (0, 0) _ rfl (row3_set (Rq2.out nq) _ _ _) Tryd.underlying164 rfl rfl) rfl ?_
          rw [hv] at he
          exact ⟨he, hb⟩
      · have d1 : decide (x < n) = false := decide_eq_false (by omega)
        clear hst H1 H2
        go_wp2_with fail
        go_quiet (fail)
        go_wp2_with fail
        obtain ⟨⟨v, hv, he⟩, hb⟩ := hfin.out nq
        refine bodyPost_ret (results_cell_row (P := Tryd.prog) rfl _ _ (w.heap.size + 1) 164 _ (0, 0) _ rfl (row3_set (Rq2.out nq) _ _ _) Tryd.underlying164 rfl rfl) rfl ?_
        rw [hv] at he
        exact ⟨he, hb⟩

set_option maxRecDepth 100000 in
set_option maxHeartbeats 4000000 in
theorem unstable_any (v1 v2 : Value) (L R : List Int) (p ends : P3) (w : World) (h1 : Ints w .i64 v1 L) (h2 : Ints w .i64 v2 R) (hLR : L.length = R.length) (hL : L.length ≤ 1000000) (ho : p.o ≤ L.length) (E : P3) (hE : (uns (L.drop p.o) (R.drop p.o) p.o).getD ends = E) :
    Calls Tryd.prog 91 #[.agg (p3v p), v1, v2, .agg (p3v ends)] w fun e w' => e = .returned (.agg (p3v E)) ∧ Below w.heap.size w w' := by
  obtain ⟨a1, cap1, rfl, hc1, hm1, h1⟩ := ints_at h1
  obtain ⟨a2, cap2, rfl, hc2, hm2, h2⟩ := ints_at h2
  have H1 := Lib.hid h1
  have H2 := Lib.hid h2
  clear h1 h2
  unfold maxLen at hm1 hm2
  obtain ⟨po, pa, pb⟩ := p
  obtain ⟨eo, ea, eb⟩ := ends
  simp only at ho hE
  obtain ⟨n, hn⟩ : ∃ n, Hid (L.length = n) := ⟨_, Lib.hid rfl⟩
  have hn2 : Hid (R.length = n) := Lib.hid (hLR ▸ hn.out)
  rw [hn.out] at hL ho hc1
  rw [hn2.out] at hc2
  clear hLR
  have HE := Lib.hid hE
  clear hE
  rw [hn.out, hn2.out]
  go_enter Tryd.func91, Tryd.ntmps91
  go_wp2_with fail
  go_loopw [9] (fun c wr => ∃ k : Nat, c = .int .i64 k ∧ k ≤ n ∧ Hid ((uns (L.drop k) (R.drop k) k).getD ⟨eo, ea, eb⟩ = E) ∧ Hid (RowAt wr (w.heap.size + 1) 164 #[.int .i64 eo, .int .i64 ea, .int .i64 eb]) ∧ Hid (RowAt wr (w.heap.size + 1 + 1) 164 #[.int .i64 0, .int .i64 0, .int .i64 0]) ∧ Hid (Below w.heap.size w wr)) (fun c _ => n + 1 - (intOf c).toNat)
  case atStart =>
    have r1 := ((RowAt.new (w.alloc (.cells (p3v ⟨po, pa, pb⟩) 164)) 164 (p3v ⟨eo, ea, eb⟩)).alloc (.cells (p3v ⟨0, 0, 0⟩) 164))
    have r2 := RowAt.new ((w.alloc (.cells (p3v ⟨po, pa, pb⟩) 164)).alloc (.cells (p3v ⟨eo, ea, eb⟩) 164)) 164 (p3v ⟨0, 0, 0⟩)
    rw [World.size_alloc] at r1
    rw [World.size_alloc, World.size_alloc] at r2
    exact ⟨po, rfl, ho, HE, Lib.hid r1, Lib.hid r2, Lib.hid ((((Below.refl _ w).alloc (Nat.le_refl _) _).alloc (by simp) _).alloc (by simp; omega) _)⟩
  case round =>
    obtain ⟨k, rfl, hk, hu, hr, hr2, hB⟩ := hrel
    obtain ⟨c0, c1, c2, f0, f1, f2⟩ := row3 hr.out
    obtain ⟨g0, g1, g2, z0, z1, z2⟩ := row3 hr2.out
    have Rq2 := Lib.hid (fun q => hr2.out.drewN q)
    have hend : Hid (∀ (q : Nat) (x y z : Value), RowAt ((((wr.drewN q).setCell ⟨w.heap.size + 1 + 1, 0, none⟩ x).setCell ⟨w.heap.size + 1 + 1, 1, none⟩ y).setCell ⟨w.heap.size + 1 + 1, 2, none⟩ z) (w.heap.size + 1 + 1) 164 #[x, y, z] ∧ Below w.heap.size w ((((wr.drewN q).setCell ⟨w.heap.size + 1 + 1, 0, none⟩ x).setCell ⟨w.heap.size + 1 + 1, 1, none⟩ y).setCell ⟨w.heap.size + 1 + 1, 2, none⟩ z)) := Lib.hid (fun q x y z => ⟨row3_set (hr2.out.drewN q) x y z, ((((below_draws hB.out q).setCell (p := ⟨w.heap.size + 1 + 1, 0, none⟩) (by show w.heap.size ≤ w.heap.size + 1 + 1; omega) _).setCell (p := ⟨w.heap.size + 1 + 1, 1, none⟩) (by show w.heap.size ≤ w.heap.size + 1 + 1; omega) _).setCell (p := ⟨w.heap.size + 1 + 1, 2, none⟩) (by show w.heap.size ≤ w.heap.size + 1 + 1; omega) _)⟩)
    rcases Nat.lt_or_ge k n with hkn | hkn
    · obtain ⟨l, hl⟩ := get_lt (l := L) (k := k) (by rw [hn.out]; exact hkn)
      obtain ⟨r, hr'⟩ := get_lt (l := R) (k := k) (by rw [hn2.out]; exact hkn)
      obtain ⟨b1, o1, rfl, e1⟩ := H1.out wr hB.out k _ hl
      obtain ⟨b2, o2, rfl, e2⟩ := H2.out wr hB.out k _ hr'
      have hun := uns_step hl hr'
      have Bq := Lib.hid (fun q => below_draws hB.out q)
      have d1 : decide (k < n) = true := decide_eq_true hkn
      have d2 : (0 : Int) ≤ (k : Int) := by omega
      have d3 : (k : Int) < (n : Int) := by omega
      clear hl hr'
      by_cases h0 : 0 ≤ l
      · have d4 : decide (0 ≤ l) = true := decide_eq_true h0
        by_cases h00 : 0 ≤ r
        · have d5 : decide (0 ≤ r) = true := decide_eq_true h00
          have hE2 : Hid (Value.agg (p3v E) = .agg #[.int .i64 k, .int .i64 l, .int .i64 r]) := Lib.hid (by
            have := hu.out
            rw [hun, if_pos ⟨h0, h00⟩, Option.getD_some] at this
            rw [← this]
            show Value.agg #[.int .i64 k, .int .i64 (l.toNat : Nat), .int .i64 (r.toNat : Nat)] = _
            rw [Int.toNat_of_nonneg h0, Int.toNat_of_nonneg h00])
          clear hun
          go_wp2_with fail
          go_region
          all_goals
            go_wp2_with fail
            first
            | (obtain ⟨hR, hb⟩ := hend.out 0 (.int .i64 k) (.int .i64 l) (.int .i64 r)
               refine bodyPost_ret (results_cell_row (P := Tryd.prog) rfl _ _ (w.heap.size + 1 + 1) 164 _ (0, 0) _ rfl hR Tryd.underlying164 rfl rfl) rfl ?_
               exact ⟨by rw [hE2.out], hb⟩)
            | (obtain ⟨hR, hb⟩ := hend.out 1 (.int .i64 k) (.int .i64 l) (.int .i64 r)
               refine bodyPost_ret (results_cell_row (P := Tryd.prog) rfl _ _ (w.heap.size + 1 + 1) 164 _ (0, 0) _ rfl hR Tryd.underlying164 rfl rfl) rfl ?_
               exact ⟨by rw [hE2.out], hb⟩)
        · have d5 : decide (0 ≤ r) = false := decide_eq_false h00
          have hun2 : Hid ((uns (L.drop (k + 1)) (R.drop (k + 1)) (k + 1)).getD ⟨eo, ea, eb⟩ = E) := Lib.hid (by
            have := hu.out
            rw [hun, if_neg (fun h => h00 h.2)] at this
            exact this)
          clear hun
          go_wp2_with fail
          exact ⟨⟨k + 1, by go_num, by omega, hun2, hr, hr2, hB⟩, by simp [intOf]; omega⟩
      · have d4 : decide (0 ≤ l) = false := decide_eq_false h0
        have hun2 : Hid ((uns (L.drop (k + 1)) (R.drop (k + 1)) (k + 1)).getD ⟨eo, ea, eb⟩ = E) := Lib.hid (by
          have := hu.out
          rw [hun, if_neg (fun h => h0 h.1)] at this
          exact this)
        clear hun
        go_wp2_with fail
        exact ⟨⟨k + 1, by go_num, by omega, hun2, hr, hr2, hB⟩, by simp [intOf]; omega⟩
    · have d1 : decide (k < n) = false := decide_eq_false (by omega)
      have hE2 : Hid ((⟨eo, ea, eb⟩ : P3) = E) := Lib.hid (by
        have := hu.out
        rwa [uns_end (by rw [hn.out]; exact hkn), Option.getD_none] at this)
      clear H1 H2
      go_wp2_with fail
      obtain ⟨hR, hb⟩ := hend.out 0 (.int .i64 eo) (.int .i64 ea) (.int .i64 eb)
      refine bodyPost_ret (results_cell_row (P := Tryd.prog) rfl _ _ (w.heap.size + 1 + 1) 164 _ (0, 0) _ rfl hR Tryd.underlying164 rfl rfl) rfl ?_
      exact ⟨by rw [← hE2.out], hb⟩
end Go.Proofs.YtbekbllffphfeaaDoor.L
/-
  For the laws of weave: the kind of a chunk, and the iterator over chunks as a value. Condition: rows of at most 1,000,000 things.
-/
namespace Go.Proofs.YtbekbllffphfeaaDoor.L
open Go.RowKit Go.Shelf
set_option linter.unusedVariables false
set_option linter.unusedSimpArgs false

theorem Equal_any (v1 v2 : Value) (xs ys : List Int) (w : World) (h1 : Ints w .i64 v1 xs) (h2 : Ints w .i64 v2 ys) :
    Calls Tryd.prog 97 #[v1, v2] w fun e w' => e = .returned (.bool (decide (xs = ys))) ∧ ∃ q, w' = w.drewN q := by
  obtain ⟨a1, c1, rfl, hc1, hm1, h1⟩ := h1
  obtain ⟨a2, c2, rfl, hc2, hm2, h2⟩ := h2
  unfold maxLen at hm1 hm2
  by_cases hlen : xs.length = ys.length
  · rcases h1 with rfl | ⟨b1, o1, rfl, hb1, hx1⟩
    · have hy : ys = [] := List.length_eq_zero_iff.1 (by simpa using hlen.symm)
      subst hy
      refine (Tryd.slices_Equal_int_empty a1 a2 c1 0 c2 w (by omega)).mono ?_
      rintro e w' ⟨rfl, rfl⟩
      exact ⟨by simp, 0, rfl⟩
    · rcases h2 with rfl | ⟨b2, o2, rfl, hb2, hx2⟩
      · have hx : xs = [] := List.length_eq_zero_iff.1 (by simpa using hlen)
        subst hx
        refine (Tryd.slices_Equal_int_empty _ a2 c1 0 c2 w (by omega)).mono ?_
        rintro e w' ⟨rfl, rfl⟩
        exact ⟨by simp, 0, rfl⟩
      · refine (Tryd.slices_Equal_int b1 o1 xs.length c1 b2 o2 ys.length c2 xs ys w (Nat.le_refl _) (Nat.le_refl _) (by omega) (by omega) (fun j hj => ?_) (fun j hj => ?_)).mono ?_
        · rw [hx1 j _ (List.getElem?_eq_getElem hj)]; simp [List.getD, List.getElem?_eq_getElem hj]
        · rw [hx2 j _ (List.getElem?_eq_getElem hj)]; simp [List.getD, List.getElem?_eq_getElem hj]
        · rintro e w' ⟨rfl, hq⟩
          refine ⟨?_, hq⟩
          rw [List.take_length, List.take_length]
          congr 2
          rw [Bool.eq_iff_iff]; simp
  · refine (Tryd.slices_Equal_int_lens a1 a2 xs.length c1 ys.length c2 w hlen).mono ?_
    rintro e w' ⟨rfl, rfl⟩
    refine ⟨?_, 0, rfl⟩
    have : decide (xs = ys) = false := decide_eq_false (fun h => hlen (by rw [h]))
    rw [this]

theorem drewN_add (w : World) (a b : Nat) : (w.drewN a).drewN b = w.drewN (a + b) := by simp [World.drewN, Nat.add_assoc]
/-- A chunk's kind. -/
def kindN (x y z : List Int) : Int := if x = y then (if x = z then 0 else 2) else if x = z then 1 else if y = z then 3 else 4
theorem Ints.drewN {w : World} {v : Value} {xs : List Int} (h : Ints w .i64 v xs) (q : Nat) : Ints (w.drewN q) .i64 v xs := h
set_option maxRecDepth 100000 in
set_option maxHeartbeats 4000000 in
theorem kind_any (v1 v2 v3 : Value) (x y z : List Int) (w : World) (h1 : Ints w .i64 v1 x) (h2 : Ints w .i64 v2 y) (h3 : Ints w .i64 v3 z) :
    Calls Tryd.prog 92 #[v1, v2, v3] w fun e w' => e = .returned (.int .i64 (kindN x y z)) ∧ ∃ q, w' = w.drewN q := by
  have C1 : Hid (∀ q, Calls Tryd.prog 97 #[v1, v2] (w.drewN q) fun e w' => e = .returned (.bool (decide (x = y))) ∧ ∃ q, w' = w.drewN q) := Lib.hid (fun q => (Equal_any v1 v2 x y (w.drewN q) (h1.drewN q) (h2.drewN q)).mono fun e w' ⟨a, q', b⟩ => ⟨a, q + q', by rw [b]; exact drewN_add w q q'⟩)
  have C2 : Hid (∀ q, Calls Tryd.prog 97 #[v1, v3] (w.drewN q) fun e w' => e = .returned (.bool (decide (x = z))) ∧ ∃ q, w' = w.drewN q) := Lib.hid (fun q => (Equal_any v1 v3 x z (w.drewN q) (h1.drewN q) (h3.drewN q)).mono fun e w' ⟨a, q', b⟩ => ⟨a, q + q', by rw [b]; exact drewN_add w q q'⟩)
  have C3 : Hid (∀ q, Calls Tryd.prog 97 #[v2, v3] (w.drewN q) fun e w' => e = .returned (.bool (decide (y = z))) ∧ ∃ q, w' = w.drewN q) := Lib.hid (fun q => (Equal_any v2 v3 y z (w.drewN q) (h2.drewN q) (h3.drewN q)).mono fun e w' ⟨a, q', b⟩ => ⟨a, q + q', by rw [b]; exact drewN_add w q q'⟩)
  obtain ⟨b1, hb1⟩ : ∃ b, Hid (decide (x = y) = b) := ⟨_, Lib.hid rfl⟩
  obtain ⟨b2, hb2⟩ : ∃ b, Hid (decide (x = z) = b) := ⟨_, Lib.hid rfl⟩
  obtain ⟨b3, hb3⟩ : ∃ b, Hid (decide (y = z) = b) := ⟨_, Lib.hid rfl⟩
  have hk : Hid (kindN x y z = if b1 then (if b2 then 0 else 2) else if b2 then 1 else if b3 then 3 else 4) := Lib.hid (by
    rw [← hb1.out, ← hb2.out, ← hb3.out]
    unfold kindN
    simp)
  rw [hb1.out] at C1
  rw [hb2.out] at C2
  rw [hb3.out] at C3
  rw [hk.out]
  clear h1 h2 h3 hb1 hb2 hb3 hk
  go_enter Tryd.func92, Tryd.ntmps92
  go_wp2_with fail
  refine (C1.out 0).mono ?_
  rintro e w' ⟨rfl, q1, rfl⟩
  go_wp2_with fail
  refine (C2.out q1).mono ?_
  rintro e w' ⟨rfl, q2, rfl⟩
  cases b1 <;> cases b2
  case false.false =>
    go_wp2_with fail
    refine (C3.out q2).mono ?_
    rintro e w' ⟨rfl, q3, rfl⟩
    cases b3
    all_goals
      go_wp2_with fail
      go_ret
      exact ⟨by simp, q3, rfl⟩
  all_goals
    go_wp2_with fail
    go_ret
    exact ⟨by simp, q2, rfl⟩

theorem each_any (v1 v2 v3 : Value) (x y z : List Int) (w : World) (h1 : Ints w .i64 v1 x) (h2 : Ints w .i64 v2 y) (h3 : Ints w .i64 v3 z) :
    Calls Tryd.prog 83 #[v1, v2, v3] w fun e w' => e = .returned (.func (.func 88) #[] #[.pointer (some ⟨w.heap.size, 0, none⟩), .pointer (some ⟨w.heap.size + 1, 0, none⟩), .pointer (some ⟨w.heap.size + 1 + 1, 0, none⟩)]) ∧ w' = ((w.alloc (.cells #[v1] 138)).alloc (.cells #[v2] 138)).alloc (.cells #[v3] 138) := by
  obtain ⟨a1, c1, rfl, -⟩ := h1
  obtain ⟨a2, c2, rfl, -⟩ := h2
  obtain ⟨a3, c3, rfl, -⟩ := h3
  go_enter Tryd.func83, Tryd.ntmps83
  go_wp2_with fail
  go_ret
  exact ⟨rfl, rfl⟩
end Go.Proofs.YtbekbllffphfeaaDoor.L
/-
  For the laws of node: a range over an iterator that keeps a stack of its own (rows of type 164). No condition.
-/
namespace Go.Proofs.YtbekbllffphfeaaDoor.L
open Go.RowKit Go.Shelf
set_option linter.unusedSimpArgs false
set_option linter.unusedVariables false

/-- May the iterator turn this: no cells, or a row of its stack? -/
def Mine (o : Obj) : Prop := o.isCells = false ∨ ∃ cs, o = Obj.cells cs 164 (0, 0)
/-- I abides what the law and the iterator turn from B on. -/
def AbT {β : Type} (B : Nat) (I : β → World → Prop) : Prop := ∀ (s : β) (A A' : World) (row : Option Nat), I s A → A.grownBy A' row → (∀ r, row = some r → B ≤ r ∧ ∃ o, A.heap[r]? = some o ∧ Mine o) → I s A'
theorem AbT.alloc {β : Type} {B : Nat} {I : β → World → Prop} (h : AbT B I) {s : β} {W : World} (o : Obj) (hs : I s W) : I s (W.alloc o) := h s W _ none hs (World.grownBy_alloc W o none) (fun r e => by cases e)
theorem AbT.put {β : Type} {B : Nat} {I : β → World → Prop} (h : AbT B I) {s : β} {W : World} {l : Nat} {o : Obj} (o' : Obj) (hs : I s W) (hB : B ≤ l) (hl : W.heap[l]? = some o) (ho : o.isCells = false) : I s (W.putObj l o') :=
  h s W _ (some l) hs (grownBy_putObj' W l o') (fun r e => by cases e; exact ⟨hB, o, hl, .inl ho⟩)
/-- The iterator's word: it hands over the elements xs with S, one after the other, and turns nothing but its own. -/
def SeqT {α : Type} (F : Fence) (n : Nat) (gf : Nat) (lb : Array Value) (encs : α → Array Value) (Kp : World → World → Prop) (S : List α → Prop) (N : Nat) (w0 : World) : Prop :=
  ∀ (l : Nat) (J : List α → World → Prop) (W : World), Below w0.heap.size w0 W → AbT W.heap.size J →
    (∀ pre x W1, J pre W1 → pre.length < N → YieldAt F (n - 1) Tryd.prog l (encs x) W1 fun e W' => e = .returned (.bool true) ∧ J (pre ++ [x]) W' ∧ Kp W1 W') →
    J [] W → CallsIn F n Tryd.prog gf (#[.func (.yield l) #[] #[]] ++ lb) W fun e W' => (∃ v, e = .returned v) ∧ ∃ xs, S xs ∧ J xs W'
/-- How a round may end. -/
def postT {α : Type} (B : Nat) (Kp : World → World → Prop) (I : List α → World → Prop) (xs : List α) (W : World) : Exit → Act → World → Prop
  | .normal, _, W' => KeepsFrom B W W' ∧ Kp W W' ∧ I xs W'
  | _, _, _ => False
end Go.Proofs.YtbekbllffphfeaaDoor.L
/-
  A region that draws its order, inside a fence: an operation may be taken first if the last ones wait for it by whatever road. No condition; of any program.
-/
namespace Go.Proofs.YtbekbllffphfeaaDoor.L

section
variable {F : Fence} {n : Nat} {P : Program} {ops : Array Oper} {Q : Exit → Act → World → Prop} {md : Region.Mode} {S : World → Prop} {zs : List Nat}

/-- Does operation z wait for i, by a road of at most so many edges? -/
def reach (md : Region.Mode) (ops : Array Oper) (i : Nat) : Nat → Nat → Bool
  | 0, _ => false
  | f + 1, z => ((ops[z]?).map fun o => o.after.any fun e => Region.binds md e && (e.on == i || reach md ops i f e.on)).getD false
/-- Whatever is listed: so is all that it waits for. -/
def Closed (md : Region.Mode) (ops : Array Oper) (listed : Array Bool) : Prop := ∀ (j : Nat) (o : Oper), ops[j]? = some o → listed.getD j false = true → ∀ e ∈ o.after, Region.binds md e = true → listed.getD e.on false = true
def closedB (md : Region.Mode) (ops : Array Oper) (listed : Array Bool) : Bool := (List.range ops.size).all fun j => !(listed.getD j false) || ((ops[j]?).map fun o => o.after.all fun e => !Region.binds md e || listed.getD e.on false).getD true
theorem closed_of {listed : Array Bool} (h : closedB md ops listed = true) : Closed md ops listed := by
  intro j o ho hl e he hb
  have hj : j < ops.size := (Array.getElem?_eq_some_iff.1 ho).1
  unfold closedB at h
  rw [List.all_eq_true] at h
  have h1 := h j (List.mem_range.2 hj)
  rw [hl, ho] at h1
  simp only [Bool.not_true, Bool.false_or, Option.map_some, Option.getD_some] at h1
  rw [Array.all_eq_true] at h1
  obtain ⟨k, hk, rfl⟩ := Array.getElem_of_mem he
  have h2 := h1 k hk
  rw [hb] at h2
  simpa using h2
theorem getD_two {listed : Array Bool} {i : Nat} (h : listed.getD i true = false) : listed.getD i false = false := by
  rcases Nat.lt_or_ge i listed.size with h' | h'
  · simp [h'] at h ⊢; exact h
  · simp [Array.getElem?_eq_none h']
theorem reach_listed {listed : Array Bool} {i : Nat} (hc : Closed md ops listed) (hi : listed.getD i true = false) : ∀ (f z : Nat), reach md ops i f z = true → listed.getD z false = false
  | 0, _, h => by simp [reach] at h
  | f + 1, z, h => by
    unfold reach at h
    cases ho : ops[z]? with
    | none => rw [ho] at h; simp at h
    | some o =>
      rw [ho] at h
      simp only [Option.map_some, Option.getD_some, Array.any_eq_true] at h
      obtain ⟨k, hk, he⟩ := h
      rw [Bool.and_eq_true, Bool.or_eq_true, beq_iff_eq] at he
      cases hl : listed.getD z false with
      | false => rfl
      | true =>
        have h1 := hc z o ho hl _ (Array.getElem_mem hk) he.1
        rcases he.2 with e | e
        · rw [e, getD_two hi] at h1; cases h1
        · rw [reach_listed hc hi f _ e] at h1; cases h1
theorem not_yet_far {i f z : Nat} {listed : Array Bool} (hc : Closed md ops listed) (hw : reach md ops i f z = true) (hi : listed.getD i true = false) : z ∉ Region.ready md ops listed := by
  intro hz
  obtain ⟨_, o, ho, hall⟩ := mem_ready.1 hz
  cases f with
  | zero => simp [reach] at hw
  | succ f =>
    unfold reach at hw
    rw [ho] at hw
    simp only [Option.map_some, Option.getD_some, Array.any_eq_true] at hw
    obtain ⟨k, hk, he⟩ := hw
    rw [Bool.and_eq_true, Bool.or_eq_true, beq_iff_eq] at he
    have h1 := hall _ (Array.getElem_mem hk) he.1
    rcases he.2 with e | e
    · rw [e, getD_two hi] at h1; cases h1
    · rw [reach_listed hc hi f _ e] at h1; cases h1
theorem Closed.set {listed : Array Bool} {j : Nat} (hc : Closed md ops listed) (hj : j ∈ Region.ready md ops listed) : Closed md ops (listed.setIfInBounds j true) := by
  obtain ⟨hjun, oj, hoj, hall⟩ := mem_ready.1 hj
  have hmono : ∀ k, listed.getD k false = true → (listed.setIfInBounds j true).getD k false = true := fun k hk => by
    by_cases hkj : j = k
    · subst hkj
      rw [getD_two hjun] at hk; cases hk
    · rw [getD_set_ne false hkj]; exact hk
  intro k o ho hl e he hb
  by_cases hkj : j = k
  · subst hkj
    rw [hoj] at ho
    cases ho
    exact hmono _ (hall e he hb)
  · rw [getD_set_ne false hkj] at hl
    exact hmono _ (hc k o ho hl e he hb)

theorem wpAnyZIn_far {i f : Nat} {oi : Oper} {v : Value} (hi : ops[i]? = some oi) (hsel : ∀ (j : Nat) (o : Oper) cs b, ops[j]? = some o → o.op ≠ .select cs b) (hnd : ∀ (j : Nat) (o : Oper) c, ops[j]? = some o → o.op ≠ .defer c)
    (hQ : ∀ c a w, Q (.panic c) (a.put oi.dst v) w → Q (.panic c) a w) (hw : ∀ z ∈ zs, reach md ops i f z = true) (hiz : i ∉ zs) :
    ∀ (fuel : Nat) (listed : Array Bool) (a : Act) (w : World), Closed md ops listed →
      (∀ j oj, ops[j]? = some oj → j ≠ i → listed.getD j true = false → (∀ e ∈ oj.after, Region.binds md e = true → e.on ≠ i) → oi.apart ops oj = true) →
      i ∈ Region.ready md ops listed → YieldsIfIn P ops S oi v a → S w →
      wpAnyZIn F n P md ops Q S zs fuel (listed.setIfInBounds i true) (a.put oi.dst v) w → wpAnyZIn F n P md ops Q S zs (fuel + 1) listed a w := by
  intro fuel
  induction fuel with
  | zero =>
    intro listed a w _ _ hr hy hS H
    refine ⟨fun h => (by rw [h] at hr; cases hr), fun j hj => ?_⟩
    by_cases hji : j = i
    · subst hji; exact hy.wpOpIn hi hS ⟨fun _ => hS, H⟩
    · have := ready_mono hj hji
      rw [H.1] at this
      cases this
  | succ fuel ih =>
    intro listed a w hcl hfree hr hy hS H
    refine ⟨fun h => (by rw [h] at hr; cases hr), fun j hj => ?_⟩
    by_cases hji : j = i
    · subst hji; exact hy.wpOpIn hi hS ⟨fun _ => hS, H⟩
    · have h1 := H.2 j (ready_mono hj hji)
      have hjz : j ∉ zs := fun e => not_yet_far hcl (hw j e) (mem_ready.1 hr).1 hj
      obtain ⟨hjun, oj, hoj, hall⟩ := mem_ready.1 hj
      have hnot : ∀ e ∈ oj.after, Region.binds md e = true → e.on ≠ i := fun e he hb heq => by
        have h1 := hall e he hb
        have h0 := (mem_ready.1 hr).1
        rw [heq] at h1
        rcases Nat.lt_or_ge i listed.size with h' | h'
        · simp [h'] at h0 h1; rw [h0] at h1; cases h1
        · simp [Array.getElem?_eq_none h'] at h1
      have h2 := wpOpIn_putIf hoj (hfree j oj hoj hji hjun hnot) (fun c => hnd j oj c hoj) (fun cs b => hsel i oi cs b hi) (fun cs b => hsel j oj cs b hoj) hQ hy h1
      have hfree' : ∀ k ok, ops[k]? = some ok → k ≠ i → (listed.setIfInBounds j true).getD k true = false →
          (∀ e ∈ ok.after, Region.binds md e = true → e.on ≠ i) → oi.apart ops ok = true := fun k ok hk hki hun hno => by
        refine hfree k ok hk hki ?_ hno
        by_cases hjk : j = k
        · subst hjk; exact hjun
        · rw [getD_set_ne true hjk] at hun; exact hun
      refine wpOpIn_mono (fun a' w' h3 => ⟨h3.2.1, ih (listed.setIfInBounds j true) a' w' (hcl.set hj) hfree' (ready_mono hr (Ne.symm hji)) h3.1 (h3.2.1 hjz) ?_⟩) h2
      rw [Array.setIfInBounds_comm _ _ hji]
      exact h3.2.2
theorem wpAnyZIn_takeF {i : Nat} (f : Nat) {oi : Oper} {v : Value} {fuel : Nat} {listed : Array Bool} {a : Act} {w : World} (hi : ops[i]? = some oi)
    (hs : Region.noSelect ops = true) (hnd : noDefer ops = true) (hf : Region.free md ops listed i = true) (hr : (Region.ready md ops listed).contains i = true) (hc : closedB md ops listed = true) (hz : (zs.all fun z => reach md ops i f z && !(i == z)) = true)
    (hQ : ∀ c a w, Q (.panic c) (a.put oi.dst v) w → Q (.panic c) a w) (hy : YieldsIf P ops S oi v a) (hab : ∀ w, oi.about P w a.eval = none) (hS : S w)
    (h : wpAnyZIn F n P md ops Q S zs fuel (listed.setIfInBounds i true) (a.put oi.dst v) w) : wpAnyZIn F n P md ops Q S zs (fuel + 1) listed a w := by
  rw [List.all_eq_true] at hz
  have hz1 : ∀ z ∈ zs, reach md ops i f z = true := fun z h => by have := hz z h; rw [Bool.and_eq_true] at this; exact this.1
  have hz2 : i ∉ zs := fun h => by have := hz i h; simp at this
  exact wpAnyZIn_far hi (Region.noSelect_spec hs) (noDefer_spec hnd) hQ hz1 hz2 fuel listed a w (closed_of hc) (Region.free_spec hi hf) (by simpa using hr) ⟨hy, hab, fun c => noDefer_spec hnd i oi c hi⟩ hS h
end
end Go.Proofs.YtbekbllffphfeaaDoor.L
/-
  For the laws of weave: the iterator over the chunks of three rows hands over each of them, in order. Condition: rows of at most 1,000,000 things; both matches rise.
-/
namespace Go.Proofs.YtbekbllffphfeaaDoor.L
open Go.RowKit Go.Shelf
set_option linter.unusedSimpArgs false
set_option linter.unusedVariables false

attribute [local go_sem] Oper.semAt_some

def slc {α : Type} (l : List α) (i j : Nat) : List α := (l.drop i).take (j - i)
/-- A chunk: its kind, where it begins, where it ends. -/
structure Ck where
  kind : Int
  p : P3
  q : P3
def ckOf (o a b : List Int) (c : P3 × P3) : Ck := ⟨kindN (slc o c.1.o c.2.o) (slc a c.1.a c.2.a) (slc b c.1.b c.2.b), c.1, c.2⟩
/-- The chunks of three rows of numbers. -/
def chunksOf (o a b : List Int) : List Ck := (cutsAt (matchOf o a) (matchOf o b) ⟨o.length, a.length, b.length⟩ ⟨0, 0, 0⟩).map (ckOf o a b)
def encC (c : Ck) : Array Value := #[.agg #[.int .i64 c.kind, .int .i64 (c.p.o : Nat), .int .i64 (c.q.o : Nat), .int .i64 (c.p.a : Nat), .int .i64 (c.q.a : Nat), .int .i64 (c.p.b : Nat), .int .i64 (c.q.b : Nat)]]
/-- What a round keeps of the iterator. -/
def KpC (n0 : Nat) (A B : World) : Prop := A.heap.size ≤ B.heap.size ∧ Below n0 A B ∧ ∀ (b t : Nat) (cs : Array Value), (t = 164 ∨ t = 3 ∨ t = 138) → RowAt A b t cs → RowAt B b t cs
theorem KpC.trans {n0 : Nat} {A B C : World} (h : KpC n0 A B) (k : KpC n0 B C) : KpC n0 A C := ⟨Nat.le_trans h.1 k.1, h.2.1.trans k.2.1, fun b t cs ht hb => k.2.2 b t cs ht (h.2.2 b t cs ht hb)⟩
theorem kpC_put {n0 : Nat} {w : World} (hn : n0 ≤ w.heap.size) (W : World) (l : Nat) (o o' : Obj) (hl : w.heap.size ≤ l) (h : W.heap[l]? = some o) (hc : o.isCells = false) : KpC n0 W (W.putObj l o') := by
  refine ⟨by simp [World.putObj], (Below.refl n0 W).grown (grownBy_putObj' W l o') (by have := (Array.getElem?_eq_some_iff.1 h).1; omega) (fun k e => by cases e; omega), fun b t cs _ hb => (World.putObj_heap_other ?_).trans hb⟩
  rintro rfl
  unfold RowAt at hb
  rw [hb] at h; cases h; cases hc

theorem p3_ext {p q : P3} (h1 : p.o = q.o) (h2 : p.a = q.a) (h3 : p.b = q.b) : p = q := by cases p; cases q; simp at *; exact ⟨h1, h2, h3⟩
theorem ints_of_row' {W : World} {b : Nat} {xs : List Int} {t : TypeId} {k : IntKind} (h : RowAt W b t (xs.map (Value.int k)).toArray) (hm : xs.length ≤ maxLen) : Ints W k (.slice (some ⟨b, 0, none⟩) xs.length xs.length) xs := ints_of_row h hm
/-- How far the box at g is. -/
def psum (W : World) (g : Nat) : Nat := (intOf ((W.cell? ⟨g, 0, none⟩).getD undef)).toNat + (intOf ((W.cell? ⟨g, 1, none⟩).getD undef)).toNat + (intOf ((W.cell? ⟨g, 2, none⟩).getD undef)).toNat
theorem psum_row {W : World} {g t : Nat} {p : P3} (h : RowAt W g t (p3v p)) : psum W g = p.sum := by
  obtain ⟨c0, c1, c2, -, -, -⟩ := row3 h
  unfold psum P3.sum
  rw [c0, c1, c2]
  simp [intOf]
theorem RowAt.later' {w U : World} {b t : Nat} {cs : Array Value} (h : RowAt w b t cs) (hU : ∃ n, U = w.drewN n) : RowAt U b t cs := by
  obtain ⟨n, rfl⟩ := hU
  exact h
/-- Between two rounds of the iterator. -/
structure LI (w0 W : World) (L R : List Int) (E : P3) (o a b : List Int) (C0 : List Ck) (J : List Ck → World → Prop) (b1 b2 b3 : Nat) (a1 a2 a3 : Option Addr) (c1 c2 c3 ga gb g7 g8 : Nat) (p : P3) (pre : List Ck) (wr : World) : Prop where
  inv : InvP L R E p
  cut : pre ++ (cutsAt L R E p).map (ckOf o a b) = C0
  j : J pre wr
  bel : Below w0.heap.size w0 wr
  size : W.heap.size ≤ wr.heap.size
  s1 : RowAt wr b1 138 #[.slice a1 o.length c1]
  s2 : RowAt wr b2 138 #[.slice a2 a.length c2]
  s3 : RowAt wr b3 138 #[.slice a3 b.length c3]
  ra : RowAt wr ga 3 (L.map (Value.int .i64)).toArray
  rb : RowAt wr gb 3 (R.map (Value.int .i64)).toArray
  r7 : RowAt wr g7 164 (p3v p)
  r8 : RowAt wr g8 164 (p3v E)
  ne : g7 ≠ g8
  q7 : W.heap.size ≤ g7
  q8 : W.heap.size ≤ g8
set_option maxRecDepth 100000 in
set_option maxHeartbeats 16000000 in
theorem each1_in (fu : Nat) (hn : 1 ≤ fu) (w0 w1 : World) (b1 b2 b3 : Nat) (v1 v2 v3 : Value) (o a b : List Int) (i1 : Ints w0 .i64 v1 o) (i2 : Ints w0 .i64 v2 a) (i3 : Ints w0 .i64 v3 b) (l1 : o.length ≤ 1000000) (l2 : a.length ≤ 1000000) (l3 : b.length ≤ 1000000)
    (m1 : isMatch a.length 0 (matchOf o a)) (m2 : isMatch b.length 0 (matchOf o b)) (hb1 : Below w0.heap.size w0 w1) (r1 : RowAt w1 b1 138 #[v1]) (r2 : RowAt w1 b2 138 #[v2]) (r3 : RowAt w1 b3 138 #[v3]) :
    SeqT Fence.wide fu 88 #[.pointer (some ⟨b1, 0, none⟩), .pointer (some ⟨b2, 0, none⟩), .pointer (some ⟨b3, 0, none⟩)] encC (KpC w0.heap.size) (fun xs => xs = chunksOf o a b) (chunksOf o a b).length w1 := by
  intro l J W hW hJ hY h0
  have hro : Fence.wide.round = none := rfl
  have HY := Lib.hid hY
  have HJ := Lib.hid hJ
  have hbW : Below w0.heap.size w0 W := hb1.trans (hW.mono hb1.size)
  have HW := Lib.hid hbW
  have R1 : Hid (RowAt W b1 138 #[v1]) := Lib.hid (r1.later hW)
  have R2 : Hid (RowAt W b2 138 #[v2]) := Lib.hid (r2.later hW)
  have R3 : Hid (RowAt W b3 138 #[v3]) := Lib.hid (r3.later hW)
  have I1 : Hid (∀ U, Below w0.heap.size w0 U → Ints U .i64 v1 o) := Lib.hid (fun U hU => i1.below hU)
  have I2 : Hid (∀ U, Below w0.heap.size w0 U → Ints U .i64 v2 a) := Lib.hid (fun U hU => i2.below hU)
  have I3 : Hid (∀ U, Below w0.heap.size w0 U → Ints U .i64 v3 b) := Lib.hid (fun U hU => i3.below hU)
  obtain ⟨a1, c1, rfl, -, hm1, -⟩ := i1
  obtain ⟨a2, c2, rfl, -, hm2, -⟩ := i2
  obtain ⟨a3, c3, rfl, -, hm3, -⟩ := i3
  unfold maxLen at hm1 hm2 hm3
  have HF : Hid (∀ U, Below W.heap.size W U → U.cell? ⟨b1, 0, none⟩ = some (.slice a1 o.length c1) ∧ U.cell? ⟨b2, 0, none⟩ = some (.slice a2 a.length c2) ∧ U.cell? ⟨b3, 0, none⟩ = some (.slice a3 b.length c3)) := Lib.hid (fun U hU => ⟨(R1.out.later hU).cell rfl, (R2.out.later hU).cell rfl, (R3.out.later hU).cell rfl⟩)
  have CM1 : Hid (∀ U, Below W.heap.size W U → Calls Tryd.prog 89 #[.slice a1 o.length c1, .slice a2 a.length c2] U (Gives U (matchOf o a))) := Lib.hid (fun U hU => Match_any _ _ o a U (I1.out U (HW.out.trans (hU.mono HW.out.size))) (I2.out U (HW.out.trans (hU.mono HW.out.size))) l1 l2)
  have CM2 : Hid (∀ U, Below W.heap.size W U → Calls Tryd.prog 89 #[.slice a1 o.length c1, .slice a3 b.length c3] U (Gives U (matchOf o b))) := Lib.hid (fun U hU => Match_any _ _ o b U (I1.out U (HW.out.trans (hU.mono HW.out.size))) (I3.out U (HW.out.trans (hU.mono HW.out.size))) l1 l3)
  obtain ⟨L, hL⟩ : ∃ L, Hid (matchOf o a = L) := ⟨_, Lib.hid rfl⟩
  obtain ⟨R, hR⟩ : ∃ R, Hid (matchOf o b = R) := ⟨_, Lib.hid rfl⟩
  have hLl : Hid (L.length = o.length) := Lib.hid (by rw [← hL.out]; exact matchOf_length o a)
  have hRl : Hid (R.length = o.length) := Lib.hid (by rw [← hR.out]; exact matchOf_length o b)
  rw [hL.out] at CM1
  rw [hR.out] at CM2
  clear hY hJ hbW hb1 r1 r2 r3 hW
  obtain ⟨no, hno⟩ : ∃ n, Hid (o.length = n) := ⟨_, Lib.hid rfl⟩
  obtain ⟨na, hna⟩ : ∃ n, Hid (a.length = n) := ⟨_, Lib.hid rfl⟩
  obtain ⟨nb, hnb⟩ : ∃ n, Hid (b.length = n) := ⟨_, Lib.hid rfl⟩
  rw [hno.out] at l1 HF CM1 CM2 R1 hLl hRl
  rw [hna.out] at l2 HF CM1 R2 m1
  rw [hnb.out] at l3 HF CM2 R3 m2
  have HI : Hid (InvP L R ⟨no, na, nb⟩ ⟨0, 0, 0⟩) := Lib.hid (InvP.start hLl.out hRl.out (by rw [← hL.out]; exact m1) (by rw [← hR.out]; exact m2))
  clear m1 m2
  refine callsIn_of_wp Tryd.func88 rfl trivial ?_ hro
  simp only [Tryd.ntmps88, List.size_toArray, List.length_cons, List.length_nil, Nat.reduceAdd, Nat.reduceSub, Array.replicate_succ, Array.replicate_zero, List.push_toArray, List.append_toArray, List.nil_append, List.cons_append]
  gi_wp2
  refine wpIn_region_Z (S := fun U => Below W.heap.size W U) (zs := []) (by kernel_rfl) ?_
  have hS : Below W.heap.size W W.drew := below_draws (Below.refl _ _) 1
  refine wpAnyZIn_take (i := 0) (v := ?_) rfl (by kernel_rfl) (by kernel_rfl) (by kernel_rfl) (by kernel_rfl) (by kernel_rfl) (fun _ _ _ h => h) (Or.inl ⟨by rfl, ?_⟩) (fun _ => rfl) hS ?_
  rotate_left
  · intro w hSw
    obtain ⟨x1, x2, x3⟩ := HF.out w hSw
    go_simp
    try with_reducible rfl
  try simp only [Act.put, List.setIfInBounds_toArray, List.set_cons_zero, List.set_cons_succ]
  refine wpAnyZIn_take (i := 1) (v := ?_) rfl (by kernel_rfl) (by kernel_rfl) (by kernel_rfl) (by kernel_rfl) (by kernel_rfl) (fun _ _ _ h => h) (Or.inl ⟨by rfl, ?_⟩) (fun _ => rfl) hS ?_
  rotate_left
  · intro w hSw
    obtain ⟨x1, x2, x3⟩ := HF.out w hSw
    go_simp
    try with_reducible rfl
  try simp only [Act.put, List.setIfInBounds_toArray, List.set_cons_zero, List.set_cons_succ]
  refine wpAnyZIn_take (i := 3) (v := ?_) rfl (by kernel_rfl) (by kernel_rfl) (by kernel_rfl) (by kernel_rfl) (by kernel_rfl) (fun _ _ _ h => h) (Or.inl ⟨by rfl, ?_⟩) (fun _ => rfl) hS ?_
  rotate_left
  · intro w hSw
    obtain ⟨x1, x2, x3⟩ := HF.out w hSw
    go_simp
    try with_reducible rfl
  try simp only [Act.put, List.setIfInBounds_toArray, List.set_cons_zero, List.set_cons_succ]
  refine wpAnyZIn_take (i := 4) (v := ?_) rfl (by kernel_rfl) (by kernel_rfl) (by kernel_rfl) (by kernel_rfl) (by kernel_rfl) (fun _ _ _ h => h) (Or.inl ⟨by rfl, ?_⟩) (fun _ => rfl) hS ?_
  rotate_left
  · intro w hSw
    obtain ⟨x1, x2, x3⟩ := HF.out w hSw
    go_simp
    try with_reducible rfl
  try simp only [Act.put, List.setIfInBounds_toArray, List.set_cons_zero, List.set_cons_succ]
  refine wpAnyZIn_one (i := 2) (by kernel_rfl) rfl (fun K hK => ?_)
  go_simp
  refine ⟨trivial, ?_⟩
  refine (callsIn_wide.2 (CM1.out _ hS)).mono ?_
  rintro e w3 ⟨ga, rfl, hg3, hr3, hb3⟩
  have hS3 : Below W.heap.size W w3 := hS.trans (hb3.mono (by simp))
  refine hK.out _ _ (fun _ => hS3) ?_
  clear hK K hS
  refine wpAnyZIn_one (i := 5) (by kernel_rfl) rfl (fun K hK => ?_)
  go_simp
  refine ⟨trivial, ?_⟩
  refine (callsIn_wide.2 (CM2.out _ hS3)).mono ?_
  rintro e w4 ⟨gb, rfl, hg4, hr4, hb4⟩
  have hS4 : Below W.heap.size W w4 := hS3.trans (hb4.mono hS3.size)
  have hr34 := hr3.later hb4
  refine hK.out _ _ (fun _ => hS4) ?_
  clear hK K
  refine wpAnyZIn_one (i := 6) (by kernel_rfl) rfl (fun K hK => ?_)
  go_simp
  refine hK.out _ _ (fun _ => hS4) ?_
  clear hK K
  refine wpAnyZIn_one (i := 7) (by kernel_rfl) rfl (fun K hK => ?_)
  go_simp
  refine hK.out _ _ (fun _ => hS4) ?_
  clear hK K
  refine wpAnyZIn_done (by kernel_rfl) ?_ _
  have R4a := Lib.hid hr34
  have R4b := Lib.hid hr4
  have B4 := Lib.hid hS4
  clear hr3 hr4 hr34 hS3 hb3 hb4 hg4 hS4
  obtain ⟨x1, x2, x3⟩ := HF.out _ B4.out
  gi_wp2
  gi_cut [7, 8] from 16 (fun x y wc => ∃ g7 g8 : Nat, x = .pointer (some ⟨g7, 0, none⟩) ∧ y = .pointer (some ⟨g8, 0, none⟩) ∧ Hid (Below w4.heap.size w4 wc ∧ w4.heap.size ≤ g7 ∧ w4.heap.size ≤ g8 ∧ g7 ≠ g8 ∧ RowAt wc g7 164 #[.int .i64 0, .int .i64 0, .int .i64 0] ∧ RowAt wc g8 164 #[.int .i64 no, .int .i64 na, .int .i64 nb]))
  case first =>
    refine wpIn_region_Z (S := fun U => Below w4.heap.size w4 U) (zs := []) (by kernel_rfl) ?_
    have hS : Below w4.heap.size w4 w4.drew := below_draws (Below.refl _ _) 1
    refine wpAnyZIn_take (i := 0) (v := ?_) rfl (by kernel_rfl) (by kernel_rfl) (by kernel_rfl) (by kernel_rfl) (by kernel_rfl) (fun _ _ _ h => h) (Or.inl ⟨by rfl, ?_⟩) (fun _ => rfl) hS ?_
    rotate_left
    · intro w hSw
      obtain ⟨x1, x2, x3⟩ := HF.out w (B4.out.trans (Below.mono hSw B4.out.size))
      go_simp
      try with_reducible rfl
    try simp only [Act.put, List.setIfInBounds_toArray, List.set_cons_zero, List.set_cons_succ]
    refine wpAnyZIn_take (i := 1) (v := ?_) rfl (by kernel_rfl) (by kernel_rfl) (by kernel_rfl) (by kernel_rfl) (by kernel_rfl) (fun _ _ _ h => h) (Or.inl ⟨by rfl, ?_⟩) (fun _ => rfl) hS ?_
    rotate_left
    · intro w hSw
      obtain ⟨x1, x2, x3⟩ := HF.out w (B4.out.trans (Below.mono hSw B4.out.size))
      go_simp
      try with_reducible rfl
    try simp only [Act.put, List.setIfInBounds_toArray, List.set_cons_zero, List.set_cons_succ]
    refine wpAnyZIn_take (i := 2) (v := ?_) rfl (by kernel_rfl) (by kernel_rfl) (by kernel_rfl) (by kernel_rfl) (by kernel_rfl) (fun _ _ _ h => h) (Or.inl ⟨by rfl, ?_⟩) (fun _ => rfl) hS ?_
    rotate_left
    · intro w hSw
      obtain ⟨x1, x2, x3⟩ := HF.out w (B4.out.trans (Below.mono hSw B4.out.size))
      go_simp
      try with_reducible rfl
    try simp only [Act.put, List.setIfInBounds_toArray, List.set_cons_zero, List.set_cons_succ]
    refine wpAnyZIn_take (i := 3) (v := ?_) rfl (by kernel_rfl) (by kernel_rfl) (by kernel_rfl) (by kernel_rfl) (by kernel_rfl) (fun _ _ _ h => h) (Or.inl ⟨by rfl, ?_⟩) (fun _ => rfl) hS ?_
    rotate_left
    · intro w hSw
      obtain ⟨x1, x2, x3⟩ := HF.out w (B4.out.trans (Below.mono hSw B4.out.size))
      go_simp
      try with_reducible rfl
    try simp only [Act.put, List.setIfInBounds_toArray, List.set_cons_zero, List.set_cons_succ]
    refine wpAnyZIn_take (i := 4) (v := ?_) rfl (by kernel_rfl) (by kernel_rfl) (by kernel_rfl) (by kernel_rfl) (by kernel_rfl) (fun _ _ _ h => h) (Or.inl ⟨by rfl, ?_⟩) (fun _ => rfl) hS ?_
    rotate_left
    · intro w hSw
      obtain ⟨x1, x2, x3⟩ := HF.out w (B4.out.trans (Below.mono hSw B4.out.size))
      go_simp
      try with_reducible rfl
    try simp only [Act.put, List.setIfInBounds_toArray, List.set_cons_zero, List.set_cons_succ]
    refine wpAnyZIn_take (i := 5) (v := ?_) rfl (by kernel_rfl) (by kernel_rfl) (by kernel_rfl) (by kernel_rfl) (by kernel_rfl) (fun _ _ _ h => h) (Or.inl ⟨by rfl, ?_⟩) (fun _ => rfl) hS ?_
    rotate_left
    · intro w hSw
      obtain ⟨x1, x2, x3⟩ := HF.out w (B4.out.trans (Below.mono hSw B4.out.size))
      go_simp
      try with_reducible rfl
    try simp only [Act.put, List.setIfInBounds_toArray, List.set_cons_zero, List.set_cons_succ]
    refine wpAnyZIn_take (i := 6) (v := ?_) rfl (by kernel_rfl) (by kernel_rfl) (by kernel_rfl) (by kernel_rfl) (by kernel_rfl) (fun _ _ _ h => h) (Or.inl ⟨by rfl, ?_⟩) (fun _ => rfl) hS ?_
    rotate_left
    · intro w hSw
      obtain ⟨x1, x2, x3⟩ := HF.out w (B4.out.trans (Below.mono hSw B4.out.size))
      go_simp
      try with_reducible rfl
    try simp only [Act.put, List.setIfInBounds_toArray, List.set_cons_zero, List.set_cons_succ]
    refine wpAnyZIn_take (i := 7) (v := ?_) rfl (by kernel_rfl) (by kernel_rfl) (by kernel_rfl) (by kernel_rfl) (by kernel_rfl) (fun _ _ _ h => h) (Or.inl ⟨by rfl, ?_⟩) (fun _ => rfl) hS ?_
    rotate_left
    · intro w hSw
      obtain ⟨x1, x2, x3⟩ := HF.out w (B4.out.trans (Below.mono hSw B4.out.size))
      go_simp
      try with_reducible rfl
    try simp only [Act.put, List.setIfInBounds_toArray, List.set_cons_zero, List.set_cons_succ]
    refine wpAnyZIn_either (i := 8) (j := 9) (by kernel_rfl) rfl rfl (fun K hK => ?_) (fun K hK => ?_)
    · go_simp
      refine hK.out _ _ (fun _ => hS.alloc (by simp) _) ?_
      clear hK K
      refine wpAnyZIn_one (i := 9) (by kernel_rfl) rfl (fun K hK => ?_)
      go_simp
      have hS2 : Below w4.heap.size w4 ((w4.alloc (.cells #[.int .i64 0, .int .i64 0, .int .i64 0] 164)).alloc (.cells #[.int .i64 0, .int .i64 0, .int .i64 0] 164)).drew := (hS.alloc (by simp) _).alloc (by simp) _
      have ra : RowAt ((w4.alloc (.cells #[.int .i64 0, .int .i64 0, .int .i64 0] 164)).alloc (.cells #[.int .i64 0, .int .i64 0, .int .i64 0] 164)).drew w4.heap.size 164 #[.int .i64 0, .int .i64 0, .int .i64 0] := (RowAt.new w4.drew 164 _).alloc _
      have rb : RowAt ((w4.alloc (.cells #[.int .i64 0, .int .i64 0, .int .i64 0] 164)).alloc (.cells #[.int .i64 0, .int .i64 0, .int .i64 0] 164)).drew (w4.heap.size + 1) 164 #[.int .i64 0, .int .i64 0, .int .i64 0] := by
        have := RowAt.new (w4.drew.alloc (.cells #[.int .i64 0, .int .i64 0, .int .i64 0] 164)) 164 #[.int .i64 0, .int .i64 0, .int .i64 0]
        rwa [World.size_alloc] at this
      obtain ⟨V2, hV2⟩ : ∃ V2, Hid (((w4.alloc (.cells #[.int .i64 0, .int .i64 0, .int .i64 0] 164)).alloc (.cells #[.int .i64 0, .int .i64 0, .int .i64 0] 164)).drew = V2) := ⟨_, Lib.hid rfl⟩
      rw [hV2.out] at hS2 ra rb ⊢
      refine hK.out _ _ (fun _ => hS2) ?_
      clear hK K hS
      have hq7 : w4.heap.size ≤ w4.heap.size := by omega
      have hq8 : w4.heap.size ≤ (w4.heap.size + 1) := by omega
      have hS3 : Below w4.heap.size w4 (((V2.setCell ⟨w4.heap.size, 0, none⟩ (.int .i64 0)).setCell ⟨w4.heap.size, 1, none⟩ (.int .i64 0)).setCell ⟨w4.heap.size, 2, none⟩ (.int .i64 0)) := ((hS2.setCell (p := ⟨w4.heap.size, 0, none⟩) hq7 _).setCell (p := ⟨w4.heap.size, 1, none⟩) hq7 _).setCell (p := ⟨w4.heap.size, 2, none⟩) hq7 _
      have s7 := row3_set ra (.int .i64 0) (.int .i64 0) (.int .i64 0)
      have s8 := (((rb).other (c := w4.heap.size) (by omega) 0 (.int .i64 0)).other (c := w4.heap.size) (by omega) 1 (.int .i64 0)).other (c := w4.heap.size) (by omega) 2 (.int .i64 0)
      obtain ⟨y0, y1, y2, f0, f1, f2⟩ := row3 ra
      refine wpAnyZIn_one (i := 10) (by kernel_rfl) rfl (fun K hK => ?_)
      go_simp
      clear y0 y1 y2 f0 f1 f2 ra rb
      obtain ⟨V3, hV3⟩ : ∃ V3, Hid ((((V2.setCell ⟨w4.heap.size, 0, none⟩ (.int .i64 0)).setCell ⟨w4.heap.size, 1, none⟩ (.int .i64 0)).setCell ⟨w4.heap.size, 2, none⟩ (.int .i64 0)) = V3) := ⟨_, Lib.hid rfl⟩
      rw [hV3.out] at hS3 s7 s8 ⊢
      refine hK.out _ _ (fun _ => hS3) ?_
      clear hK K hS2
      have hS4 : Below w4.heap.size w4 (((V3.setCell ⟨(w4.heap.size + 1), 0, none⟩ (.int .i64 no)).setCell ⟨(w4.heap.size + 1), 1, none⟩ (.int .i64 na)).setCell ⟨(w4.heap.size + 1), 2, none⟩ (.int .i64 nb)) := ((hS3.setCell (p := ⟨(w4.heap.size + 1), 0, none⟩) hq8 _).setCell (p := ⟨(w4.heap.size + 1), 1, none⟩) hq8 _).setCell (p := ⟨(w4.heap.size + 1), 2, none⟩) hq8 _
      have t8 := row3_set s8 (.int .i64 no) (.int .i64 na) (.int .i64 nb)
      have t7 := ((s7.other (c := (w4.heap.size + 1)) (by omega) 0 (.int .i64 no)).other (c := (w4.heap.size + 1)) (by omega) 1 (.int .i64 na)).other (c := (w4.heap.size + 1)) (by omega) 2 (.int .i64 nb)
      obtain ⟨y0, y1, y2, f0, f1, f2⟩ := row3 s8
      refine wpAnyZIn_one (i := 11) (by kernel_rfl) rfl (fun K hK => ?_)
      go_simp
      clear y0 y1 y2 f0 f1 f2 s7 s8
      refine hK.out _ _ (fun _ => hS4) ?_
      clear hK K
      refine wpAnyZIn_done (by kernel_rfl) ?_ _
      gi_wp2
      gi_meet
      case rel => exact ⟨_, _, rfl, rfl, Lib.hid ⟨hS4, by omega, by omega, by omega, t7, t8⟩⟩
    · go_simp
      refine hK.out _ _ (fun _ => hS.alloc (by simp) _) ?_
      clear hK K
      refine wpAnyZIn_one (i := 8) (by kernel_rfl) rfl (fun K hK => ?_)
      go_simp
      have hS2 : Below w4.heap.size w4 ((w4.alloc (.cells #[.int .i64 0, .int .i64 0, .int .i64 0] 164)).alloc (.cells #[.int .i64 0, .int .i64 0, .int .i64 0] 164)).drew := (hS.alloc (by simp) _).alloc (by simp) _
      have ra : RowAt ((w4.alloc (.cells #[.int .i64 0, .int .i64 0, .int .i64 0] 164)).alloc (.cells #[.int .i64 0, .int .i64 0, .int .i64 0] 164)).drew w4.heap.size 164 #[.int .i64 0, .int .i64 0, .int .i64 0] := (RowAt.new w4.drew 164 _).alloc _
      have rb : RowAt ((w4.alloc (.cells #[.int .i64 0, .int .i64 0, .int .i64 0] 164)).alloc (.cells #[.int .i64 0, .int .i64 0, .int .i64 0] 164)).drew (w4.heap.size + 1) 164 #[.int .i64 0, .int .i64 0, .int .i64 0] := by
        have := RowAt.new (w4.drew.alloc (.cells #[.int .i64 0, .int .i64 0, .int .i64 0] 164)) 164 #[.int .i64 0, .int .i64 0, .int .i64 0]
        rwa [World.size_alloc] at this
      obtain ⟨V2, hV2⟩ : ∃ V2, Hid (((w4.alloc (.cells #[.int .i64 0, .int .i64 0, .int .i64 0] 164)).alloc (.cells #[.int .i64 0, .int .i64 0, .int .i64 0] 164)).drew = V2) := ⟨_, Lib.hid rfl⟩
      rw [hV2.out] at hS2 ra rb ⊢
      refine hK.out _ _ (fun _ => hS2) ?_
      clear hK K hS
      have hq7 : w4.heap.size ≤ (w4.heap.size + 1) := by omega
      have hq8 : w4.heap.size ≤ w4.heap.size := by omega
      have hS3 : Below w4.heap.size w4 (((V2.setCell ⟨(w4.heap.size + 1), 0, none⟩ (.int .i64 0)).setCell ⟨(w4.heap.size + 1), 1, none⟩ (.int .i64 0)).setCell ⟨(w4.heap.size + 1), 2, none⟩ (.int .i64 0)) := ((hS2.setCell (p := ⟨(w4.heap.size + 1), 0, none⟩) hq7 _).setCell (p := ⟨(w4.heap.size + 1), 1, none⟩) hq7 _).setCell (p := ⟨(w4.heap.size + 1), 2, none⟩) hq7 _
      have s7 := row3_set rb (.int .i64 0) (.int .i64 0) (.int .i64 0)
      have s8 := (((ra).other (c := (w4.heap.size + 1)) (by omega) 0 (.int .i64 0)).other (c := (w4.heap.size + 1)) (by omega) 1 (.int .i64 0)).other (c := (w4.heap.size + 1)) (by omega) 2 (.int .i64 0)
      obtain ⟨y0, y1, y2, f0, f1, f2⟩ := row3 rb
      refine wpAnyZIn_one (i := 10) (by kernel_rfl) rfl (fun K hK => ?_)
      go_simp
      clear y0 y1 y2 f0 f1 f2 ra rb
      obtain ⟨V3, hV3⟩ : ∃ V3, Hid ((((V2.setCell ⟨(w4.heap.size + 1), 0, none⟩ (.int .i64 0)).setCell ⟨(w4.heap.size + 1), 1, none⟩ (.int .i64 0)).setCell ⟨(w4.heap.size + 1), 2, none⟩ (.int .i64 0)) = V3) := ⟨_, Lib.hid rfl⟩
      rw [hV3.out] at hS3 s7 s8 ⊢
      refine hK.out _ _ (fun _ => hS3) ?_
      clear hK K hS2
      have hS4 : Below w4.heap.size w4 (((V3.setCell ⟨w4.heap.size, 0, none⟩ (.int .i64 no)).setCell ⟨w4.heap.size, 1, none⟩ (.int .i64 na)).setCell ⟨w4.heap.size, 2, none⟩ (.int .i64 nb)) := ((hS3.setCell (p := ⟨w4.heap.size, 0, none⟩) hq8 _).setCell (p := ⟨w4.heap.size, 1, none⟩) hq8 _).setCell (p := ⟨w4.heap.size, 2, none⟩) hq8 _
      have t8 := row3_set s8 (.int .i64 no) (.int .i64 na) (.int .i64 nb)
      have t7 := ((s7.other (c := w4.heap.size) (by omega) 0 (.int .i64 no)).other (c := w4.heap.size) (by omega) 1 (.int .i64 na)).other (c := w4.heap.size) (by omega) 2 (.int .i64 nb)
      obtain ⟨y0, y1, y2, f0, f1, f2⟩ := row3 s8
      refine wpAnyZIn_one (i := 11) (by kernel_rfl) rfl (fun K hK => ?_)
      go_simp
      clear y0 y1 y2 f0 f1 f2 s7 s8
      refine hK.out _ _ (fun _ => hS4) ?_
      clear hK K
      refine wpAnyZIn_done (by kernel_rfl) ?_ _
      gi_wp2
      gi_meet
      case rel => exact ⟨_, _, rfl, rfl, Lib.hid ⟨hS4, by omega, by omega, by omega, t7, t8⟩⟩
  case rest =>
    obtain ⟨w5, rfl⟩ : ∃ wo, wo = wc := ⟨wc, rfl⟩
    obtain ⟨g7, g8, rfl, rfl, hC⟩ := hcut
    obtain ⟨hb5, q7, q8, q78, r7, r8⟩ := hC.out
    obtain ⟨C0, hC0⟩ : ∃ C0, Hid (chunksOf o a b = C0) := ⟨_, Lib.hid rfl⟩
    obtain ⟨E, hE⟩ : ∃ E : P3, Hid (E = ⟨no, na, nb⟩) := ⟨_, Lib.hid rfl⟩
    have hB5 : Below W.heap.size W w5 := B4.out.trans (hb5.mono B4.out.size)
    have H0 : Hid (LI w0 W L R E o a b C0 J b1 b2 b3 a1 a2 a3 c1 c2 c3 ga gb g7 g8 ⟨0, 0, 0⟩ [] w5) := Lib.hid {
      inv := by rw [hE.out]; exact HI.out
      cut := by
        rw [← hC0.out, List.nil_append, hE.out]
        unfold chunksOf
        rw [hL.out, hR.out, hno.out, hna.out, hnb.out]
      j := HJ.out [] W w5 none h0 ⟨hB5.os, hB5.tape, hB5.output, hB5.size, fun k hk _ => hB5.block k hk⟩ (fun r e => by cases e)
      bel := HW.out.trans (hB5.mono HW.out.size)
      size := hB5.size
      s1 := by rw [hno.out]; exact R1.out.later hB5
      s2 := by rw [hna.out]; exact R2.out.later hB5
      s3 := by rw [hnb.out]; exact R3.out.later hB5
      ra := R4a.out.later hb5
      rb := R4b.out.later hb5
      r7 := r7
      r8 := by rw [hE.out]; exact r8
      ne := q78
      q7 := by have := B4.out.size; omega
      q8 := by have := B4.out.size; omega }
    have HK : Hid (W.heap.size ≤ g7 ∧ W.heap.size ≤ g8) := Lib.hid ⟨H0.out.q7, H0.out.q8⟩
    clear hC hb5 q7 q8 q78 r7 r8 hB5 x1 x2 x3 R4a R4b
    gi_wp2
    gi_loopw [24] (fun _ wr => ∃ (p : P3) (pre : List Ck), Hid (LI w0 W L R E o a b C0 J b1 b2 b3 a1 a2 a3 c1 c2 c3 ga gb g7 g8 p pre wr)) (fun _ wr => E.sum - psum wr g7)
    case atStart => exact ⟨_, _, H0⟩
    case round =>
      obtain ⟨p, pre, HL⟩ := hrel
      clear H0
      obtain ⟨wo, rfl⟩ : ∃ wo, wo = wr := ⟨wr, rfl⟩
      obtain ⟨d0, d1, d2, f0, f1, f2⟩ := row3 HL.out.r7
      obtain ⟨e0, e1, e2, -, -, -⟩ := row3 HL.out.r8
      have hps : Hid (psum wo g7 = p.sum) := Lib.hid (psum_row HL.out.r7)
      obtain ⟨tb, htb⟩ : ∃ tb, Hid (decide (p ≠ E) = tb) := ⟨_, Lib.hid rfl⟩
      gi_upto_region 2 with fail
      gi_cut [26] from 24 (fun v wc => v = .bool tb ∧ wc = wo)
      case first =>
        gi_wp2
        all_goals
          gi_meet
          case rel =>
            refine ⟨?_, rfl⟩
            rw [← htb.out]
            congr 1
            symm
            first
            | (rw [decide_eq_true_iff]; intro h; have e1 := congrArg P3.o h; have e2 := congrArg P3.a h; have e3 := congrArg P3.b h; omega)
            | (rw [decide_eq_false_iff_not, Classical.not_not]; exact p3_ext (by omega) (by omega) (by omega))
      case rest =>
        obtain ⟨rfl, hwc⟩ := hcut
        rw [hwc]
        clear hwc
        cases tb with
        | false =>
          have hpE : p = E := by have := htb.out; simpa using this
          have hfin : Hid (pre = chunksOf o a b ∧ J pre wo) := Lib.hid (by
            have h1 := HL.out.cut
            rw [hpE, cutsAt_end, List.map_nil, List.append_nil] at h1
            rw [hC0.out]
            exact ⟨h1, HL.out.j⟩)
          clear hpE
          gi_wp2
          go_end0
          exact ⟨⟨_, rfl⟩, pre, hfin.out.1, hfin.out.2⟩
        | true =>
          have hpE : p ≠ E := by have := htb.out; simpa using this
          obtain ⟨nx1, nx2, nx3, nx4, nx5⟩ := HL.out.inv.next hpE
          obtain ⟨q, hq⟩ : ∃ q, Hid (nxt L R E p = q) := ⟨_, Lib.hid rfl⟩
          rw [hq.out] at nx1 nx2 nx3 nx4 nx5
          have Hnx := Lib.hid nx1
          have hcutq : Hid (cutsAt L R E p = (p, q) :: cutsAt L R E q) := Lib.hid (by rw [cutsAt_next HL.out.inv hpE, hq.out])
          have HpE := Lib.hid hpE
          have io := HL.out.inv.o
          have ia := HL.out.inv.a
          have ib := HL.out.inv.b
          have ho2 : E.o ≤ 1000000 := by rw [hE.out]; exact l1
          have ha2 : E.a ≤ 1000000 := by rw [hE.out]; exact l2
          have hb2 : E.b ≤ 1000000 := by rw [hE.out]; exact l3
          have hLE : Hid (L.length = E.o) := Lib.hid (by rw [hE.out]; exact hLl.out)
          have hRE : Hid (R.length = E.o) := Lib.hid (by rw [hE.out]; exact hRl.out)
          have HIL : Hid (∀ U, Below wo.heap.size wo U → Ints U .i64 (.slice (some ⟨ga, 0, none⟩) L.length L.length) L) := Lib.hid (fun U hU => ints_of_row' (HL.out.ra.later hU) (by rw [hLE.out]; unfold maxLen; omega))
          have HIR : Hid (∀ U, Below wo.heap.size wo U → Ints U .i64 (.slice (some ⟨gb, 0, none⟩) R.length R.length) R) := Lib.hid (fun U hU => ints_of_row' (HL.out.rb.later hU) (by rw [hRE.out]; unfold maxLen; omega))
          obtain ⟨S, hS⟩ : ∃ S, Hid (stab (L.drop p.o) (R.drop p.o) p.a p.b = S) := ⟨_, Lib.hid rfl⟩
          clear nx1 hpE
          gi_wp2
          refine ⟨trivial, ?_⟩
          refine (callsIn_wide.2 (stable_any _ _ L R p _ (HIL.out _ (Below.refl _ _)) (HIR.out _ (Below.refl _ _)) (by rw [hLE.out, hRE.out]) (by rw [hLE.out]; exact ho2) (by rw [hLE.out]; exact io) (by omega) (by omega) S hS.out)).mono ?_
          rintro e w6 ⟨rfl, hb6⟩
          have B6 := Lib.hid hb6
          clear hb6
          gi_upto_region 4 with fail
          obtain ⟨g9, hg9⟩ : ∃ g, Hid (w6.heap.size = g) := ⟨_, Lib.hid rfl⟩
          obtain ⟨V6, hV6⟩ : ∃ V, Hid (w6.alloc (.cells #[.int .i64 ((p.o : Int) + S), .int .i64 ((p.a : Int) + S), .int .i64 ((p.b : Int) + S)] 164) = V) := ⟨_, Lib.hid rfl⟩
          have hge : wo.heap.size ≤ g9 := by rw [← hg9.out]; exact B6.out.size
          have R9 : Hid (RowAt V6 g9 164 #[.int .i64 ((p.o : Int) + S), .int .i64 ((p.a : Int) + S), .int .i64 ((p.b : Int) + S)]) := Lib.hid (by rw [← hV6.out, ← hg9.out]; exact RowAt.new w6 164 _)
          have BV : Hid (Below wo.heap.size wo V6) := Lib.hid (by rw [← hV6.out]; exact B6.out.alloc B6.out.size _)
          rw [hV6.out, hg9.out]
          obtain ⟨z0, z1, z2, k0, k1, k2⟩ := row3 R9.out
          obtain ⟨y0, y1, y2, -, -, -⟩ := row3 (HL.out.r7.later BV.out)
          obtain ⟨x0, x1, x2, -, -, -⟩ := row3 (HL.out.r8.later BV.out)
          clear d0 d1 d2 f0 f1 f2 e0 e1 e2
          obtain ⟨ts, hts⟩ : ∃ ts, Hid (decide (S = 0) = ts) := ⟨_, Lib.hid rfl⟩
          gi_cut [33] from 31 (fun v wc2 => v = .bool ts ∧ wc2 = V6)
          case first =>
            gi_wp2
            all_goals
              gi_meet
              case rel =>
                refine ⟨?_, rfl⟩
                rw [← hts.out]
                congr 1
                symm
                first
                | (rw [decide_eq_true_iff]; omega)
                | (rw [decide_eq_false_iff_not]; omega)
          case rest =>
            obtain ⟨rfl, hwc⟩ := hcut
            rw [hwc]
            clear hwc
            gi_upto_if 33 with fail
            gi_cut [9] from 34 (fun v wc2 => v = .pointer (some ⟨g9, 0, none⟩) ∧ Hid (Below wo.heap.size wo wc2 ∧ RowAt wc2 g9 164 (p3v q)))
            case first =>
              cases ts with
              | false =>
                have hS0 : S ≠ 0 := by have := hts.out; simpa using this
                have hqe : q = ⟨p.o + S, p.a + S, p.b + S⟩ := by
                  rw [← hq.out]
                  unfold nxt
                  rw [hS.out, if_neg hS0]
                have hfin : Hid (RowAt V6 g9 164 (p3v q)) := Lib.hid (by
                  rw [hqe]
                  exact R9.out)
                clear hqe hS0
                gi_wp2
                gi_meet
                case rel => exact ⟨rfl, Lib.hid ⟨BV.out, hfin.out⟩⟩
              | true =>
                have hS0 : S = 0 := by have := hts.out; simpa using this
                have hqe : (uns (L.drop p.o) (R.drop p.o) p.o).getD E = q := by
                  rw [← hq.out]
                  unfold nxt
                  rw [hS.out, if_pos hS0]
                have Hqe := Lib.hid hqe
                clear hqe hS0
                gi_wp2
                refine ⟨trivial, ?_⟩
                refine (callsIn_wide.2 (unstable_any _ _ L R p E _ (HIL.out _ BV.out) (HIR.out _ BV.out) (by rw [hLE.out, hRE.out]) (by rw [hLE.out]; exact ho2) (by rw [hLE.out]; exact io) q Hqe.out)).mono ?_
                rintro e w7 ⟨rfl, hb7⟩
                have R97 := R9.out.later hb7
                have B7 : Below wo.heap.size wo w7 := BV.out.trans (hb7.mono BV.out.size)
                obtain ⟨t0, t1, t2, l0, l1', l2'⟩ := row3 R97
                have hfin : Hid (RowAt (((w7.setCell ⟨g9, 0, none⟩ (.int .i64 q.o)).setCell ⟨g9, 1, none⟩ (.int .i64 q.a)).setCell ⟨g9, 2, none⟩ (.int .i64 q.b)) g9 164 (p3v q)) := Lib.hid (row3_set R97 _ _ _)
                have hfin2 : Hid (Below wo.heap.size wo (((w7.setCell ⟨g9, 0, none⟩ (.int .i64 q.o)).setCell ⟨g9, 1, none⟩ (.int .i64 q.a)).setCell ⟨g9, 2, none⟩ (.int .i64 q.b))) := Lib.hid (((B7.setCell (p := ⟨g9, 0, none⟩) hge _).setCell (p := ⟨g9, 1, none⟩) hge _).setCell (p := ⟨g9, 2, none⟩) hge _)
                clear R97 B7 hb7
                gi_wp2
                gi_meet
                case rel => exact ⟨rfl, Lib.hid ⟨hfin2.out, hfin.out⟩⟩
            case rest =>
              obtain ⟨rfl, hc8⟩ := hcut
              obtain ⟨w8, rfl⟩ : ∃ V, V = wc := ⟨wc, rfl⟩
              gi_upto_region 6 with fail
              have hb8 : Below wo.heap.size wo w8 := hc8.out.1
              have B8 : Hid (Below w0.heap.size w0 w8) := Lib.hid (HL.out.bel.trans (hb8.mono HL.out.bel.size))
              have C8 : Hid (∀ U, (∃ n, U = w8.drewN n) → (U.cell? ⟨b1, 0, none⟩ = some (.slice a1 o.length c1) ∧ U.cell? ⟨b2, 0, none⟩ = some (.slice a2 a.length c2) ∧ U.cell? ⟨b3, 0, none⟩ = some (.slice a3 b.length c3)) ∧ (U.cell? ⟨g7, 0, none⟩ = some (.int .i64 p.o) ∧ U.cell? ⟨g7, 1, none⟩ = some (.int .i64 p.a) ∧ U.cell? ⟨g7, 2, none⟩ = some (.int .i64 p.b)) ∧ (U.cell? ⟨g9, 0, none⟩ = some (.int .i64 q.o) ∧ U.cell? ⟨g9, 1, none⟩ = some (.int .i64 q.a) ∧ U.cell? ⟨g9, 2, none⟩ = some (.int .i64 q.b))) := Lib.hid (fun U hU => by
                obtain ⟨n, rfl⟩ := hU
                obtain ⟨x0, x1, x2, -, -, -⟩ := row3 (HL.out.r7.later hb8)
                obtain ⟨y0, y1, y2, -, -, -⟩ := row3 hc8.out.2
                exact ⟨⟨(HL.out.s1.later hb8).cell rfl, (HL.out.s2.later hb8).cell rfl, (HL.out.s3.later hb8).cell rfl⟩, ⟨x0, x1, x2⟩, y0, y1, y2⟩)
              have Hnxo := Hnx.out.o
              have Hnxa := Hnx.out.a
              have Hnxb := Hnx.out.b
              have eo : E.o = o.length := by rw [hE.out, hno.out]
              have ea : E.a = a.length := by rw [hE.out, hna.out]
              have eb : E.b = b.length := by rw [hE.out, hnb.out]
              obtain ⟨sx, hsx, ix⟩ := (I1.out w8 B8.out).cut p.o q.o nx2 (by omega) p.o q.o rfl rfl
              obtain ⟨sy, hsy, iy⟩ := (I2.out w8 B8.out).cut p.a q.a nx3 (by omega) p.a q.a rfl rfl
              obtain ⟨sz, hsz, iz⟩ := (I3.out w8 B8.out).cut p.b q.b nx4 (by omega) p.b q.b rfl rfl
              have KD : Hid (∀ n, Calls Tryd.prog 92 #[sx, sy, sz] (w8.drewN n) fun e w' => e = .returned (.int .i64 (kindN (slc o p.o q.o) (slc a p.a q.a) (slc b p.b q.b))) ∧ ∃ m, w' = (w8.drewN n).drewN m) := Lib.hid (fun n => kind_any sx sy sz _ _ _ (w8.drewN n) (ix.drewN n) (iy.drewN n) (iz.drewN n))
              obtain ⟨kd, hkd⟩ : ∃ kd, Hid (kindN (slc o p.o q.o) (slc a p.a q.a) (slc b p.b q.b) = kd) := ⟨_, Lib.hid rfl⟩
              rw [hkd.out] at KD
              clear ix iy iz Hnxo Hnxa Hnxb eo ea eb
              refine wpIn_region_Z (S := fun U => ∃ n, U = w8.drewN n) (zs := [36, 37]) (by kernel_rfl) ?_
              have hS : ∃ n, w8.drew = w8.drewN n := ⟨1, rfl⟩
              simp only [List.size_toArray, List.length_cons, List.length_nil, Nat.reduceAdd, Array.replicate_succ, Array.replicate_zero, List.push_toArray, List.nil_append, List.cons_append]
              refine wpAnyZIn_takeF 12 (i := 0) (oi := { dst := some 39, op := Op.move (Operand.tmp 0), type := 161, pos := "diff3.go:63", after := #[], guard := none }) (v := ?_) rfl (by kernel_rfl) (by kernel_rfl) (by kernel_rfl) (by kernel_rfl) (by kernel_rfl) (by kernel_rfl) (fun _ _ _ h => h) (Or.inl ⟨by rfl, ?_⟩) (fun _ => rfl) hS ?_
              rotate_left
              · intro w hSw
                obtain ⟨⟨x1, x2, x3⟩, ⟨y0, y1, y2⟩, ⟨z0, z1, z2⟩⟩ := C8.out w hSw
                go_simp
                try with_reducible rfl
              try simp only [Act.put, List.setIfInBounds_toArray, List.set_cons_zero, List.set_cons_succ]
              refine wpAnyZIn_takeF 12 (i := 1) (oi := { dst := some 40, op := Op.load 138 (Operand.tmp 1), type := 138, pos := "diff3.go:63", after := #[], guard := none }) (v := ?_) rfl (by kernel_rfl) (by kernel_rfl) (by kernel_rfl) (by kernel_rfl) (by kernel_rfl) (by kernel_rfl) (fun _ _ _ h => h) (Or.inl ⟨by rfl, ?_⟩) (fun _ => rfl) hS ?_
              rotate_left
              · intro w hSw
                obtain ⟨⟨x1, x2, x3⟩, ⟨y0, y1, y2⟩, ⟨z0, z1, z2⟩⟩ := C8.out w hSw
                go_simp
                try with_reducible rfl
              try simp only [Act.put, List.setIfInBounds_toArray, List.set_cons_zero, List.set_cons_succ]
              refine wpAnyZIn_takeF 12 (i := 2) (oi := { dst := some 41, op := Op.fieldAddr 164 (Operand.tmp 7) 0, type := 0, pos := "diff3.go:63", after := #[], guard := none }) (v := ?_) rfl (by kernel_rfl) (by kernel_rfl) (by kernel_rfl) (by kernel_rfl) (by kernel_rfl) (by kernel_rfl) (fun _ _ _ h => h) (Or.inl ⟨by rfl, ?_⟩) (fun _ => rfl) hS ?_
              rotate_left
              · intro w hSw
                obtain ⟨⟨x1, x2, x3⟩, ⟨y0, y1, y2⟩, ⟨z0, z1, z2⟩⟩ := C8.out w hSw
                go_simp
                try with_reducible rfl
              try simp only [Act.put, List.setIfInBounds_toArray, List.set_cons_zero, List.set_cons_succ]
              refine wpAnyZIn_takeF 12 (i := 3) (oi := { dst := some 42, op := Op.load 3 (Operand.tmp 41), type := 3, pos := "diff3.go:63", after := #[{ on := 2, ground := Ground.data }], guard := none }) (v := ?_) rfl (by kernel_rfl) (by kernel_rfl) (by kernel_rfl) (by kernel_rfl) (by kernel_rfl) (by kernel_rfl) (fun _ _ _ h => h) (Or.inl ⟨by rfl, ?_⟩) (fun _ => rfl) hS ?_
              rotate_left
              · intro w hSw
                obtain ⟨⟨x1, x2, x3⟩, ⟨y0, y1, y2⟩, ⟨z0, z1, z2⟩⟩ := C8.out w hSw
                go_simp
                try with_reducible rfl
              try simp only [Act.put, List.setIfInBounds_toArray, List.set_cons_zero, List.set_cons_succ]
              refine wpAnyZIn_takeF 12 (i := 4) (oi := { dst := some 43, op := Op.fieldAddr 164 (Operand.tmp 9) 0, type := 0, pos := "diff3.go:63", after := #[], guard := none }) (v := ?_) rfl (by kernel_rfl) (by kernel_rfl) (by kernel_rfl) (by kernel_rfl) (by kernel_rfl) (by kernel_rfl) (fun _ _ _ h => h) (Or.inl ⟨by rfl, ?_⟩) (fun _ => rfl) hS ?_
              rotate_left
              · intro w hSw
                obtain ⟨⟨x1, x2, x3⟩, ⟨y0, y1, y2⟩, ⟨z0, z1, z2⟩⟩ := C8.out w hSw
                go_simp
                try with_reducible rfl
              try simp only [Act.put, List.setIfInBounds_toArray, List.set_cons_zero, List.set_cons_succ]
              refine wpAnyZIn_takeF 12 (i := 5) (oi := { dst := some 44, op := Op.load 3 (Operand.tmp 43), type := 3, pos := "diff3.go:63", after := #[{ on := 4, ground := Ground.data }], guard := none }) (v := ?_) rfl (by kernel_rfl) (by kernel_rfl) (by kernel_rfl) (by kernel_rfl) (by kernel_rfl) (by kernel_rfl) (fun _ _ _ h => h) (Or.inl ⟨by rfl, ?_⟩) (fun _ => rfl) hS ?_
              rotate_left
              · intro w hSw
                obtain ⟨⟨x1, x2, x3⟩, ⟨y0, y1, y2⟩, ⟨z0, z1, z2⟩⟩ := C8.out w hSw
                go_simp
                try with_reducible rfl
              try simp only [Act.put, List.setIfInBounds_toArray, List.set_cons_zero, List.set_cons_succ]
              refine wpAnyZIn_takeF 12 (i := 6) (oi := { dst := some 45, op := Op.slice 138 (Operand.tmp 40) (some (Operand.tmp 42)) (some (Operand.tmp 44)) none, type := 138, pos := "diff3.go:63", after := #[{ on := 1, ground := Ground.data }, { on := 3, ground := Ground.data }, { on := 5, ground := Ground.data }], guard := none }) (v := ?_) rfl (by kernel_rfl) (by kernel_rfl) (by kernel_rfl) (by kernel_rfl) (by kernel_rfl) (by kernel_rfl) (fun _ _ _ h => h) (Or.inl ⟨by rfl, ?_⟩) (fun _ => rfl) hS ?_
              rotate_left
              · intro w hSw
                obtain ⟨⟨x1, x2, x3⟩, ⟨y0, y1, y2⟩, ⟨z0, z1, z2⟩⟩ := C8.out w hSw
                go_simp
                try with_reducible rfl
              try simp only [Act.put, List.setIfInBounds_toArray, List.set_cons_zero, List.set_cons_succ]
              refine wpAnyZIn_takeF 12 (i := 7) (oi := { dst := some 46, op := Op.load 138 (Operand.tmp 2), type := 138, pos := "diff3.go:63", after := #[], guard := none }) (v := ?_) rfl (by kernel_rfl) (by kernel_rfl) (by kernel_rfl) (by kernel_rfl) (by kernel_rfl) (by kernel_rfl) (fun _ _ _ h => h) (Or.inl ⟨by rfl, ?_⟩) (fun _ => rfl) hS ?_
              rotate_left
              · intro w hSw
                obtain ⟨⟨x1, x2, x3⟩, ⟨y0, y1, y2⟩, ⟨z0, z1, z2⟩⟩ := C8.out w hSw
                go_simp
                try with_reducible rfl
              try simp only [Act.put, List.setIfInBounds_toArray, List.set_cons_zero, List.set_cons_succ]
              refine wpAnyZIn_takeF 12 (i := 8) (oi := { dst := some 47, op := Op.fieldAddr 164 (Operand.tmp 7) 1, type := 0, pos := "diff3.go:63", after := #[], guard := none }) (v := ?_) rfl (by kernel_rfl) (by kernel_rfl) (by kernel_rfl) (by kernel_rfl) (by kernel_rfl) (by kernel_rfl) (fun _ _ _ h => h) (Or.inl ⟨by rfl, ?_⟩) (fun _ => rfl) hS ?_
              rotate_left
              · intro w hSw
                obtain ⟨⟨x1, x2, x3⟩, ⟨y0, y1, y2⟩, ⟨z0, z1, z2⟩⟩ := C8.out w hSw
                go_simp
                try with_reducible rfl
              try simp only [Act.put, List.setIfInBounds_toArray, List.set_cons_zero, List.set_cons_succ]
              refine wpAnyZIn_takeF 12 (i := 9) (oi := { dst := some 48, op := Op.load 3 (Operand.tmp 47), type := 3, pos := "diff3.go:63", after := #[{ on := 8, ground := Ground.data }], guard := none }) (v := ?_) rfl (by kernel_rfl) (by kernel_rfl) (by kernel_rfl) (by kernel_rfl) (by kernel_rfl) (by kernel_rfl) (fun _ _ _ h => h) (Or.inl ⟨by rfl, ?_⟩) (fun _ => rfl) hS ?_
              rotate_left
              · intro w hSw
                obtain ⟨⟨x1, x2, x3⟩, ⟨y0, y1, y2⟩, ⟨z0, z1, z2⟩⟩ := C8.out w hSw
                go_simp
                try with_reducible rfl
              try simp only [Act.put, List.setIfInBounds_toArray, List.set_cons_zero, List.set_cons_succ]
              refine wpAnyZIn_takeF 12 (i := 10) (oi := { dst := some 49, op := Op.fieldAddr 164 (Operand.tmp 9) 1, type := 0, pos := "diff3.go:63", after := #[], guard := none }) (v := ?_) rfl (by kernel_rfl) (by kernel_rfl) (by kernel_rfl) (by kernel_rfl) (by kernel_rfl) (by kernel_rfl) (fun _ _ _ h => h) (Or.inl ⟨by rfl, ?_⟩) (fun _ => rfl) hS ?_
              rotate_left
              · intro w hSw
                obtain ⟨⟨x1, x2, x3⟩, ⟨y0, y1, y2⟩, ⟨z0, z1, z2⟩⟩ := C8.out w hSw
                go_simp
                try with_reducible rfl
              try simp only [Act.put, List.setIfInBounds_toArray, List.set_cons_zero, List.set_cons_succ]
              refine wpAnyZIn_takeF 12 (i := 11) (oi := { dst := some 50, op := Op.load 3 (Operand.tmp 49), type := 3, pos := "diff3.go:63", after := #[{ on := 10, ground := Ground.data }], guard := none }) (v := ?_) rfl (by kernel_rfl) (by kernel_rfl) (by kernel_rfl) (by kernel_rfl) (by kernel_rfl) (by kernel_rfl) (fun _ _ _ h => h) (Or.inl ⟨by rfl, ?_⟩) (fun _ => rfl) hS ?_
              rotate_left
              · intro w hSw
                obtain ⟨⟨x1, x2, x3⟩, ⟨y0, y1, y2⟩, ⟨z0, z1, z2⟩⟩ := C8.out w hSw
                go_simp
                try with_reducible rfl
              try simp only [Act.put, List.setIfInBounds_toArray, List.set_cons_zero, List.set_cons_succ]
              refine wpAnyZIn_takeF 12 (i := 12) (oi := { dst := some 51, op := Op.slice 138 (Operand.tmp 46) (some (Operand.tmp 48)) (some (Operand.tmp 50)) none, type := 138, pos := "diff3.go:63", after := #[{ on := 7, ground := Ground.data }, { on := 9, ground := Ground.data }, { on := 11, ground := Ground.data }], guard := none }) (v := ?_) rfl (by kernel_rfl) (by kernel_rfl) (by kernel_rfl) (by kernel_rfl) (by kernel_rfl) (by kernel_rfl) (fun _ _ _ h => h) (Or.inl ⟨by rfl, ?_⟩) (fun _ => rfl) hS ?_
              rotate_left
              · intro w hSw
                obtain ⟨⟨x1, x2, x3⟩, ⟨y0, y1, y2⟩, ⟨z0, z1, z2⟩⟩ := C8.out w hSw
                go_simp
                try with_reducible rfl
              try simp only [Act.put, List.setIfInBounds_toArray, List.set_cons_zero, List.set_cons_succ]
              refine wpAnyZIn_takeF 12 (i := 13) (oi := { dst := some 52, op := Op.load 138 (Operand.tmp 3), type := 138, pos := "diff3.go:63", after := #[], guard := none }) (v := ?_) rfl (by kernel_rfl) (by kernel_rfl) (by kernel_rfl) (by kernel_rfl) (by kernel_rfl) (by kernel_rfl) (fun _ _ _ h => h) (Or.inl ⟨by rfl, ?_⟩) (fun _ => rfl) hS ?_
              rotate_left
              · intro w hSw
                obtain ⟨⟨x1, x2, x3⟩, ⟨y0, y1, y2⟩, ⟨z0, z1, z2⟩⟩ := C8.out w hSw
                go_simp
                try with_reducible rfl
              try simp only [Act.put, List.setIfInBounds_toArray, List.set_cons_zero, List.set_cons_succ]
              refine wpAnyZIn_takeF 12 (i := 14) (oi := { dst := some 53, op := Op.fieldAddr 164 (Operand.tmp 7) 2, type := 0, pos := "diff3.go:63", after := #[], guard := none }) (v := ?_) rfl (by kernel_rfl) (by kernel_rfl) (by kernel_rfl) (by kernel_rfl) (by kernel_rfl) (by kernel_rfl) (fun _ _ _ h => h) (Or.inl ⟨by rfl, ?_⟩) (fun _ => rfl) hS ?_
              rotate_left
              · intro w hSw
                obtain ⟨⟨x1, x2, x3⟩, ⟨y0, y1, y2⟩, ⟨z0, z1, z2⟩⟩ := C8.out w hSw
                go_simp
                try with_reducible rfl
              try simp only [Act.put, List.setIfInBounds_toArray, List.set_cons_zero, List.set_cons_succ]
              refine wpAnyZIn_takeF 12 (i := 15) (oi := { dst := some 54, op := Op.load 3 (Operand.tmp 53), type := 3, pos := "diff3.go:63", after := #[{ on := 14, ground := Ground.data }], guard := none }) (v := ?_) rfl (by kernel_rfl) (by kernel_rfl) (by kernel_rfl) (by kernel_rfl) (by kernel_rfl) (by kernel_rfl) (fun _ _ _ h => h) (Or.inl ⟨by rfl, ?_⟩) (fun _ => rfl) hS ?_
              rotate_left
              · intro w hSw
                obtain ⟨⟨x1, x2, x3⟩, ⟨y0, y1, y2⟩, ⟨z0, z1, z2⟩⟩ := C8.out w hSw
                go_simp
                try with_reducible rfl
              try simp only [Act.put, List.setIfInBounds_toArray, List.set_cons_zero, List.set_cons_succ]
              refine wpAnyZIn_takeF 12 (i := 16) (oi := { dst := some 55, op := Op.fieldAddr 164 (Operand.tmp 9) 2, type := 0, pos := "diff3.go:63", after := #[], guard := none }) (v := ?_) rfl (by kernel_rfl) (by kernel_rfl) (by kernel_rfl) (by kernel_rfl) (by kernel_rfl) (by kernel_rfl) (fun _ _ _ h => h) (Or.inl ⟨by rfl, ?_⟩) (fun _ => rfl) hS ?_
              rotate_left
              · intro w hSw
                obtain ⟨⟨x1, x2, x3⟩, ⟨y0, y1, y2⟩, ⟨z0, z1, z2⟩⟩ := C8.out w hSw
                go_simp
                try with_reducible rfl
              try simp only [Act.put, List.setIfInBounds_toArray, List.set_cons_zero, List.set_cons_succ]
              refine wpAnyZIn_takeF 12 (i := 17) (oi := { dst := some 56, op := Op.load 3 (Operand.tmp 55), type := 3, pos := "diff3.go:63", after := #[{ on := 16, ground := Ground.data }], guard := none }) (v := ?_) rfl (by kernel_rfl) (by kernel_rfl) (by kernel_rfl) (by kernel_rfl) (by kernel_rfl) (by kernel_rfl) (fun _ _ _ h => h) (Or.inl ⟨by rfl, ?_⟩) (fun _ => rfl) hS ?_
              rotate_left
              · intro w hSw
                obtain ⟨⟨x1, x2, x3⟩, ⟨y0, y1, y2⟩, ⟨z0, z1, z2⟩⟩ := C8.out w hSw
                go_simp
                try with_reducible rfl
              try simp only [Act.put, List.setIfInBounds_toArray, List.set_cons_zero, List.set_cons_succ]
              refine wpAnyZIn_takeF 12 (i := 18) (oi := { dst := some 57, op := Op.slice 138 (Operand.tmp 52) (some (Operand.tmp 54)) (some (Operand.tmp 56)) none, type := 138, pos := "diff3.go:63", after := #[{ on := 13, ground := Ground.data }, { on := 15, ground := Ground.data }, { on := 17, ground := Ground.data }], guard := none }) (v := ?_) rfl (by kernel_rfl) (by kernel_rfl) (by kernel_rfl) (by kernel_rfl) (by kernel_rfl) (by kernel_rfl) (fun _ _ _ h => h) (Or.inl ⟨by rfl, ?_⟩) (fun _ => rfl) hS ?_
              rotate_left
              · intro w hSw
                obtain ⟨⟨x1, x2, x3⟩, ⟨y0, y1, y2⟩, ⟨z0, z1, z2⟩⟩ := C8.out w hSw
                go_simp
                try with_reducible rfl
              try simp only [Act.put, List.setIfInBounds_toArray, List.set_cons_zero, List.set_cons_succ]
              refine wpAnyZIn_takeF 12 (i := 20) (oi := { dst := some 59, op := Op.fieldAddr 164 (Operand.tmp 7) 0, type := 0, pos := "diff3.go:63", after := #[], guard := none }) (v := ?_) rfl (by kernel_rfl) (by kernel_rfl) (by kernel_rfl) (by kernel_rfl) (by kernel_rfl) (by kernel_rfl) (fun _ _ _ h => h) (Or.inl ⟨by rfl, ?_⟩) (fun _ => rfl) hS ?_
              rotate_left
              · intro w hSw
                obtain ⟨⟨x1, x2, x3⟩, ⟨y0, y1, y2⟩, ⟨z0, z1, z2⟩⟩ := C8.out w hSw
                go_simp
                try with_reducible rfl
              try simp only [Act.put, List.setIfInBounds_toArray, List.set_cons_zero, List.set_cons_succ]
              refine wpAnyZIn_takeF 12 (i := 21) (oi := { dst := some 60, op := Op.load 3 (Operand.tmp 59), type := 3, pos := "diff3.go:63", after := #[{ on := 20, ground := Ground.data }], guard := none }) (v := ?_) rfl (by kernel_rfl) (by kernel_rfl) (by kernel_rfl) (by kernel_rfl) (by kernel_rfl) (by kernel_rfl) (fun _ _ _ h => h) (Or.inl ⟨by rfl, ?_⟩) (fun _ => rfl) hS ?_
              rotate_left
              · intro w hSw
                obtain ⟨⟨x1, x2, x3⟩, ⟨y0, y1, y2⟩, ⟨z0, z1, z2⟩⟩ := C8.out w hSw
                go_simp
                try with_reducible rfl
              try simp only [Act.put, List.setIfInBounds_toArray, List.set_cons_zero, List.set_cons_succ]
              refine wpAnyZIn_takeF 12 (i := 22) (oi := { dst := some 61, op := Op.fieldAddr 164 (Operand.tmp 9) 0, type := 0, pos := "diff3.go:63", after := #[], guard := none }) (v := ?_) rfl (by kernel_rfl) (by kernel_rfl) (by kernel_rfl) (by kernel_rfl) (by kernel_rfl) (by kernel_rfl) (fun _ _ _ h => h) (Or.inl ⟨by rfl, ?_⟩) (fun _ => rfl) hS ?_
              rotate_left
              · intro w hSw
                obtain ⟨⟨x1, x2, x3⟩, ⟨y0, y1, y2⟩, ⟨z0, z1, z2⟩⟩ := C8.out w hSw
                go_simp
                try with_reducible rfl
              try simp only [Act.put, List.setIfInBounds_toArray, List.set_cons_zero, List.set_cons_succ]
              refine wpAnyZIn_takeF 12 (i := 23) (oi := { dst := some 62, op := Op.load 3 (Operand.tmp 61), type := 3, pos := "diff3.go:63", after := #[{ on := 22, ground := Ground.data }], guard := none }) (v := ?_) rfl (by kernel_rfl) (by kernel_rfl) (by kernel_rfl) (by kernel_rfl) (by kernel_rfl) (by kernel_rfl) (fun _ _ _ h => h) (Or.inl ⟨by rfl, ?_⟩) (fun _ => rfl) hS ?_
              rotate_left
              · intro w hSw
                obtain ⟨⟨x1, x2, x3⟩, ⟨y0, y1, y2⟩, ⟨z0, z1, z2⟩⟩ := C8.out w hSw
                go_simp
                try with_reducible rfl
              try simp only [Act.put, List.setIfInBounds_toArray, List.set_cons_zero, List.set_cons_succ]
              refine wpAnyZIn_takeF 12 (i := 24) (oi := { dst := some 63, op := Op.build 117 #[(0, Operand.tmp 60), (1, Operand.tmp 62)], type := 117, pos := "diff3.go:63", after := #[{ on := 21, ground := Ground.data }, { on := 23, ground := Ground.data }], guard := none }) (v := ?_) rfl (by kernel_rfl) (by kernel_rfl) (by kernel_rfl) (by kernel_rfl) (by kernel_rfl) (by kernel_rfl) (fun _ _ _ h => h) (Or.inl ⟨by rfl, ?_⟩) (fun _ => rfl) hS ?_
              rotate_left
              · intro w hSw
                obtain ⟨⟨x1, x2, x3⟩, ⟨y0, y1, y2⟩, ⟨z0, z1, z2⟩⟩ := C8.out w hSw
                go_simp
                try with_reducible rfl
              try simp only [Act.put, List.setIfInBounds_toArray, List.set_cons_zero, List.set_cons_succ]
              refine wpAnyZIn_takeF 12 (i := 25) (oi := { dst := some 64, op := Op.fieldAddr 164 (Operand.tmp 7) 1, type := 0, pos := "diff3.go:63", after := #[], guard := none }) (v := ?_) rfl (by kernel_rfl) (by kernel_rfl) (by kernel_rfl) (by kernel_rfl) (by kernel_rfl) (by kernel_rfl) (fun _ _ _ h => h) (Or.inl ⟨by rfl, ?_⟩) (fun _ => rfl) hS ?_
              rotate_left
              · intro w hSw
                obtain ⟨⟨x1, x2, x3⟩, ⟨y0, y1, y2⟩, ⟨z0, z1, z2⟩⟩ := C8.out w hSw
                go_simp
                try with_reducible rfl
              try simp only [Act.put, List.setIfInBounds_toArray, List.set_cons_zero, List.set_cons_succ]
              refine wpAnyZIn_takeF 12 (i := 26) (oi := { dst := some 65, op := Op.load 3 (Operand.tmp 64), type := 3, pos := "diff3.go:63", after := #[{ on := 25, ground := Ground.data }], guard := none }) (v := ?_) rfl (by kernel_rfl) (by kernel_rfl) (by kernel_rfl) (by kernel_rfl) (by kernel_rfl) (by kernel_rfl) (fun _ _ _ h => h) (Or.inl ⟨by rfl, ?_⟩) (fun _ => rfl) hS ?_
              rotate_left
              · intro w hSw
                obtain ⟨⟨x1, x2, x3⟩, ⟨y0, y1, y2⟩, ⟨z0, z1, z2⟩⟩ := C8.out w hSw
                go_simp
                try with_reducible rfl
              try simp only [Act.put, List.setIfInBounds_toArray, List.set_cons_zero, List.set_cons_succ]
              refine wpAnyZIn_takeF 12 (i := 27) (oi := { dst := some 66, op := Op.fieldAddr 164 (Operand.tmp 9) 1, type := 0, pos := "diff3.go:63", after := #[], guard := none }) (v := ?_) rfl (by kernel_rfl) (by kernel_rfl) (by kernel_rfl) (by kernel_rfl) (by kernel_rfl) (by kernel_rfl) (fun _ _ _ h => h) (Or.inl ⟨by rfl, ?_⟩) (fun _ => rfl) hS ?_
              rotate_left
              · intro w hSw
                obtain ⟨⟨x1, x2, x3⟩, ⟨y0, y1, y2⟩, ⟨z0, z1, z2⟩⟩ := C8.out w hSw
                go_simp
                try with_reducible rfl
              try simp only [Act.put, List.setIfInBounds_toArray, List.set_cons_zero, List.set_cons_succ]
              refine wpAnyZIn_takeF 12 (i := 28) (oi := { dst := some 67, op := Op.load 3 (Operand.tmp 66), type := 3, pos := "diff3.go:63", after := #[{ on := 27, ground := Ground.data }], guard := none }) (v := ?_) rfl (by kernel_rfl) (by kernel_rfl) (by kernel_rfl) (by kernel_rfl) (by kernel_rfl) (by kernel_rfl) (fun _ _ _ h => h) (Or.inl ⟨by rfl, ?_⟩) (fun _ => rfl) hS ?_
              rotate_left
              · intro w hSw
                obtain ⟨⟨x1, x2, x3⟩, ⟨y0, y1, y2⟩, ⟨z0, z1, z2⟩⟩ := C8.out w hSw
                go_simp
                try with_reducible rfl
              try simp only [Act.put, List.setIfInBounds_toArray, List.set_cons_zero, List.set_cons_succ]
              refine wpAnyZIn_takeF 12 (i := 29) (oi := { dst := some 68, op := Op.build 117 #[(0, Operand.tmp 65), (1, Operand.tmp 67)], type := 117, pos := "diff3.go:63", after := #[{ on := 26, ground := Ground.data }, { on := 28, ground := Ground.data }], guard := none }) (v := ?_) rfl (by kernel_rfl) (by kernel_rfl) (by kernel_rfl) (by kernel_rfl) (by kernel_rfl) (by kernel_rfl) (fun _ _ _ h => h) (Or.inl ⟨by rfl, ?_⟩) (fun _ => rfl) hS ?_
              rotate_left
              · intro w hSw
                obtain ⟨⟨x1, x2, x3⟩, ⟨y0, y1, y2⟩, ⟨z0, z1, z2⟩⟩ := C8.out w hSw
                go_simp
                try with_reducible rfl
              try simp only [Act.put, List.setIfInBounds_toArray, List.set_cons_zero, List.set_cons_succ]
              refine wpAnyZIn_takeF 12 (i := 30) (oi := { dst := some 69, op := Op.fieldAddr 164 (Operand.tmp 7) 2, type := 0, pos := "diff3.go:63", after := #[], guard := none }) (v := ?_) rfl (by kernel_rfl) (by kernel_rfl) (by kernel_rfl) (by kernel_rfl) (by kernel_rfl) (by kernel_rfl) (fun _ _ _ h => h) (Or.inl ⟨by rfl, ?_⟩) (fun _ => rfl) hS ?_
              rotate_left
              · intro w hSw
                obtain ⟨⟨x1, x2, x3⟩, ⟨y0, y1, y2⟩, ⟨z0, z1, z2⟩⟩ := C8.out w hSw
                go_simp
                try with_reducible rfl
              try simp only [Act.put, List.setIfInBounds_toArray, List.set_cons_zero, List.set_cons_succ]
              refine wpAnyZIn_takeF 12 (i := 31) (oi := { dst := some 70, op := Op.load 3 (Operand.tmp 69), type := 3, pos := "diff3.go:63", after := #[{ on := 30, ground := Ground.data }], guard := none }) (v := ?_) rfl (by kernel_rfl) (by kernel_rfl) (by kernel_rfl) (by kernel_rfl) (by kernel_rfl) (by kernel_rfl) (fun _ _ _ h => h) (Or.inl ⟨by rfl, ?_⟩) (fun _ => rfl) hS ?_
              rotate_left
              · intro w hSw
                obtain ⟨⟨x1, x2, x3⟩, ⟨y0, y1, y2⟩, ⟨z0, z1, z2⟩⟩ := C8.out w hSw
                go_simp
                try with_reducible rfl
              try simp only [Act.put, List.setIfInBounds_toArray, List.set_cons_zero, List.set_cons_succ]
              refine wpAnyZIn_takeF 12 (i := 32) (oi := { dst := some 71, op := Op.fieldAddr 164 (Operand.tmp 9) 2, type := 0, pos := "diff3.go:63", after := #[], guard := none }) (v := ?_) rfl (by kernel_rfl) (by kernel_rfl) (by kernel_rfl) (by kernel_rfl) (by kernel_rfl) (by kernel_rfl) (fun _ _ _ h => h) (Or.inl ⟨by rfl, ?_⟩) (fun _ => rfl) hS ?_
              rotate_left
              · intro w hSw
                obtain ⟨⟨x1, x2, x3⟩, ⟨y0, y1, y2⟩, ⟨z0, z1, z2⟩⟩ := C8.out w hSw
                go_simp
                try with_reducible rfl
              try simp only [Act.put, List.setIfInBounds_toArray, List.set_cons_zero, List.set_cons_succ]
              refine wpAnyZIn_takeF 12 (i := 33) (oi := { dst := some 72, op := Op.load 3 (Operand.tmp 71), type := 3, pos := "diff3.go:63", after := #[{ on := 32, ground := Ground.data }], guard := none }) (v := ?_) rfl (by kernel_rfl) (by kernel_rfl) (by kernel_rfl) (by kernel_rfl) (by kernel_rfl) (by kernel_rfl) (fun _ _ _ h => h) (Or.inl ⟨by rfl, ?_⟩) (fun _ => rfl) hS ?_
              rotate_left
              · intro w hSw
                obtain ⟨⟨x1, x2, x3⟩, ⟨y0, y1, y2⟩, ⟨z0, z1, z2⟩⟩ := C8.out w hSw
                go_simp
                try with_reducible rfl
              try simp only [Act.put, List.setIfInBounds_toArray, List.set_cons_zero, List.set_cons_succ]
              refine wpAnyZIn_takeF 12 (i := 34) (oi := { dst := some 73, op := Op.build 117 #[(0, Operand.tmp 70), (1, Operand.tmp 72)], type := 117, pos := "diff3.go:63", after := #[{ on := 31, ground := Ground.data }, { on := 33, ground := Ground.data }], guard := none }) (v := ?_) rfl (by kernel_rfl) (by kernel_rfl) (by kernel_rfl) (by kernel_rfl) (by kernel_rfl) (by kernel_rfl) (fun _ _ _ h => h) (Or.inl ⟨by rfl, ?_⟩) (fun _ => rfl) hS ?_
              rotate_left
              · intro w hSw
                obtain ⟨⟨x1, x2, x3⟩, ⟨y0, y1, y2⟩, ⟨z0, z1, z2⟩⟩ := C8.out w hSw
                go_simp
                try with_reducible rfl
              try simp only [Act.put, List.setIfInBounds_toArray, List.set_cons_zero, List.set_cons_succ]
              refine wpAnyZIn_one (i := 19) (by kernel_rfl) rfl (fun K hK => ?_)
              go_simp
              refine ⟨trivial, ?_⟩
              refine (callsIn_wide.2 (KD.out 1)).mono ?_
              rintro e U ⟨rfl, m, hU⟩
              have hS9 : ∃ n, U = w8.drewN n := ⟨1 + m, by rw [hU]; exact drewN_add _ _ _⟩
              clear hU
              refine hK.out _ _ (fun _ => hS9) ?_
              clear hK K hS
              refine wpAnyZIn_one (i := 35) (by kernel_rfl) rfl (fun K hK => ?_)
              go_simp
              refine hK.out _ _ (fun _ => hS9) ?_
              clear hK K
              have hbU : Below wo.heap.size wo U := by
                obtain ⟨n, rfl⟩ := hS9
                exact below_draws hb8 n
              have hJU : J pre U := HJ.out pre wo U none HL.out.j ⟨hbU.os, hbU.tape, hbU.output, hbU.size, fun k hk _ => hbU.block k hk⟩ (fun r e => by cases e)
              have hlen : pre.length < (chunksOf o a b).length := by
                rw [hC0.out, ← HL.out.cut, hcutq.out]
                simp
              obtain ⟨fn, tmps, assign, body, hy, hR⟩ := HY.out pre (ckOf o a b (p, q)) U hJU hlen
              dsimp only [encC, ckOf] at hy
              rw [hkd.out] at hy
              have HbU := Lib.hid hbU
              clear hbU hJU hlen
              refine wpAnyZIn_one (i := 36) (by kernel_rfl) rfl (fun K hK => ?_)
              go_simp
              refine hR.mono ?_
              rintro e W3 ⟨rfl, hJ3, hk3⟩
              have HK3 := Lib.hid hk3
              clear hk3
              refine hK.out _ _ (fun h => absurd (by decide) h) ?_
              clear hK K
              refine wpAnyZIn_one (i := 37) (by kernel_rfl) rfl (fun K hK => ?_)
              go_simp
              refine hK.out _ _ (fun h => absurd (by decide) h) ?_
              clear hK K
              refine wpAnyZIn_done (by kernel_rfl) ?_ _
              have s7 := HK3.out.2.2 g7 164 _ (.inl rfl) ((HL.out.r7.later hb8).later' hS9)
              have s9 := HK3.out.2.2 g9 164 _ (.inl rfl) ((hc8.out.2).later' hS9)
              obtain ⟨y0, y1, y2, f0, f1, f2⟩ := row3 s7
              obtain ⟨z0, z1, z2, -, -, -⟩ := row3 s9
              have S7 := Lib.hid s7
              clear s7 s9
              have hne : ∀ {x t : Nat} {cs : Array Value}, RowAt W3 x t cs → t ≠ 164 → x ≠ g7 := fun h ht => RowAt.ne_ h S7.out ht
              have hg8 : g8 ≠ g7 := fun e => HL.out.ne e.symm
              have hq7 := HL.out.q7
              have hw0 := HW.out.size
              have keep : ∀ {x t : Nat} {cs : Array Value}, (t = 164 ∨ t = 3 ∨ t = 138) → RowAt wo x t cs → RowAt W3 x t cs := fun ht h => HK3.out.2.2 _ _ _ ht (h.later HbU.out)
              have hfin : Hid (LI w0 W L R E o a b C0 J b1 b2 b3 a1 a2 a3 c1 c2 c3 ga gb g7 g8 q (pre ++ [ckOf o a b (p, q)]) (((W3.setCell ⟨g7, 0, none⟩ (.int .i64 q.o)).setCell ⟨g7, 1, none⟩ (.int .i64 q.a)).setCell ⟨g7, 2, none⟩ (.int .i64 q.b))) := Lib.hid {
                inv := Hnx.out
                cut := by rw [← HL.out.cut, hcutq.out, List.map_cons, List.append_assoc]; rfl
                j := HJ.out _ W3 _ (some g7) hJ3 ⟨rfl, rfl, rfl, by simp [World.setCell], fun k hk hne => by
                    have hk7 : k ≠ g7 := fun e => hne (by rw [e])
                    exact ((Below.heap_setCell _ ⟨g7, 2, none⟩ _ k hk7).trans (Below.heap_setCell _ ⟨g7, 1, none⟩ _ k hk7)).trans (Below.heap_setCell _ ⟨g7, 0, none⟩ _ k hk7)⟩
                  (fun r e => by cases e; exact ⟨hq7, _, S7.out, .inr ⟨_, rfl⟩⟩)
                bel := ((((HL.out.bel.trans (HbU.out.mono HL.out.bel.size)).trans HK3.out.2.1).setCell (p := ⟨g7, 0, none⟩) (Nat.le_trans hw0 hq7) _).setCell (p := ⟨g7, 1, none⟩) (Nat.le_trans hw0 hq7) _).setCell (p := ⟨g7, 2, none⟩) (Nat.le_trans hw0 hq7) _
                size := by
                  have h1 := HL.out.size
                  have h2 := HbU.out.size
                  have h3 := HK3.out.1
                  show W.heap.size ≤ _
                  simp [World.setCell]
                  omega
                s1 := by have h := keep (.inr (.inr rfl)) HL.out.s1; have hn := hne h (by decide); exact ((h.other hn 0 _).other hn 1 _).other hn 2 _
                s2 := by have h := keep (.inr (.inr rfl)) HL.out.s2; have hn := hne h (by decide); exact ((h.other hn 0 _).other hn 1 _).other hn 2 _
                s3 := by have h := keep (.inr (.inr rfl)) HL.out.s3; have hn := hne h (by decide); exact ((h.other hn 0 _).other hn 1 _).other hn 2 _
                ra := by have h := keep (.inr (.inl rfl)) HL.out.ra; have hn := hne h (by decide); exact ((h.other hn 0 _).other hn 1 _).other hn 2 _
                rb := by have h := keep (.inr (.inl rfl)) HL.out.rb; have hn := hne h (by decide); exact ((h.other hn 0 _).other hn 1 _).other hn 2 _
                r7 := row3_set S7.out _ _ _
                r8 := by have h := keep (.inl rfl) HL.out.r8; exact ((h.other hg8 0 _).other hg8 1 _).other hg8 2 _
                ne := HL.out.ne
                q7 := HL.out.q7
                q8 := HL.out.q8 }
              clear hne keep hJ3
              gi_wp2
              refine ⟨⟨_, _, hfin⟩, ?_⟩
              rw [psum_row hfin.out.r7, hps.out]
              have := Hnx.out.le
              omega
end Go.Proofs.YtbekbllffphfeaaDoor.L
/-
  For the laws of node: the same range where the round's variable is a box. No condition.
-/
namespace Go.Proofs.YtbekbllffphfeaaDoor.L
open Go.RowKit Go.Shelf
set_option linter.unusedSimpArgs false
set_option linter.unusedVariables false

theorem rngU {α : Type} {F : Fence} {n : Nat} {g : Operand} {ps : Array Tmp} {assign body : Code} {Q : Exit → Act → World → Prop} {a : Act} {w : World}
    (hro : F.round = none) (h1 : 1 ≤ n) {gf : Nat} {lb : Array Value} (hg : a.eval g = .func (.func gf) #[] lb) (hFg : F.fn gf) (eg : ∀ args w, (callFunc gf args).run Tryd.prog w = .ok (.enter gf args) w)
    {encs : α → Array Value} {Kp : World → World → Prop} {S : List α → Prop} {N : Nat} {w0 : World} (hseq : SeqT F (n - 1) gf lb encs Kp S N w0)
    (hKt : ∀ {A B C : World}, Kp A B → Kp B C → Kp A C) (hKb : ∀ (W : World) (l : Nat) (o o' : Obj), w.heap.size ≤ l → W.heap[l]? = some o → o.isCells = false → Kp W (W.putObj l o')) (hb0 : Below w0.heap.size w0 w) (hps : ∀ x, (encs x).size = ps.size)
    (I : List α → World → Prop) (hI : AbT w.heap.size I) (h0 : I [] w) (Ax : α → Act → World → Prop)
    (hAx : ∀ (x : α) (a' : Act) (A : World) (l : Nat) (o o' : Obj), Ax x a' A → w.heap.size ≤ l → A.heap[l]? = some o → o.isCells = false → Ax x a' (A.putObj l o'))
    (hassign : ∀ (l : Nat) (pre : List α) (x : α) (W : World) (K : Act → World → Prop), I pre W → pre.length < N → (∀ a' W', KeepsFrom w.heap.size W W' → Kp W W' → I pre W' → Ax x a' W' → K a' W') →
      assign.wpIn (F.inRound l) (n - 1 - 1) Tryd.prog (Exit.then K (fun _ _ _ => False)) { tmps := (ps.zip (encs x)).foldl (fun t (p, v) => t.setIfInBounds p v) a.tmps, defers := [] } W)
    (hbody : ∀ (l : Nat) (pre : List α) (x : α) (a' : Act) (W : World), I pre W → Ax x a' W → pre.length < N → body.wpIn (F.inRound l) (n - 1 - 1) Tryd.prog (postT w.heap.size Kp I (pre ++ [x]) W) a' W)
    (hdone : ∀ (D : Nat) (xs : List α) (W : World), w.heap.size ≤ D → S xs → I xs W → W.heap[D]? = some (.deferred (some [])) → Q .normal { a with defers := { target := .collected D, args := #[] } :: a.defers } W) :
    (Code.rangeFunc g ps assign body).wpIn F n Tryd.prog Q a w := by
  refine wpIn_rangeFunc ?_
  intro fn hfn
  rw [hro]
  obtain ⟨lp, hlp⟩ : ∃ lp : LoopState → Option Code → Loop, lp = fun st pe => { state := st, pending := pe, fn, tmps := a.tmps, params := ps, assign, body, defers := w.heap.size } := ⟨_, rfl⟩
  obtain ⟨V, hV⟩ : ∃ V, (w.alloc (.deferred (some []))).alloc (.loop (lp .ready none)) = V := ⟨_, rfl⟩
  have vl : V.heap[w.heap.size + 1]? = some (.loop (lp .ready none)) := by
    have h := World.alloc_heap_new (w.alloc (.deferred (some []))) (.loop (lp .ready none))
    rw [World.size_alloc, hV] at h
    exact h
  have vd : V.heap[w.heap.size]? = some (.deferred (some [])) := by
    rw [← hV]
    exact (Below.heap_alloc _ _ _ (by simp)).trans (World.alloc_heap_new w _)
  have vs : V.heap.size = w.heap.size + 2 := by rw [← hV]; simp
  have vb : Below w0.heap.size w0 V := by
    rw [← hV]
    exact (hb0.alloc hb0.size _).alloc (by rw [World.size_alloc]; have := hb0.size; omega) _
  refine ⟨w.heap.size + 1, [{ target := .collected w.heap.size, args := #[] }], V, { target := .fn (.func gf) lb, args := #[.func (.yield (w.heap.size + 1)) #[] #[]] }, V, gf, #[.func (.yield (w.heap.size + 1)) #[] #[]] ++ lb, V, ?_, ?_, ?_, ?_, fun _ => h1, ?_⟩
  · rw [← hV, hlp]
    exact run_enterLoop_outer _ _ _ _ _
  · simp only [resolve, hg]
    simp [go_sem]
  · intro f hf
    simp [Target.leads] at hf
    subst hf
    exact hFg
  · simp [invoke, go_sem, eg]
  have call := hseq (w.heap.size + 1) (fun pre W => I pre W ∧ W.heap[w.heap.size + 1]? = some (.loop (lp .ready none)) ∧ W.heap[w.heap.size]? = some (.deferred (some []))) V vb
    (fun s A A' row ⟨i1, i2, i3⟩ hgr hr => by
      have hs := (Array.getElem?_eq_some_iff.1 i2).1
      refine ⟨hI s A A' row i1 hgr (fun r e => ⟨by have := (hr r e).1; omega, (hr r e).2⟩), (hgr.block _ hs (fun e => ?_)).trans i2, (hgr.block _ (by omega) (fun e => ?_)).trans i3⟩
      · have := (hr _ e.symm).1; omega
      · have := (hr _ e.symm).1; omega)
    (fun pre x W ⟨i1, i2, i3⟩ hlen => by
      have hs := (Array.getElem?_eq_some_iff.1 i2).1
      have hy := run_yield (P := Tryd.prog) (args := encs x) i2 (by rw [hlp]; exact hps x)
      rw [hlp] at hy
      refine ⟨fn, _, assign, body, hy, roundIn_of_wpIn hfn (hassign _ pre x W _ i1 hlen (fun a' Wa ka kp ia xa => ?_))⟩
      have i2a := ka.same _ _ (by omega) i2 rfl
      have i3a := ka.same _ _ (Nat.le_refl _) i3 rfl
      have hsa := (Array.getElem?_eq_some_iff.1 i2a).1
      refine ⟨_, run_beginRound i2a (by rw [hlp]), ?_⟩
      obtain ⟨B0, hB0⟩ : ∃ B0, Wa.putObj (w.heap.size + 1) (.loop { lp .ready none with state := .busy }) = B0 := ⟨_, rfl⟩
      rw [hB0]
      have bl : B0.heap[w.heap.size + 1]? = some (.loop { lp .ready none with state := .busy }) := by rw [← hB0]; exact World.putObj_heap_same hsa
      have bd : B0.heap[w.heap.size]? = some (.deferred (some [])) := by rw [← hB0]; exact (World.putObj_heap_other (by omega)).trans i3a
      have bk : Kp W B0 := by rw [← hB0]; exact hKt kp (hKb _ _ _ _ (by omega) i2a rfl)
      have bi : I pre B0 := by rw [← hB0]; exact hI.put _ ia (by omega) i2a rfl
      have bx : Ax x a' B0 := by rw [← hB0]; exact hAx _ _ _ _ _ _ xa (by omega) i2a rfl
      refine wpIn_mono (hbody _ pre x a' _ bi bx hlen) ?_
      rintro e a3 C hp
      cases e with
      | normal =>
        obtain ⟨k1, k2, k3⟩ := hp
        have cl := k1.same _ _ (by omega) bl rfl
        have cd := k1.same _ _ (Nat.le_refl _) bd rfl
        have hr := run_endRound (P := Tryd.prog) none cl
        rw [hlp] at hr cl
        refine ⟨_, _, hr, rfl, ⟨hI.put _ k3 (by omega) cl rfl, ?_, (World.putObj_heap_other (by omega)).trans cd⟩, hKt (hKt bk k2) (hKb _ _ _ _ (by omega) cl rfl)⟩
        rw [hlp]
        exact World.putObj_heap_same (Array.getElem?_eq_some_iff.1 cl).1
      | ret => exact hp.elim
      | exit id => exact hp.elim
      | goto t => exact hp.elim
      | panic ch => exact hp.elim
      | outgrown => exact hp.elim)
    ⟨by rw [← hV]; exact hI.alloc _ (hI.alloc _ h0), vl, vd⟩
  refine call.mono ?_
  rintro e W2 ⟨⟨v, rfl⟩, xs, hS, i1, i2, i3⟩
  have hr := run_endLoop (P := Tryd.prog) i2 (by rw [hlp]; simp)
  rw [hlp] at hr i2
  exact ⟨none, _, hr, hdone _ xs _ (Nat.le_refl _) hS (hI.put _ i1 (by omega) i2 rfl) ((World.putObj_heap_other (by omega)).trans i3)⟩
end Go.Proofs.YtbekbllffphfeaaDoor.L
/-
  For the laws of weave: the chunks of three rows. Condition: rows of at most 1,000,000 things; both matches rise.
-/
namespace Go.Proofs.YtbekbllffphfeaaDoor.L
open Go.RowKit Go.Shelf
set_option linter.unusedSimpArgs false
set_option linter.unusedVariables false

attribute [local go_sem] Oper.semAt_some

def ckv (c : Ck) : List Value := [.int .i64 c.kind, .int .i64 (c.p.o : Nat), .int .i64 (c.q.o : Nat), .int .i64 (c.p.a : Nat), .int .i64 (c.q.a : Nat), .int .i64 (c.p.b : Nat), .int .i64 (c.q.b : Nat)]
def fck (l : List Ck) : List Value := l.flatMap ckv
theorem infoCk : (Tryd.prog.info? 119).map (fun i => (i.zero, i.size, i.bytes)) = some (some (.agg #[.int .i64 0, .int .i64 0, .int .i64 0, .int .i64 0, .int .i64 0, .int .i64 0, .int .i64 0]), 7, 56) := by kernel_rfl

theorem ckv_len (c : Ck) : (ckv c).length = 7 := rfl
theorem fck_len (l : List Ck) : (fck l).length = l.length * 7 := by
  unfold fck
  induction l with
  | nil => rfl
  | cons c l ih => rw [List.flatMap_cons, List.length_append, ih, ckv_len, List.length_cons]; omega
theorem fck_snoc (l : List Ck) (c : Ck) : fck (l ++ [c]) = fck l ++ ckv c := by unfold fck; rw [List.flatMap_append]; simp
theorem cuts_len (L R : List Int) (E : P3) : ∀ (n : Nat) (p : P3), (cuts L R E n p).length ≤ n
  | 0, _ => Nat.le_refl _
  | n + 1, p => by
    unfold cuts
    split
    · exact Nat.zero_le _
    · rw [List.length_cons]; exact Nat.succ_le_succ (cuts_len L R E n _)
theorem chunks_len (o a b : List Int) : (chunksOf o a b).length ≤ o.length + a.length + b.length := by
  unfold chunksOf cutsAt
  rw [List.length_map]
  refine Nat.le_trans (cuts_len _ _ _ _ _) ?_
  simp [P3.sum]
theorem add_flat (b o j : Nat) : (⟨b, o, none⟩ : Addr).add j = ⟨b, o + j, none⟩ := by
  by_cases h0 : j = 0 <;> simp [Addr.add, h0]
theorem ck_new (W : World) (c : Ck) (t : TypeId) : ∀ j u, (ckv c)[j]? = some u → (W.alloc (.cells (ckv c).toArray t)).cell? ((⟨W.heap.size, 0, none⟩ : Addr).add j) = some u := by
  intro j u hj
  rw [add_flat, Nat.zero_add]
  exact (RowAt.new W t _).cell (by simpa using hj)
theorem ck_one (c : Ck) : ∀ u ∈ ckv c, u.oneCell' = true := by
  intro u hu
  simp [ckv] at hu
  rcases hu with rfl | rfl | rfl | rfl | rfl | rfl | rfl <;> rfl
theorem own_low {W : World} {b base e size n : Nat} {v : Value} {xs : List Value} (h : W.ownsRow b e size v n xs) (hb : base ≤ b) : W.ownsRow base e size v n xs := by
  refine ⟨h.1, ?_⟩
  rcases h.2 with h0 | ⟨g, cap, cur, e1, h1, hg, h2, h3, h4, h5⟩
  · exact .inl h0
  · exact .inr ⟨g, cap, cur, e1, Nat.le_trans hb h1, hg, h2, h3, h4, h5⟩
/-- What the boxes hold between rounds. -/
def CI (n0 : Nat) (w : World) (pre : List Ck) (W : World) : Prop := (∃ v, Boxed W n0 114 v ∧ W.ownsRow (n0 + 4) 119 7 v pre.length (fck pre)) ∧ Below n0 w W ∧ n0 + 4 ≤ W.heap.size
theorem ci_ab (n0 : Nat) (w : World) : AbT (n0 + 4) (CI n0 w) := by
  intro s A A' row ⟨⟨v, h1, h2⟩, h3, h4⟩ hg hr
  have hne : ∀ (q : Nat) (cs : Array Value) (t : TypeId) (fz : Nat × Nat), A.heap[q]? = some (.cells cs t fz) → t ≠ 164 → some q ≠ row := fun q cs t fz hq ht e => by
    obtain ⟨_, o, ho, hm⟩ := hr q e.symm
    rw [hq] at ho; cases ho
    rcases hm with hm | ⟨cs', hm⟩
    · cases hm
    · cases hm; exact ht rfl
  refine ⟨⟨v, h1.kept hg (hne _ _ _ _ h1 (by decide)), h2.kept hg ?_⟩, ?_, Nat.le_trans h4 hg.size⟩
  · rcases h2.2 with ⟨rfl, _⟩ | ⟨g, cap, cur, rfl, _, hq, _⟩
    · exact .inl rfl
    · exact .inr (hne g _ _ _ hq (by decide))
  · exact h3.trans ((Below.refl n0 A).grown hg (by omega) (fun k e => by have := (hr k e).1; omega))
def AxC (n0 : Nat) (T : Nat → Value → Array Value) (x : Ck) (a' : Act) (W : World) : Prop := ∃ g, n0 + 4 ≤ g ∧ RowAt W g 119 (ckv x).toArray ∧ (∃ v, Boxed W n0 114 v ∧ v.ownBlock ≠ some g) ∧ a' = { tmps := T g (.agg (ckv x).toArray), defers := [] }
set_option maxRecDepth 100000 in
set_option maxHeartbeats 4000000 in
theorem Chunks_in (fu : Nat) (hn : 3 ≤ fu) (w : World) (v1 v2 v3 : Value) (o a b : List Int) (i1 : Ints w .i64 v1 o) (i2 : Ints w .i64 v2 a) (i3 : Ints w .i64 v3 b) (l1 : o.length ≤ 1000000) (l2 : a.length ≤ 1000000) (l3 : b.length ≤ 1000000)
    (m1 : isMatch a.length 0 (matchOf o a)) (m2 : isMatch b.length 0 (matchOf o b)) :
    CallsIn Fence.wide fu Tryd.prog 71 #[v1, v2, v3] w fun e w' => ∃ v, e = .returned v ∧ w'.ownsRow w.heap.size 119 7 v (chunksOf o a b).length (fck (chunksOf o a b)) ∧ Below w.heap.size w w' := by
  have hro : Fence.wide.round = none := rfl
  have h1 : 1 ≤ fu := by omega
  obtain ⟨i0, hi, hz0, hz1, hz2⟩ := info_parts infoCk
  have C1 := Lib.hid (fun U (hU : Below w.heap.size w U) => each_any v1 v2 v3 o a b U (i1.below hU) (i2.below hU) (i3.below hU))
  have J1 := Lib.hid i1
  have J2 := Lib.hid i2
  have J3 := Lib.hid i3
  obtain ⟨a1, c1, rfl, -⟩ := i1
  obtain ⟨a2, c2, rfl, -⟩ := i2
  obtain ⟨a3, c3, rfl, -⟩ := i3
  refine callsIn_of_wp_marks Tryd.func71 rfl trivial ?_ hro
  simp only [Tryd.ntmps71, List.size_toArray, List.length_cons, List.length_nil, Nat.reduceAdd, Nat.reduceSub, Array.replicate_succ, Array.replicate_zero, List.push_toArray, List.append_toArray, List.nil_append, List.cons_append]
  gi_wp2
  refine ⟨trivial, ?_⟩
  refine (callsIn_wide.2 (C1.out _ ((Below.refl _ w).alloc (Nat.le_refl _) _))).mono ?_
  rintro e w1 ⟨rfl, hw1⟩
  have hb1 : Below w.heap.size w w1 := by
    rw [hw1]
    exact ((((Below.refl _ w).alloc (Nat.le_refl _) _).alloc (by simp) _).alloc (by simp; omega) _).alloc (by simp; omega) _
  have hs1 : w1.heap.size = w.heap.size + 4 := by rw [hw1]; simp
  have q0 : Boxed w1 w.heap.size 114 (.slice none 0 0) := by
    rw [hw1]
    exact ((((Boxed.new w 114 (.slice none 0 0)).alloc _).alloc _).alloc _)
  have q1 : RowAt w1 (w.heap.size + 1) 138 #[.slice a1 o.length c1] := by
    rw [hw1]
    have h := RowAt.new (w.alloc (.cells #[.slice none 0 0] 114)) 138 #[.slice a1 o.length c1]
    rw [World.size_alloc] at h
    exact (h.alloc _).alloc _
  have q2 : RowAt w1 (w.heap.size + 1 + 1) 138 #[.slice a2 a.length c2] := by
    rw [hw1]
    have h := RowAt.new ((w.alloc (.cells #[.slice none 0 0] 114)).alloc (.cells #[.slice a1 o.length c1] 138)) 138 #[.slice a2 a.length c2]
    rw [World.size_alloc, World.size_alloc] at h
    exact h.alloc _
  have q3 : RowAt w1 (w.heap.size + 1 + 1 + 1) 138 #[.slice a3 b.length c3] := by
    rw [hw1]
    have h := RowAt.new (((w.alloc (.cells #[.slice none 0 0] 114)).alloc (.cells #[.slice a1 o.length c1] 138)).alloc (.cells #[.slice a2 a.length c2] 138)) 138 #[.slice a3 b.length c3]
    rw [World.size_alloc, World.size_alloc, World.size_alloc] at h
    exact h
  clear hw1
  have hlen := chunks_len o a b
  have hseq := each1_in (fu - 1) (by omega) w w1 _ _ _ _ _ _ o a b J1.out J2.out J3.out l1 l2 l3 m1 m2 hb1 q1 q2 q3
  gi_wp2
  refine rngU hro h1 (gf := 88) (lb := #[.pointer (some ⟨w.heap.size + 1, 0, none⟩), .pointer (some ⟨w.heap.size + 1 + 1, 0, none⟩), .pointer (some ⟨w.heap.size + 1 + 1 + 1, 0, none⟩)]) rfl trivial (enters_of Tryd.func88 (by kernel_rfl) rfl)
    hseq (fun h k => KpC.trans h k) (fun W l o o' h1 h2 h3 => kpC_put (by omega) W l o o' h1 h2 h3) (Below.refl _ _) (fun _ => rfl)
    (CI w.heap.size w) (by rw [hs1]; exact ci_ab _ _) ⟨⟨_, q0, World.ownsRow_nil _ _ _ _⟩, hb1, by omega⟩
    (AxC w.heap.size (fun g x => #[.slice a1 o.length c1, .slice a2 a.length c2, .slice a3 b.length c3, undef, undef, undef, .slice none 0 0, .pointer (some ⟨w.heap.size, 0, none⟩), .pointer (some ⟨g, 0, none⟩), .slice a1 o.length c1, .slice a2 a.length c2, .slice a3 b.length c3, .func (.func 88) #[] #[.pointer (some ⟨w.heap.size + 1, 0, none⟩), .pointer (some ⟨w.heap.size + 1 + 1, 0, none⟩), .pointer (some ⟨w.heap.size + 1 + 1 + 1, 0, none⟩)], x, undef, undef, undef, undef, undef]))
    ?ax ?assign ?body ?done
  case ax =>
    rintro x a' A l o o' ⟨g, g1, g2, ⟨v, g3, g4⟩, g5⟩ hl hq hc
    refine ⟨g, g1, g2.same (World.putObj_heap_other ?_), ⟨v, (World.putObj_heap_other ?_).trans g3, g4⟩, g5⟩
    · rintro rfl; rw [show A.heap[g]? = _ from g2] at hq; cases hq; cases hc
    · omega
  case assign =>
    rintro l pre x W K ⟨⟨v, h2, h3⟩, h4, h5⟩ hlt hK
    dsimp only [encC]
    gi_wp2
    exact hK _ _ ((KeepsOthers.alloc _ _).from _) ⟨by simp, (Below.refl _ _).alloc (by omega) _, fun b t cs _ h => h.alloc _⟩ ⟨⟨v, h2.alloc _, h3.alloc _⟩, h4.alloc h4.size _, by simp; omega⟩ ⟨W.heap.size, h5, RowAt.new W 119 _, ⟨v, h2.alloc _, fun e => by have := (h3.lt _ e).2; omega⟩, rfl⟩
  case done =>
    rintro D ys W hD rfl ⟨⟨v, h2, h3⟩, h4, h5⟩ hK
    have hc := h2.cell
    gi_wp2
    refine ⟨by simp, .inl ⟨_, _, rfl, run_takeDeferred hK, ?_⟩⟩
    exact ⟨_, results_tmp rfl _ _ _, v, rfl, ownsRow_putObj (own_low h3 (by omega)) _ hK rfl, h4.trans (belowK_b (w := w) (Nat.le_refl _) W D _ _ (by omega) hK rfl rfl)⟩
  case body =>
    rintro l pre x a' W ⟨⟨v, h2, h3⟩, h4, h5⟩ ⟨g, g1, g2, ⟨v', g3, g4⟩, rfl⟩ hlt
    obtain ⟨e0, e1, e2, e3, e4, e5, e6⟩ : W.cell? ⟨g, 0, none⟩ = some (.int .i64 x.kind) ∧ W.cell? ⟨g, 1, none⟩ = some (.int .i64 (x.p.o : Nat)) ∧ W.cell? ⟨g, 2, none⟩ = some (.int .i64 (x.q.o : Nat)) ∧ W.cell? ⟨g, 3, none⟩ = some (.int .i64 (x.p.a : Nat)) ∧ W.cell? ⟨g, 4, none⟩ = some (.int .i64 (x.q.a : Nat)) ∧ W.cell? ⟨g, 5, none⟩ = some (.int .i64 (x.p.b : Nat)) ∧ W.cell? ⟨g, 6, none⟩ = some (.int .i64 (x.q.b : Nat)) := ⟨g2.cell rfl, g2.cell rfl, g2.cell rfl, g2.cell rfl, g2.cell rfl, g2.cell rfl, g2.cell rfl⟩
    have hc := h2.cell
    have hkp : ∀ (b t : Nat) (cs : Array Value), (t = 164 ∨ t = 3 ∨ t = 138) → RowAt W b t cs → some b ≠ v.ownBlock ∧ b ≠ w.heap.size := fun b t cs ht hb => by
      refine ⟨fun e => ?_, ?_⟩
      · rcases h3.2 with ⟨rfl, _⟩ | ⟨q, cap, cur, rfl, _, hq, _⟩
        · simp [Value.ownBlock] at e
        · obtain rfl : b = q := by simpa [Value.ownBlock] using e
          rw [show W.heap[b]? = _ from hb] at hq
          cases hq
          omega
      · intro e
        rw [e] at hb
        have h22 : W.heap[w.heap.size]? = some (.cells #[v] 114) := h2
        rw [show W.heap[w.heap.size]? = _ from hb] at h22
        cases h22
        omega
    have Hkp := Lib.hid hkp
    clear hkp
    gi_wp2_with (gi_at_builtin; refine wpListIn_append_own _ rfl _ _ 114 rfl (w.heap.size + 4) 119 i0 _ 7 56 Tryd.underlying114 hi hz0 hz1 hz2 rfl (by decide) _ _ _ rfl (h3.alloc _) ⟨W.heap.size, 0, none⟩ 1 1 (ckv x) rfl rfl (ck_new W x _) (ck_one x) (by unfold maxLen; omega) (by omega) (by simp; omega) ?_; intro v2 w2 hown' hgrow _; obtain ⟨g', cap', rfl⟩ := ownsRow_succ hown'; obtain ⟨hv1, hv3, hr2, hk2, hb2, hbx⟩ := S.appended2 h2 h3 h5 (by omega) hown' hgrow; have hc1 := hv1.cell; have hf1 := hv1.frozen)
    refine ⟨hk2.from _, ⟨by have := hb2.size; exact this, hb2, fun b t cs ht hb => ?_⟩, ⟨_, hv3, by rw [fck_snoc]; simpa using hr2⟩, h4.trans hb2, Nat.le_trans h5 hb2.size⟩
    obtain ⟨n1, n2⟩ := Hkp.out b t cs ht hb
    have hlt2 := hb.lt
    exact ((Below.heap_setCell _ ⟨w.heap.size, 0, none⟩ _ b n2).trans (hgrow.block b (by simp; omega) n1)).trans ((Below.heap_alloc W _ b hlt2).trans hb)
end Go.Proofs.YtbekbllffphfeaaDoor.L
/-
  For the laws of weave: the chunks of three rows of texts. Condition: rows of at most 2,000 texts.
-/
namespace Go.Proofs.YtbekbllffphfeaaDoor.L
open Go.RowKit Go.Shelf
set_option linter.unusedSimpArgs false
set_option linter.unusedVariables false

theorem good_isMatch : ∀ (l a b : List Int) (k : Int), 0 ≤ k → good l a b k → isMatch (k + b.length) k l ∧ l.length = a.length ∧ ∀ (i : Nat) (x : Int), l[i]? = some x → 0 ≤ x → k ≤ x ∧ a[i]? = b[(x - k).toNat]?
  | [], [], b, k, hk, _ => ⟨by show 0 ≤ k + b.length; omega, rfl, by simp⟩
  | m :: l, x :: a, b, k, hk, h => by
    rcases h with ⟨h1, h2⟩ | ⟨h1, h2, h3, h4⟩
    · obtain ⟨g1, g2, g3⟩ := good_isMatch l a b k hk h2
      refine ⟨⟨by omega, by omega, by omega, by rw [if_neg (by omega)]; exact g1⟩, by simp [g2], ?_⟩
      intro i y hy h0
      cases i with
      | zero => simp at hy; omega
      | succ i => simpa using g3 i y (by simpa using hy) h0
    · obtain ⟨g1, g2, g3⟩ := good_isMatch l a (b.drop ((m - k).toNat + 1)) (m + 1) (by omega) h4
      have e : m + 1 + ((b.drop ((m - k).toNat + 1)).length : Int) = k + b.length := by rw [List.length_drop]; omega
      rw [e] at g1
      refine ⟨⟨by omega, h2, fun _ => h1, by rw [if_pos (by omega)]; exact g1⟩, by simp [g2], ?_⟩
      intro i y hy h0
      cases i with
      | zero =>
        obtain rfl : m = y := by simpa using hy
        exact ⟨h1, by rw [h3]; rfl⟩
      | succ i =>
        obtain ⟨q1, q2⟩ := g3 i y (by simpa using hy) h0
        refine ⟨by omega, ?_⟩
        rw [List.getElem?_cons_succ, q2, List.getElem?_drop]
        congr 1
        omega
  | [], _ :: _, _, _, _, h => h.elim
  | _ :: _, [], _, _, _, h => h.elim
theorem isMatch_of {m : Int} (hm : 0 ≤ m) : ∀ (l : List Int) (q : Int), (∀ x ∈ l, -1 ≤ x ∧ x < m ∧ (0 ≤ x → q ≤ x)) → l.Pairwise (fun x y => 0 ≤ x → 0 ≤ y → x < y) → isMatch m q l
  | [], _, _, _ => hm
  | x :: l, q, h, hp => by
    obtain ⟨h1, h2⟩ := List.pairwise_cons.1 hp
    obtain ⟨a1, a2, a3⟩ := h x List.mem_cons_self
    refine ⟨a1, a2, a3, isMatch_of hm l _ (fun y hy => ?_) h2⟩
    obtain ⟨b1, b2, b3⟩ := h y (List.mem_cons_of_mem _ hy)
    refine ⟨b1, b2, fun hy0 => ?_⟩
    split
    · rename_i hx
      have := h1 y hy hx hy0
      omega
    · exact b3 hy0
theorem sfx_run {a b : List Int} {j : Nat} (h : j < sfx a b) : a[a.length - 1 - j]? = b[b.length - 1 - j]? := by
  have h2 := sfx_le a b
  have h1 := pfx_run (a := (a.drop (pfx a b)).reverse) (b := (b.drop (pfx a b)).reverse) (k := j) h
  rwa [rev_drop_get a (pfx a b) j (by omega), rev_drop_get b (pfx a b) j (by omega)] at h1
theorem long_ok (a b : List Int) : isMatch b.length 0 ((List.range a.length).map (longAt a.length b.length (pfx a b) (sfx a b))) ∧ ∀ (i : Nat) (x : Int), ((List.range a.length).map (longAt a.length b.length (pfx a b) (sfx a b)))[i]? = some x → 0 ≤ x → a[i]? = b[x.toNat]? := by
  have h1 := pfx_le a b
  have h2 := sfx_le a b
  constructor
  · refine isMatch_of (Int.natCast_nonneg _) _ _ (fun x hx => ?_) (List.pairwise_map.2 (List.pairwise_lt_range.imp_of_mem (fun hi hj hlt => ?_)))
    · obtain ⟨j, hj, rfl⟩ := List.mem_map.1 hx
      have hj2 := List.mem_range.1 hj
      unfold longAt
      split
      · omega
      · split <;> omega
    · have hi2 := List.mem_range.1 hi
      have hj2 := List.mem_range.1 hj
      unfold longAt
      intro q1 q2
      split at q1 <;> split at q2 <;> (try split at q1) <;> (try split at q2) <;> (repeat split) <;> omega
  · intro i x hx h0
    obtain ⟨hi, rfl⟩ : i < a.length ∧ longAt a.length b.length (pfx a b) (sfx a b) i = x := by
      rw [List.getElem?_map] at hx
      obtain ⟨j, hj, rfl⟩ := Option.map_eq_some_iff.1 hx
      obtain ⟨hl, rfl⟩ := List.getElem?_eq_some_iff.1 hj
      simp at hl ⊢
      exact hl
    unfold longAt at h0 ⊢
    split
    · rename_i c
      rw [Int.toNat_natCast]
      exact pfx_run c
    · rename_i c
      rw [if_neg c] at h0
      split
      · rename_i d
        have h3 := sfx_run (a := a) (b := b) (j := a.length - 1 - i) (by omega)
        rw [show a.length - 1 - (a.length - 1 - i) = i by omega] at h3
        rw [h3]
        congr 1
        omega
      · rename_i d
        rw [if_neg d] at h0
        omega
/-- The match of two rows rises, and matches what is alike. -/
theorem match_ok {a b : List Int} (ha : a.length ≤ 2600) (hb : b.length ≤ 2600) : isMatch b.length 0 (matchOf a b) ∧ ∀ (i : Nat) (x : Int), (matchOf a b)[i]? = some x → 0 ≤ x → a[i]? = b[x.toNat]? := by
  by_cases hl : 2000 < a.length ∨ 2000 < b.length
  · have hm : matchOf a b = (List.range a.length).map (longAt a.length b.length (pfx a b) (sfx a b)) := by unfold matchOf; rw [if_pos hl]
    rw [hm]
    exact long_ok a b
  have hm : matchOf a b = gm a b 0 := by unfold matchOf; rw [if_neg (by omega)]
  have hg := gm_good a b 0
  rw [← hm] at hg
  obtain ⟨g1, g2, g3⟩ := good_isMatch _ _ _ 0 (Int.le_refl _) hg
  refine ⟨by simpa using g1, fun i x hx h0 => ?_⟩
  have := (g3 i x hx h0).2
  rwa [Int.sub_zero] at this
/-- The numbers of three rows of texts. -/
def num3 (o a b : List ByteArray) : List Int × List Int × List Int := (numRow [] o, numRow (knownBy [] o) a, numRow (knownBy (knownBy [] o) a) b)
def chunksT (o a b : List ByteArray) : List Ck := chunksOf (num3 o a b).1 (num3 o a b).2.1 (num3 o a b).2.2

set_option maxRecDepth 100000 in
set_option maxHeartbeats 4000000 in
theorem Parts_any (v1 v2 v3 : Value) (o a b : List ByteArray) (w : World) (h1 : Vals w v1 (o.map .string)) (h2 : Vals w v2 (a.map .string)) (h3 : Vals w v3 (b.map .string)) (hl1 : o.length ≤ 2600) (hl2 : a.length ≤ 2600) (hl3 : b.length ≤ 2600) (hs1 : ∀ s ∈ o, s.size ≤ maxLen) (hs2 : ∀ s ∈ a, s.size ≤ maxLen) (hs3 : ∀ s ∈ b, s.size ≤ maxLen) :
    Calls Tryd.prog 54 #[v1, v2, v3] w fun e w' => ∃ v, e = .returned v ∧ w'.ownsRow w.heap.size 119 7 v (chunksT o a b).length (fck (chunksT o a b)) ∧ Below w.heap.size w w' := by
  obtain ⟨p1, k1, rfl, -, -, -⟩ := h1.at
  obtain ⟨p2, k2, rfl, -, -, -⟩ := h2.at
  obtain ⟨p3, k3, rfl, -, -, -⟩ := h3.at
  generalize (o.map Value.string).length = z1 at h1 ⊢
  generalize (a.map Value.string).length = z2 at h2 ⊢
  generalize (b.map Value.string).length = z3 at h3 ⊢
  have bA : Below w.heap.size w (w.alloc (.cells #[.slice p1 z1 k1, .slice p2 z2 k2, .slice p3 z3 k3] 57)) := (Below.refl _ _).alloc (Nat.le_refl _) _
  have hv : Vals (w.alloc (.cells #[.slice p1 z1 k1, .slice p2 z2 k2, .slice p3 z3 k3] 57)) (.slice (some ⟨w.heap.size, 0, none⟩) 3 3) [.slice p1 z1 k1, .slice p2 z2 k2, .slice p3 z3 k3] := vals_of_row (vs := [.slice p1 z1 k1, .slice p2 z2 k2, .slice p3 z3 k3]) (RowAt.new _ _ _) (by simp [maxLen])
  have g1 := h1.below bA
  have g2 := h2.below bA
  have g3 := h3.below bA
  have Hv := Lib.hid hv; clear hv
  have HB := Lib.hid bA; clear bA
  go_enter Tryd.func54, Tryd.ntmps54
  go_wp2_with fail
  refine (Numbers_any _ [.slice p1 z1 k1, .slice p2 z2 k2, .slice p3 z3 k3] [o, a, b] _ Hv.out rfl (fun j x ss hx hs => ?_) (by simp)).mono ?_
  · match j with
    | 0 => simp at hx hs; subst hx hs; exact ⟨g1, by omega, hs1⟩
    | 1 => simp at hx hs; subst hx hs; exact ⟨g2, by omega, hs2⟩
    | 2 => simp at hx hs; subst hx hs; exact ⟨g3, by omega, hs3⟩
    | j + 3 => simp at hx
  rintro e w1 ⟨v, vals, rfl, hvals, ⟨hvl, hout⟩, b1⟩
  obtain ⟨q0, e0, r0⟩ := hout 0 (numRow [] o) rfl
  obtain ⟨q1, e1, r1⟩ := hout 1 (numRow (knownBy [] o) a) rfl
  obtain ⟨q2, e2, r2⟩ := hout 2 (numRow (knownBy (knownBy [] o) a) b) rfl
  have i0 : Ints w1 .i64 (.slice (some ⟨q0, 0, none⟩) (numRow [] o).length (numRow [] o).length) (numRow [] o) := ints_of_row r0 (by rw [numRow_length]; unfold maxLen; omega)
  have i1 : Ints w1 .i64 (.slice (some ⟨q1, 0, none⟩) (numRow (knownBy [] o) a).length (numRow (knownBy [] o) a).length) (numRow (knownBy [] o) a) := ints_of_row r1 (by rw [numRow_length]; unfold maxLen; omega)
  have i2 : Ints w1 .i64 (.slice (some ⟨q2, 0, none⟩) (numRow (knownBy (knownBy [] o) a) b).length (numRow (knownBy (knownBy [] o) a) b).length) (numRow (knownBy (knownBy [] o) a) b) := ints_of_row r2 (by rw [numRow_length]; unfold maxLen; omega)
  obtain ⟨av, cv, rfl, -, -, hat⟩ := hvals.at
  rw [show vals.length = 3 from hvl]
  obtain ⟨bb, oo, rfl, -, c0⟩ := hat 0 _ e0
  obtain ⟨bb', oo', hh, -, c1⟩ := hat 1 _ e1
  cases hh
  obtain ⟨bb', oo', hh, -, c2⟩ := hat 2 _ e2
  cases hh
  rw [Nat.add_zero] at c0
  have n0 : (numRow [] o).length ≤ 2600 := by rw [numRow_length]; exact hl1
  have n1 : (numRow (knownBy [] o) a).length ≤ 2600 := by rw [numRow_length]; exact hl2
  have n2 : (numRow (knownBy (knownBy [] o) a) b).length ≤ 2600 := by rw [numRow_length]; exact hl3
  have b2 : Below w.heap.size w w1 := HB.out.trans (b1.mono (by simp))
  clear hout hat e0 e1 e2 r0 r1 r2 hvals b1
  have I0 := Lib.hid i0; clear i0
  have I1 := Lib.hid i1; clear i1
  have I2 := Lib.hid i2; clear i2
  have Hb2 := Lib.hid b2; clear b2
  have htx : chunksT o a b = chunksOf (numRow [] o) (numRow (knownBy [] o) a) (numRow (knownBy (knownBy [] o) a) b) := rfl
  generalize numRow [] o = x0 at c0 n0 I0 htx
  generalize numRow (knownBy [] o) a = x1 at c1 n1 I1 htx
  generalize numRow (knownBy (knownBy [] o) a) b = x2 at c2 n2 I2 htx
  have Htx := Lib.hid htx; clear htx
  go_wp2_with fail
  go_still_tail 9, (by kernel_rfl)
  change wpList _ _ _ _ _ w1.drew
  obtain ⟨V, hV⟩ : ∃ V, Hid (w1.drew = V) := ⟨_, Lib.hid rfl⟩
  have J0 : Hid (Ints V .i64 (.slice (some ⟨q0, 0, none⟩) x0.length x0.length) x0) := by rw [← hV.out]; exact I0
  have J1 : Hid (Ints V .i64 (.slice (some ⟨q1, 0, none⟩) x1.length x1.length) x1) := by rw [← hV.out]; exact I1
  have J2 : Hid (Ints V .i64 (.slice (some ⟨q2, 0, none⟩) x2.length x2.length) x2) := by rw [← hV.out]; exact I2
  have HbV : Hid (Below w.heap.size w V) := by rw [← hV.out]; exact Lib.hid (below_draws Hb2.out 1)
  rw [hV.out]
  clear hV I0 I1 I2 Hb2 c0 c1 c2
  go_wp2_with fail
  refine ((callsIn_wide (n := 3)).1 (Chunks_in 3 (Nat.le_refl _) V _ _ _ x0 x1 x2 J0.out J1.out J2.out (by omega) (by omega) (by omega) (match_ok n0 n1).1 (match_ok n0 n2).1)).mono ?_
  rintro e w2 ⟨u, rfl, hown, hb⟩
  have hs := HbV.out.size
  have Hown := Lib.hid (own_low hown hs)
  have Hb3 := Lib.hid (HbV.out.trans (hb.mono hs))
  clear hown hb hs
  go_wp2_with fail
  go_ret
  exact ⟨_, rfl, by rw [Htx.out]; exact Hown.out, Hb3.out⟩
end Go.Proofs.YtbekbllffphfeaaDoor.L
