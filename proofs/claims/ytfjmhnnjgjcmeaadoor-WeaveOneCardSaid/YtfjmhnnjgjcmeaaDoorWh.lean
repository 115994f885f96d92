/-
  For the laws of weave: what the pieces hold; the parts they make. No condition.
-/
import Derived.Test.YtfjmhnnjgjcmeaaDoorWg
namespace Go.Proofs.YtfjmhnnjgjcmeaaDoor
open Go.RowKit Go.Shelf
set_option linter.unusedSimpArgs false
set_option linter.unusedVariables false

/-- What a row of texts may be: at most n of them, each out of two rows. -/
def Out (n : Nat) (o b xs : TL) : Prop := xs.length ≤ n ∧ ∀ s ∈ xs, s ∈ o ∨ s ∈ b
theorem Out.mono {n n' : Nat} {o b xs : TL} (h : Out n o b xs) (hn : n ≤ n') : Out n' o b xs := ⟨Nat.le_trans h.1 hn, h.2⟩
theorem out_nil (n : Nat) (o b : TL) : Out n o b [] := ⟨Nat.zero_le _, by simp⟩
theorem Out.app {n n' : Nat} {o b xs ys : TL} (h : Out n o b xs) (k : Out n' o b ys) : Out (n + n') o b (xs ++ ys) := ⟨by rw [List.length_append]; have := h.1; have := k.1; omega, fun s hs => by rcases List.mem_append.1 hs with e | e; exact h.2 s e; exact k.2 s e⟩
theorem slc_out {o b : TL} (i j n : Nat) (h : o.length ≤ n) : Out n o b (L.slc o i j) := by
  refine ⟨?_, fun s hs => .inl (List.mem_of_mem_drop (List.mem_of_mem_take hs))⟩
  unfold L.slc
  rw [List.length_take, List.length_drop]
  omega
theorem Out.sw {n : Nat} {o b xs : TL} (h : Out n o b xs) : Out n b o xs := ⟨h.1, fun s hs => (h.2 s hs).symm⟩
def Pc.out (n : Nat) (o a b : TL) (x : Pc) : Prop := Out n o o x.o ∧ Out n a b x.a ∧ Out n b b x.b
theorem Pc.out_mono {n n' : Nat} {o a b : TL} {x : Pc} (h : x.out n o a b) (hn : n ≤ n') : x.out n' o a b := ⟨h.1.mono hn, h.2.1.mono hn, h.2.2.mono hn⟩
theorem y_out {n : Nat} {a b : TL} (c : L.Ck) (h1 : a.length ≤ n) (h2 : b.length ≤ n) : Out n a b (yOf a b c) := by
  unfold yOf
  split
  · exact (slc_out _ _ _ h2).sw
  · exact slc_out _ _ _ h1
def St.out (n : Nat) (o a b : TL) (s : St) : Prop := (∀ x ∈ s.1, x.out n o a b) ∧ ∀ q, s.2 = some q → Out n o o q.1 ∧ Out n a b q.2
theorem St.fin_out {n : Nat} {o a b : TL} {s : St} (h : s.out n o a b) : ∀ x ∈ s.fin, x.out n o a b := by
  intro x hx
  unfold St.fin at hx
  rcases List.mem_append.1 hx with hx | hx
  · exact h.1 x hx
  · cases hs : s.2 with
    | none => rw [hs] at hx; cases hx
    | some q =>
      rw [hs] at hx
      obtain rfl := List.mem_singleton.1 hx
      exact ⟨(h.2 q hs).1, (h.2 q hs).2, out_nil _ _ _⟩
theorem St.add_out {n m : Nat} {o a b : TL} {s : St} (c : L.Ck) (h : s.out n o a b) (l1 : o.length ≤ m) (l2 : a.length ≤ m) (l3 : b.length ≤ m) : (s.add o a b c).out (n + m) o a b := by
  unfold St.add
  split
  · refine ⟨fun x hx => ?_, fun q hq => by cases hq⟩
    rcases List.mem_append.1 hx with hx | hx
    · exact Pc.out_mono (St.fin_out h x hx) (by omega)
    · obtain rfl := List.mem_singleton.1 hx
      exact ⟨(slc_out _ _ _ l1).mono (by omega), (slc_out _ _ _ l2).mono (by omega), (slc_out _ _ _ l3).mono (by omega)⟩
  · split
    · refine ⟨fun x hx => Pc.out_mono (h.1 x hx) (by omega), fun q hq => ?_⟩
      cases hq
      exact ⟨(slc_out _ _ _ l1).mono (by omega), (y_out c l2 l3).mono (by omega)⟩
    · rename_i q0 hq0
      refine ⟨fun x hx => Pc.out_mono (h.1 x hx) (by omega), fun q hq => ?_⟩
      cases hq
      exact ⟨(h.2 q0 hq0).1.app (slc_out _ _ _ l1), (h.2 q0 hq0).2.app (y_out c l2 l3)⟩
theorem stOf_out {m : Nat} {o a b : TL} (l1 : o.length ≤ m) (l2 : a.length ≤ m) (l3 : b.length ≤ m) (l : List L.Ck) : (stOf o a b l).out (l.length * m) o a b := by
  have : ∀ (l : List L.Ck) (n : Nat) (s : St), s.out n o a b → (l.foldl (St.add o a b) s).out (n + l.length * m) o a b := by
    intro l
    induction l with
    | nil => intro n s h; simpa using h
    | cons c l ih =>
      intro n s h
      have := ih (n + m) _ (St.add_out c h l1 l2 l3)
      rw [List.foldl_cons, List.length_cons, Nat.succ_mul]
      rwa [show n + (l.length * m + m) = n + m + l.length * m by omega]
  have h := this l 0 ([], none) ⟨fun x hx => by simp at hx, fun q hq => by cases hq⟩
  rw [Nat.zero_add] at h
  exact h
theorem combP_out {o a b : TL} (l1 : o.length ≤ 2000) (l2 : a.length ≤ 2000) (l3 : b.length ≤ 2000) : ∀ x ∈ combP o a b, x.out ((L.chunksT o a b).length * 2000) o a b := St.fin_out (stOf_out l1 l2 l3 _)
theorem stOf_len' (o a b : TL) (l : List L.Ck) : (stOf o a b l).1.length ≤ 2 * l.length := by
  have hf : ∀ s : St, s.fin.length ≤ s.1.length + 1 := fun s => by unfold St.fin; cases s.2 <;> simp
  have ha : ∀ (s : St) (c : L.Ck), (s.add o a b c).1.length ≤ s.1.length + 2 := fun s c => by
    have := hf s
    unfold St.add
    split
    · simp; omega
    · split <;> simp
  have : ∀ (l : List L.Ck) (s : St), (l.foldl (St.add o a b) s).1.length ≤ s.1.length + 2 * l.length := by
    intro l
    induction l with
    | nil => intro s; simp
    | cons c l ih =>
      intro s
      have h1 := ih (s.add o a b c)
      have h2 := ha s c
      rw [List.foldl_cons, List.length_cons]
      omega
  have h := this l ([], none)
  simpa [stOf] using h
theorem combP_len (o a b : TL) : (combP o a b).length ≤ 2 * (L.chunksT o a b).length + 1 := by
  have h1 := stOf_len' o a b (L.chunksT o a b)
  have : ∀ s : St, s.fin.length ≤ s.1.length + 1 := fun s => by unfold St.fin; cases s.2 <;> simp
  have h2 := this (stOf o a b (L.chunksT o a b))
  unfold combP
  omega
theorem joinT_len {n k : Nat} {o b xs : TL} (h : Out n o b xs) (h1 : ∀ s ∈ o, s.size ≤ k) (h2 : ∀ s ∈ b, s.size ≤ k) : (joinT xs).length ≤ n * k := by
  have : ∀ xs : TL, (∀ s ∈ xs, s.size ≤ k) → (joinT xs).length ≤ xs.length * k := by
    intro xs
    induction xs with
    | nil => intro _; simp [joinT]
    | cons x xs ih =>
      intro hx
      have e : joinT (x :: xs) = tl x ++ joinT xs := rfl
      have h1 := hx x (by simp)
      have h2 := ih (fun s hs => hx s (List.mem_cons_of_mem _ hs))
      rw [e, List.length_append, tl_length, List.length_cons, Nat.succ_mul]
      omega
  refine Nat.le_trans (this xs fun s hs => ?_) (Nat.mul_le_mul_right k h.1)
  rcases h.2 s hs with e | e
  · exact h1 s e
  · exact h2 s e
/-- A piece as a part. -/
def ptOf (x : Pc) : Pt := ⟨x.clash, joinT x.o, joinT x.a, if x.clash then joinT x.b else joinT x.a⟩
def wovenP (o a b : TL) : List Pt := (combP o a b).map ptOf
/-- What woven tells of three rows of units, each with whether it is one. -/
def wovenQ (x y z : TL × Bool) : List Pt × Bool := if x.2 && y.2 && z.2 then (wovenP x.1 y.1 z.1, true) else ([], false)
end Go.Proofs.YtfjmhnnjgjcmeaaDoor
