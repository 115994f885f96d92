/-
  For the laws of tree: Put and Sort by the reference, on lists alone. No condition.
-/
import Derived.Test.YtbfehhblnakcbaaSort
namespace Go.Proofs.Ytbfehhblnakcbaa

/-- One file more, in the place of the one of its path; d: it is there already. -/
def putR (p t : By) : List Fl → Bool → List Fl
  | [], d => if d then [] else [⟨p, t⟩]
  | f :: r, d => (if decide (p ≤ f.path) && !d then [⟨p, t⟩] else []) ++ ((if decide (f.path = p) then [] else [f]) ++ putR p t r (d || decide (p ≤ f.path)))
theorem putR_true (p t : By) (L : List Fl) : putR p t L true = remF L p := by
  induction L with
  | nil => rfl
  | cons f r ih =>
    rw [putR, Bool.true_or, ih]
    unfold remF
    rw [List.filter_cons]
    by_cases h : f.path = p <;> simp [h]
theorem putR_false_le {p t : By} {f : Fl} {r : List Fl} (h : p ≤ f.path) : putR p t (f :: r) false = ⟨p, t⟩ :: remF (f :: r) p := by
  rw [putR, decide_eq_true h, Bool.or_true, putR_true]
  unfold remF
  rw [List.filter_cons]
  by_cases h : f.path = p <;> simp [h]
theorem putR_false_lt {p t : By} {f : Fl} {r : List Fl} (h : f.path < p) : putR p t (f :: r) false = f :: putR p t r false := by
  have h1 : ¬ p ≤ f.path := fun e => List.lt_irrefl _ (lt_of_le_lt e h)
  have h2 : ¬ f.path = p := fun e => by rw [e] at h; exact List.lt_irrefl _ h
  rw [putR, decide_eq_false h1, decide_eq_false h2]
  rfl
theorem putR_mem {p t : By} {x : Fl} : ∀ {L : List Fl} {d : Bool}, x ∈ putR p t L d → x = ⟨p, t⟩ ∨ x ∈ L
  | [], d, h => by
    rw [putR] at h
    cases d <;> simp at h
    exact .inl h
  | f :: r, d, h => by
    rw [putR, List.mem_append, List.mem_append] at h
    rcases h with h | h | h
    · split at h
      · exact .inl (List.mem_singleton.1 h)
      · simp at h
    · split at h
      · simp at h
      · exact .inr (by rw [List.mem_singleton.1 h]; exact List.mem_cons_self)
    · rcases putR_mem h with h | h
      · exact .inl h
      · exact .inr (List.mem_cons_of_mem _ h)
theorem lt_or_le (a b : By) : a < b ∨ b ≤ a := by
  by_cases h : a < b
  · exact .inl h
  · exact .inr (List.not_lt.1 h)
theorem putR_rising {p t : By} : ∀ {L : List Fl}, Rising L → Rising (putR p t L false)
  | [], _ => List.pairwise_singleton _ _
  | f :: r, h => by
    obtain ⟨h1, h2⟩ := List.pairwise_cons.1 h
    rcases lt_or_le f.path p with hl | hl
    · rw [putR_false_lt hl]
      refine List.pairwise_cons.2 ⟨fun x hx => ?_, putR_rising h2⟩
      rcases putR_mem hx with rfl | hx
      · exact hl
      · exact h1 x hx
    · rw [putR_false_le hl]
      refine List.pairwise_cons.2 ⟨fun x hx => ?_, rising_rem h p⟩
      unfold remF at hx
      rw [List.mem_filter] at hx
      have hne : x.path ≠ p := by simpa using hx.2
      have hle : p ≤ x.path := by
        rcases List.mem_cons.1 hx.1 with rfl | hx
        · exact hl
        · exact List.le_trans hl (List.le_of_lt (h1 x hx))
      exact lt_of_le_ne hle (fun e => hne e.symm)
theorem putR_get {p t : By} (q : By) : ∀ {L : List Fl}, Rising L → getT (putR p t L false) q = if p = q then some t else getT L q
  | [], _ => rfl
  | f :: r, h => by
    obtain ⟨h1, h2⟩ := List.pairwise_cons.1 h
    rcases lt_or_le f.path p with hl | hl
    · rw [putR_false_lt hl, getT, putR_get q h2, getT]
      have hne : ¬ f.path = p := fun e => by rw [e] at hl; exact List.lt_irrefl _ hl
      by_cases e : p = q
      · subst e; rw [if_pos rfl, if_neg hne]; simp
      · rw [if_neg e, if_neg e]
    · rw [putR_false_le hl, getT, get_rem]
      by_cases e : p = q
      · rw [if_pos e, if_pos e]
      · rw [if_neg e, if_neg e, if_neg (fun h => e h.symm)]
theorem putR_sort (L : List Fl) (p t : By) : putR p t (sortF L) false = putF L p t := by
  refine rising_ext (putR_rising (rising_sort _)) (rising_sort _) fun q => ?_
  rw [putR_get q (rising_sort _), get_put, get_sort]
theorem putR_next {L : List Fl} {k : Nat} {x : Fl} (h : L[k]? = some x) : putR x.path x.text (sortF (L.take k)) false = sortF (L.take (k + 1)) := by
  rw [putR_sort, putF, List.take_add_one, h]
  rfl
theorem putR_len (p t : By) : ∀ (L : List Fl) (d : Bool), (putR p t L d).length ≤ L.length * 2 + 1
  | [], d => by cases d <;> simp [putR]
  | f :: r, d => by
    rw [putR, List.length_append, List.length_append]
    have := putR_len p t r (d || decide (p ≤ f.path))
    have h1 : (if decide (p ≤ f.path) && !d then [(⟨p, t⟩ : Fl)] else []).length ≤ 1 := by split <;> simp
    have h2 : (if decide (f.path = p) then [] else [f]).length ≤ 1 := by split <;> simp
    rw [List.length_cons]
    omega
end Go.Proofs.Ytbfehhblnakcbaa
