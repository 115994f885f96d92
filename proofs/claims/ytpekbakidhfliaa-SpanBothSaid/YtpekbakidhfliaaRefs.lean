/-
  For the laws of span: edits put in order, by the reference: rows alone, no program. No condition.
-/
import Derived.Test.YtpekbakidhfliaaConcat
namespace Go.Proofs.Ytpekbakidhfliaa
open Go.RowKit Go.Shelf Go.Sort
set_option linter.unusedSimpArgs false

/-- y goes behind x. -/
def gtE (y x : Ed) : Prop := x.fr < y.fr ∨ x.fr = y.fr ∧ x.to < y.to
instance (y x : Ed) : Decidable (gtE y x) := by unfold gtE; infer_instance
/-- M is the first i of L in order, those that are alike as they came. -/
def SrtP (L : List Ed) (i : Nat) (M : List Ed) : Prop := ∃ D : List Nat, D.Perm (List.range i) ∧ D.Pairwise (fun x y => sl L y x = false) ∧ M = D.map (fun i => L.getD i dE)
theorem srtP_start (L : List Ed) : SrtP L 0 [] := ⟨[], List.Perm.refl _, List.Pairwise.nil, rfl⟩
theorem srtP_all {L M : List Ed} (h : SrtP L L.length M) : SrtOf L M := h
theorem srtP_len {L M : List Ed} {i : Nat} (h : SrtP L i M) : M.length = i := by
  obtain ⟨D, p, _, rfl⟩ := h
  simpa using p.length_eq
theorem ins_get {A B : List Nat} {i k : Nat} (h : B = A.take k ++ i :: A.drop k) : B.Perm (i :: A) := by
  subst h
  have := List.perm_middle (a := i) (l₁ := A.take k) (l₂ := A.drop k)
  rwa [List.take_append_drop] at this
theorem srtP_next {L M : List Ed} {i k : Nat} {x : Ed} (h : SrtP L i M) (hx : L[i]? = some x) (hk : k ≤ i) (hi : ∀ p y, k ≤ p → M[p]? = some y → gtE y x) (lo : ∀ y, k ≠ 0 → M[k - 1]? = some y → ¬ gtE y x) :
    SrtP L (i + 1) (M.take k ++ (x :: M.drop k)) := by
  have hlen := srtP_len h
  obtain ⟨D, p, s, rfl⟩ := h
  have hDl : D.length = i := by simpa using hlen
  have hgx : L.getD i dE = x := by simp [List.getD, hx]
  have hmem : ∀ j ∈ D, j < i := fun j hj => by simpa using p.subset hj
  refine ⟨D.take k ++ i :: D.drop k, ?_, ?_, ?_⟩
  · rw [List.range_succ]
    refine (ins_get rfl).trans ?_
    exact (p.cons i).trans (List.perm_append_comm (l₁ := [i]) (l₂ := List.range i))
  · have key : ∀ j, sl L i j = decide (x.fr < (L.getD j dE).fr ∨ x.fr = (L.getD j dE).fr ∧ (x.to < (L.getD j dE).to ∨ x.to = (L.getD j dE).to ∧ i < j)) := fun j => by
      rw [Bool.eq_iff_iff, sl_iff, decide_eq_true_iff]
      unfold fk tk
      simp [List.getD, hx, dE]
    have key2 : ∀ j, sl L j i = decide ((L.getD j dE).fr < x.fr ∨ (L.getD j dE).fr = x.fr ∧ ((L.getD j dE).to < x.to ∨ (L.getD j dE).to = x.to ∧ j < i)) := fun j => by
      rw [Bool.eq_iff_iff, sl_iff, decide_eq_true_iff]
      unfold fk tk
      simp [List.getD, hx, dE]
    rw [List.pairwise_append]
    refine ⟨s.sublist (List.take_sublist _ _), ?_, ?_⟩
    · rw [List.pairwise_cons]
      refine ⟨fun j hj => ?_, s.sublist (List.drop_sublist _ _)⟩
      obtain ⟨q, hq⟩ := List.getElem?_of_mem hj
      rw [List.getElem?_drop] at hq
      have := hi (k + q) (L.getD j dE) (by omega) (by rw [List.getElem?_map, hq]; rfl)
      unfold gtE at this
      rw [key2, decide_eq_false_iff_not]
      omega
    · intro j hj j' hj'
      have hjd : ∃ q, q < k ∧ D[q]? = some j := by
        obtain ⟨q, hq⟩ := List.getElem?_of_mem hj
        rw [List.getElem?_take] at hq
        split at hq
        · exact ⟨q, by assumption, hq⟩
        · cases hq
      obtain ⟨q, hqk, hq⟩ := hjd
      have hji := hmem j (List.mem_of_getElem? hq)
      rcases List.mem_cons.1 hj' with rfl | hj2
      · -- j ahead of i
        obtain ⟨y, hy⟩ : ∃ y, D[k - 1]? = some y := ⟨_, List.getElem?_eq_getElem (by omega)⟩
        have hlo := lo (L.getD y dE) (by omega) (by rw [List.getElem?_map, hy]; rfl)
        have hyi := hmem y (List.mem_of_getElem? hy)
        have h1 : sl L j' y = false := by
          rw [key, decide_eq_false_iff_not]
          unfold gtE at hlo
          omega
        by_cases c : q = k - 1
        · subst c
          rw [hy] at hq
          cases hq
          exact h1
        · have h2 : sl L y j = false := by
            have hq1 := List.getElem?_eq_some_iff.1 hq
            have hy1 := List.getElem?_eq_some_iff.1 hy
            obtain ⟨l1, e1⟩ := hq1
            obtain ⟨l2, e2⟩ := hy1
            have := List.pairwise_iff_getElem.1 s q (k - 1) l1 l2 (by omega)
            rwa [e1, e2] at this
          exact sl_trans h2 h1
      · obtain ⟨q2, hq2⟩ := List.getElem?_of_mem hj2
        rw [List.getElem?_drop] at hq2
        obtain ⟨l1, e1⟩ := List.getElem?_eq_some_iff.1 hq
        obtain ⟨l2, e2⟩ := List.getElem?_eq_some_iff.1 hq2
        have := List.pairwise_iff_getElem.1 s q (k + q2) l1 l2 (by omega)
        rwa [e1, e2] at this
  · rw [List.map_append, List.map_cons, List.map_take, List.map_drop, hgx]
end Go.Proofs.Ytpekbakidhfliaa
