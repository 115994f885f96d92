/-
  For the laws of cells: the first segment of a key, by where it stands; facts on rows, no program.
-/
import Derived.Test.YtfjmhnnjgjcmeaaGreatDoorCt
namespace Go.Proofs.YtfjmhnnjgjcmeaaGreatDoor
set_option linter.unusedSimpArgs false
set_option linter.unusedVariables false

theorem getP_none {L : SL} {s : ByteArray} (h : s ∉ L.map Prod.fst) : getP L s = (⟨#[]⟩, false) := by
  unfold getP
  rw [List.find?_eq_none.2 (fun p hp => by
    rw [decide_eq_true_iff]
    intro e
    exact h (List.mem_map.2 ⟨p, hp, e⟩))]
theorem getP_ix : ∀ {L : SL} {s : ByteArray}, s ∈ L.map Prod.fst → ∃ p, L[ixT (L.map Prod.fst) s]? = some p ∧ p.1 = s ∧ getP L s = (p.2, true)
  | [], s, h => by simp at h
  | p :: L, s, h => by
    by_cases e : p.1 = s
    · refine ⟨p, ?_, e, ?_⟩
      · unfold ixT
        rw [List.map_cons, List.map_cons, List.idxOf_cons, e]
        simp
      · unfold getP
        rw [List.find?_cons_of_pos (by simpa using e)]
    · have h2 : s ∈ L.map Prod.fst := by
        rw [List.map_cons, List.mem_cons] at h
        rcases h with h | h
        · exact absurd h.symm e
        · exact h
      obtain ⟨q, h3, h4, h5⟩ := getP_ix h2
      refine ⟨q, ?_, h4, ?_⟩
      · have hne : (tl p.1 == tl s) = false := by
          rw [beq_eq_false_iff_ne]
          intro h
          exact e (tl_inj h)
        unfold ixT at h3 ⊢
        rw [List.map_cons, List.map_cons, List.idxOf_cons, hne]
        simpa using h3
      · rw [← h5]
        unfold getP
        rw [List.find?_cons_of_neg (by simpa using e)]
theorem getP_mem {L : SL} {s : ByteArray} : (getP L s).2 = true ↔ s ∈ L.map Prod.fst := by
  constructor
  · intro h
    by_cases hm : s ∈ L.map Prod.fst
    · exact hm
    · rw [getP_none hm] at h
      cases h
  · intro h
    obtain ⟨p, -, -, h5⟩ := getP_ix h
    rw [h5]
end Go.Proofs.YtfjmhnnjgjcmeaaGreatDoor
