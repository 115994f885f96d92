/-
  For the laws of tree: the law's own body of TreeKeeps. Condition: files, path and text as handed in.
-/
import Derived.Test.YtbfehhblnakcbaaWake
namespace Go.Proofs.Ytbfehhblnakcbaa
open Go.RowKit Go.Shelf

theorem get_in {L : List Fl} {k : Nat} {x : Fl} (hr : Rising L) (hx : L[k]? = some x) : getT L x.path = some x.text := get_mem hr (List.mem_of_getElem? hx)
theorem put_at (L : List Fl) (p t : By) : getT (putF L p t) p = some t := by rw [get_put, if_pos rfl]
theorem put_gone (L : List Fl) (p t : By) : getT (remF (putF L p t) p) p = none := by rw [get_rem, if_pos rfl]
theorem put_else {L : List Fl} {p t : By} {k : Nat} {x : Fl} (hx : (sortF L)[k]? = some x) (hne : ¬ x.path = p) : getT (putF L p t) x.path = some x.text := by
  rw [get_put, if_neg (fun e => hne e.symm), ← get_sort]
  exact get_in (rising_sort L) hx
theorem put_small {L : List Fl} {p t : By} (hL : ∀ f ∈ L, f.path.length ≤ maxLen) (hp : p.length ≤ maxLen) : ∀ f ∈ putF L p t, f.path.length ≤ maxLen := by
  intro f hf
  obtain ⟨q, hq, rfl⟩ := List.mem_map.1 hf
  rw [pathsOf_mem, List.map_append, List.mem_append] at hq
  rcases hq with hq | hq
  · obtain ⟨g, hg, rfl⟩ := List.mem_map.1 hq
    exact hL g hg
  · simp only [List.map_cons, List.map_nil, List.mem_singleton] at hq
    subst hq; exact hp
theorem sort_len (L : List Fl) : (sortF L).length ≤ L.length := by
  have h := paths_len (L.map Fl.path)
  rw [List.length_map] at h
  rw [sortF, List.length_map]; exact h
theorem put_len (L : List Fl) (p t : By) : (putF L p t).length ≤ L.length + 1 := by
  have h := sort_len (L ++ [⟨p, t⟩])
  rw [List.length_append] at h
  exact h
end Go.Proofs.Ytbfehhblnakcbaa
