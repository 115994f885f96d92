/-
  For the laws of tree: a slice of files; Get, Remove and Same, by the program. Condition: at most 1,000 files.
-/
import Derived.Test.YtpnfjiglphogoadDoorBase
import Derived.Test.YtpnfjiglphogoadDoorPure
namespace Go.Proofs.YtpnfjiglphogoadDoor
open Go.RowKit Go.Shelf

/-- The value v is a slice that reads as the files L. -/
def Fls (W : World) (v : Value) (L : List Fl) : Prop :=
  ∃ (a : Option Addr) (cap : Nat), v = .slice a L.length cap ∧ L.length ≤ cap ∧ cap ≤ maxLen ∧ ∀ k (x : Fl), L[k]? = some x → ∃ b off, a = some ⟨b, off, none⟩ ∧ b < W.heap.size ∧ W.cell? ⟨b, off + k * 2, none⟩ = some (.string (bs x.path)) ∧ W.cell? ⟨b, off + k * 2 + 1, none⟩ = some (.string (bs x.text))
theorem Fls.below {W W' : World} {v : Value} {L : List Fl} (h : Fls W v L) (hb : Below W.heap.size W W') : Fls W' v L := by
  obtain ⟨a, cap, rfl, hc, hm, hx⟩ := h
  refine ⟨a, cap, rfl, hc, hm, fun k x hk => ?_⟩
  obtain ⟨b, off, rfl, hl, h1, h2⟩ := hx k x hk
  exact ⟨b, off, rfl, by have := hb.size; omega, (hb.cell (p := ⟨b, off + k * 2, none⟩) hl).trans h1, (hb.cell (p := ⟨b, off + k * 2 + 1, none⟩) hl).trans h2⟩
def rowF (f : Fl) : List Value := [.string (bs f.path), .string (bs f.text)]
def fv (L : List Fl) : List Value := L.flatMap rowF
theorem fv_len (L : List Fl) : (fv L).length = L.length * 2 := by
  unfold fv
  induction L with
  | nil => rfl
  | cons x L ih => rw [List.flatMap_cons, List.length_append, ih, List.length_cons]; simp [rowF]; omega
theorem fv_get {L : List Fl} {k : Nat} {x : Fl} (h : L[k]? = some x) : (fv L)[k * 2]? = some (.string (bs x.path)) ∧ (fv L)[k * 2 + 1]? = some (.string (bs x.text)) := by
  have e : L = L.take k ++ x :: L.drop (k + 1) := by
    obtain ⟨hk, rfl⟩ := List.getElem?_eq_some_iff.1 h
    rw [← List.drop_eq_getElem_cons hk, List.take_append_drop]
  have hl : (fv (L.take k)).length = k * 2 := by
    rw [fv_len, List.length_take, Nat.min_eq_left (Nat.le_of_lt (List.getElem?_eq_some_iff.1 h).1)]
  have e2 : fv L = fv (L.take k) ++ (rowF x ++ fv (L.drop (k + 1))) := by
    conv => lhs; rw [e]
    unfold fv
    rw [List.flatMap_append, List.flatMap_cons]
  rw [e2]
  constructor
  · rw [List.getElem?_append_right (by omega), hl, Nat.sub_self]; rfl
  · rw [List.getElem?_append_right (by omega), hl, Nat.add_sub_cancel_left]; rfl
theorem own_fls {W : World} {base n : Nat} {v : Value} {L : List Fl} (h : W.ownsRow base 34 2 v n (fv L)) : Fls W v L := by
  have hl := h.1
  rw [fv_len] at hl
  obtain rfl : n = L.length := by omega
  rcases h.2 with ⟨rfl, h0⟩ | ⟨g, cap, cur, rfl, _, hg, h1, h2, h3, h4⟩
  · obtain rfl : L = [] := List.eq_nil_of_length_eq_zero h0
    exact ⟨none, 0, rfl, Nat.le_refl _, Nat.zero_le _, by simp⟩
  · refine ⟨_, cap, rfl, h1, h2, fun k x hk => ⟨g, 0, rfl, (Array.getElem?_eq_some_iff.1 hg).1, ?_⟩⟩
    have hkl := (List.getElem?_eq_some_iff.1 hk).1
    obtain ⟨g1, g2⟩ := fv_get hk
    rw [Nat.zero_add]
    constructor
    · rw [← g1, ← h4, List.getElem?_take_of_lt (by omega)]
      simp [World.cell?, hg]
    · rw [← g2, ← h4, List.getElem?_take_of_lt (by omega)]
      simp [World.cell?, hg]
end Go.Proofs.YtpnfjiglphogoadDoor
