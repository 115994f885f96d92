/-
  For the laws of marker: a slice of parts; the same parts, and few of them, by the program. Condition: as handed in.
-/
import Derived.Test.YtbekbllffphfeaaDoorKBase
import Derived.Test.YtbekbllffphfeaaDoorKPmath
namespace Go.Proofs.YtbekbllffphfeaaDoor.K
open Go.RowKit Go.Shelf
set_option linter.unusedSimpArgs false

def rowP (p : Pt) : List Value := [.bool p.clash, .string (bs p.o), .string (bs p.a), .string (bs p.b)]
/-- The value v is a slice that reads as the parts L. -/
def Prts (W : World) (v : Value) (L : List Pt) : Prop :=
  ∃ (a : Option Addr) (cap : Nat), v = .slice a L.length cap ∧ L.length ≤ cap ∧ cap ≤ maxLen ∧ ∀ k (p : Pt), L[k]? = some p → ∃ b off, a = some ⟨b, off, none⟩ ∧ b < W.heap.size ∧ W.cell? ⟨b, off + k * 4, none⟩ = some (.bool p.clash) ∧ W.cell? ⟨b, off + k * 4 + 1, none⟩ = some (.string (bs p.o)) ∧ W.cell? ⟨b, off + k * 4 + 2, none⟩ = some (.string (bs p.a)) ∧ W.cell? ⟨b, off + k * 4 + 3, none⟩ = some (.string (bs p.b))
theorem Prts.below {W W' : World} {v : Value} {L : List Pt} (h : Prts W v L) (hb : Below W.heap.size W W') : Prts W' v L := by
  obtain ⟨a, cap, rfl, hc, hm, hx⟩ := h
  refine ⟨a, cap, rfl, hc, hm, fun k x hk => ?_⟩
  obtain ⟨b, off, rfl, hl, h1, h2, h3, h4⟩ := hx k x hk
  exact ⟨b, off, rfl, by have := hb.size; omega, (hb.cell (p := ⟨b, off + k * 4, none⟩) hl).trans h1, (hb.cell (p := ⟨b, off + k * 4 + 1, none⟩) hl).trans h2, (hb.cell (p := ⟨b, off + k * 4 + 2, none⟩) hl).trans h3, (hb.cell (p := ⟨b, off + k * 4 + 3, none⟩) hl).trans h4⟩
def pv (L : List Pt) : List Value := L.flatMap rowP
theorem pv_len (L : List Pt) : (pv L).length = L.length * 4 := by
  unfold pv
  induction L with
  | nil => rfl
  | cons x L ih => rw [List.flatMap_cons, List.length_append, ih, List.length_cons]; simp [rowP]; omega
theorem pv_append (A B : List Pt) : pv (A ++ B) = pv A ++ pv B := by unfold pv; rw [List.flatMap_append]
theorem drop_at {α : Type} {L : List α} {k : Nat} {x : α} (h : L[k]? = some x) : L.drop k = x :: L.drop (k + 1) := by
  obtain ⟨hk, rfl⟩ := List.getElem?_eq_some_iff.1 h
  exact List.drop_eq_getElem_cons hk
theorem pv_get {L : List Pt} {k : Nat} {x : Pt} (h : L[k]? = some x) : (pv L)[k * 4]? = some (.bool x.clash) ∧ (pv L)[k * 4 + 1]? = some (.string (bs x.o)) ∧ (pv L)[k * 4 + 2]? = some (.string (bs x.a)) ∧ (pv L)[k * 4 + 3]? = some (.string (bs x.b)) := by
  have e : L = L.take k ++ x :: L.drop (k + 1) := by
    rw [← drop_at h, List.take_append_drop]
  have hl : (pv (L.take k)).length = k * 4 := by
    rw [pv_len, List.length_take, Nat.min_eq_left (Nat.le_of_lt (List.getElem?_eq_some_iff.1 h).1)]
  have e2 : pv L = pv (L.take k) ++ (rowP x ++ pv (L.drop (k + 1))) := by
    conv => lhs; rw [e]
    unfold pv
    rw [List.flatMap_append, List.flatMap_cons]
  rw [e2]
  refine ⟨?_, ?_, ?_, ?_⟩
  · rw [List.getElem?_append_right (by omega), hl, Nat.sub_self]; rfl
  · rw [List.getElem?_append_right (by omega), hl, Nat.add_sub_cancel_left]; rfl
  · rw [List.getElem?_append_right (by omega), hl, Nat.add_sub_cancel_left]; rfl
  · rw [List.getElem?_append_right (by omega), hl, Nat.add_sub_cancel_left]; rfl
theorem own_prts {W : World} {base n : Nat} {v : Value} {L : List Pt} (h : W.ownsRow base 52 4 v n (pv L)) : Prts W v L := by
  have hl := h.1
  rw [pv_len] at hl
  obtain rfl : n = L.length := by omega
  rcases h.2 with ⟨rfl, h0⟩ | ⟨g, cap, cur, rfl, _, hg, h1, h2, h3, h4⟩
  · obtain rfl : L = [] := List.eq_nil_of_length_eq_zero h0
    exact ⟨none, 0, rfl, Nat.le_refl _, Nat.zero_le _, by simp⟩
  · refine ⟨_, cap, rfl, h1, h2, fun k x hk => ⟨g, 0, rfl, (Array.getElem?_eq_some_iff.1 hg).1, ?_⟩⟩
    have hkl := (List.getElem?_eq_some_iff.1 hk).1
    obtain ⟨g1, g2, g3, g4⟩ := pv_get hk
    rw [Nat.zero_add]
    refine ⟨?_, ?_, ?_, ?_⟩
    · rw [← g1, ← h4, List.getElem?_take_of_lt (by omega)]
      simp [World.cell?, hg]
    · rw [← g2, ← h4, List.getElem?_take_of_lt (by omega)]
      simp [World.cell?, hg]
    · rw [← g3, ← h4, List.getElem?_take_of_lt (by omega)]
      simp [World.cell?, hg]
    · rw [← g4, ← h4, List.getElem?_take_of_lt (by omega)]
      simp [World.cell?, hg]
theorem infoPt : (Tryd.prog.info? 52).map (fun i => (i.zero, i.size, i.bytes)) = some (some (.agg #[.bool false, .string ⟨#[]⟩, .string ⟨#[]⟩, .string ⟨#[]⟩]), 4, 56) := by kernel_rfl
theorem prts_one {W : World} {b : Nat} {t : TypeId} {x : Pt} (h : RowAt W b t #[.bool x.clash, .string (bs x.o), .string (bs x.a), .string (bs x.b)]) : Prts W (.slice (some ⟨b, 0, none⟩) 1 1) [x] := by
  refine ⟨_, 1, rfl, Nat.le_refl _, by simp [maxLen], fun k u hk => ⟨b, 0, rfl, h.lt, ?_⟩⟩
  have hk0 : k = 0 := by have := (List.getElem?_eq_some_iff.1 hk).1; simp at this; omega
  subst hk0
  obtain rfl : x = u := by simpa using hk
  exact ⟨h.cell (j := 0) rfl, h.cell (j := 1) rfl, h.cell (j := 2) rfl, h.cell (j := 3) rfl⟩
end Go.Proofs.YtbekbllffphfeaaDoor.K
