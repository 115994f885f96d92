/-
  For the laws of fallback: sizes of what is printed, and of what is read; no program. No condition but the bounds that stand as premises.
-/
import Derived.Test.YtbekbllffphfeaaDoorKPstate
import Derived.Test.YtbekbllffphfeaaDoorFd
namespace Go.Proofs.YtbekbllffphfeaaDoor.K
open Go.RowKit Go.Shelf
set_option linter.unusedSimpArgs false
set_option linter.unusedVariables false

def wP (p : Pt) : Nat := p.o.length + p.a.length + p.b.length
/-- The sizes of parts, in all. -/
def sumW (L : List Pt) : Nat := (L.map wP).sum
theorem sumW_app (A B : List Pt) : sumW (A ++ B) = sumW A + sumW B := by unfold sumW; rw [List.map_append, List.sum_append]
theorem sumW_one (p : Pt) : sumW [p] = wP p := by simp [sumW]
def wtS (q : St) : Nat := sumW q.out + (if q.sec = 0 then 0 else wP q.p) + 3 * q.now.length
theorem cutT_le (t : By) (c : Bool) : (cutT t c).length ≤ t.length := by
  unfold cutT
  split
  · rw [List.length_dropLast]; omega
  · exact Nat.le_refl _
theorem stepS_wt {n : Nat} {q q' : St} {l : By} (hs : q.sec < 4) (h : stepS n q l = some q') : wtS q' ≤ wtS q + 3 * l.length ∧ q'.sec < 4 := by
  unfold stepS at h
  cases hm : markOf n l with
  | none =>
    rw [hm] at h
    obtain rfl := Option.some.inj h
    refine ⟨?_, hs⟩
    unfold wtS
    dsimp only
    rw [List.length_append]
    omega
  | some xc =>
    obtain ⟨x, c⟩ := xc
    rw [hm] at h
    simp only at h
    split at h
    · cases h
    · rename_i hb
      have hx := markOf_lt hm
      obtain rfl := Option.some.inj h
      refine ⟨?_, hx⟩
      have ht := cutT_le q.now c
      obtain ⟨t, hte⟩ : ∃ t, cutT q.now c = t := ⟨_, rfl⟩
      rw [hte] at ht ⊢
      have hmay : mayB q.sec x = true := by
        unfold badB at hb
        simp only [Bool.or_eq_true, not_or, Bool.not_eq_true'] at hb
        have := hb.2.2
        simpa using this
      have hsec : q.sec = 0 ∨ q.sec = 1 ∨ q.sec = 2 ∨ q.sec = 3 := by omega
      unfold wtS endS
      rcases hsec with e | e | e | e
      · simp only [e, if_true, List.length_nil]
        rw [sumW_app]
        have h1 : sumW (if t = [] then [] else [⟨false, t, t, t⟩]) ≤ 3 * t.length := by
          split
          · exact Nat.zero_le _
          · rw [sumW_one]; unfold wP; dsimp only; omega
        have h2 : (if x = 0 then 0 else wP freshPt) = 0 := by split <;> rfl
        rw [h2]
        omega
      · simp only [e, if_true, List.length_nil, if_neg (show ¬ (1 : Nat) = 0 by decide)]
        have h2 : (if x = 0 then 0 else wP ⟨q.p.clash, q.p.o, t, q.p.b⟩) ≤ q.p.o.length + t.length + q.p.b.length := by
          split
          · exact Nat.zero_le _
          · exact Nat.le_refl _
        have h3 : wP q.p = q.p.o.length + q.p.a.length + q.p.b.length := rfl
        omega
      · simp only [e, if_true, List.length_nil, if_neg (show ¬ (2 : Nat) = 0 by decide), if_neg (show ¬ (2 : Nat) = 1 by decide)]
        have h2 : (if x = 0 then 0 else wP ⟨q.p.clash, t, q.p.a, q.p.b⟩) ≤ t.length + q.p.a.length + q.p.b.length := by
          split
          · exact Nat.zero_le _
          · exact Nat.le_refl _
        have h3 : wP q.p = q.p.o.length + q.p.a.length + q.p.b.length := rfl
        omega
      · have hx0 : x = 0 := by
          rw [e] at hmay
          have : x = 0 ∨ x = 1 ∨ x = 2 ∨ x = 3 := by omega
          rcases this with h | h | h | h
          · exact h
          · subst h; exact absurd hmay (by decide)
          · subst h; exact absurd hmay (by decide)
          · subst h; exact absurd hmay (by decide)
        subst hx0
        simp only [e, if_true, List.length_nil, if_neg (show ¬ (3 : Nat) = 0 by decide), if_neg (show ¬ (3 : Nat) = 1 by decide), if_neg (show ¬ (3 : Nat) = 2 by decide)]
        rw [sumW_app, sumW_one]
        have h2 : wP ⟨q.p.clash, q.p.o, q.p.a, t⟩ = q.p.o.length + q.p.a.length + t.length := rfl
        have h3 : wP q.p = q.p.o.length + q.p.a.length + q.p.b.length := rfl
        omega
theorem parseS_wt {n : Nat} : ∀ (ls : List By) {q q' : St}, q.sec < 4 → parseS n q ls = some q' → wtS q' ≤ wtS q + 3 * ls.flatten.length
  | [], q, q', hs, h => by
    obtain rfl : q = q' := Option.some.inj h
    simp
  | l :: ls, q, q', hs, h => by
    rw [parseS] at h
    cases hst : stepS n q l with
    | none => rw [hst] at h; cases h
    | some q1 =>
      rw [hst] at h
      obtain ⟨h1, h2⟩ := stepS_wt hs hst
      have h3 := parseS_wt ls h2 h
      rw [List.flatten_cons, List.length_append]
      omega
/-- What is read is no more than there is. -/
theorem parse_size {s : ByteArray} {n : Int} {L : List Pt} (h : parseT (lnB s) n = some L) : sumW L ≤ 3 * s.size ∧ L.length ≤ s.size + 1 := by
  unfold parseT at h
  split at h
  · cases h
  · unfold parseL at h
    cases hp : parseS n.toNat st0 (lnB s) with
    | none => rw [hp] at h; cases h
    | some q =>
      rw [hp] at h
      have h1 := parseS_wt (lnB s) (by decide) hp
      have h2 := parseS_len (lnB s) (by decide) hp
      have h0 : wtS st0 = 0 := rfl
      have h00 : st0.out.length = 0 := rfl
      rw [lnB_flat, tl_length] at h1
      have hll : (lnB s).length ≤ s.size := by unfold lnB; rw [List.length_map]; exact lns_len s
      have hf : finS q = some L := h
      unfold finS at hf
      split at hf
      · rename_i hz
        have hL := Option.some.inj hf
        have h4 := endS_len q q.now
        rw [hL] at h4
        refine ⟨?_, by omega⟩
        rw [← hL]
        unfold endS
        rw [if_pos hz]
        dsimp only
        rw [sumW_app]
        have h5 : sumW (if q.now = [] then [] else [⟨false, q.now, q.now, q.now⟩]) ≤ 3 * q.now.length := by
          split
          · exact Nat.zero_le _
          · rw [sumW_one]; unfold wP; dsimp only; omega
        rw [h0, Nat.zero_add] at h1
        unfold wtS at h1
        omega
      · cases hf
end Go.Proofs.YtbekbllffphfeaaDoor.K
