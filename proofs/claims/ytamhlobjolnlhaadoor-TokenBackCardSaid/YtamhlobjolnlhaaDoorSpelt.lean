/-
  For the laws of token: the tokens of tokens spelt; facts on lists of bytes alone, no program.
-/
import Derived.Test.YtamhlobjolnlhaaDoorKinds
import Derived.Test.YtamhlobjolnlhaaDoorSpell
namespace Go.Proofs.YtamhlobjolnlhaaDoor

def gapO (p : Option (List UInt8)) (x : List UInt8) : Bool := match p with | none => false | some a => gapOf a x
def spR : Option (List UInt8) → List (List UInt8) → List UInt8
  | _, [] => []
  | p, x :: r => (if gapO p x = true then [32] else []) ++ (x ++ spR (some x) r)
theorem spoils_space {k : Int} {x : List UInt8} : spoils k x 32 = false := by
  unfold spoils
  split
  · have h : x ++ [32] ∉ twoM := by
      intro hin
      have hall : ∀ c ∈ twoM, c.getLast? ≠ some 32 := by decide
      exact hall _ hin (by simp)
    simp [h]
  · split <;> decide
theorem spR_stops {x : List UInt8} {r : List (List UInt8)} (hx : kindOf x ≠ 0) (hr : ∀ y ∈ r, kindOf y ≠ 0) : Stops (kindOf x) x (spR (some x) r) := by
  intro d hd
  cases r with
  | nil => simp [spR] at hd
  | cons y r =>
    have hy := hr y (by simp)
    have y0 := (kind_inv rfl hy).1
    rw [spR] at hd
    cases hg : gapO (some x) y with
    | true =>
      rw [hg] at hd
      obtain rfl : 32 = d := by simpa using hd
      exact spoils_space
    | false =>
      rw [hg] at hd
      obtain ⟨g, z, rfl⟩ := List.exists_cons_of_ne_nil y0
      obtain rfl : g = d := by simpa using hd
      have := gap_spoils hx hy
      rw [show gapOf x (g :: z) = false from hg] at this
      exact this.symm
def kt (t : Tk) : Int × List UInt8 := (t.kind, t.text)
theorem lex_spR : ∀ (L : List (List UInt8)) (p : Option (List UInt8)) (n : Nat), (∀ x ∈ L, kindOf x ≠ 0) → ∃ T, lexR n (spR p L) = (T, 0, 0) ∧ T.map kt = L.map (fun x => (kindOf x, x)) ++ [(5, [])] ∧ ∀ t ∈ T, t.lead = [] ∨ t.lead = [32]
  | [], p, n, _ => ⟨_, lex_end n, rfl, by simp⟩
  | x :: r, p, n, h => by
    have hx := h x (by simp)
    have hr : ∀ y ∈ r, kindOf y ≠ 0 := fun y hy => h y (by simp [hy])
    obtain ⟨x0, sx, fx⟩ := kind_inv rfl hx
    obtain ⟨e1, e2⟩ := stops_first x0 fx sx (spR_stops hx hr)
    rw [spR]
    cases gapO p x with
    | true =>
      rw [if_pos rfl, List.singleton_append]
      obtain ⟨T, hT, h1, h2⟩ := lex_spR r (some x) (n + 1 + x.length) hr
      refine ⟨_, lex_space x0 e1 e2 hT, by simp [kt, h1], ?_⟩
      intro t ht
      rcases List.mem_cons.1 ht with rfl | ht
      · exact .inr rfl
      · exact h2 t ht
    | false =>
      rw [if_neg (by simp), List.nil_append]
      obtain ⟨T, hT, h1, h2⟩ := lex_spR r (some x) (n + x.length) hr
      refine ⟨_, lex_step x0 e1 e2 hT, by simp [kt, h1], ?_⟩
      intro t ht
      rcases List.mem_cons.1 ht with rfl | ht
      · exact .inl rfl
      · exact h2 t ht
theorem spell_spR (L : List (List UInt8)) : ∀ k, k ≤ L.length → spellTo L k ++ spR (if k = 0 then none else L[k - 1]?) (L.drop k) = spR none L
  | 0, _ => by simp [spellTo]
  | k + 1, h => by
    have ih := spell_spR L k (by omega)
    obtain ⟨x, hx⟩ : ∃ x, L[k]? = some x := ⟨_, List.getElem?_eq_getElem (by omega)⟩
    have hd : L.drop k = x :: L.drop (k + 1) := by
      obtain ⟨hk, rfl⟩ := List.getElem?_eq_some_iff.1 hx
      exact List.drop_eq_getElem_cons hk
    rw [hd, spR] at ih
    rw [← ih, spell_next, if_neg (Nat.succ_ne_zero k), Nat.add_sub_cancel, hx]
    have e : gapO (if k = 0 then none else L[k - 1]?) x = gapAt L k := by
      unfold gapAt textAt
      rw [hx]
      cases k with
      | zero => rfl
      | succ k =>
        obtain ⟨y, hy⟩ : ∃ y, L[k]? = some y := ⟨_, List.getElem?_eq_getElem (by omega)⟩
        rw [if_neg (Nat.succ_ne_zero k), Nat.add_sub_cancel, hy]
        simp [gapO]
    have e2 : textAt L k = x := by unfold textAt; rw [hx]; rfl
    rw [e, e2]
    simp
theorem spell_all (L : List (List UInt8)) : spellTo L L.length = spR none L := by
  have := spell_spR L L.length (Nat.le_refl _)
  rw [List.drop_length, spR, List.append_nil] at this
  exact this
theorem kind_lt {x : List UInt8} (h : kindOf x ≠ 0) : kindOf x ≠ 5 := by
  rcases first_kind (kind_inv rfl h).2.2 with ⟨h, -⟩ | ⟨h, -⟩ | ⟨h, -⟩ <;> omega
theorem spelt {L : List (List UInt8)} (h : ∀ x ∈ L, kindOf x ≠ 0) : ∃ T, lexR 0 (spellTo L L.length) = (T, 0, 0) ∧ T.length = L.length + 1 ∧ textsL T = L ∧ ∀ (k : Nat) (t : Tk) (x : List UInt8), T[k]? = some t → L[k]? = some x → t.kind = kindOf x ∧ (t.lead = [] ∨ t.lead = [32]) := by
  obtain ⟨T, h1, h2, h3⟩ := lex_spR L none 0 h
  rw [spell_all]
  refine ⟨T, h1, ?_, ?_, ?_⟩
  · have := congrArg List.length h2
    simpa using this
  · have e : textsL T = ((T.map kt).filter fun p => p.1 != 5).map Prod.snd := by
      unfold textsL
      rw [List.filter_map, List.map_map]
      rfl
    rw [e, h2, List.filter_append]
    have : (L.map (fun x => (kindOf x, x))).filter (fun p => p.1 != 5) = L.map (fun x => (kindOf x, x)) := by
      rw [List.filter_eq_self]
      intro p hp
      obtain ⟨x, hx, rfl⟩ := List.mem_map.1 hp
      simpa using kind_lt (h x hx)
    rw [this]
    simp [Function.comp_def]
  · intro k t x ht hx
    have := congrArg (fun l => l[k]?) h2
    simp only [List.getElem?_map, ht] at this
    rw [List.getElem?_append_left (by rw [List.length_map]; exact (List.getElem?_eq_some_iff.1 hx).1), List.getElem?_map, hx] at this
    simp only [Option.map_some, Option.some.injEq, kt, Prod.mk.injEq] at this
    exact ⟨this.1, h3 t (List.mem_of_getElem? ht)⟩
end Go.Proofs.YtamhlobjolnlhaaDoor
