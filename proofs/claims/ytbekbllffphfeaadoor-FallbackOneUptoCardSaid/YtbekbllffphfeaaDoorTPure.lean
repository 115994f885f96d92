/-
  For the laws of tree: rows of files, their paths and texts; facts on lists of bytes alone, no program.
-/
import Derived.Lib.SlicesCompact
import Derived.Lib.IndexMore
namespace Go.Proofs.YtbekbllffphfeaaDoor.T
abbrev By := List UInt8
structure Fl where
  path : By
  text : By
deriving DecidableEq
theorem lt_of_le_ne {a b : By} (h1 : a ≤ b) (h2 : a ≠ b) : a < b := by
  rcases List.le_iff_lt_or_eq.1 h1 with h | h
  · exact h
  · exact absurd h h2
theorem lt_of_le_lt {a b c : By} (h1 : a ≤ b) (h2 : b < c) : a < c := by
  rcases List.le_iff_lt_or_eq.1 h1 with h | rfl
  · exact List.lt_trans h h2
  · exact h2
/-- What is left of a rising row when alike neighbours are one. -/
def uniq (zs : List By) : List By := Lib.compactUpTo (zs.toArray) zs.length
theorem get_bang {zs : List By} {j : Nat} (h : j < zs.length) : zs.toArray[j]! = zs[j] := by
  rw [getElem!_pos zs.toArray j (by simpa using h)]
  simp
theorem uniq_upto {zs : List By} (hs : zs.Pairwise (· ≤ ·)) : ∀ m, m ≤ zs.length → (Lib.compactUpTo zs.toArray m).Pairwise (· < ·) ∧ ∀ x, x ∈ Lib.compactUpTo zs.toArray m ↔ ∃ j, j < m ∧ zs[j]? = some x
  | 0, _ => by simp [Lib.compactUpTo]
  | m + 1, hm => by
    obtain ⟨h1, h2⟩ := uniq_upto hs m (by omega)
    have hle : ∀ i j (hi : i < zs.length) (hj : j < zs.length), i ≤ j → zs[i] ≤ zs[j] := fun i j hi hj hij => by
      rcases Nat.lt_or_eq_of_le hij with h | rfl
      · exact List.pairwise_iff_getElem.1 hs i j hi hj h
      · exact List.le_refl _
    have hg := get_bang (zs := zs) (j := m) (by omega)
    rw [Lib.compactUpTo_succ]
    by_cases hk : Lib.keeps zs.toArray m = true
    · rw [if_pos hk, hg]
      constructor
      · rw [List.pairwise_append]
        refine ⟨h1, List.pairwise_singleton _ _, fun x hx y hy => ?_⟩
        rw [List.mem_singleton.1 hy]
        obtain ⟨j, hj, hjx⟩ := (h2 x).1 hx
        obtain ⟨hjl, rfl⟩ := List.getElem?_eq_some_iff.1 hjx
        have hne : zs[m - 1] ≠ zs[m] := by
          simp only [Lib.keeps, decide_eq_true_eq] at hk
          rcases hk with hk | hk
          · omega
          · rw [hg, get_bang (j := m - 1) (by omega)] at hk
            exact fun e => hk e.symm
        exact lt_of_le_lt (hle j (m - 1) hjl (by omega) (by omega)) (lt_of_le_ne (hle (m - 1) m (by omega) (by omega) (by omega)) hne)
      · intro x
        rw [List.mem_append, h2, List.mem_singleton]
        constructor
        · rintro (⟨j, hj, e⟩ | rfl)
          · exact ⟨j, by omega, e⟩
          · exact ⟨m, by omega, List.getElem?_eq_getElem (by omega)⟩
        · rintro ⟨j, hj, e⟩
          by_cases hjm : j < m
          · exact .inl ⟨j, hjm, e⟩
          · obtain rfl : j = m := by omega
            rw [List.getElem?_eq_getElem (by omega)] at e
            exact .inr (Option.some.inj e).symm
    · rw [if_neg hk, List.append_nil]
      refine ⟨h1, fun x => ?_⟩
      rw [h2]
      have hk' : m ≠ 0 ∧ zs[m]? = zs[m - 1]? := by
        simp only [Lib.keeps, decide_eq_true_eq, not_or, Decidable.not_not] at hk
        refine ⟨hk.1, ?_⟩
        rw [hg, get_bang (j := m - 1) (by omega)] at hk
        rw [List.getElem?_eq_getElem (by omega), List.getElem?_eq_getElem (by omega), hk.2]
      constructor
      · rintro ⟨j, hj, e⟩; exact ⟨j, by omega, e⟩
      · rintro ⟨j, hj, e⟩
        by_cases hjm : j < m
        · exact ⟨j, hjm, e⟩
        · obtain rfl : j = m := by omega
          exact ⟨j - 1, by omega, by rw [← hk'.2]; exact e⟩
def sortB (zs : List By) : List By := zs.mergeSort fun x y => decide (x ≤ y)
theorem sortB_sorted (zs : List By) : (sortB zs).Pairwise (· ≤ ·) := by
  have := List.pairwise_mergeSort (le := fun x y : By => decide (x ≤ y)) (fun a b c h1 h2 => by simp only [decide_eq_true_eq] at *; exact List.le_trans h1 h2) (fun a b => by simp only [Bool.or_eq_true, decide_eq_true_eq]; exact List.le_total a b) zs
  exact this.imp fun h => by simpa using h
/-- All paths, rising, each once. -/
def pathsOf (zs : List By) : List By := uniq (sortB zs)
theorem pathsOf_lt (zs : List By) : (pathsOf zs).Pairwise (· < ·) := (uniq_upto (sortB_sorted zs) _ (Nat.le_refl _)).1
theorem pathsOf_mem (zs : List By) (x : By) : x ∈ pathsOf zs ↔ x ∈ zs := by
  unfold pathsOf uniq
  rw [(uniq_upto (sortB_sorted zs) _ (Nat.le_refl _)).2]
  constructor
  · rintro ⟨j, -, e⟩
    exact (List.mem_mergeSort).1 (List.mem_of_getElem? e)
  · intro h
    have h' : x ∈ sortB zs := List.mem_mergeSort.2 h
    obtain ⟨j, hj⟩ := List.getElem?_of_mem h'
    exact ⟨j, (List.getElem?_eq_some_iff.1 hj).1, hj⟩
/-- The text that the last file of a path has. -/
def lastT : List Fl → By → Option By
  | [], _ => none
  | f :: r, q => match lastT r q with | some t => some t | none => if f.path = q then some f.text else none
/-- The text that the first file of a path has. -/
def getT : List Fl → By → Option By
  | [], _ => none
  | f :: r, q => if f.path = q then some f.text else getT r q
theorem lastT_append (L R : List Fl) (q : By) : lastT (L ++ R) q = match lastT R q with | some t => some t | none => lastT L q := by
  induction L with
  | nil => simp only [List.nil_append, lastT]; cases lastT R q <;> rfl
  | cons f L ih =>
    rw [List.cons_append, lastT, ih]
    cases lastT R q with
    | some t => rfl
    | none => rfl
theorem lastT_snoc (L : List Fl) (p t q : By) : lastT (L ++ [⟨p, t⟩]) q = if p = q then some t else lastT L q := by
  rw [lastT_append]
  by_cases h : p = q <;> simp [lastT, h]
theorem lastT_none (L : List Fl) (q : By) : lastT L q = none ↔ q ∉ L.map Fl.path := by
  induction L with
  | nil => simp [lastT]
  | cons f L ih =>
    rw [lastT, List.map_cons, List.mem_cons, not_or]
    cases h : lastT L q with
    | some t =>
      rw [h] at ih
      simp only [reduceCtorEq, false_iff, Decidable.not_not] at ih ⊢
      intro hh; exact hh.2 ih
    | none =>
      rw [h] at ih
      simp only [true_iff] at ih
      by_cases e : f.path = q
      · simp [e]
      · rw [if_neg e]
        simp only [true_iff]
        exact ⟨fun h => e h.symm, ih⟩
def sortF (L : List Fl) : List Fl := (pathsOf (L.map Fl.path)).map fun q => ⟨q, (lastT L q).getD []⟩
def putF (L : List Fl) (p t : By) : List Fl := sortF (L ++ [⟨p, t⟩])
def remF (L : List Fl) (p : By) : List Fl := L.filter fun f => f.path ≠ p
def Rising (L : List Fl) : Prop := L.Pairwise fun a b => a.path < b.path
theorem rising_sort (L : List Fl) : Rising (sortF L) := by
  unfold Rising sortF
  rw [List.pairwise_map]
  exact pathsOf_lt _
theorem rising_rem {L : List Fl} (h : Rising L) (p : By) : Rising (remF L p) := List.Pairwise.filter _ h
theorem get_sort (L : List Fl) (q : By) : getT (sortF L) q = lastT L q := by
  have key : ∀ (ps : List By), getT (ps.map fun q => (⟨q, (lastT L q).getD []⟩ : Fl)) q = if q ∈ ps then some ((lastT L q).getD []) else none := by
    intro ps
    induction ps with
    | nil => rfl
    | cons p ps ih =>
      rw [List.map_cons, getT, ih]
      by_cases e : p = q
      · subst e; simp
      · have e2 : ¬ q = p := fun h => e h.symm
        simp only [e, if_false, List.mem_cons, e2, false_or]
  unfold sortF
  rw [key]
  by_cases h : q ∈ L.map Fl.path
  · rw [if_pos ((pathsOf_mem _ q).2 h)]
    cases hl : lastT L q with
    | none => exact absurd h ((lastT_none L q).1 hl)
    | some t => rfl
  · rw [if_neg (fun hh => h ((pathsOf_mem _ q).1 hh)), (lastT_none L q).2 h]
theorem get_rem (L : List Fl) (p q : By) : getT (remF L p) q = if q = p then none else getT L q := by
  induction L with
  | nil => unfold remF getT; simp
  | cons f L ih =>
    unfold remF at ih ⊢
    rw [List.filter_cons]
    by_cases e : f.path = p
    · rw [if_neg (by simp [e]), ih, getT]
      by_cases e2 : q = p
      · rw [if_pos e2, if_pos e2]
      · rw [if_neg e2, if_neg e2, if_neg (by rw [e]; exact fun h => e2 h.symm)]
    · rw [if_pos (by simp [e]), getT, getT, ih]
      by_cases e2 : q = p
      · subst e2
        rw [if_neg e, if_pos rfl, if_pos rfl]
      · rw [if_neg e2, if_neg e2]
theorem get_mem {L : List Fl} (h : Rising L) {f : Fl} (hf : f ∈ L) : getT L f.path = some f.text := by
  induction L with
  | nil => simp at hf
  | cons g L ih =>
    obtain ⟨h1, h2⟩ := List.pairwise_cons.1 h
    rw [getT]
    rcases List.mem_cons.1 hf with rfl | hf
    · simp
    · have := h1 f hf
      rw [if_neg (fun e => by rw [e] at this; exact List.lt_irrefl _ this)]
      exact ih h2 hf
theorem mem_get {L : List Fl} {q t : By} (h : getT L q = some t) : (⟨q, t⟩ : Fl) ∈ L := by
  induction L with
  | nil => simp [getT] at h
  | cons g L ih =>
    rw [getT] at h
    split at h
    · rename_i e
      have e2 : g.text = t := Option.some.inj h
      subst e e2
      exact List.mem_cons_self
    · exact List.mem_cons_of_mem _ (ih h)
/-- Rising rows of files in which each path has the same text are the same. -/
theorem rising_ext : ∀ {A B : List Fl}, Rising A → Rising B → (∀ q, getT A q = getT B q) → A = B
  | [], [], _, _, _ => rfl
  | [], b :: B, _, hb, h => by
    have := h b.path
    rw [get_mem hb List.mem_cons_self] at this
    simp [getT] at this
  | a :: A, [], ha, _, h => by
    have := h a.path
    rw [get_mem ha List.mem_cons_self] at this
    simp [getT] at this
  | a :: A, b :: B, ha, hb, h => by
    obtain ⟨a1, a2⟩ := List.pairwise_cons.1 ha
    obtain ⟨b1, b2⟩ := List.pairwise_cons.1 hb
    have e1 := h a.path
    rw [get_mem ha List.mem_cons_self] at e1
    have m1 : a ∈ b :: B := mem_get e1.symm
    have e2 := h b.path
    rw [get_mem hb List.mem_cons_self] at e2
    have m2 : b ∈ a :: A := mem_get e2
    have hab : a = b := by
      rcases List.mem_cons.1 m1 with e | m1
      · exact e
      · rcases List.mem_cons.1 m2 with e | m2
        · exact e.symm
        · exact absurd (List.lt_trans (b1 a m1) (a1 b m2)) (List.lt_irrefl _)
    subst hab
    congr 1
    refine rising_ext a2 b2 fun q => ?_
    have := h q
    rw [getT, getT] at this
    by_cases e : a.path = q
    · subst e
      have n1 : ∀ {L : List Fl}, (∀ f ∈ L, a.path < f.path) → getT L a.path = none := by
        intro L hL
        cases hg : getT L a.path with
        | none => rfl
        | some t => exact absurd (hL _ (mem_get hg)) (List.lt_irrefl _)
      rw [n1 a1, n1 b1]
    · rw [if_neg e, if_neg e] at this
      exact this
theorem get_put (L : List Fl) (p t q : By) : getT (putF L p t) q = if p = q then some t else lastT L q := by
  unfold putF
  rw [get_sort, lastT_snoc]
end Go.Proofs.YtbekbllffphfeaaDoor.T
