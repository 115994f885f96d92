/-
  For the laws of cells: the texts and the rows as pure functions: what comes where a side is as it was, turned about, and what is kept; no program. No condition but sizes of texts where they are named.
-/
import Derived.Test.YtfjmhnnjgjcmeaaGreatDoorCv
namespace Go.Proofs.YtfjmhnnjgjcmeaaGreatDoor
open Go.RowKit Go.Shelf
set_option linter.unusedSimpArgs false
set_option linter.unusedVariables false

theorem snocRec {α : Type} {P : List α → Prop} (h0 : P []) (h1 : ∀ l a, P l → P (l ++ [a])) (l : List α) : P l := by
  have h : ∀ r : List α, P r.reverse := by
    intro r
    induction r with
    | nil => exact h0
    | cons a r ih => rw [List.reverse_cons]; exact h1 _ _ ih
  have := h l.reverse
  rwa [List.reverse_reverse] at this
theorem uniq_snoc (l : TL) (s : ByteArray) : uniqT (l ++ [s]) = uq (uniqT l) s := by unfold uniqT; rw [List.foldl_append]; rfl
theorem uniq_full (l : TL) (h : (uniqT l).length = l.length) : l.Nodup := by
  revert h
  refine snocRec (P := fun l => (uniqT l).length = l.length → l.Nodup) (fun _ => List.nodup_nil) (fun l s ih h => ?_) l
  rw [uniq_snoc, List.length_append, List.length_singleton] at h
  have hle := uniq_len l
  unfold uq at h
  split at h
  · omega
  · rename_i hs
    rw [List.length_append, List.length_singleton] at h
    rw [List.nodup_append]
    refine ⟨ih (by omega), by simp, fun x hx y hy => ?_⟩
    obtain rfl := List.mem_singleton.1 hy
    rintro rfl
    exact hs (uniq_mem.2 hx)
/-- What comes of a key. -/
def T3 (o a b : SL) (s : ByteArray) : ByteArray × Bool × Int := threeP (getP o s).1 (getP a s).1 (getP b s).1 (getP o s).2 (getP a s).2 (getP b s).2
def segF (o a b : SL) (s : ByteArray) : Option (ByteArray × ByteArray) := if (T3 o a b s).2.1 then some (s, (T3 o a b s).1) else none
def conF (o a b : SL) (s : ByteArray) : Option (Int × ByteArray) := if (T3 o a b s).2.2 = 0 then none else some ((T3 o a b s).2.2, s)
theorem tx1_T (o a b : SL) (acc : SL × CL) (s : ByteArray) : tx1 o a b acc s = (if (T3 o a b s).2.1 then acc.1 ++ [(s, (T3 o a b s).1)] else acc.1, if (T3 o a b s).2.2 = 0 then acc.2 else acc.2 ++ [((T3 o a b s).2.2, s)]) := rfl
theorem texts_fold (o a b : SL) : ∀ (K : TL) (acc : SL × CL), K.foldl (tx1 o a b) acc = (acc.1 ++ K.filterMap (segF o a b), acc.2 ++ K.filterMap (conF o a b))
  | [], acc => by simp
  | s :: K, acc => by
    rw [List.foldl_cons, texts_fold o a b K, tx1_T, List.filterMap_cons, List.filterMap_cons]
    have e1 : segF o a b s = if (T3 o a b s).2.1 then some (s, (T3 o a b s).1) else none := rfl
    have e2 : conF o a b s = if (T3 o a b s).2.2 = 0 then none else some ((T3 o a b s).2.2, s) := rfl
    rw [e1, e2]
    by_cases h1 : (T3 o a b s).2.1 = true <;> by_cases h2 : (T3 o a b s).2.2 = 0 <;> simp [h1, h2]
theorem texts_eq (o a b : SL) : textsP o a b = ((allK o a b).filterMap (segF o a b), (allK o a b).filterMap (conF o a b)) := by
  unfold textsP
  rw [texts_fold]
  simp
theorem allK_mem {o a b : SL} {s : ByteArray} : s ∈ allK o a b ↔ (s ∈ a.map Prod.fst ∨ s ∈ o.map Prod.fst) ∨ s ∈ b.map Prod.fst := by
  unfold allK
  rw [uniq_mem, List.mem_append, List.mem_append]
theorem allK_nodup (o a b : SL) : (allK o a b).Nodup := uniq_nodup _
/-- Segments of keys, each at most once. -/
theorem keys_fm (f : ByteArray → Option (ByteArray × ByteArray)) (hf : ∀ s p, f s = some p → p.1 = s) : ∀ K : TL, (K.filterMap f).map Prod.fst = K.filter (fun s => (f s).isSome)
  | [] => rfl
  | s :: K => by
    rw [List.filterMap_cons, List.filter_cons]
    cases h : f s with
    | none => simp [keys_fm f hf K]
    | some p => simp [keys_fm f hf K, hf s p h]
theorem segF_key {o a b : SL} {s : ByteArray} {p : ByteArray × ByteArray} (h : segF o a b s = some p) : p.1 = s := by
  unfold segF at h
  split at h
  · simp only [Option.some.injEq] at h; rw [← h]
  · cases h
theorem texts_nodup (o a b : SL) : ((textsP o a b).1.map Prod.fst).Nodup := by
  rw [texts_eq]
  dsimp only
  rw [keys_fm _ (fun s p h => segF_key h)]
  exact (allK_nodup o a b).sublist List.filter_sublist
theorem getP_nodup : ∀ {L : SL} {p : ByteArray × ByteArray}, (L.map Prod.fst).Nodup → p ∈ L → getP L p.1 = (p.2, true)
  | q :: L, p, hn, hp => by
    rw [List.map_cons, List.nodup_cons] at hn
    unfold getP
    rw [List.find?_cons]
    rcases List.mem_cons.1 hp with rfl | hp
    · simp
    · have hne : ¬ q.1 = p.1 := fun e => hn.1 (e ▸ List.mem_map_of_mem hp)
      rw [decide_eq_false hne]
      exact getP_nodup hn.2 hp
theorem getP_off {L : SL} {s : ByteArray} (h : (getP L s).2 = false) : (getP L s).1 = ⟨#[]⟩ := by
  unfold getP at h ⊢
  split at h
  · cases h
  · rename_i e; rfl
theorem nz_get (L : SL) (s : ByteArray) : nz (getP L s).1 (getP L s).2 = (getP L s).1 := by
  unfold nz
  cases h : (getP L s).2 with
  | true => rfl
  | false => rw [getP_off h]; rfl
theorem three_oob (o b : ByteArray) (p r : Bool) : threeP o o b p p r = (nz b r, r, 0) := by
  unfold threeP threeB
  by_cases h : p = r
  · subst h
    by_cases e : nz o p = nz b p <;> simp [e]
  · have : (p == r) = false := by simpa using h
    simp [this]
theorem three_oaa (o a : ByteArray) (p q : Bool) : threeP o a a p q q = (nz a q, q, 0) := by
  unfold threeP threeB
  simp
theorem three_oao (o a : ByteArray) (p q : Bool) : threeP o a o p q p = (nz a q, q, 0) := by
  unfold threeP threeB
  by_cases h : q = p
  · subst h
    by_cases e : nz a q = nz o q <;> simp [e]
  · have : (q == p) = false := by simpa using h
    simp [this]
theorem T3_oob (o b : SL) (s : ByteArray) : T3 o o b s = ((getP b s).1, (getP b s).2, 0) := by unfold T3; rw [three_oob, nz_get]
theorem T3_oaa (o a : SL) (s : ByteArray) : T3 o a a s = ((getP a s).1, (getP a s).2, 0) := by unfold T3; rw [three_oaa, nz_get]
theorem T3_oao (o a : SL) (s : ByteArray) : T3 o a o s = ((getP a s).1, (getP a s).2, 0) := by unfold T3; rw [three_oao, nz_get]
/-- What is there is of one side at least. -/
theorem three_some {o a b : ByteArray} {p q r : Bool} (h : (threeP o a b p q r).2.1 = true) : q = true ∨ r = true := by
  unfold threeP threeB at h
  cases q <;> cases r <;> simp at h ⊢
  all_goals (repeat (split at h <;> try simp at h))
theorem three_sw {o a b : ByteArray} {p q r : Bool} (ht : textP (nz o p) (nz b r) (nz a q) = textP (nz o p) (nz a q) (nz b r)) : threeP o b a p r q = threeP o a b p q r := by
  unfold threeP threeB
  rw [ht]
  by_cases h1 : q = r
  · subst h1
    by_cases e1 : nz a q = nz b q
    · simp [e1]
    · have e1' : ¬ nz b q = nz a q := fun h => e1 h.symm
      by_cases h2 : q = p
      · subst h2
        by_cases e2 : nz a q = nz o q
        · have e3 : ¬ nz b q = nz o q := fun h => e1 (e2.trans h.symm)
          have e4 : ¬ nz o q = nz b q := fun h => e3 h.symm
          simp [e1, e1', e2, e3, e4]
        · by_cases e3 : nz b q = nz o q
          · have e4 : ¬ nz o q = nz a q := fun h => e2 h.symm
            simp [e1, e1', e2, e3, e4]
          · simp [e1, e1', e2, e3]
      · have b2 : (q == p) = false := by simpa using h2
        simp [e1, e1', b2]
  · have b1 : (q == r) = false := by simpa using h1
    have b1' : (r == q) = false := by simpa using fun h : r = q => h1 h.symm
    by_cases h2 : q = p
    · subst h2
      have b3 : (r == q) = false := b1'
      cases q <;> cases r <;> simp_all
    · by_cases h3 : r = p
      · subst h3
        cases q <;> cases r <;> simp_all
      · exfalso
        cases p <;> cases q <;> cases r <;> simp_all
end Go.Proofs.YtfjmhnnjgjcmeaaGreatDoor
