/-
  For the laws of cells: rows of keys and of segments as lists; facts on them, no program.
-/
import Derived.Test.YtfjmhnnjgjcmeaaGreatDoorCa
namespace Go.Proofs.YtfjmhnnjgjcmeaaGreatDoor
set_option linter.unusedSimpArgs false
set_option linter.unusedVariables false

theorem uq_mem {L : TL} {s t : ByteArray} : t ∈ uq L s ↔ t ∈ L ∨ t = s := by
  unfold uq
  split
  · rename_i h
    constructor
    · exact .inl
    · rintro (h2 | rfl)
      · exact h2
      · exact h
  · simp
theorem foldl_uq_mem : ∀ (l L : TL) (t : ByteArray), t ∈ l.foldl uq L ↔ t ∈ L ∨ t ∈ l
  | [], L, t => by simp
  | s :: l, L, t => by
    rw [List.foldl_cons, foldl_uq_mem l (uq L s) t, uq_mem, List.mem_cons, or_assoc]
theorem uniq_mem {l : TL} {t : ByteArray} : t ∈ uniqT l ↔ t ∈ l := by
  unfold uniqT
  rw [foldl_uq_mem]
  simp
theorem uq_nodup {L : TL} {s : ByteArray} (h : L.Nodup) : (uq L s).Nodup := by
  unfold uq
  split
  · exact h
  · rename_i hs
    rw [List.nodup_append]
    refine ⟨h, by simp, fun x hx y hy => ?_⟩
    obtain rfl : y = s := by simpa using hy
    intro e
    subst e
    exact hs hx
theorem uniq_nodup (l : TL) : (uniqT l).Nodup := by
  have : ∀ (l L : TL), L.Nodup → (l.foldl uq L).Nodup := by
    intro l
    induction l with
    | nil => intro L h; exact h
    | cons s l ih => intro L h; exact ih _ (uq_nodup h)
  exact this l [] List.nodup_nil
/-- Behind a row without doubles only what isn't there comes. -/
theorem foldl_uq_new : ∀ (r L : TL), r.Nodup → r.foldl uq L = L ++ r.filter (fun s => !decide (s ∈ L))
  | [], L, _ => by simp
  | s :: r, L, h => by
    obtain ⟨h1, h2⟩ := List.nodup_cons.1 h
    rw [List.foldl_cons, foldl_uq_new r (uq L s) h2, List.filter_cons]
    by_cases hs : s ∈ L
    · have e : uq L s = L := by unfold uq; rw [if_pos hs]
      rw [e]
      simp [hs]
    · have e : uq L s = L ++ [s] := by unfold uq; rw [if_neg hs]
      rw [e]
      simp only [hs, decide_false, Bool.not_false, if_true, List.append_assoc, List.singleton_append]
      congr 2
      apply List.filter_congr
      intro t ht
      have hts : t ≠ s := fun e => h1 (e ▸ ht)
      simp [hts]
theorem uniq_id {l : TL} (h : l.Nodup) : uniqT l = l := by
  unfold uniqT
  rw [foldl_uq_new l [] h]
  simp
theorem uniq_app {l r : TL} (h1 : l.Nodup) (h2 : r.Nodup) : uniqT (l ++ r) = l ++ r.filter (fun s => !decide (s ∈ l)) := by
  unfold uniqT
  rw [List.foldl_append]
  have e : l.foldl uq [] = l := uniq_id h1
  rw [e, foldl_uq_new r l h2]
theorem nodup_slc {l : TL} (h : l.Nodup) (i j : Nat) : (L.slc l i j).Nodup := by
  unfold L.slc
  exact (h.sublist (List.drop_sublist _ _)).sublist (List.take_sublist _ _)
/-- The keys that no side took away. -/
def keepT (l o a b : TL) : TL := l.filter (fun s => !decide (s ∈ o) || (decide (s ∈ a) && decide (s ∈ b)))
/-- The keys that were taken away. -/
def goneT (o a b : TL) : TL := o.filter (fun s => !(decide (s ∈ a) && decide (s ∈ b)))
theorem keep_gone (l o a b : TL) : keepT l o a b = l.filter (fun s => !decide (s ∈ goneT o a b)) := by
  unfold keepT goneT
  apply List.filter_congr
  intro s _
  by_cases h1 : s ∈ o <;> by_cases h2 : s ∈ a <;> by_cases h3 : s ∈ b <;> simp [List.mem_filter, h1, h2, h3]
/-- One chunk more of an order: none where what was lies in a clash. -/
def ordC (y z : TL) (r : Option TL) (c : L.Ck) : Option TL := match r with
  | none => none
  | some l => if c.kind = 2 then some (l ++ L.slc z c.p.b c.q.b) else if c.kind ≠ 4 then some (l ++ L.slc y c.p.a c.q.a) else if c.p.o < c.q.o then none else some (l ++ (L.slc y c.p.a c.q.a ++ (L.slc z c.p.b c.q.b).filter (fun s => !decide (s ∈ L.slc y c.p.a c.q.a))))
def ordF (y z : TL) (l : List L.Ck) : Option TL := l.foldl (ordC y z) (some [])
theorem ordF_take {y z : TL} {l : List L.Ck} {k : Nat} {c : L.Ck} (h : l[k]? = some c) : ordF y z (l.take (k + 1)) = ordC y z (ordF y z (l.take k)) c := by
  unfold ordF
  rw [List.take_add_one, h, List.foldl_append]
  rfl
theorem ordF_none {y z : TL} {l : List L.Ck} {k : Nat} (h : ordF y z (l.take k) = none) : ordF y z l = none := by
  have : ∀ m : List L.Ck, m.foldl (ordC y z) none = none := by
    intro m
    induction m with
    | nil => rfl
    | cons c m ih => rw [List.foldl_cons]; exact ih
  unfold ordF at h ⊢
  rw [← List.take_append_drop k l, List.foldl_append, h, this]
/-- The order of three rows of keys, each without doubles. -/
def ordU (o a b : TL) : TL × Bool :=
  if b = o then (a, true) else if a = o then (b, true) else
    match ordF (keepT a o a b) (keepT b o a b) (L.chunksT (keepT o o a b) (keepT a o a b) (keepT b o a b)) with
    | none => ([], false)
    | some l => if (uniqT l).length = l.length then (l, true) else ([], false)
def orderP (o a b : TL) : TL × Bool := ordU (uniqT o) (uniqT a) (uniqT b)
end Go.Proofs.YtfjmhnnjgjcmeaaGreatDoor
