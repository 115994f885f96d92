/-
  For the laws of cells: rows as pure functions: the program's and the document's are one; what comes of one side, turned about, and what is kept. No program; conditions on sizes of texts where they are named.
-/
import Derived.Test.YtfjmhnnjgjcmeaaGreatDoorCx
namespace Go.Proofs.YtfjmhnnjgjcmeaaGreatDoor
open Go.RowKit Go.Shelf
set_option linter.unusedSimpArgs false
set_option linter.unusedVariables false

theorem fm_congr {α β : Type} {f g : α → Option β} : ∀ {l : List α}, (∀ x ∈ l, f x = g x) → l.filterMap f = l.filterMap g
  | [], _ => rfl
  | x :: l, h => by
    rw [List.filterMap_cons, List.filterMap_cons, h x (by simp), fm_congr (fun y hy => h y (List.mem_cons_of_mem _ hy))]
/-- The segments of some keys, of those that are there. -/
def pkF (l : SL) (s : ByteArray) : Option (ByteArray × ByteArray) := if (getP l s).2 then some (s, (getP l s).1) else none
def pickT (l : SL) (K : TL) : SL := K.filterMap (pkF l)
theorem pkF_key {l : SL} {s : ByteArray} {p : ByteArray × ByteArray} (h : pkF l s = some p) : p.1 = s := by
  unfold pkF at h
  split at h
  · simp only [Option.some.injEq] at h; rw [← h]
  · cases h
theorem pkF_some {l : SL} {s : ByteArray} : (pkF l s).isSome = (getP l s).2 := by
  unfold pkF
  cases (getP l s).2 <;> rfl
theorem pick_keys (l : SL) (K : TL) : (pickT l K).map Prod.fst = K.filter (fun s => (getP l s).2) := by
  unfold pickT
  rw [keys_fm _ (fun s p h => pkF_key h)]
  congr 1
  funext s
  exact pkF_some
theorem pick_mem {l : SL} {K : TL} {s : ByteArray} : s ∈ (pickT l K).map Prod.fst ↔ s ∈ K ∧ s ∈ l.map Prod.fst := by
  rw [pick_keys, List.mem_filter, getP_mem]
theorem pick_nodup {l : SL} {K : TL} (h : K.Nodup) : ((pickT l K).map Prod.fst).Nodup := by
  rw [pick_keys]
  exact h.sublist List.filter_sublist
theorem pick_get {l : SL} {K : TL} {s : ByteArray} (hK : K.Nodup) (h1 : s ∈ K) : getP (pickT l K) s = getP l s := by
  by_cases hm : s ∈ l.map Prod.fst
  · have h2 := getP_mem.2 hm
    have hp : (s, (getP l s).1) ∈ pickT l K := List.mem_filterMap.2 ⟨s, h1, by unfold pkF; rw [if_pos h2]⟩
    have h3 := getP_nodup (pick_nodup hK) hp
    dsimp only at h3
    rw [h3, ← h2]
  · rw [getP_none hm, getP_none (fun h => hm (pick_mem.1 h).2)]
theorem pick_pick {l : SL} {K M : TL} (hK : K.Nodup) (h : ∀ s ∈ l.map Prod.fst, s ∈ K) : pickT (pickT l K) M = pickT l M := by
  unfold pickT
  apply fm_congr
  intro s _
  show pkF (pickT l K) s = pkF l s
  have e : getP (pickT l K) s = getP l s := by
    by_cases hs : s ∈ K
    · exact pick_get hK hs
    · rw [getP_none (fun hm => hs (h s hm)), getP_none (fun hm => hs (pick_mem.1 hm).1)]
  unfold pkF
  rw [e]
theorem getP_snoc (L : SL) (q : ByteArray × ByteArray) (s : ByteArray) : getP (L ++ [q]) s = if s ∈ L.map Prod.fst then getP L s else if q.1 = s then (q.2, true) else (⟨#[]⟩, false) := by
  by_cases hm : s ∈ L.map Prod.fst
  · rw [if_pos hm]
    obtain ⟨p, -, -, -⟩ := getP_ix hm
    unfold getP
    rw [List.find?_append]
    cases hf : L.find? (fun p => decide (p.1 = s)) with
    | some p => rfl
    | none =>
      exfalso
      rw [List.find?_eq_none] at hf
      obtain ⟨p, hp, e⟩ := List.mem_map.1 hm
      exact hf p hp (decide_eq_true e)
  · rw [if_neg hm]
    unfold getP
    rw [List.find?_append, List.find?_eq_none.2 (fun p hp => by
      rw [decide_eq_true_iff]
      intro e
      exact hm (List.mem_map.2 ⟨p, hp, e⟩))]
    by_cases e : q.1 = s <;> simp [List.find?_cons, e]
theorem onceS_eq (L : SL) : onceS L = (uniqT (L.map Prod.fst)).map (fun k => (k, (getP L k).1)) := by
  refine snocRec (P := fun L : SL => onceS L = (uniqT (L.map Prod.fst)).map (fun k => (k, (getP L k).1))) rfl (fun L p ih => ?_) L
  have e1 : onceS (L ++ [p]) = onS (onceS L) p := by unfold onceS; rw [List.foldl_append]; rfl
  have ek : (onceS L).map Prod.fst = uniqT (L.map Prod.fst) := by
    rw [ih, List.map_map]
    exact List.map_id _
  rw [e1, List.map_append, show [p].map Prod.fst = [p.1] from rfl, uniq_snoc]
  unfold onS uq
  by_cases hm : p.1 ∈ L.map Prod.fst
  · have h2 : (getP (onceS L) p.1).2 = true := getP_mem.2 (by rw [ek]; exact uniq_mem.2 hm)
    rw [if_pos h2, if_pos (uniq_mem.2 hm), ih]
    apply List.map_congr_left
    intro k hk
    rw [getP_snoc, if_pos (uniq_mem.1 hk)]
  · have h2 : ¬ (getP (onceS L) p.1).2 = true := fun h => hm (by have h := getP_mem.1 h; rw [ek] at h; exact uniq_mem.1 h)
    rw [if_neg h2, if_neg (fun h => hm (uniq_mem.1 h)), ih, List.map_append]
    congr 1
    · apply List.map_congr_left
      intro k hk
      rw [getP_snoc, if_pos (uniq_mem.1 hk)]
    · simp [getP_snoc, hm]
theorem pick_all {l : SL} {K : TL} (h : ∀ s ∈ K, s ∈ l.map Prod.fst) : pickT l K = K.map (fun k => (k, (getP l k).1)) := by
  unfold pickT
  rw [← List.filterMap_eq_map']
  apply fm_congr
  intro s hs
  unfold pkF
  rw [if_pos (getP_mem.2 (h s hs))]
theorem pick_once (l : SL) : pickT l (uniqT (l.map Prod.fst)) = onceS l := by
  rw [onceS_eq, pick_all (fun s hs => uniq_mem.1 hs)]
/-- The row of the program. -/
def rowU (t : SL) (c : CL) (r : TL × Bool) : SL × CL := if r.2 then (pickT t (uniqT (r.1 ++ t.map Prod.fst)), c) else (t, c ++ [((2 : Int), (⟨#[]⟩ : ByteArray))])
def rowG (o a b : SL) : SL × CL := rowU (textsP o a b).1 (textsP o a b).2 (orderP (o.map Prod.fst) (a.map Prod.fst) (b.map Prod.fst))
/-- The row of the document. -/
def rowR (t : SL) (c : CL) (r : TL × Bool) : SL × CL := if r.2 then (pickT t r.1 ++ t.filter (fun p => !decide (p.1 ∈ r.1)), c) else (t, c ++ [((2 : Int), (⟨#[]⟩ : ByteArray))])
theorem order_nodup {o a b : TL} (h : (orderP o a b).2 = true) : (orderP o a b).1.Nodup := by
  unfold orderP ordU at h ⊢
  by_cases h1 : uniqT b = uniqT o
  · rw [if_pos h1]; exact uniq_nodup _
  · rw [if_neg h1] at h ⊢
    by_cases h2 : uniqT a = uniqT o
    · rw [if_pos h2]; exact uniq_nodup _
    · rw [if_neg h2] at h ⊢
      split at h
      · cases h
      · rename_i l e
        split at h
        · rename_i hl
          simp only [e, if_pos hl]
          exact uniq_full _ hl
        · cases h
theorem pick_part {t : SL} (hn : (t.map Prod.fst).Nodup) (q : ByteArray → Bool) : ∀ u : SL, (∀ p ∈ u, p ∈ t) → pickT t ((u.map Prod.fst).filter q) = u.filter (fun p => q p.1)
  | [], _ => rfl
  | p :: u, h => by
    have ih := pick_part hn q u (fun r hr => h r (List.mem_cons_of_mem _ hr))
    have hp := getP_nodup hn (h p (by simp))
    rw [List.map_cons, List.filter_cons, List.filter_cons]
    cases hq : q p.1 with
    | true =>
      rw [if_pos rfl, if_pos rfl]
      unfold pickT at ih ⊢
      rw [List.filterMap_cons, ih]
      have e : pkF t p.1 = some p := by unfold pkF; rw [hp]; rfl
      rw [e]
    | false =>
      rw [if_neg (by simp), if_neg (by simp)]
      exact ih
theorem row_ref {t : SL} {c : CL} {r : TL × Bool} (ht : (t.map Prod.fst).Nodup) (hr : r.2 = true → r.1.Nodup) : rowU t c r = rowR t c r := by
  unfold rowU rowR
  cases h : r.2 with
  | false => rfl
  | true =>
    rw [if_pos rfl, if_pos rfl, uniq_app (hr h) ht]
    have e : pickT t (r.1 ++ (t.map Prod.fst).filter (fun s => !decide (s ∈ r.1))) = pickT t r.1 ++ pickT t ((t.map Prod.fst).filter (fun s => !decide (s ∈ r.1))) := by unfold pickT; rw [List.filterMap_append]
    rw [e, pick_part ht _ t (fun p hp => hp)]
theorem rowG_ref (o a b : SL) : rowG o a b = rowR (textsP o a b).1 (textsP o a b).2 (orderP (o.map Prod.fst) (a.map Prod.fst) (b.map Prod.fst)) :=
  row_ref (texts_nodup o a b) order_nodup

theorem texts_side {o a b c : SL} (h : ∀ s, T3 o a b s = ((getP c s).1, (getP c s).2, 0)) : textsP o a b = (pickT c (allK o a b), []) := by
  rw [texts_eq]
  have e1 : segF o a b = pkF c := by funext s; unfold segF pkF; rw [h]
  have e2 : conF o a b = fun _ => none := by funext s; unfold conF; rw [h]; rfl
  rw [e1, e2]
  unfold pickT
  rw [List.filterMap_eq_nil_iff.2 (fun _ _ => rfl)]
theorem row_side {o a b c : SL} (h : ∀ s, T3 o a b s = ((getP c s).1, (getP c s).2, 0)) (hc : ∀ s ∈ c.map Prod.fst, s ∈ allK o a b) (ho : orderP (o.map Prod.fst) (a.map Prod.fst) (b.map Prod.fst) = (uniqT (c.map Prod.fst), true)) : rowG o a b = (onceS c, []) := by
  unfold rowG
  rw [texts_side h, ho]
  unfold rowU
  rw [if_pos rfl]
  dsimp only
  rw [uniq_app (uniq_nodup _) (pick_nodup (allK_nodup o a b))]
  have e : ((pickT c (allK o a b)).map Prod.fst).filter (fun s => !decide (s ∈ uniqT (c.map Prod.fst))) = [] := by
    rw [List.filter_eq_nil_iff]
    intro s hs
    have := (pick_mem.1 hs).2
    simp [uniq_mem, -List.mem_map, this]
  rw [e, List.append_nil, pick_pick (allK_nodup o a b) hc, pick_once]
theorem order_oob (o b : TL) : orderP o o b = (uniqT b, true) := by
  unfold orderP ordU
  by_cases h : uniqT b = uniqT o
  · rw [if_pos h, h]
  · rw [if_neg h, if_pos rfl]
theorem order_oao (o a : TL) : orderP o a o = (uniqT a, true) := by unfold orderP ordU; rw [if_pos rfl]
theorem row_oob (o b : SL) : rowG o o b = (onceS b, []) := row_side (T3_oob o b) (fun s hs => allK_mem.2 (.inr hs)) (order_oob _ _)
theorem row_oao (o a : SL) : rowG o a o = (onceS a, []) := row_side (T3_oao o a) (fun s hs => allK_mem.2 (.inl (.inl hs))) (order_oao _ _)
/-- Rows of keys with the same keys, each once. -/
theorem same_len {K M : TL} (h1 : K.Nodup) (h2 : M.Nodup) (h : ∀ s, s ∈ K ↔ s ∈ M) : K.length = M.length := ((List.perm_ext_iff_of_nodup h1 h2).2 h).length_eq
theorem row_oaa (o a : SL) : (rowG o a a).1.length = (onceS a).length ∧ ∀ c ∈ (rowG o a a).2, c.1 = 2 := by
  have hl : (onceS a).length = ((onceS a).map Prod.fst).length := (List.length_map ..).symm
  have ek : (onceS a).map Prod.fst = uniqT (a.map Prod.fst) := by rw [onceS_eq, List.map_map]; exact List.map_id _
  have hc : ∀ s ∈ a.map Prod.fst, s ∈ allK o a a := fun s hs => allK_mem.2 (.inr hs)
  unfold rowG rowU
  rw [texts_side (T3_oaa o a)]
  split
  · refine ⟨?_, by simp⟩
    dsimp only
    rw [pick_pick (allK_nodup o a a) hc, hl, ek]
    refine (List.length_map (f := Prod.fst) ..).symm.trans ?_
    refine same_len (pick_nodup (uniq_nodup _)) (uniq_nodup _) (fun s => ?_)
    rw [pick_mem, uniq_mem, uniq_mem, List.mem_append]
    exact ⟨fun h => h.2, fun h => ⟨.inr (pick_mem.2 ⟨hc s h, h⟩), h⟩⟩
  · refine ⟨?_, by simp⟩
    dsimp only
    rw [hl, ek]
    refine (List.length_map (f := Prod.fst) ..).symm.trans ?_
    refine same_len (pick_nodup (allK_nodup _ _ _)) (uniq_nodup _) (fun s => ?_)
    rw [pick_mem, uniq_mem]
    exact ⟨fun h => h.2, fun h => ⟨hc s h, h⟩⟩

/-- Turned about. -/
theorem T3_sw {o a b : SL} (h0 : ∀ p ∈ o, p.2.size ≤ 600) (h1 : ∀ p ∈ a, p.2.size ≤ 600) (h2 : ∀ p ∈ b, p.2.size ≤ 600) (s : ByteArray) : T3 o b a s = T3 o a b s :=
  three_sw (textP_sw _ _ _ (nz_le (getP_le h0)) (nz_le (getP_le h1)) (nz_le (getP_le h2)))
theorem allK_sw {o a b : SL} {s : ByteArray} : s ∈ allK o b a ↔ s ∈ allK o a b := by
  rw [allK_mem, allK_mem]
  constructor
  · rintro ((h | h) | h)
    · exact .inr h
    · exact .inl (.inr h)
    · exact .inl (.inl h)
  · rintro ((h | h) | h)
    · exact .inr h
    · exact .inl (.inr h)
    · exact .inl (.inl h)
theorem texts_mem {o a b : SL} {p : ByteArray × ByteArray} : p ∈ (textsP o a b).1 ↔ p.1 ∈ allK o a b ∧ (T3 o a b p.1).2.1 = true ∧ (T3 o a b p.1).1 = p.2 := by
  rw [texts_eq]
  dsimp only
  rw [List.mem_filterMap]
  constructor
  · rintro ⟨s, hs, h⟩
    have e := segF_key h
    subst e
    unfold segF at h
    split at h
    · rename_i h1
      simp only [Option.some.injEq] at h
      exact ⟨hs, h1, by rw [← h]⟩
    · cases h
  · rintro ⟨h1, h2, h3⟩
    exact ⟨p.1, h1, by unfold segF; rw [if_pos h2, h3]⟩
theorem con_mem {o a b : SL} {c : Int × ByteArray} : c ∈ (textsP o a b).2 ↔ c.2 ∈ allK o a b ∧ (T3 o a b c.2).2.2 ≠ 0 ∧ (T3 o a b c.2).2.2 = c.1 := by
  rw [texts_eq]
  dsimp only
  rw [List.mem_filterMap]
  constructor
  · rintro ⟨s, hs, h⟩
    unfold conF at h
    split at h
    · cases h
    · rename_i h1
      simp only [Option.some.injEq] at h
      rw [← h]
      exact ⟨hs, h1, rfl⟩
  · rintro ⟨h1, h2, h3⟩
    exact ⟨c.2, h1, by unfold conF; rw [if_neg h2, h3]⟩
theorem con_keys {o a b : SL} : (textsP o a b).2.map Prod.snd = (allK o a b).filter (fun s => !decide ((T3 o a b s).2.2 = 0)) := by
  rw [texts_eq]
  dsimp only
  generalize allK o a b = K
  induction K with
  | nil => rfl
  | cons s K ih =>
    rw [List.filterMap_cons, List.filter_cons]
    by_cases h : (T3 o a b s).2.2 = 0
    · have e : conF o a b s = none := by unfold conF; rw [if_pos h]
      rw [e]; simp [h, ih]
    · have e : conF o a b s = some ((T3 o a b s).2.2, s) := by unfold conF; rw [if_neg h]
      rw [e]; simp [h, ih]
theorem con_nodup (o a b : SL) : (textsP o a b).2.Nodup := by
  have h : ((textsP o a b).2.map Prod.snd).Nodup := by rw [con_keys]; exact (allK_nodup o a b).sublist List.filter_sublist
  revert h
  generalize (textsP o a b).2 = c
  intro h
  induction c with
  | nil => exact List.nodup_nil
  | cons x c ih =>
    rw [List.map_cons, List.nodup_cons] at h
    exact List.nodup_cons.2 ⟨fun hm => h.1 (List.mem_map_of_mem hm), ih h.2⟩
theorem seg_nodup (o a b : SL) : (textsP o a b).1.Nodup := by
  have h := texts_nodup o a b
  revert h
  generalize (textsP o a b).1 = c
  intro h
  induction c with
  | nil => exact List.nodup_nil
  | cons x c ih =>
    rw [List.map_cons, List.nodup_cons] at h
    exact List.nodup_cons.2 ⟨fun hm => h.1 (List.mem_map_of_mem hm), ih h.2⟩
/-- How often a conflict is told. -/
def cntC (d : CL) (x : Int × ByteArray) : Nat := (d.filter (fun y => decide (y = x))).length
theorem cnt_none {d : CL} {x : Int × ByteArray} (h : x ∉ d) : cntC d x = 0 := by
  unfold cntC
  rw [List.length_eq_zero_iff, List.filter_eq_nil_iff]
  intro y hy
  rw [decide_eq_true_iff]
  rintro rfl
  exact h hy
theorem cnt_one : ∀ {d : CL} {x : Int × ByteArray}, d.Nodup → x ∈ d → cntC d x = 1
  | y :: d, x, hn, hx => by
    rw [List.nodup_cons] at hn
    by_cases e : y = x
    · subst e
      have h := cnt_none hn.1
      unfold cntC at h ⊢
      rw [List.filter_cons, if_pos (decide_eq_true rfl), List.length_cons, h]
    · have hx : x ∈ d := by
        rcases List.mem_cons.1 hx with h | h
        · exact absurd h.symm e
        · exact h
      have h := cnt_one hn.2 hx
      unfold cntC at h ⊢
      rw [List.filter_cons, if_neg (by rw [decide_eq_true_iff]; exact e), h]
theorem cnt_take {d : CL} {k : Nat} {x y : Int × ByteArray} (h : d[k]? = some y) : cntC (d.take (k + 1)) x = cntC (d.take k) x + (if y = x then 1 else 0) := by
  unfold cntC
  rw [List.take_add_one, h, List.filter_append, List.length_append]
  congr 1
  by_cases e : y = x <;> simp [e]
structure TurnedS (x y : SL) (c d : CL) : Prop where
  lx : x.length = y.length
  lc : c.length = d.length
  gx : ∀ p ∈ x, getP y p.1 = (p.2, true)
  nc : ∀ p ∈ c, cntC d p = 1
theorem texts_turned {o a b : SL} (h0 : ∀ p ∈ o, p.2.size ≤ 600) (h1 : ∀ p ∈ a, p.2.size ≤ 600) (h2 : ∀ p ∈ b, p.2.size ≤ 600) : TurnedS (textsP o a b).1 (textsP o b a).1 (textsP o a b).2 (textsP o b a).2 := by
  have m1 : ∀ p, p ∈ (textsP o a b).1 ↔ p ∈ (textsP o b a).1 := fun p => by rw [texts_mem, texts_mem, T3_sw h0 h1 h2, allK_sw]
  have m2 : ∀ p, p ∈ (textsP o a b).2 ↔ p ∈ (textsP o b a).2 := fun p => by rw [con_mem, con_mem, T3_sw h0 h1 h2, allK_sw]
  refine ⟨((List.perm_ext_iff_of_nodup (seg_nodup _ _ _) (seg_nodup _ _ _)).2 m1).length_eq, ((List.perm_ext_iff_of_nodup (con_nodup _ _ _) (con_nodup _ _ _)).2 m2).length_eq, fun p hp => getP_nodup (texts_nodup _ _ _) ((m1 p).1 hp), fun p hp => cnt_one (con_nodup o b a) ((m2 p).1 hp)⟩

/-- What is kept. -/
theorem row_mem {o a b : SL} {s : ByteArray} : s ∈ (rowG o a b).1.map Prod.fst ↔ s ∈ (textsP o a b).1.map Prod.fst := by
  unfold rowG rowU
  split
  · dsimp only
    rw [pick_mem, uniq_mem, List.mem_append]
    exact ⟨fun h => h.2, fun h => ⟨.inr h, h⟩⟩
  · rfl
theorem row_nodup (o a b : SL) : ((rowG o a b).1.map Prod.fst).Nodup := by
  unfold rowG rowU
  split
  · exact pick_nodup (uniq_nodup _)
  · exact texts_nodup o a b
theorem row_get {o a b : SL} {s : ByteArray} (h : s ∈ (textsP o a b).1.map Prod.fst) : getP (rowG o a b).1 s = getP (textsP o a b).1 s := by
  unfold rowG rowU
  split
  · exact pick_get (uniq_nodup _) (uniq_mem.2 (List.mem_append.2 (.inr h)))
  · rfl
theorem row_sides {o a b : SL} {s : ByteArray} (h : s ∈ (rowG o a b).1.map Prod.fst) : (getP a s).2 = true ∨ (getP b s).2 = true := by
  obtain ⟨p, hp, rfl⟩ := List.mem_map.1 (row_mem.1 h)
  exact three_some (texts_mem.1 hp).2.1
theorem row_kept {o a b : SL} {s : ByteArray} (h0 : s ∈ o.map Prod.fst) (h1 : (getP a s).2 = true) (h2 : (getP b s).2 = true) (e1 : (getP a s).1 = (getP o s).1) (e2 : (getP b s).1 = (getP o s).1) : getP (rowG o a b).1 s = ((getP o s).1, true) := by
  have h3 : T3 o a b s = ((getP o s).1, true, 0) := by
    unfold T3
    rw [h1, h2, e1, e2, three_oaa]
    rfl
  have hp : (s, (getP o s).1) ∈ (textsP o a b).1 := texts_mem.2 ⟨allK_mem.2 (.inl (.inr h0)), by rw [h3], by rw [h3]⟩
  rw [row_get (List.mem_map.2 ⟨_, hp, rfl⟩)]
  exact getP_nodup (texts_nodup o a b) hp
end Go.Proofs.YtfjmhnnjgjcmeaaGreatDoor
