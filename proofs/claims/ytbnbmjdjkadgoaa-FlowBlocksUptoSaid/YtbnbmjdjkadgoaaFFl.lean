/-
  For the laws of flow: what of a tree of nodes is reached; no program. No condition.
-/
import Derived.Test.YtbnbmjdjkadgoaaNd
import Derived.Test.YtbnbmjdjkadgoaaAll
import Derived.Test.YtbnbmjdjkadgoaaCnt
import Derived.Test.YtbnbmjdjkadgoaaXPo
import Derived.Deep.Cut
namespace Go.Proofs.Ytbnbmjdjkadgoaa.F

/-- Is it a statement's kind? -/
def stmtK (k : Int) : Bool := decide (5 ≤ k) && decide (k ≤ 12)
/-- Does a while end: is its first kid not the word true? -/
def whK (ks : List Nd) : Bool := match ks with
  | [] => true
  | c :: _ => !(decide (c.hd.kind = 14) && decide (c.hd.n = 1))
/-- Does a node end, if that is told of its kids? -/
def endH (h : Hd) (ks : List Nd) (es : List Bool) : Bool :=
  if h.kind = 11 then false
  else if h.kind = 10 then whK ks
  else if h.kind = 9 then (decide (es.length ≠ 3) || es.getD 1 true || es.getD 2 true)
  else if h.kind = 5 then es.all id else true
mutual
def endsN : Nd → Bool | .mk h ks => endH h ks (endsL ks)
def endsL : List Nd → List Bool
  | [] => []
  | t :: ts => endsN t :: endsL ts
end
/-- How many there are up to the first that does not end, and with it. -/
def stopE : List Bool → Nat
  | [] => 0
  | e :: es => if e then stopE es + 1 else 1
def reachH (h : Hd) (es : List Bool) (rs : List Nat) : Nat :=
  if stmtK h.kind then (if h.kind = 5 then rs.take (stopE es) else rs).foldl (· + ·) 1 else 0
mutual
def reachN : Nd → Nat | .mk h ks => reachH h (endsL ks) (reachL ks)
def reachL : List Nd → List Nat
  | [] => []
  | t :: ts => reachN t :: reachL ts
end
mutual
/-- The first that is never reached. -/
def deadN : Nd → Option Nd | .mk h ks => deadL (decide (h.kind = 5)) false ks
def deadL (blk ended : Bool) : List Nd → Option Nd
  | [] => none
  | t :: ts => if blk && ended then some t else (deadN t).or (deadL blk (ended || !endsN t) ts)
end
theorem endsL_eq : ∀ ks, endsL ks = ks.map endsN
  | [] => by rw [endsL, List.map_nil]
  | t :: ts => by rw [endsL, endsL_eq ts, List.map_cons]
theorem reachL_eq : ∀ ks, reachL ks = ks.map reachN
  | [] => by rw [reachL, List.map_nil]
  | t :: ts => by rw [reachL, reachL_eq ts, List.map_cons]
theorem ends_kids (t : Nd) : endsN t = endH t.hd t.kids (t.kids.map endsN) := by cases t; rw [endsN, endsL_eq]; rfl
theorem reach_kids (t : Nd) : reachN t = reachH t.hd (t.kids.map endsN) (t.kids.map reachN) := by cases t; rw [reachN, endsL_eq, reachL_eq]; rfl
theorem dead_kids (t : Nd) : deadN t = deadL (decide (t.hd.kind = 5)) false t.kids := by cases t; rw [deadN]; rfl
theorem stopE_le : ∀ es, stopE es ≤ es.length
  | [] => by simp [stopE]
  | e :: es => by
    have := stopE_le es
    rw [stopE, List.length_cons]
    split <;> omega
/-- Which of the kids are dead at once. -/
def flags (blk ended : Bool) : List Nd → List (Nd × Bool)
  | [] => []
  | t :: ts => (t, blk && ended) :: flags blk (ended || !endsN t) ts
theorem flags_len (blk : Bool) : ∀ (ended : Bool) ks, (flags blk ended ks).length = ks.length
  | _, [] => rfl
  | ended, t :: ts => by rw [flags, List.length_cons, flags_len blk _ ts, List.length_cons]
theorem flags_none : ∀ (ended : Bool) ks, flags false ended ks = ks.map (fun t => (t, false))
  | _, [] => rfl
  | ended, t :: ts => by rw [flags, flags_none _ ts, List.map_cons]; rfl
theorem flags_ended (ks : List Nd) : flags true true ks = ks.map (fun t => (t, true)) := by
  induction ks with
  | nil => rfl
  | cons t ts ih => rw [flags, Bool.true_or, ih, List.map_cons]; rfl
theorem flags_get : ∀ (ks : List Nd) (k : Nat) (t : Nd), ks[k]? = some t → (flags true false ks)[k]? = some (t, decide (stopE (ks.map endsN) ≤ k))
  | x :: ts, k, t, h => by
    rw [flags, List.map_cons, stopE]
    cases hx : endsN x with
    | true =>
      rw [if_pos rfl]
      cases k with
      | zero => simp at h ⊢; exact h
      | succ k =>
        have := flags_get ts k t (by simpa using h)
        simpa using this
    | false =>
      rw [if_neg (by simp)]
      cases k with
      | zero => simp at h ⊢; exact h
      | succ k =>
        rw [List.getElem?_cons_succ] at h ⊢
        show (flags true true ts)[k]? = _
        rw [flags_ended, List.getElem?_map, h]
        simp
/-- How many of the kids are met, and not dead at once. -/
def stopN (t : Nd) : Nat := if t.hd.kind = 5 then stopE (t.kids.map endsN) else t.kids.length
theorem flags_kid (t : Nd) (k : Nat) (x : Nd) (h : t.kids[k]? = some x) : (flags (decide (t.hd.kind = 5)) false t.kids)[k]? = some (x, decide (stopN t ≤ k)) := by
  have hk := (List.getElem?_eq_some_iff.1 h).1
  unfold stopN
  by_cases h5 : t.hd.kind = 5
  · rw [decide_eq_true h5, if_pos h5]
    exact flags_get _ _ _ h
  · rw [decide_eq_false h5, if_neg h5, flags_none, List.getElem?_map, h, decide_eq_false (by omega)]
    rfl
/-- The first dead one of a row of places, the first place first. -/
def deadS : List (Nd × Bool) → Option Nd
  | [] => none
  | (t, d) :: st => if d then some t else (deadN t).or (deadS st)
theorem deadS_flags (blk : Bool) (st : List (Nd × Bool)) : ∀ (ended : Bool) ks, deadS (flags blk ended ks ++ st) = (deadL blk ended ks).or (deadS st)
  | ended, [] => by rw [flags, deadL]; rfl
  | ended, t :: ts => by
    rw [flags, List.cons_append, deadS, deadL]
    by_cases hd : (blk && ended) = true
    · rw [if_pos hd, if_pos hd]; rfl
    · rw [if_neg hd, if_neg hd, deadS_flags blk st _ ts]
      cases deadN t <;> rfl
theorem deadS_step (t : Nd) (st : List (Nd × Bool)) : deadS ((t, false) :: st) = deadS (flags (decide (t.hd.kind = 5)) false t.kids ++ st) := by
  rw [deadS_flags, deadS, if_neg (by simp), dead_kids]
theorem deadS_dead (t : Nd) (st : List (Nd × Bool)) : deadS ((t, true) :: st) = some t := by rw [deadS, if_pos rfl]
theorem reachH_zero {h : Hd} {es : List Bool} {rs : List Nat} (hs : stmtK h.kind = false) : reachH h es rs = 0 := by unfold reachH; rw [hs]; rfl
theorem foldl_le {rs : List Nat} : ∀ {a : Nat} {bs : List Nat}, rs.length = bs.length → (∀ (k x y : Nat), rs[k]? = some x → bs[k]? = some y → x ≤ y) → rs.foldl (· + ·) a ≤ bs.foldl (· + ·) a := by
  induction rs with
  | nil =>
    intro a bs hl _
    cases bs with
    | nil => exact Nat.le_refl _
    | cons _ _ => cases hl
  | cons x rs ih =>
    intro a bs hl h
    cases bs with
    | nil => cases hl
    | cons y bs =>
      simp only [List.foldl_cons]
      have h0 := h 0 x y rfl rfl
      have h1 : rs.foldl (· + ·) (a + x) ≤ bs.foldl (· + ·) (a + x) := ih (by simpa using hl) (fun k u v hu hv => h (k + 1) u v (by simpa using hu) (by simpa using hv))
      have h2 : ∀ (l : List Nat) (p q : Nat), p ≤ q → l.foldl (· + ·) p ≤ l.foldl (· + ·) q := by
        intro l
        induction l with
        | nil => intro p q h; exact h
        | cons c l ih => intro p q h; exact ih _ _ (Nat.add_le_add_right h c)
      exact Nat.le_trans h1 (h2 bs _ _ (Nat.add_le_add_left h0 a))
theorem foldl_add : ∀ (l : List Nat) (a : Nat), l.foldl (· + ·) a = a + l.foldl (· + ·) 0
  | [], a => rfl
  | x :: l, a => by rw [List.foldl_cons, List.foldl_cons, foldl_add l (a + x), foldl_add l (0 + x)]; omega
theorem foldl_take_le (l : List Nat) (k a : Nat) : (l.take k).foldl (· + ·) a ≤ l.foldl (· + ·) a := by
  have h := List.foldl_append (f := fun (x y : Nat) => x + y) (b := a) (l := l.take k) (l' := l.drop k)
  rw [List.take_append_drop] at h
  have h2 := foldl_add (l.drop k) ((l.take k).foldl (· + ·) a)
  omega
mutual
/-- No more are reached than there are. -/
theorem reach_le : ∀ t : Nd, reachN t ≤ t.cnt
  | .mk h ks => by
    rw [reachN, Nd.cnt, reachH]
    split
    · have h1 := reachL_le ks
      rw [foldl_add]
      have h2 := foldl_take_le (reachL ks) (stopE (endsL ks)) 0
      split <;> omega
    · omega
theorem reachL_le : ∀ ks : List Nd, (reachL ks).foldl (· + ·) 0 ≤ cntL ks
  | [] => by rw [reachL, cntL]; exact Nat.le_refl _
  | t :: ts => by
    have h1 := reach_le t
    have h2 := reachL_le ts
    rw [reachL, cntL, List.foldl_cons, foldl_add]
    omega
end
end Go.Proofs.Ytbnbmjdjkadgoaa.F
/-
  For the laws of flow: a row of spots; kids of a spot; its first that does not end. No condition.
-/
namespace Go.Proofs.Ytbnbmjdjkadgoaa.F
open Go.RowKit Go.Shelf
set_option linter.unusedSimpArgs false
set_option linter.unusedVariables false

/-- A spot: where its node lies, what that reads as, its kids' slice; the place of its first kid; does it end; how many are reached. -/
structure Sp where
  b : Nat
  o : Nat
  t : Nd
  kv : Value
  first : Nat
  ends : Bool
  rch : Nat
def Sp.cells (s : Sp) : List Value := [.pointer (some ⟨s.b, s.o, none⟩), .int .i64 (s.first : Nat), .bool s.ends, .int .i64 (s.rch : Nat)]
abbrev Sp.agg (s : Sp) : Value := .agg #[.pointer (some ⟨s.b, s.o, none⟩), .int .i64 (s.first : Nat), .bool s.ends, .int .i64 (s.rch : Nat)]
def spv (S : List Sp) : List Value := S.flatMap Sp.cells
theorem cells_len (s : Sp) : s.cells.length = 4 := rfl
theorem spv_len (S : List Sp) : (spv S).length = S.length * 4 := by
  unfold spv
  induction S with
  | nil => rfl
  | cons x L ih => rw [List.flatMap_cons, List.length_append, ih, List.length_cons, cells_len]; omega
theorem spv_app (A B : List Sp) : spv (A ++ B) = spv A ++ spv B := by unfold spv; rw [List.flatMap_append]
theorem spv_one (s : Sp) : spv [s] = s.cells := by simp [spv]
theorem spv_get {S : List Sp} {k : Nat} {s : Sp} (h : S[k]? = some s) (j : Nat) (hj : j < 4) : (spv S)[k * 4 + j]? = s.cells[j]? := by
  induction S generalizing k with
  | nil => simp at h
  | cons x L ih =>
    unfold spv
    rw [List.flatMap_cons]
    cases k with
    | zero =>
      simp at h; subst h
      rw [List.getElem?_append_left (by rw [cells_len]; omega), Nat.zero_mul, Nat.zero_add]
    | succ k =>
      rw [List.getElem?_append_right (by rw [cells_len]; omega), cells_len]
      have := ih (k := k) (by simpa using h)
      unfold spv at this
      rw [← this]
      congr 1
      omega
theorem spv_set {S : List Sp} {k : Nat} {s s' : Sp} (h : S[k]? = some s) (j : Nat) (hj : j < 4) (v : Value) (hv : s.cells.set j v = s'.cells) : (spv S).set (k * 4 + j) v = spv (S.set k s') := by
  induction S generalizing k with
  | nil => simp at h
  | cons x L ih =>
    unfold spv
    rw [List.flatMap_cons]
    cases k with
    | zero =>
      simp at h; subst h
      rw [List.set_append_left _ _ (by rw [cells_len]; omega), Nat.zero_mul, Nat.zero_add, hv, List.set_cons_zero, List.flatMap_cons]
    | succ k =>
      rw [List.set_append_right _ _ (by rw [cells_len]; omega), List.set_cons_succ, List.flatMap_cons]
      have := ih (k := k) (by simpa using h)
      unfold spv at this
      rw [← this]
      congr 2
      rw [cells_len]
      omega
/-- A spot's four cells from o on, in block g. -/
structure SpC (W : World) (g o : Nat) (s : Sp) : Prop where
  c0 : W.cell? ⟨g, o, none⟩ = some (.pointer (some ⟨s.b, s.o, none⟩))
  c1 : W.cell? ⟨g, o + 1, none⟩ = some (.int .i64 (s.first : Nat))
  c2 : W.cell? ⟨g, o + 2, none⟩ = some (.bool s.ends)
  c3 : W.cell? ⟨g, o + 3, none⟩ = some (.int .i64 (s.rch : Nat))
theorem SpC.below {W W' : World} {g o : Nat} {s : Sp} (h : SpC W g o s) (hb : Below W.heap.size W W') : SpC W' g o s := by
  have hl := World.block_lt_of_cell? W _ h.c0
  have e : ∀ j, W'.cell? ⟨g, j, none⟩ = W.cell? ⟨g, j, none⟩ := fun j => hb.cell (p := ⟨g, j, none⟩) hl
  exact ⟨(e _).trans h.c0, (e _).trans h.c1, (e _).trans h.c2, (e _).trans h.c3⟩
/-- The value v is a slice that reads as the spots S. -/
def SpRow (W : World) (v : Value) (S : List Sp) : Prop := ∃ (a : Option Addr) (cap : Nat), v = .slice a S.length cap ∧ S.length ≤ cap ∧ cap ≤ maxLen ∧ ∀ (k : Nat) (s : Sp), S[k]? = some s → ∃ g o, a = some ⟨g, o, none⟩ ∧ SpC W g (o + k * 4) s
theorem SpRow.below {W W' : World} {v : Value} {S : List Sp} (h : SpRow W v S) (hb : Below W.heap.size W W') : SpRow W' v S := by
  obtain ⟨a, cap, e, h1, h2, h3⟩ := h
  exact ⟨a, cap, e, h1, h2, fun k s hk => by obtain ⟨g, o, e2, c⟩ := h3 k s hk; exact ⟨g, o, e2, c.below hb⟩⟩
theorem SpRow.of_own {W : World} {base : Nat} {v : Value} {S : List Sp} (h : W.ownsRow base 89 4 v S.length (spv S)) : SpRow W v S := by
  rcases h.2 with ⟨rfl, h0⟩ | ⟨g, cap, cur, rfl, _, hg, h1, h2, h3, h4⟩
  · exact ⟨none, 0, by rw [h0], by omega, Nat.zero_le _, fun k s hk => by have := (List.getElem?_eq_some_iff.1 hk).1; omega⟩
  · refine ⟨_, cap, rfl, h1, h2, fun k s hk => ⟨g, 0, rfl, ?_⟩⟩
    have hkl := (List.getElem?_eq_some_iff.1 hk).1
    have cell : ∀ j, j < 4 → W.cell? ⟨g, 0 + k * 4 + j, none⟩ = s.cells[j]? := fun j hj => by
      rw [← spv_get hk j hj, ← h4, List.getElem?_take_of_lt (by omega), Nat.zero_add]
      simp [World.cell?, hg]
    exact ⟨cell 0 (by omega), cell 1 (by omega), cell 2 (by omega), cell 3 (by omega)⟩
/-- A cell of an own row turns. -/
theorem own_set {W : World} {base e size n g cap j : Nat} {xs : List Value} (h : W.ownsRow base e size (.slice (some ⟨g, 0, none⟩) n cap) n xs) (u : Value) : (W.setCell ⟨g, j, none⟩ u).ownsRow base e size (.slice (some ⟨g, 0, none⟩) n cap) n (xs.set j u) := by
  refine ⟨by rw [List.length_set]; exact h.1, .inr ?_⟩
  rcases h.2 with ⟨h0, -⟩ | ⟨g', cap', cur, e1, k1, hg, k2, k3, k4, k5⟩
  · cases h0
  · cases e1
    refine ⟨g, cap, cur.setIfInBounds j u, rfl, k1, RowAt.set (t := e) hg j u, k2, k3, by rw [Array.size_setIfInBounds]; exact k4, ?_⟩
    rw [Array.toList_setIfInBounds, ← k5, List.take_set]
/-- Its node lies there. -/
def NodeP (W : World) (s : Sp) : Prop := Cells W s.b s.o s.t.hd s.kv ∧ KidsAt W s.t.kids s.kv
theorem NodeP.below {W W' : World} {s : Sp} (h : NodeP W s) (hb : Below W.heap.size W W') : NodeP W' s := ⟨h.1.later hb, h.2.below hb⟩
/-- A spot's kids in the row. -/
def kidsS (S : List Sp) (s : Sp) : List Sp := (S.drop s.first).take s.t.kids.length
/-- They are the node's kids. -/
def KidOk (S : List Sp) (s : Sp) : Prop := s.first ≤ S.length ∧ (kidsS S s).map (·.t) = s.t.kids
theorem KidOk.len {S : List Sp} {s : Sp} (h : KidOk S s) : (kidsS S s).length = s.t.kids.length := by rw [← List.length_map (f := (·.t)), h.2]
theorem KidOk.fits {S : List Sp} {s : Sp} (h : KidOk S s) : s.first + s.t.kids.length ≤ S.length := by
  have h1 := h.len
  unfold kidsS at h1
  rw [List.length_take, List.length_drop] at h1
  have := h.1
  omega
theorem kidsS_get {S : List Sp} {s : Sp} {k : Nat} (hk : k < s.t.kids.length) : (kidsS S s)[k]? = S[s.first + k]? := by
  unfold kidsS
  rw [List.getElem?_take_of_lt hk, List.getElem?_drop]
theorem KidOk.app {S : List Sp} {s : Sp} (h : KidOk S s) (B : List Sp) : KidOk (S ++ B) s := by
  have hf := h.fits
  refine ⟨by rw [List.length_append]; have := h.1; omega, ?_⟩
  rw [← h.2]
  unfold kidsS
  rw [List.drop_append_of_le_length h.1, List.take_append_of_le_length (by rw [List.length_drop]; omega)]
/-- The rest of a row of spots. -/
theorem SpRow.get {W : World} {v : Value} {S : List Sp} (h : SpRow W v S) : ∃ (a : Option Addr) (cap : Nat), v = .slice a S.length cap ∧ S.length ≤ cap ∧ cap ≤ maxLen ∧ ∀ (k : Nat) (s : Sp), S[k]? = some s → ∃ g o, a = some ⟨g, o, none⟩ ∧ SpC W g (o + k * 4) s := h
theorem stopE_at : ∀ {es : List Bool} {k : Nat}, (es.take k).all id = true → es[k]? = some false → stopE es = k + 1
  | e :: es, 0, _, h2 => by simp at h2; subst h2; rfl
  | e :: es, k + 1, h1, h2 => by
    rw [List.take_succ_cons, List.all_cons, Bool.and_eq_true] at h1
    have := stopE_at (es := es) (k := k) h1.2 (by simpa using h2)
    rw [stopE, if_pos (show e = true from h1.1), this]
theorem stopE_all : ∀ {es : List Bool}, es.all id = true → stopE es = es.length
  | [], _ => rfl
  | e :: es, h => by
    rw [List.all_cons, Bool.and_eq_true] at h
    rw [stopE, if_pos (show e = true from h.1), stopE_all h.2, List.length_cons]
theorem all_take_succ {es : List Bool} {k : Nat} {e : Bool} (h : es[k]? = some e) : (es.take (k + 1)).all id = ((es.take k).all id && e) := by
  rw [List.take_add_one, h, List.all_append]
  simp
theorem all_false {es : List Bool} {k : Nat} (h : es[k]? = some false) : es.all id = false := by
  cases ha : es.all id with
  | false => rfl
  | true =>
    have := List.all_eq_true.1 ha false (List.mem_of_getElem? h)
    cases this
/-- What a search for the first that does not end answers. -/
def idxE (es : List Bool) : Int := if es.all id then -1 else (stopE es : Int) - 1
end Go.Proofs.Ytbnbmjdjkadgoaa.F
/-
  For the laws of flow: kids of a spot; the first that does not end. Condition: at most 2,000,000 spots.
-/
namespace Go.Proofs.Ytbnbmjdjkadgoaa.F
open Go.RowKit Go.Shelf
set_option linter.unusedSimpArgs false
set_option linter.unusedVariables false

/-- The slice from lo to hi. -/
theorem sp_cut {W : World} {g o cap : Nat} {S : List Sp} (h : SpRow W (.slice (some ⟨g, o, none⟩) S.length cap) S) (lo hi : Nat) (h1 : lo ≤ hi) (h2 : hi ≤ S.length) :
    SpRow W (.slice (if cap = lo then some ⟨g, o, none⟩ else some ⟨g, o + lo * 4, none⟩) (hi - lo) (cap - lo)) ((S.drop lo).take (hi - lo)) := by
  obtain ⟨a, cap', e, hc, hm, hx⟩ := h
  cases e
  have hlen : ((S.drop lo).take (hi - lo)).length = hi - lo := by rw [List.length_take, List.length_drop]; omega
  refine ⟨_, _, by rw [hlen], by omega, by omega, fun k s hk => ?_⟩
  have hkl := (List.getElem?_eq_some_iff.1 hk).1
  rw [List.getElem?_take_of_lt (by omega), List.getElem?_drop] at hk
  obtain ⟨g', o', e, c⟩ := hx _ s hk
  cases e
  rw [if_neg (by omega)]
  refine ⟨g, o + lo * 4, rfl, ?_⟩
  rw [show o + lo * 4 + k * 4 = o + (lo + k) * 4 by omega]
  exact c
set_option maxRecDepth 100000 in
set_option maxHeartbeats 8000000 in
theorem kids_any (v : Value) (S : List Sp) (i : Nat) (s : Sp) (w : World) (hi : S[i]? = some s) (hk : KidOk S s) (hn : NodeP w s) (hm : S.length ≤ 2000000) (h : SpRow w v S) :
    Calls Try.prog 114 #[v, .int .i64 (i : Nat)] w fun e w' => (∃ v', e = .returned v' ∧ SpRow w' v' (kidsS S s)) ∧ Below w.heap.size w w' := by
  have hil := (List.getElem?_eq_some_iff.1 hi).1
  have hfit := hk.fits
  have hrow := h
  obtain ⟨a, cap, rfl, h1, h2, h3⟩ := h.get
  obtain ⟨g, o, rfl, c⟩ := h3 i s hi
  obtain ⟨ak, ck, hkv, -⟩ := hn.2.get
  have d8 := hn.1.c8
  rw [hkv] at d8
  obtain ⟨c0, c1, c2, c3⟩ := c
  have HR := Lib.hid (sp_cut hrow s.first (s.first + s.t.kids.length) (by omega) hfit)
  clear hrow h3 hi hk hn h hkv c2 c3
  have hkk : (S.drop s.first).take (s.first + s.t.kids.length - s.first) = kidsS S s := by rw [Nat.add_sub_cancel_left]; rfl
  rw [hkk] at HR
  obtain ⟨n, hn⟩ : ∃ n, Hid (S.length = n) := ⟨_, Lib.hid rfl⟩
  obtain ⟨m, hm2⟩ : ∃ m, Hid (s.t.kids.length = m) := ⟨_, Lib.hid rfl⟩
  obtain ⟨f, hf⟩ : ∃ f, Hid (s.first = f) := ⟨_, Lib.hid rfl⟩
  rw [hn.out] at hil hfit h1 hm ⊢
  rw [hm2.out] at hfit d8 HR
  rw [hf.out] at hfit c1 HR
  unfold maxLen at h2
  have q1 : (i : Int) < (n : Int) := by omega
  have q0 : (0 : Int) ≤ (i : Int) := by omega
  by_cases hcf : cap = f
  · subst hcf
    rw [if_pos rfl, Nat.sub_self] at HR
    go_enter Try.func114, Try.ntmps114
    go_wp2_with fail
    go_quiet (fail)
    go_wp2_with fail
    go_ret
    exact ⟨⟨_, rfl, HR.out.below (below_draws (Below.refl _ _) _)⟩, below_draws (Below.refl _ _) _⟩
  · rw [if_neg hcf] at HR
    go_enter Try.func114, Try.ntmps114
    go_wp2_with fail
    go_quiet (fail)
    go_wp2_with fail
    go_ret
    exact ⟨⟨_, rfl, HR.out.below (below_draws (Below.refl _ _) _)⟩, below_draws (Below.refl _ _) _⟩
set_option maxRecDepth 100000 in
set_option maxHeartbeats 8000000 in
theorem stop136_any (s : Sp) (w : World) : Calls Try.prog 136 #[s.agg] w fun e w' => e = .returned (.bool !s.ends) ∧ Below w.heap.size w w' := by
  show Calls Try.prog 136 #[.agg #[.pointer (some ⟨s.b, s.o, none⟩), .int .i64 (s.first : Nat), .bool s.ends, .int .i64 (s.rch : Nat)]] w _
  go_enter Try.func136, Try.ntmps136
  go_wp2_with fail
  go_ret
  exact ⟨rfl, (Below.refl _ w).alloc (Nat.le_refl _) _⟩
set_option maxRecDepth 100000 in
set_option maxHeartbeats 8000000 in
theorem stop116_any (s : Sp) (w : World) : Calls Try.prog 116 #[s.agg] w fun e w' => e = .returned (.bool !s.ends) ∧ Below w.heap.size w w' := by
  show Calls Try.prog 116 #[.agg #[.pointer (some ⟨s.b, s.o, none⟩), .int .i64 (s.first : Nat), .bool s.ends, .int .i64 (s.rch : Nat)]] w _
  go_enter Try.func116, Try.ntmps116
  go_wp2_with fail
  go_ret
  exact ⟨rfl, (Below.refl _ w).alloc (Nat.le_refl _) _⟩
set_option maxRecDepth 100000 in
set_option maxHeartbeats 8000000 in
theorem index136_any (v : Value) (S : List Sp) (w : World) (hm : S.length ≤ 2000000) (h : SpRow w v S) :
    Calls Try.prog 135 #[v, .func (.func 136) #[] #[]] w fun e w' => e = .returned (.int .i64 (idxE (S.map (·.ends)))) ∧ Below w.heap.size w w' := by
  obtain ⟨a, cap, rfl, h1, h2, h3⟩ := h.get
  have HR := Lib.hid h
  clear h3 h
  obtain ⟨n, hn⟩ : ∃ n, Hid (S.length = n) := ⟨_, Lib.hid rfl⟩
  rw [hn.out] at h1 hm HR ⊢
  unfold maxLen at h2
  obtain ⟨R, hRR⟩ : ∃ R, Hid (idxE (S.map (·.ends)) = R) := ⟨_, Lib.hid rfl⟩
  rw [hRR.out]
  go_enter Try.func135, Try.ntmps135
  go_wp2_with fail
  go_loopw [8] (fun c wr => ∃ k : Nat, c = .int .i64 k ∧ k ≤ n ∧ Hid (((S.map (·.ends)).take k).all id = true) ∧ Hid (Below w.heap.size w wr)) (fun c _ => n - (intOf c).toNat)
  case atStart => exact ⟨0, rfl, Nat.zero_le _, Lib.hid (by simp), Lib.hid (Below.refl _ _)⟩
  case round =>
    obtain ⟨k, rfl, hk, hA, hB⟩ := hrel
    by_cases hlt : k < n
    · obtain ⟨s, hs⟩ : ∃ s, S[k]? = some s := ⟨_, List.getElem?_eq_getElem (by rw [hn.out]; exact hlt)⟩
      obtain ⟨a', cap', e, -, -, h3⟩ := (HR.out.below hB.out).get
      obtain ⟨g, o, rfl, c⟩ := h3 k s hs
      obtain ⟨rfl, -, -⟩ := Value.slice.inj e
      obtain ⟨c0, c1, c2, c3⟩ := c
      have He : Hid ((S.map (·.ends))[k]? = some s.ends) := Lib.hid (by rw [List.getElem?_map, hs]; rfl)
      have q1 : (k : Int) < (n : Int) := by omega
      have q0 : (0 : Int) ≤ (k : Int) := by omega
      have call := Lib.hid (stop136_any s wr)
      clear h3 hs
      go_wp2_with fail
      refine call.out.mono ?_
      rintro e w2 ⟨rfl, b2⟩
      have B2 := Lib.hid (hB.out.trans (b2.mono hB.out.size))
      clear b2
      cases hse : s.ends with
      | true =>
        rw [hse] at He
        go_wp2_with fail
        exact ⟨⟨k + 1, by go_num, by omega, Lib.hid (by rw [all_take_succ He.out, hA.out]; rfl), B2⟩, by simp [intOf]; omega⟩
      | false =>
        rw [hse] at He
        go_wp2_with fail
        go_ret
        refine ⟨?_, B2.out⟩
        have h8 : idxE (S.map (·.ends)) = (k : Int) := by
          unfold idxE
          rw [all_false He.out, stopE_at hA.out He.out]
          simp
        rw [hRR.out] at h8
        rw [h8]
        rfl
    · obtain rfl : k = n := by omega
      have h8 : idxE (S.map (·.ends)) = -1 := by
        have h9 := hA.out
        rw [List.take_of_length_le (by rw [List.length_map, hn.out]; exact Nat.le_refl _)] at h9
        unfold idxE
        rw [h9]
        rfl
      rw [hRR.out] at h8
      have H8 := Lib.hid h8
      clear h8
      go_wp2_with fail
      go_ret
      exact ⟨by rw [H8.out]; rfl, hB.out⟩
set_option maxRecDepth 100000 in
set_option maxHeartbeats 8000000 in
theorem index116_any (v : Value) (S : List Sp) (w : World) (hm : S.length ≤ 2000000) (h : SpRow w v S) :
    Calls Try.prog 135 #[v, .func (.func 116) #[] #[]] w fun e w' => e = .returned (.int .i64 (idxE (S.map (·.ends)))) ∧ Below w.heap.size w w' := by
  obtain ⟨a, cap, rfl, h1, h2, h3⟩ := h.get
  have HR := Lib.hid h
  clear h3 h
  obtain ⟨n, hn⟩ : ∃ n, Hid (S.length = n) := ⟨_, Lib.hid rfl⟩
  rw [hn.out] at h1 hm HR ⊢
  unfold maxLen at h2
  obtain ⟨R, hRR⟩ : ∃ R, Hid (idxE (S.map (·.ends)) = R) := ⟨_, Lib.hid rfl⟩
  rw [hRR.out]
  go_enter Try.func135, Try.ntmps135
  go_wp2_with fail
  go_loopw [8] (fun c wr => ∃ k : Nat, c = .int .i64 k ∧ k ≤ n ∧ Hid (((S.map (·.ends)).take k).all id = true) ∧ Hid (Below w.heap.size w wr)) (fun c _ => n - (intOf c).toNat)
  case atStart => exact ⟨0, rfl, Nat.zero_le _, Lib.hid (by simp), Lib.hid (Below.refl _ _)⟩
  case round =>
    obtain ⟨k, rfl, hk, hA, hB⟩ := hrel
    by_cases hlt : k < n
    · obtain ⟨s, hs⟩ : ∃ s, S[k]? = some s := ⟨_, List.getElem?_eq_getElem (by rw [hn.out]; exact hlt)⟩
      obtain ⟨a', cap', e, -, -, h3⟩ := (HR.out.below hB.out).get
      obtain ⟨g, o, rfl, c⟩ := h3 k s hs
      obtain ⟨rfl, -, -⟩ := Value.slice.inj e
      obtain ⟨c0, c1, c2, c3⟩ := c
      have He : Hid ((S.map (·.ends))[k]? = some s.ends) := Lib.hid (by rw [List.getElem?_map, hs]; rfl)
      have q1 : (k : Int) < (n : Int) := by omega
      have q0 : (0 : Int) ≤ (k : Int) := by omega
      have call := Lib.hid (stop116_any s wr)
      clear h3 hs
      go_wp2_with fail
      refine call.out.mono ?_
      rintro e w2 ⟨rfl, b2⟩
      have B2 := Lib.hid (hB.out.trans (b2.mono hB.out.size))
      clear b2
      cases hse : s.ends with
      | true =>
        rw [hse] at He
        go_wp2_with fail
        exact ⟨⟨k + 1, by go_num, by omega, Lib.hid (by rw [all_take_succ He.out, hA.out]; rfl), B2⟩, by simp [intOf]; omega⟩
      | false =>
        rw [hse] at He
        go_wp2_with fail
        go_ret
        refine ⟨?_, B2.out⟩
        have h8 : idxE (S.map (·.ends)) = (k : Int) := by
          unfold idxE
          rw [all_false He.out, stopE_at hA.out He.out]
          simp
        rw [hRR.out] at h8
        rw [h8]
        rfl
    · obtain rfl : k = n := by omega
      have h8 : idxE (S.map (·.ends)) = -1 := by
        have h9 := hA.out
        rw [List.take_of_length_le (by rw [List.length_map, hn.out]; exact Nat.le_refl _)] at h9
        unfold idxE
        rw [h9]
        rfl
      rw [hRR.out] at h8
      have H8 := Lib.hid h8
      clear h8
      go_wp2_with fail
      go_ret
      exact ⟨by rw [H8.out]; rfl, hB.out⟩
end Go.Proofs.Ytbnbmjdjkadgoaa.F
/-
  For the laws of flow: does a spot end, how many are reached. Condition: at most 2,000,000 spots.
-/
namespace Go.Proofs.Ytbnbmjdjkadgoaa.F
open Go.RowKit Go.Shelf
set_option linter.unusedSimpArgs false
set_option linter.unusedVariables false

theorem stopE_pos : ∀ {es : List Bool}, es.all id = false → 1 ≤ stopE es
  | e :: es, _ => by rw [stopE]; split <;> omega
theorem idxE_cases (es : List Bool) : (es.all id = true ∧ idxE es = -1) ∨ (es.all id = false ∧ ∃ k : Nat, idxE es = (k : Int) ∧ stopE es = k + 1) := by
  cases h : es.all id with
  | true => exact .inl ⟨rfl, by unfold idxE; rw [h]; rfl⟩
  | false =>
    have := stopE_pos h
    exact .inr ⟨rfl, stopE es - 1, by unfold idxE; rw [h]; simp; omega, by omega⟩
set_option maxRecDepth 100000 in
set_option maxHeartbeats 8000000 in
theorem contains_any (v : Value) (S : List Sp) (w : World) (hm : S.length ≤ 2000000) (h : SpRow w v S) :
    Calls Try.prog 115 #[v, .func (.func 116) #[] #[]] w fun e w' => e = .returned (.bool !((S.map (·.ends)).all id)) ∧ Below w.heap.size w w' := by
  obtain ⟨a, cap, rfl, -⟩ := h.get
  have call := Lib.hid (index116_any _ S w hm h)
  clear h
  rcases idxE_cases (S.map (·.ends)) with ⟨h1, h2⟩ | ⟨h1, k, h2, -⟩
  all_goals
    rw [h2] at call
    rw [h1]
    have H2 := Lib.hid h2
    clear h1 h2
    obtain ⟨n, hn⟩ : ∃ n, Hid (S.length = n) := ⟨_, Lib.hid rfl⟩
    rw [hn.out] at call ⊢
    go_enter Try.func115, Try.ntmps115
    go_wp2_with fail
    refine call.out.mono ?_
    rintro e w2 ⟨rfl, b2⟩
    go_wp2_with fail
    go_ret
    exact ⟨rfl, b2⟩
set_option maxRecDepth 100000 in
set_option maxHeartbeats 8000000 in
theorem stop_any (v : Value) (S : List Sp) (i : Nat) (s : Sp) (w : World) (hi : S[i]? = some s) (hk : KidOk S s) (hn : NodeP w s) (hm : S.length ≤ 2000000) (h : SpRow w v S) :
    Calls Try.prog 117 #[v, .int .i64 (i : Nat)] w fun e w' => e = .returned (.int .i64 (stopE ((kidsS S s).map (·.ends)) : Nat)) ∧ Below w.heap.size w w' := by
  have HK := Lib.hid (fun W (hW : Below w.heap.size w W) => kids_any v S i s W hi hk (hn.below hW) hm (h.below hW))
  have hkl := hk.len
  have hf := hk.fits
  obtain ⟨a, cap, rfl, -⟩ := h.get
  clear h hi hk hn
  obtain ⟨n, hn⟩ : ∃ n, Hid (S.length = n) := ⟨_, Lib.hid rfl⟩
  rw [hn.out] at HK hm hf ⊢
  obtain ⟨m, hm2⟩ : ∃ n, Hid (s.t.kids.length = n) := ⟨_, Lib.hid rfl⟩
  rw [hm2.out] at hkl hf
  have Hkl := Lib.hid hkl
  clear hkl
  obtain ⟨R, hRR⟩ : ∃ R, Hid (stopE ((kidsS S s).map (·.ends)) = R) := ⟨_, Lib.hid rfl⟩
  rw [hRR.out]
  go_enter Try.func117, Try.ntmps117
  go_wp2_with fail
  refine (HK.out w (Below.refl _ _)).mono ?_
  rintro e w2 ⟨⟨v', rfl, hr⟩, b2⟩
  obtain ⟨a', cap', rfl, -⟩ := hr.get
  have HR := Lib.hid hr
  have call := Lib.hid (index136_any _ (kidsS S s) w2 (by rw [Hkl.out]; omega) hr)
  have B2 := Lib.hid b2
  clear hr b2
  rw [Hkl.out] at call HR
  rw [Hkl.out]
  rcases idxE_cases ((kidsS S s).map (·.ends)) with ⟨h1, h2⟩ | ⟨h1, k, h2, h3⟩
  · rw [h2] at call
    have hst : Hid (stopE ((kidsS S s).map (·.ends)) = m) := Lib.hid (by rw [stopE_all h1, List.length_map, Hkl.out])
    have hRm : Hid (R = m) := Lib.hid (hRR.out.symm.trans hst.out)
    clear h1 h2
    go_wp2_with fail
    refine call.out.mono ?_
    rintro e w3 ⟨rfl, b3⟩
    have B3 := Lib.hid (B2.out.trans (b3.mono B2.out.size))
    clear b3
    go_wp2_with fail
    refine (HK.out w3 B3.out).mono ?_
    rintro e w4 ⟨⟨v', rfl, hr⟩, b4⟩
    obtain ⟨a4, cap4, rfl, -⟩ := hr.get
    rw [Hkl.out]
    clear hr
    go_wp2_with fail
    go_ret
    exact ⟨by rw [hRm.out]; rfl, B3.out.trans (b4.mono B3.out.size)⟩
  · rw [h2] at call
    have hk2 : k + 1 ≤ m := by
      have := stopE_le ((kidsS S s).map (·.ends))
      rw [List.length_map, Hkl.out] at this
      omega
    have hRm : Hid (R = k + 1) := Lib.hid (hRR.out.symm.trans h3)
    have H2 := Lib.hid h2
    have H3 := Lib.hid h3
    clear h1 h2 h3
    go_wp2_with fail
    refine call.out.mono ?_
    rintro e w3 ⟨rfl, b3⟩
    have B3 := Lib.hid (B2.out.trans (b3.mono B2.out.size))
    clear b3
    go_wp2_with fail
    go_ret
    exact ⟨by rw [hRm.out]; go_num, B3.out⟩
set_option maxRecDepth 100000 in
set_option maxHeartbeats 8000000 in
theorem completes_any (v : Value) (S : List Sp) (i : Nat) (s : Sp) (w : World) (hi : S[i]? = some s) (hk : KidOk S s) (hn : NodeP w s) (hkn : ∀ x ∈ kidsS S s, NodeP w x) (hm : S.length ≤ 2000000) (h : SpRow w v S) :
    Calls Try.prog 82 #[v, .int .i64 (i : Nat)] w fun e w' => e = .returned (.bool (endH s.t.hd s.t.kids ((kidsS S s).map (·.ends)))) ∧ Below w.heap.size w w' := by
  have HK := Lib.hid (fun W (hW : Below w.heap.size w W) => kids_any v S i s W hi hk (hn.below hW) hm (h.below hW))
  have HST := Lib.hid (fun W (hW : Below w.heap.size w W) => stop_any v S i s W hi hk (hn.below hW) hm (h.below hW))
  have HRow := Lib.hid (fun W (hW : Below w.heap.size w W) => h.below hW)
  have HN := Lib.hid (fun W (hW : Below w.heap.size w W) => hn.below hW)
  have HKN := Lib.hid (fun x (hx : x ∈ kidsS S s) W (hW : Below w.heap.size w W) => (hkn x hx).below hW)
  have hkl := hk.len
  have hf := hk.fits
  have hkt := Lib.hid hk.2
  have hil := (List.getElem?_eq_some_iff.1 hi).1
  have Hi := Lib.hid hi
  obtain ⟨a, cap, rfl, hc1, hc2, h3⟩ := h.get
  obtain ⟨g, o, rfl, -⟩ := h3 i s hi
  clear h hi hk hn h3 hkn
  have HAC : Hid (∀ W, Below w.heap.size w W → W.cell? ⟨g, o + i * 4, none⟩ = some (.pointer (some ⟨s.b, s.o, none⟩))) := Lib.hid (fun W hW => by
    obtain ⟨a', cap', e, -, -, h3⟩ := (HRow.out W hW).get
    obtain ⟨g', o', rfl, c⟩ := h3 i s Hi.out
    obtain ⟨e1, -, -⟩ := Value.slice.inj e
    cases e1
    exact c.c0)
  obtain ⟨n, hn⟩ : ∃ n, Hid (S.length = n) := ⟨_, Lib.hid rfl⟩
  rw [hn.out] at HK HST HRow hm hf hil hc1 ⊢
  obtain ⟨m, hm2⟩ : ∃ n, Hid (s.t.kids.length = n) := ⟨_, Lib.hid rfl⟩
  rw [hm2.out] at hkl hf
  have Hkl := Lib.hid hkl
  clear hkl
  unfold maxLen at hc2
  obtain ⟨kd, hkd⟩ : ∃ k, Hid (s.t.hd.kind = k) := ⟨_, Lib.hid rfl⟩
  obtain ⟨R, hRR⟩ : ∃ R, Hid (endH s.t.hd s.t.kids ((kidsS S s).map (·.ends)) = R) := ⟨_, Lib.hid rfl⟩
  rw [hRR.out]
  go_enter Try.func82, Try.ntmps82
  go_wp2_with fail
  refine (HK.out w (Below.refl _ _)).mono ?_
  rintro e w2 ⟨⟨v', rfl, hr⟩, b2⟩
  obtain ⟨a', cap', rfl, hc3, hc4, -⟩ := hr.get
  have HR := Lib.hid hr
  have B2 := Lib.hid b2
  have d0 := (HN.out w2 b2).1.c0
  have c0 := HAC.out w2 b2
  rw [hkd.out] at d0
  rw [Hkl.out] at HR hc3
  rw [Hkl.out]
  clear hr b2
  unfold maxLen at hc4
  have q1 : (i : Int) < (n : Int) := by omega
  have q0 : (0 : Int) ≤ (i : Int) := by omega
  by_cases k11 : kd = 11
  · subst k11
    have hR : Hid (R = false) := Lib.hid (by rw [← hRR.out]; unfold endH; rw [if_pos hkd.out])
    go_wp2_with fail
    go_ret
    exact ⟨by rw [hR.out]; rfl, B2.out⟩
  have f11 : (kd == 11) = false := by simpa using k11
  have K11 := Lib.hid k11
  clear k11
  by_cases k10 : kd = 10
  · subst k10
    have hR : Hid (R = whK s.t.kids) := Lib.hid (by rw [← hRR.out]; unfold endH; rw [if_neg (by rw [hkd.out]; decide), if_pos hkd.out])
    by_cases m0 : m = 0
    · subst m0
      have hR2 : Hid (R = true) := Lib.hid (by rw [hR.out, List.length_eq_zero_iff.1 hm2.out]; rfl)
      go_wp2_with fail
      go_ret
      exact ⟨by rw [hR2.out]; rfl, B2.out⟩
    · obtain ⟨x, hx⟩ : ∃ x, (kidsS S s)[0]? = some x := ⟨_, List.getElem?_eq_getElem (by rw [Hkl.out]; omega)⟩
      have hx2 : s.t.kids[0]? = some x.t := by rw [← hkt.out, List.getElem?_map, hx]; rfl
      have hxn := (HKN.out x (List.mem_of_getElem? hx) w2 B2.out).1
      have x0 := hxn.c0
      have x3 := hxn.c3
      obtain ⟨a9, cap9, e9, -, -, h9⟩ := HR.out.get
      obtain ⟨g9, o9, rfl, y⟩ := h9 0 x hx
      obtain ⟨rfl, -, -⟩ := Value.slice.inj e9
      have y0 := y.c0
      rw [Nat.zero_mul, Nat.add_zero] at y0
      obtain ⟨xk, hxk⟩ : ∃ k, Hid (x.t.hd.kind = k) := ⟨_, Lib.hid rfl⟩
      obtain ⟨xn, hxn2⟩ : ∃ k, Hid (x.t.hd.n = k) := ⟨_, Lib.hid rfl⟩
      rw [hxk.out] at x0
      rw [hxn2.out] at x3
      have hR2 : Hid (R = !(decide (xk = 14) && decide (xn = 1))) := Lib.hid (by
        rw [hR.out]
        cases hks : s.t.kids with
        | nil => rw [hks] at hx2; cases hx2
        | cons c cs =>
          rw [hks] at hx2
          obtain rfl : c = x.t := by simpa using hx2
          show (!(decide (x.t.hd.kind = 14) && decide (x.t.hd.n = 1))) = _
          rw [hxk.out, hxn2.out])
      have m1 : ((m : Int) == 0) = false := by simp; omega
      have m2 : (0 : Int) < (m : Int) := by omega
      have M0 := Lib.hid m0
      clear hx hx2 hxn h9 e9 y m0
      by_cases x14 : xk = 14
      · subst x14
        by_cases n1 : xn = 1
        · subst n1
          go_wp2_with fail
          go_ret
          exact ⟨by rw [hR2.out]; rfl, B2.out⟩
        · have g1 : (xn != 1) = true := by simpa using n1
          have hR3 : Hid (R = true) := Lib.hid (by rw [hR2.out, decide_eq_false n1]; rfl)
          have N1 := Lib.hid n1
          clear n1
          go_wp2_with fail
          go_ret
          exact ⟨by rw [hR3.out]; rfl, B2.out⟩
      · have g1 : (xk != 14) = true := by simpa using x14
        have hR3 : Hid (R = true) := Lib.hid (by rw [hR2.out, decide_eq_false x14]; rfl)
        have N1 := Lib.hid x14
        clear x14
        go_wp2_with fail
        go_ret
        exact ⟨by rw [hR3.out]; rfl, B2.out⟩
  have f10 : (kd == 10) = false := by simpa using k10
  have K10 := Lib.hid k10
  clear k10
  by_cases k9 : kd = 9
  · subst k9
    have hR : Hid (R = (decide (m ≠ 3) || ((kidsS S s).map (·.ends)).getD 1 true || ((kidsS S s).map (·.ends)).getD 2 true)) := Lib.hid (by
      rw [← hRR.out]; unfold endH
      rw [if_neg (by rw [hkd.out]; decide), if_neg (by rw [hkd.out]; decide), if_pos hkd.out, List.length_map, Hkl.out])
    by_cases m3 : m = 3
    · subst m3
      obtain ⟨x, hx⟩ : ∃ x, (kidsS S s)[1]? = some x := ⟨_, List.getElem?_eq_getElem (by rw [Hkl.out]; omega)⟩
      obtain ⟨z, hz⟩ : ∃ x, (kidsS S s)[2]? = some x := ⟨_, List.getElem?_eq_getElem (by rw [Hkl.out]; omega)⟩
      obtain ⟨a9, cap9, e9, -, -, h9⟩ := HR.out.get
      obtain ⟨g9, o9, rfl, y⟩ := h9 1 x hx
      obtain ⟨g8, o8, e8, y'⟩ := h9 2 z hz
      cases e8
      obtain ⟨rfl, -, -⟩ := Value.slice.inj e9
      have y2 := y.c2
      have z2 := y'.c2
      simp only [Nat.one_mul, Nat.reduceMul] at y2 z2
      have hR2 : Hid (R = (x.ends || z.ends)) := Lib.hid (by
        rw [hR.out, List.getD_eq_getElem?_getD, List.getD_eq_getElem?_getD, List.getElem?_map, List.getElem?_map, hx, hz]
        rfl)
      clear hx hz h9 e9 y y'
      cases hx1 : x.ends with
      | true =>
        rw [hx1] at y2 hR2
        go_wp2_with fail
        go_ret
        exact ⟨by rw [hR2.out]; rfl, B2.out⟩
      | false =>
        rw [hx1] at y2 hR2
        go_wp2_with fail
        go_ret
        exact ⟨by rw [hR2.out]; rfl, B2.out⟩
    · have m1 : ((m : Int) != 3) = true := by simp; omega
      have hR2 : Hid (R = true) := Lib.hid (by rw [hR.out, decide_eq_true m3]; rfl)
      have M3 := Lib.hid m3
      clear m3
      go_wp2_with fail
      go_ret
      exact ⟨by rw [hR2.out]; rfl, B2.out⟩
  have f9 : (kd == 9) = false := by simpa using k9
  have K9 := Lib.hid k9
  clear k9
  by_cases k5 : kd = 5
  · subst k5
    have hR : Hid (R = ((kidsS S s).map (·.ends)).all id) := Lib.hid (by
      rw [← hRR.out]; unfold endH
      rw [if_neg (by rw [hkd.out]; decide), if_neg (by rw [hkd.out]; decide), if_neg (by rw [hkd.out]; decide), if_pos hkd.out])
    have call := Lib.hid (contains_any _ (kidsS S s) w2 (by rw [Hkl.out]; omega) HR.out)
    rw [← hR.out] at call
    go_wp2_with fail
    refine call.out.mono ?_
    rintro e w3 ⟨rfl, b3⟩
    have B3 := Lib.hid (B2.out.trans (b3.mono B2.out.size))
    clear b3
    go_wp2_with fail
    go_ret
    exact ⟨by simp, B3.out⟩
  have f5 : (kd == 5) = false := by simpa using k5
  have hR : Hid (R = true) := Lib.hid (by
    rw [← hRR.out]; unfold endH
    rw [hkd.out, if_neg K11.out, if_neg K10.out, if_neg K9.out, if_neg k5])
  clear k5
  go_wp2_with fail
  go_ret
  exact ⟨by rw [hR.out]; rfl, B2.out⟩
/-- The first k of a row. -/
theorem sp_take {W : World} {a : Option Addr} {n cap : Nat} {S : List Sp} (h : SpRow W (.slice a n cap) S) (k : Nat) (hk : k ≤ n) : SpRow W (.slice a k cap) (S.take k) := by
  obtain ⟨a', cap', e, hc, hm, hx⟩ := h
  obtain ⟨rfl, rfl, rfl⟩ := Value.slice.inj e
  have hlen : (S.take k).length = k := by rw [List.length_take]; omega
  refine ⟨_, _, by rw [hlen], by omega, hm, fun j s hj => ?_⟩
  have hjl := (List.getElem?_eq_some_iff.1 hj).1
  rw [List.getElem?_take_of_lt (by omega)] at hj
  exact hx j s hj
set_option maxRecDepth 100000 in
set_option maxHeartbeats 16000000 in
theorem count_any (v : Value) (S : List Sp) (i : Nat) (s : Sp) (w : World) (hi : S[i]? = some s) (hk : KidOk S s) (hn : NodeP w s) (hkn : ∀ x ∈ kidsS S s, NodeP w x) (hbd : ∀ x ∈ kidsS S s, x.rch ≤ 2000000) (hm : S.length ≤ 2000000) (h : SpRow w v S) :
    Calls Try.prog 83 #[v, .int .i64 (i : Nat)] w fun e w' => e = .returned (.int .i64 (reachH s.t.hd ((kidsS S s).map (·.ends)) ((kidsS S s).map (·.rch)) : Nat)) ∧ Below w.heap.size w w' := by
  have HK := Lib.hid (fun W (hW : Below w.heap.size w W) => kids_any v S i s W hi hk (hn.below hW) hm (h.below hW))
  have HST := Lib.hid (fun W (hW : Below w.heap.size w W) => stop_any v S i s W hi hk (hn.below hW) hm (h.below hW))
  have HRow := Lib.hid (fun W (hW : Below w.heap.size w W) => h.below hW)
  have HN := Lib.hid (fun W (hW : Below w.heap.size w W) => hn.below hW)
  have HKN := Lib.hid (fun x (hx : x ∈ kidsS S s) W (hW : Below w.heap.size w W) => (hkn x hx).below hW)
  have hkl := hk.len
  have hf := hk.fits
  have hkt := Lib.hid hk.2
  have hil := (List.getElem?_eq_some_iff.1 hi).1
  have Hi := Lib.hid hi
  obtain ⟨a, cap, rfl, hc1, hc2, h3⟩ := h.get
  obtain ⟨g, o, rfl, -⟩ := h3 i s hi
  clear h hi hk hn h3 hkn
  have HAC : Hid (∀ W, Below w.heap.size w W → W.cell? ⟨g, o + i * 4, none⟩ = some (.pointer (some ⟨s.b, s.o, none⟩))) := Lib.hid (fun W hW => by
    obtain ⟨a', cap', e, -, -, h3⟩ := (HRow.out W hW).get
    obtain ⟨g', o', rfl, c⟩ := h3 i s Hi.out
    obtain ⟨e1, -, -⟩ := Value.slice.inj e
    cases e1
    exact c.c0)
  obtain ⟨n, hn⟩ : ∃ n, Hid (S.length = n) := ⟨_, Lib.hid rfl⟩
  rw [hn.out] at HK HST HRow hm hf hil hc1 ⊢
  obtain ⟨m, hm2⟩ : ∃ n, Hid (s.t.kids.length = n) := ⟨_, Lib.hid rfl⟩
  rw [hm2.out] at hkl hf
  have Hkl := Lib.hid hkl
  clear hkl
  unfold maxLen at hc2
  obtain ⟨kd, hkd⟩ : ∃ k, Hid (s.t.hd.kind = k) := ⟨_, Lib.hid rfl⟩
  obtain ⟨R, hRR⟩ : ∃ R, Hid (reachH s.t.hd ((kidsS S s).map (·.ends)) ((kidsS S s).map (·.rch)) = R) := ⟨_, Lib.hid rfl⟩
  rw [hRR.out]
  have Hbd := Lib.hid hbd
  clear hbd
  go_enter Try.func83, Try.ntmps83
  go_wp2_with fail
  refine (HK.out w (Below.refl _ _)).mono ?_
  rintro e w2 ⟨⟨v', rfl, hr⟩, b2⟩
  obtain ⟨a', cap', rfl, hc3, hc4, -⟩ := hr.get
  have HR := Lib.hid hr
  have B2 := Lib.hid b2
  have d0 := (HN.out w2 b2).1.c0
  have c0 := HAC.out w2 b2
  rw [hkd.out] at d0
  rw [Hkl.out] at HR hc3
  rw [Hkl.out]
  clear hr b2
  unfold maxLen at hc4
  have q1 : (i : Int) < (n : Int) := by omega
  have q0 : (0 : Int) ≤ (i : Int) := by omega
  by_cases k5 : kd = 5
  · subst k5
    go_wp2_with fail
    refine (HST.out w2 B2.out).mono ?_
    rintro e w3 ⟨rfl, b3⟩
    have B3 := Lib.hid (B2.out.trans (b3.mono B2.out.size))
    have b23 := Lib.hid b3
    obtain ⟨m2, hm22⟩ : ∃ r, Hid (stopE ((kidsS S s).map (·.ends)) = r) := ⟨_, Lib.hid rfl⟩
    rw [hm22.out]
    have hle2 : m2 ≤ m := by
      have := stopE_le ((kidsS S s).map (·.ends))
      rw [List.length_map, Hkl.out, hm22.out] at this
      exact this
    obtain ⟨KL, hKL⟩ : ∃ KL, Hid ((kidsS S s).take m2 = KL) := ⟨_, Lib.hid rfl⟩
    have HKL : Hid (KL.length = m2) := Lib.hid (by rw [← hKL.out, List.length_take, Hkl.out]; omega)
    have HRK : Hid (∀ W, Below w.heap.size w W → Below w3.heap.size w3 W → SpRow W (.slice a' m2 cap') KL) := Lib.hid (fun W hW h3 => by rw [← hKL.out]; exact sp_take ((HR.out.below b23.out).below h3) m2 hle2)
    have HBd : Hid (∀ x ∈ KL, x.rch ≤ 2000000) := Lib.hid (fun x hx => Hbd.out x (by rw [← hKL.out] at hx; exact List.mem_of_mem_take hx))
    have hRK : Hid (R = (KL.map (·.rch)).foldl (· + ·) 1) := Lib.hid (by
      rw [← hRR.out]; unfold reachH
      rw [hkd.out, if_pos (by decide), if_pos rfl, hm22.out, ← hKL.out, List.map_take])
    have q5 : m2 ≤ cap' := by omega
    clear b3
    go_wp2_with fail
    go_loopw [6, 37] (fun u c wr => ∃ (k acc : Nat), c = .int .i64 k ∧ k ≤ m2 ∧ u = .int .i64 acc ∧ acc ≤ 1 + k * 2000000 ∧ Hid (((KL.map (·.rch)).take k).foldl (· + ·) 1 = acc) ∧ Hid (Below w.heap.size w wr) ∧ Hid (Below w3.heap.size w3 wr)) (fun _ c _ => m2 - (intOf c).toNat)
    case atStart => exact ⟨0, 1, rfl, Nat.zero_le _, rfl, by omega, Lib.hid (by simp), B3, Lib.hid (Below.refl _ _)⟩
    case round =>
      obtain ⟨k, acc, rfl, hk, rfl, hle, hA, hB, hB3⟩ := hrel
      by_cases hlt : k < m2
      · obtain ⟨x, hx⟩ : ∃ x, KL[k]? = some x := ⟨_, List.getElem?_eq_getElem (by rw [HKL.out]; exact hlt)⟩
        obtain ⟨a9, cap9, e9, -, -, h9⟩ := (HRK.out wr hB.out hB3.out).get
        obtain ⟨g9, o9, rfl, y⟩ := h9 k x hx
        obtain ⟨rfl, -, -⟩ := Value.slice.inj e9
        obtain ⟨y0, y1, y2, y3⟩ := y
        have hrx := HBd.out x (List.mem_of_getElem? hx)
        have Hs : Hid (((KL.map (·.rch)).take (k + 1)).foldl (· + ·) 1 = acc + x.rch) := Lib.hid (by
          rw [List.take_add_one, List.getElem?_map, hx, List.foldl_append, hA.out]
          rfl)
        have q1 : (k : Int) < (m2 : Int) := by omega
        have q0 : (0 : Int) ≤ (k : Int) := by omega
        have hk2 : k ≤ 2000000 := by omega
        clear h9 hx e9
        go_wp2_with fail
        exact ⟨⟨k + 1, acc + x.rch, by go_num, by omega, by go_num, by omega, Hs, Lib.hid (hB.out.alloc hB.out.size _), Lib.hid (hB3.out.alloc hB3.out.size _)⟩, by simp [intOf]; omega⟩
      · obtain rfl : k = m2 := by omega
        have hfin : R = acc := by
          rw [hRK.out, ← hA.out, List.take_of_length_le (by rw [List.length_map, HKL.out]; exact Nat.le_refl _)]
        have Hfin := Lib.hid hfin
        clear hfin
        go_wp2_with fail
        go_ret
        exact ⟨by rw [Hfin.out]; rfl, hB.out⟩
  have f5 : (kd == 5) = false := by simpa using k5
  have K5 := Lib.hid k5
  clear k5
  by_cases hst : stmtK kd = true
  · obtain ⟨m2, hm22⟩ : ∃ r, r = m := ⟨_, rfl⟩
    subst hm22
    have hB22 : Hid (Below w2.heap.size w2 w2) := Lib.hid (Below.refl _ _)
    obtain ⟨KL, hKL⟩ : ∃ KL, Hid (kidsS S s = KL) := ⟨_, Lib.hid rfl⟩
    have HKL : Hid (KL.length = m2) := Lib.hid (by rw [← hKL.out, Hkl.out])
    have HRK : Hid (∀ W, Below w.heap.size w W → Below w2.heap.size w2 W → SpRow W (.slice a' m2 cap') KL) := Lib.hid (fun W hW h3 => by rw [← hKL.out]; exact HR.out.below h3)
    have HBd : Hid (∀ x ∈ KL, x.rch ≤ 2000000) := Lib.hid (fun x hx => Hbd.out x (by rw [← hKL.out] at hx; exact hx))
    have hRK : Hid (R = (KL.map (·.rch)).foldl (· + ·) 1) := Lib.hid (by
      rw [← hRR.out]; unfold reachH
      rw [hkd.out, if_pos hst, if_neg K5.out, ← hKL.out])
    have B3 := B2
    have hkk : kd = 6 ∨ kd = 7 ∨ kd = 8 ∨ kd = 9 ∨ kd = 10 ∨ kd = 11 ∨ kd = 12 := by
      unfold stmtK at hst
      rw [Bool.and_eq_true, decide_eq_true_eq, decide_eq_true_eq] at hst
      have := K5.out
      omega
    clear hst
    rcases hkk with rfl | rfl | rfl | rfl | rfl | rfl | rfl
    all_goals
      clear f5
      go_wp2_with fail
      go_loopw [6, 37] (fun u c wr => ∃ (k acc : Nat), c = .int .i64 k ∧ k ≤ m2 ∧ u = .int .i64 acc ∧ acc ≤ 1 + k * 2000000 ∧ Hid (((KL.map (·.rch)).take k).foldl (· + ·) 1 = acc) ∧ Hid (Below w.heap.size w wr) ∧ Hid (Below w2.heap.size w2 wr)) (fun _ c _ => m2 - (intOf c).toNat)
      case atStart => exact ⟨0, 1, rfl, Nat.zero_le _, rfl, by omega, Lib.hid (by simp), B3, hB22⟩
      case round =>
        obtain ⟨k, acc, rfl, hk, rfl, hle, hA, hB, hB3⟩ := hrel
        by_cases hlt : k < m2
        · obtain ⟨x, hx⟩ : ∃ x, KL[k]? = some x := ⟨_, List.getElem?_eq_getElem (by rw [HKL.out]; exact hlt)⟩
          obtain ⟨a9, cap9, e9, -, -, h9⟩ := (HRK.out wr hB.out hB3.out).get
          obtain ⟨g9, o9, rfl, y⟩ := h9 k x hx
          obtain ⟨rfl, -, -⟩ := Value.slice.inj e9
          obtain ⟨y0, y1, y2, y3⟩ := y
          have hrx := HBd.out x (List.mem_of_getElem? hx)
          have Hs : Hid (((KL.map (·.rch)).take (k + 1)).foldl (· + ·) 1 = acc + x.rch) := Lib.hid (by
            rw [List.take_add_one, List.getElem?_map, hx, List.foldl_append, hA.out]
            rfl)
          have q1 : (k : Int) < (m2 : Int) := by omega
          have q0 : (0 : Int) ≤ (k : Int) := by omega
          have hk2 : k ≤ 2000000 := by omega
          clear h9 hx e9
          go_wp2_with fail
          exact ⟨⟨k + 1, acc + x.rch, by go_num, by omega, by go_num, by omega, Hs, Lib.hid (hB.out.alloc hB.out.size _), Lib.hid (hB3.out.alloc hB3.out.size _)⟩, by simp [intOf]; omega⟩
        · obtain rfl : k = m2 := by omega
          have hfin : R = acc := by
            rw [hRK.out, ← hA.out, List.take_of_length_le (by rw [List.length_map, HKL.out]; exact Nat.le_refl _)]
          have Hfin := Lib.hid hfin
          clear hfin
          go_wp2_with fail
          go_ret
          exact ⟨by rw [Hfin.out]; rfl, hB.out⟩
  · have hR : Hid (R = 0) := Lib.hid (by rw [← hRR.out]; exact reachH_zero (by rw [hkd.out]; simpa using hst))
    have n6 : kd ≠ 6 ∧ kd ≠ 7 ∧ kd ≠ 8 ∧ kd ≠ 9 ∧ kd ≠ 10 ∧ kd ≠ 11 ∧ kd ≠ 12 := by
      unfold stmtK at hst
      rw [Bool.and_eq_true, decide_eq_true_eq, decide_eq_true_eq] at hst
      omega
    obtain ⟨n6, n7, n8, n9, n10, n11, n12⟩ := n6
    have f6 : (kd == 6) = false := by simpa using n6
    have f7 : (kd == 7) = false := by simpa using n7
    have f8 : (kd == 8) = false := by simpa using n8
    have f9 : (kd == 9) = false := by simpa using n9
    have f10 : (kd == 10) = false := by simpa using n10
    have f11 : (kd == 11) = false := by simpa using n11
    have f12 : (kd == 12) = false := by simpa using n12
    clear n6 n7 n8 n9 n10 n11 n12 hst
    go_wp2_with fail
    go_ret
    exact ⟨by rw [hR.out]; rfl, B2.out⟩
end Go.Proofs.Ytbnbmjdjkadgoaa.F
/-
  For the laws of flow: a tree as a row of spots. Condition: at most 2,000,000 nodes.
-/
namespace Go.Proofs.Ytbnbmjdjkadgoaa.F
open Go.RowKit Go.Shelf
set_option linter.unusedSimpArgs false
set_option linter.unusedVariables false

theorem infoSpot : (Try.prog.info? 89).map (fun i => (i.zero, i.size, i.bytes)) = some (some (.agg #[.pointer none, .int .i64 0, .bool false, .int .i64 0]), 4, 32) := by kernel_rfl
/-- An own row, one element more. -/
theorem wpList_append_el {W : World} {base t e size bytes n : Nat} {ops : Array Oper} {rest : List Oper} {o : Oper} {a : Act} {Q : Exit → Act → World → Prop} (hgd : o.guard = none) (s x : Operand)
    (ho : o.op = .call { callee := .builtin .append, args := #[s, x], argTypes := #[t, t] }) (ht : Try.prog.underlying t = some (.slice e)) {z : Value} (hinfo : (Try.prog.info? e).map (fun i => (i.zero, i.size, i.bytes)) = some (some z, size, bytes))
    (hzs : z.cells.size = size) (hsz : 0 < size) (hby : bytes ≤ 1000) (v : Value) (xs news : List Value) (hs : a.eval s = v) (hown : W.ownsRow base e size v n xs) (gb : Nat) (hx : a.eval x = .slice (some ⟨gb, 0, none⟩) 1 1) (hl : news.length = size)
    (hnews : ∀ j u, news[j]? = some u → W.cell? ⟨gb, j, none⟩ = some u) (h1 : ∀ u ∈ news, u.oneCell' = true) (hn : n + 1 ≤ 5000000) (hbase : base ≤ W.heap.size)
    (h : ∀ v' w', w'.ownsRow base e size v' (n + 1) (xs ++ news) → W.grownBy w' v.ownBlock → wpList Try.prog ops Q rest (a.put o.dst v') w') : wpList Try.prog ops Q (o :: rest) a W := by
  obtain ⟨i0, hi, hz0, hz1, hz2⟩ := info_parts hinfo
  refine wpList_append_own W hgd s x t ho base e i0 z size bytes ht hi hz0 hz1 hz2 hzs hsz v n xs hs hown ⟨gb, 0, none⟩ 1 1 news hx (by omega) (fun j u hj => by rw [add_flat, Nat.zero_add]; exact hnews j u hj) h1 (by unfold maxLen; omega) ?_ hbase fun v' w' a1 a2 _ => h v' w' a1 a2
  exact Nat.le_trans (Nat.mul_le_mul hn hby) (by omega)
theorem own_same {W W' : World} {base e size n : Nat} {v : Value} {xs : List Value} (h : W.ownsRow base e size v n xs) (hb : ∀ g, v.ownBlock = some g → W'.heap[g]? = W.heap[g]?) : W'.ownsRow base e size v n xs := by
  refine ⟨h.1, ?_⟩
  rcases h.2 with h0 | ⟨g, cap, cur, e1, h1, hg, h2, h3, h4, h5⟩
  · exact .inl h0
  · exact .inr ⟨g, cap, cur, e1, h1, (hb g (by rw [e1]; rfl)).trans hg, h2, h3, h4, h5⟩
/-- An own row that is not empty. -/
theorem own_at {W : World} {base e size n : Nat} {v : Value} {xs : List Value} (h : W.ownsRow base e size v n xs) (hn : 0 < n) : ∃ g cap cur, v = .slice (some ⟨g, 0, none⟩) n cap ∧ base ≤ g ∧ W.heap[g]? = some (.cells cur e (0, 0)) ∧ n ≤ cap ∧ cap ≤ maxLen := by
  rcases h.2 with ⟨-, h0⟩ | ⟨g, cap, cur, e1, h1, hg, h2, h3, h4, h5⟩
  · omega
  · exact ⟨g, cap, cur, e1, h1, hg, h2, h3⟩
/-- The new spots of kids. -/
def newS (N b1 : Nat) (ps : List Pr) : List Sp := ps.mapIdx fun i q => ⟨N, b1 + i * 9, q.1, q.2, 0, false, 0⟩
theorem newS_len (N b1 : Nat) (ps : List Pr) : (newS N b1 ps).length = ps.length := by unfold newS; simp
theorem newS_take_succ {N b1 : Nat} {ps : List Pr} {i : Nat} {q : Pr} (h : ps[i]? = some q) : (newS N b1 ps).take (i + 1) = (newS N b1 ps).take i ++ [⟨N, b1 + i * 9, q.1, q.2, 0, false, 0⟩] := by
  rw [List.take_add_one]
  congr 1
  unfold newS
  rw [List.getElem?_mapIdx, h]; rfl
theorem newS_t (N b1 : Nat) (ps : List Pr) : (newS N b1 ps).map (·.t) = ps.map (·.1) := by
  refine List.ext_getElem? fun k => ?_
  unfold newS
  rw [List.getElem?_map, List.getElem?_map, List.getElem?_mapIdx]
  cases ps[k]? <;> rfl
theorem newS_mem {N b1 : Nat} {ps : List Pr} {x : Sp} (h : x ∈ newS N b1 ps) : ∃ (i : Nat) (p : Pr), ps[i]? = some p ∧ x = ⟨N, b1 + i * 9, p.1, p.2, 0, false, 0⟩ := by
  obtain ⟨i, hi⟩ := List.getElem?_of_mem h
  unfold newS at hi
  rw [List.getElem?_mapIdx] at hi
  cases hz : ps[i]? with
  | none => rw [hz] at hi; cases hi
  | some y => rw [hz] at hi; exact ⟨i, y, hz, (Option.some.inj hi).symm⟩
/-- Between two rounds of the first loop. -/
structure BInv (w : World) (T : Nd) (S : List Sp) (i : Nat) (v : Value) (W : World) : Prop where
  own : W.ownsRow w.heap.size 89 4 v S.length (spv S)
  bel : Below w.heap.size w W
  nodes : ∀ s ∈ S, NodeP w s
  root : ∃ s, S[0]? = some s ∧ s.t = T
  done : ∀ j s, j < i → S[j]? = some s → KidOk S s ∧ j < s.first
  cnt : i + cntL ((S.drop i).map (·.t)) = T.cnt
  le : i ≤ S.length
  small : ∀ s ∈ S, s.t.cnt ≤ T.cnt
theorem BInv.few {w W : World} {T : Nd} {S : List Sp} {i : Nat} {v : Value} (h : BInv w T S i v W) : S.length ≤ T.cnt := by
  have h1 := cntL_len ((S.drop i).map (·.t))
  rw [List.length_map, List.length_drop] at h1
  have := h.cnt
  have := h.le
  omega
theorem kidsS_new {S B : List Sp} {s : Sp} (h1 : s.first = S.length) (h2 : s.t.kids.length = B.length) : kidsS (S ++ B) s = B := by
  unfold kidsS
  rw [h1, h2, List.drop_left, List.take_length]
/-- One spot's kids are in the row. -/
theorem BInv.step {w W W' : World} {T : Nd} {S : List Sp} {i : Nat} {v v' : Value} {s : Sp} {ps : List Pr} {N b1 : Nat} (h : BInv w T S i v W) (hs : S[i]? = some s) (hps : ps.map (·.1) = s.t.kids)
    (hn : ∀ x ∈ newS N b1 ps, NodeP w x) (ho : W'.ownsRow w.heap.size 89 4 v' (S.length + ps.length) (spv (S.set i { s with first := S.length } ++ newS N b1 ps))) (hb : Below w.heap.size w W') : BInv w T (S.set i { s with first := S.length } ++ newS N b1 ps) (i + 1) v' W' := by
  have hil := (List.getElem?_eq_some_iff.1 hs).1
  have hpl : s.t.kids.length = ps.length := by rw [← hps, List.length_map]
  have hlen : (S.set i { s with first := S.length }).length = S.length := List.length_set
  have hst : (S.set i { s with first := S.length }).map (·.t) = S.map (·.t) := by
    rw [List.map_set]
    refine List.ext_getElem? fun k => ?_
    rw [List.getElem?_set]
    split
    · rename_i e
      subst e
      rw [List.length_map, if_pos hil, List.getElem?_map, hs]; rfl
    · rfl
  have hks : ∀ x : Sp, KidOk S x → KidOk (S.set i { s with first := S.length }) x := fun x hx => by
    refine ⟨by rw [hlen]; exact hx.1, ?_⟩
    have e : ∀ L : List Sp, (kidsS L x).map (·.t) = ((L.map (·.t)).drop x.first).take x.t.kids.length := fun L => by unfold kidsS; rw [List.map_take, List.map_drop]
    rw [e, hst, ← e]
    exact hx.2
  refine ⟨by rw [List.length_append, hlen, newS_len]; exact ho, hb, fun x hx => ?_, ?_, fun j x hj hx => ?_, ?_, ?_, fun x hx => ?_⟩
  · rcases List.mem_append.1 hx with hx | hx
    · rcases List.mem_or_eq_of_mem_set hx with hx | rfl
      · exact h.nodes x hx
      · exact h.nodes s (List.mem_of_getElem? hs)
    · exact hn x hx
  · obtain ⟨r, h1, h2⟩ := h.root
    rw [List.getElem?_append_left (by rw [hlen]; omega), List.getElem?_set]
    split
    · rename_i e
      subst e
      rw [hs] at h1
      obtain rfl := Option.some.inj h1
      exact ⟨_, rfl, h2⟩
    · exact ⟨r, h1, h2⟩
  · rw [List.getElem?_append_left (by rw [hlen]; omega), List.getElem?_set] at hx
    split at hx
    · rename_i e
      subst e
      obtain rfl := Option.some.inj hx
      refine ⟨⟨by rw [List.length_append, hlen]; show S.length ≤ _; omega, ?_⟩, hil⟩
      rw [kidsS_new (by rw [hlen]) (by rw [newS_len]; exact hpl), newS_t]
      exact hps
    · rename_i e
      obtain ⟨k1, k2⟩ := h.done j x (by omega) hx
      exact ⟨(hks x k1).app _, k2⟩
  · have h1 := h.cnt
    rw [List.drop_eq_getElem_cons hil, List.map_cons, cntL] at h1
    have e1 : S[i] = s := by
      rw [List.getElem?_eq_getElem hil] at hs
      exact Option.some.inj hs
    rw [e1, cnt_kids] at h1
    have hl1 : i + 1 ≤ (S.set i { s with first := S.length }).length := by rw [hlen]; omega
    rw [List.drop_append_of_le_length hl1, List.map_append, cntL_app, newS_t, hps, List.drop_set_of_lt (by omega)]
    omega
  · rw [List.length_append, hlen]; omega
  · have hsm := h.small s (List.mem_of_getElem? hs)
    rcases List.mem_append.1 hx with hx | hx
    · rcases List.mem_or_eq_of_mem_set hx with hx | rfl
      · exact h.small x hx
      · exact hsm
    · obtain ⟨k, p, h1, rfl⟩ := newS_mem hx
      have h2 : p.1 ∈ s.t.kids := by rw [← hps]; exact List.mem_map_of_mem (List.mem_of_getElem? h1)
      have h3 := cntL_mem h2
      have h4 := cnt_kids s.t
      show p.1.cnt ≤ _
      omega
/-- All that is told of each spot is so. -/
def Told (S : List Sp) : Prop := ∀ (j : Nat) (s : Sp), S[j]? = some s → KidOk S s ∧ s.ends = endsN s.t ∧ s.rch = reachN s.t
/-- The value v reads as a row of spots of the tree T. -/
def FlatAt (W : World) (v : Value) (T : Nd) : Prop := ∃ S, SpRow W v S ∧ S.length ≤ 2000000 ∧ (∀ s ∈ S, NodeP W s) ∧ (∃ s, S[0]? = some s ∧ s.t = T) ∧ Told S
/-- From the place m on it is told whether they end, and how many are reached. -/
def toldF (m : Nat) (S : List Sp) : List Sp := S.mapIdx fun j s => if m ≤ j then { s with ends := endsN s.t, rch := reachN s.t } else s
theorem toldF_len (m : Nat) (S : List Sp) : (toldF m S).length = S.length := by unfold toldF; simp
theorem toldF_get {m : Nat} {S : List Sp} {j : Nat} {s : Sp} (h : S[j]? = some s) : (toldF m S)[j]? = some (if m ≤ j then { s with ends := endsN s.t, rch := reachN s.t } else s) := by
  unfold toldF
  rw [List.getElem?_mapIdx, h]; rfl
theorem toldF_all (S : List Sp) : toldF S.length S = S := by
  refine List.ext_getElem? fun k => ?_
  rcases Nat.lt_or_ge k S.length with hk | hk
  · rw [toldF_get (List.getElem?_eq_getElem hk), if_neg (by omega), List.getElem?_eq_getElem hk]
  · rw [List.getElem?_eq_none (by rw [toldF_len]; exact hk), List.getElem?_eq_none hk]
theorem toldF_set {m : Nat} {S : List Sp} {s : Sp} (h : S[m]? = some s) : (toldF (m + 1) S).set m { s with ends := endsN s.t, rch := reachN s.t } = toldF m S := by
  have hml := (List.getElem?_eq_some_iff.1 h).1
  refine List.ext_getElem? fun k => ?_
  rw [List.getElem?_set]
  split
  · rename_i e
    subst e
    rw [toldF_get h, if_pos (by rw [toldF_len]; exact hml), if_pos (Nat.le_refl _)]
  · rename_i e
    rcases Nat.lt_or_ge k S.length with hk | hk
    · rw [toldF_get (List.getElem?_eq_getElem hk), toldF_get (List.getElem?_eq_getElem hk)]
      by_cases hmk : m ≤ k
      · rw [if_pos hmk, if_pos (by omega)]
      · rw [if_neg hmk, if_neg (by omega)]
    · rw [List.getElem?_eq_none (by rw [toldF_len]; exact hk), List.getElem?_eq_none (by rw [toldF_len]; exact hk)]
theorem kidsS_t (L : List Sp) (x : Sp) : (kidsS L x).map (·.t) = ((L.map (·.t)).drop x.first).take x.t.kids.length := by unfold kidsS; rw [List.map_take, List.map_drop]
theorem toldF_t (m : Nat) (S : List Sp) : (toldF m S).map (·.t) = S.map (·.t) := by
  refine List.ext_getElem? fun k => ?_
  rw [List.getElem?_map, List.getElem?_map]
  rcases Nat.lt_or_ge k S.length with hk | hk
  · rw [toldF_get (List.getElem?_eq_getElem hk), List.getElem?_eq_getElem hk]
    split <;> rfl
  · rw [List.getElem?_eq_none (by rw [toldF_len]; exact hk), List.getElem?_eq_none hk]
theorem KidOk.same {S S' : List Sp} {s s' : Sp} (h : KidOk S s) (hl : S'.length = S.length) (ht : S'.map (·.t) = S.map (·.t)) (h1 : s'.first = s.first) (h2 : s'.t = s.t) : KidOk S' s' := by
  refine ⟨by rw [hl, h1]; exact h.1, ?_⟩
  rw [kidsS_t, ht, h1, h2, ← kidsS_t]
  exact h.2
/-- The kids of the spot at m, once all behind m are told. -/
theorem toldF_kids {m : Nat} {S : List Sp} {s : Sp} (hk : KidOk S s) (hf : m < s.first) (x : Sp) {k : Nat} (hx : (kidsS (toldF (m + 1) S) s)[k]? = some x) : x.ends = endsN x.t ∧ x.rch = reachN x.t := by
  have hkl : k < s.t.kids.length := by
    have := (List.getElem?_eq_some_iff.1 hx).1
    unfold kidsS at this
    rw [List.length_take] at this
    omega
  have hfit := hk.fits
  rw [kidsS_get hkl, toldF_get (List.getElem?_eq_getElem (by omega)), if_pos (by omega)] at hx
  obtain rfl := Option.some.inj hx
  exact ⟨rfl, rfl⟩
set_option maxRecDepth 100000 in
set_option maxHeartbeats 16000000 in
theorem flatten_any (b o : Nat) (T : Nd) (kv : Value) (w : World) (hc : Cells w b o T.hd kv) (hk : KidsAt w T.kids kv) (hm : T.cnt ≤ 2000000) :
    Calls Try.prog 54 #[.pointer (some ⟨b, o, none⟩)] w fun e w' => (∃ v, e = .returned v ∧ FlatAt w' v T) ∧ Below w.heap.size w w' := by
  obtain ⟨W1, hW1⟩ : ∃ W1, Hid (w.alloc (.cells #[.pointer (some ⟨b, o, none⟩), .int .i64 0, .bool false, .int .i64 0] 89) = W1) := ⟨_, Lib.hid rfl⟩
  have hI0 : Hid (BInv w T [⟨b, o, T, kv, 0, false, 0⟩] 0 (.slice (some ⟨w.heap.size, 0, none⟩) 1 1) W1) := Lib.hid (by
    have R1 : RowAt W1 w.heap.size 89 #[.pointer (some ⟨b, o, none⟩), .int .i64 0, .bool false, .int .i64 0] := by rw [← hW1.out]; exact RowAt.new w 89 _
    exact {
      own := ⟨rfl, .inr ⟨w.heap.size, 1, _, rfl, Nat.le_refl _, R1, Nat.le_refl _, by unfold maxLen; omega, rfl, rfl⟩⟩
      bel := by rw [← hW1.out]; exact (Below.refl _ w).alloc (Nat.le_refl _) _
      nodes := fun s hs => by
        obtain rfl := List.mem_singleton.1 hs
        exact ⟨hc, hk⟩
      root := ⟨_, rfl, rfl⟩
      done := fun j s hj => by omega
      cnt := by simp [cntL]
      le := by simp
      small := fun s hs => by
        obtain rfl := List.mem_singleton.1 hs
        exact Nat.le_refl _ })
  clear hc hk
  go_enter Try.func54, Try.ntmps54
  go_wp2_with fail
  rw [hW1.out]
  go_loopw [3, 4] (fun u c wr => ∃ (i : Nat) (S : List Sp), c = .int .i64 i ∧ i ≤ T.cnt ∧ Hid (BInv w T S i u wr)) (fun _ c _ => T.cnt - (intOf c).toNat)
  case atStart => exact ⟨0, _, rfl, Nat.zero_le _, hI0⟩
  case round =>
    clear hI0 hW1
    obtain ⟨i, S, rfl, hic, hI⟩ := hrel
    have hfew := hI.out.few
    have hle := hI.out.le
    by_cases hlt : i < S.length
    · obtain ⟨s, hs⟩ : ∃ s, Hid (S[i]? = some s) := ⟨_, Lib.hid (List.getElem?_eq_getElem hlt)⟩
      obtain ⟨g, cap, cur, rfl, hg1, hg2, hg3, hg4⟩ := own_at hI.out.own (by omega)
      have hO := hI.out.own
      obtain ⟨a8, cap8, e8, -, -, h8⟩ := SpRow.of_own hO
      obtain ⟨g8, o8, rfl, z⟩ := h8 i s hs.out
      obtain ⟨e1, -, -⟩ := Value.slice.inj e8
      cases e1
      have z1 := z.c1
      rw [Nat.zero_add] at z1
      clear h8 e8 z
      have Zg : wr.frozen? ⟨g, i * 4 + 1, none⟩ = false := RowAt.frozen (t := 89) (vs := cur) hg2 _
      have hnode := hI.out.nodes s (List.mem_of_getElem? hs.out)
      obtain ⟨ps, ak, ck, hps, hkv, hc1, hc2, hr⟩ := hnode.2.rows
      have Hnode := Lib.hid hnode
      have Hps := Lib.hid hps
      have Hr := Lib.hid hr
      have hsc : s.t.kids.length = ps.length := by rw [← hps, List.length_map]
      obtain ⟨m, hmm⟩ : ∃ m, Hid (ps.length = m) := ⟨_, Lib.hid rfl⟩
      have hbs := hI.out.bel.size
      have hcount : S.length + ps.length ≤ 2000000 := by
        have h1 := hI.out.cnt
        have e1 : S[i] = s := by
          have h9 := hs.out
          rw [List.getElem?_eq_getElem hlt] at h9
          exact Option.some.inj h9
        rw [List.drop_eq_getElem_cons hlt, List.map_cons, cntL, e1, cnt_kids] at h1
        have h2 := cntL_len s.t.kids
        have h3 := cntL_len ((S.drop (i + 1)).map (·.t))
        rw [List.length_map, List.length_drop] at h3
        omega
      rw [hmm.out] at hcount
      rw [hmm.out] at hc1
      obtain ⟨W2, hW2⟩ : ∃ W2, Hid (wr.setCell ⟨g, i * 4 + 1, none⟩ (.int .i64 (S.length : Nat)) = W2) := ⟨_, Lib.hid rfl⟩
      have O2 : Hid (W2.ownsRow w.heap.size 89 4 (.slice (some ⟨g, 0, none⟩) S.length cap) S.length (spv (S.set i { s with first := S.length }))) := Lib.hid (by
        rw [← hW2.out, ← spv_set hs.out 1 (by omega) (.int .i64 (S.length : Nat)) rfl]
        exact own_set hO _)
      have B2 : Hid (Below w.heap.size w W2) := Lib.hid (by rw [← hW2.out]; exact hI.out.bel.setCell (p := ⟨g, i * 4 + 1, none⟩) hg1 _)
      have hn2 := Hnode.out.below hI.out.bel
      have d8 := (Hnode.out.below B2.out).1.c8
      rw [hkv, hmm.out] at d8
      have Hkv := Lib.hid hkv
      rw [hmm.out] at Hkv
      obtain ⟨a9, cap9, e9, -, -, h9⟩ := SpRow.of_own (S := S.set i { s with first := S.length }) (W := W2) (base := w.heap.size) (v := .slice (some ⟨g, 0, none⟩) S.length cap) (by rw [List.length_set]; exact O2.out)
      obtain ⟨g9, o9, rfl, y⟩ := h9 i { s with first := S.length } (by rw [List.getElem?_set, if_pos rfl, if_pos hlt])
      obtain ⟨e1, -, -⟩ := Value.slice.inj e9
      cases e1
      have y0 := y.c0
      rw [Nat.zero_add] at y0
      have q1 : (i : Int) < (S.length : Int) := by omega
      have q0 : (0 : Int) ≤ (i : Int) := by omega
      have Hr0 := hg2
      unfold maxLen at hg4 hc2
      clear h9 e9 y hn2 hnode hr hps hkv hO
      go_upto_region 6 with fail
      rw [hW2.out]
      obtain ⟨N, b1, hN⟩ : ∃ N b1, Hid (m = 0 ∨ ak = some ⟨N, b1, none⟩) := by
        by_cases h0 : m = 0
        · exact ⟨0, 0, Lib.hid (.inl h0)⟩
        · obtain ⟨b, off, e, -⟩ := Hr.out 0 _ (List.getElem?_eq_getElem (by rw [hmm.out]; omega))
          exact ⟨b, off, Lib.hid (.inr e)⟩
      have hnew : Hid (∀ x ∈ newS N b1 ps, NodeP w x) := Lib.hid (fun x hx => by
        obtain ⟨k, p, h1, rfl⟩ := newS_mem hx
        obtain ⟨b, off, e, c, hk⟩ := Hr.out k p h1
        have hkl := (List.getElem?_eq_some_iff.1 h1).1
        obtain rfl : ak = some ⟨N, b1, none⟩ := hN.out.resolve_left (by rw [← hmm.out]; omega)
        cases e
        exact ⟨c, hk⟩)
      have hs2 := B2.out.size
      go_wp2_with fail
      go_loopw [3, 32] (fun u c wr => ∃ k : Nat, c = .int .i64 k ∧ k ≤ m ∧ Hid (wr.ownsRow w.heap.size 89 4 u (S.length + k) (spv (S.set i { s with first := S.length } ++ (newS N b1 ps).take k))) ∧ Hid (Below w.heap.size w wr)) (fun _ c _ => m - (intOf c).toNat)
      case atStart => exact ⟨0, rfl, Nat.zero_le _, Lib.hid (by rw [List.take_zero, List.append_nil]; exact O2.out), B2⟩
      case round =>
        obtain ⟨k, rfl, hk, hO4, hB4⟩ := hrel
        have hs4 := hB4.out.size
        by_cases hlk : k < m
        · obtain ⟨q, hq⟩ : ∃ q, Hid (ps[k]? = some q) := ⟨_, Lib.hid (List.getElem?_eq_getElem (by rw [hmm.out]; exact hlk))⟩
          obtain rfl : ak = some ⟨N, b1, none⟩ := hN.out.resolve_left (by omega)
          obtain ⟨g4, cap4, cur4, hu, hg41, hg42, hg43, hg44⟩ := own_at hO4.out (by omega)
          have hlen4 : (S.set i { s with first := S.length } ++ (newS N b1 ps).take k).length = S.length + k := by
            rw [List.length_append, List.length_set, List.length_take, newS_len, hmm.out]; omega
          obtain ⟨a9, cap9, e9, -, -, h9⟩ := SpRow.of_own (S := S.set i { s with first := S.length } ++ (newS N b1 ps).take k) (W := wr) (base := w.heap.size) (v := u3) (by rw [hlen4]; exact hO4.out)
          obtain ⟨g9, o9, rfl, y⟩ := h9 i { s with first := S.length } (by rw [List.getElem?_append_left (by rw [List.length_set]; exact hlt), List.getElem?_set, if_pos rfl, if_pos hlt])
          rw [hu] at e9
          obtain ⟨e1, -, -⟩ := Value.slice.inj e9
          cases e1
          have y0 := y.c0
          rw [Nat.zero_add] at y0
          have d8 := (Hnode.out.below hB4.out).1.c8
          rw [Hkv.out] at d8
          subst hu
          clear h9 e9 y hlen4
          have p0 : (k : Int) < (m : Int) := by omega
          have p1 : (0 : Int) ≤ (k : Int) := by omega
          have p2 : (i : Int) < ((S.length + k : Nat) : Int) := by omega
          have p3 : (i : Int) < (S.length : Int) + (k : Int) := by omega
          have Rb : Hid (RowAt (wr.alloc (.cells #[.pointer (some ⟨N, b1 + k * 9, none⟩), .int .i64 0, .bool false, .int .i64 0] 89)) wr.heap.size 89 #[.pointer (some ⟨N, b1 + k * 9, none⟩), .int .i64 0, .bool false, .int .i64 0]) := Lib.hid (RowAt.new wr 89 _)
          have OA : Hid ((wr.alloc (.cells #[.pointer (some ⟨N, b1 + k * 9, none⟩), .int .i64 0, .bool false, .int .i64 0] 89)).ownsRow w.heap.size 89 4 (.slice (some ⟨g4, 0, none⟩) (S.length + k) cap4) (S.length + k) (spv (S.set i { s with first := S.length } ++ (newS N b1 ps).take k))) := Lib.hid (own_same hO4.out fun g' hg' => by
            obtain rfl : g4 = g' := Option.some.inj hg'
            exact Below.heap_alloc wr _ g4 (Array.getElem?_eq_some_iff.1 hg42).1)
          have Hnews : Hid (∀ (j : Nat) (u : Value), [Value.pointer (some ⟨N, b1 + k * 9, none⟩), .int .i64 0, .bool false, .int .i64 0][j]? = some u → (wr.alloc (.cells #[.pointer (some ⟨N, b1 + k * 9, none⟩), .int .i64 0, .bool false, .int .i64 0] 89)).cell? ⟨wr.heap.size, j, none⟩ = some u) := Lib.hid (fun j u hj => Rb.out.cell (by simpa using hj))
          have Hone : Hid (∀ u ∈ [Value.pointer (some ⟨N, b1 + k * 9, none⟩), .int .i64 0, .bool false, .int .i64 0], u.oneCell' = true) := Lib.hid (fun u hu => by
            simp only [List.mem_cons, List.not_mem_nil, or_false] at hu
            rcases hu with rfl | rfl | rfl | rfl <;> rfl)
          have Hks := Lib.hid (newS_take_succ (N := N) (b1 := b1) hq.out)
          go_wp2_with (at_builtin; refine wpList_append_el (W := wr.alloc (.cells #[.pointer (some ⟨N, b1 + k * 9, none⟩), .int .i64 0, .bool false, .int .i64 0] 89)) (base := w.heap.size) (n := S.length + k) rfl _ _ rfl Try.underlying84 infoSpot rfl (by decide) (by decide) (.slice (some ⟨g4, 0, none⟩) (S.length + k) cap4) (spv (S.set i { s with first := S.length } ++ (newS N b1 ps).take k)) [.pointer (some ⟨N, b1 + k * 9, none⟩), .int .i64 0, .bool false, .int .i64 0] rfl OA.out wr.heap.size rfl rfl Hnews.out Hone.out (by omega) (by simp; omega) ?_; intro v5 w5 hown5 hg5)
          have O5 : Hid (w5.ownsRow w.heap.size 89 4 v5 (S.length + (k + 1)) (spv (S.set i { s with first := S.length } ++ (newS N b1 ps).take (k + 1)))) := Lib.hid (by
            rw [Hks.out, ← List.append_assoc, spv_app, spv_one]; exact hown5)
          have B5 : Hid (Below w.heap.size w w5) := Lib.hid ((hB4.out.alloc hs4 _).grown hg5 (by simp; omega) (fun j e => by obtain rfl : g4 = j := Option.some.inj e; exact hg41))
          clear hown5 hg5
          go_wp2_with fail
          exact ⟨⟨k + 1, by go_num, by omega, O5, B5⟩, by simp [intOf]; omega⟩
        · obtain rfl : k = m := by omega
          have HI : Hid (BInv w T (S.set i { s with first := S.length } ++ newS N b1 ps) (i + 1) u3 wr) := Lib.hid (BInv.step hI.out hs.out Hps.out hnew.out (by
            have h9 := hO4.out
            rw [List.take_of_length_le (by rw [newS_len, hmm.out]; exact Nat.le_refl _), ← hmm.out] at h9
            exact h9) hB4.out)
          have hic2 := HI.out.le
          have hf2 := HI.out.few
          have hic3 : i + 1 ≤ T.cnt := by omega
          clear hic2 hf2
          go_wp2_with fail
          exact ⟨⟨i + 1, _, by go_num, hic3, HI⟩, by simp [intOf]; omega⟩
    · have hiS : i = S.length := by omega
      have HI := hI
      rw [hiS] at HI
      obtain ⟨r0, hr0, hr1⟩ := HI.out.root
      have hn0 := (List.getElem?_eq_some_iff.1 hr0).1
      obtain ⟨g, cap, cur, rfl, hg1, hg2, hg3, hg4⟩ := own_at HI.out.own hn0
      have HT : Hid (∀ (j : Nat) (s : Sp), S[j]? = some s → KidOk S s ∧ j < s.first ∧ NodeP w s ∧ s.t.cnt ≤ 2000000) := Lib.hid (fun j s hj => by
        have hjl := (List.getElem?_eq_some_iff.1 hj).1
        obtain ⟨k1, k2⟩ := HI.out.done j s hjl hj
        exact ⟨k1, k2, HI.out.nodes s (List.mem_of_getElem? hj), Nat.le_trans (HI.out.small s (List.mem_of_getElem? hj)) hm⟩)
      have HR0 := Lib.hid hr0
      have HR1 := Lib.hid hr1
      have O0 : Hid (wr.ownsRow w.heap.size 89 4 (.slice (some ⟨g, 0, none⟩) S.length cap) S.length (spv (toldF (S.length - 0) S))) := Lib.hid (by rw [Nat.sub_zero, toldF_all]; exact HI.out.own)
      have B0 := Lib.hid HI.out.bel
      obtain ⟨n, hn⟩ : ∃ n, Hid (S.length = n) := ⟨_, Lib.hid rfl⟩
      have hnn : n ≤ 2000000 := by have := HI.out.few; rw [hn.out] at this; omega
      have hcap2 := hg4
      unfold maxLen at hcap2
      rw [hn.out] at O0 hg3 hn0
      have hin : ¬ (i < n) := by rw [← hn.out]; exact hlt
      clear hI HI hr0 hr1 hlt hiS hle hfew hg4 hg2
      rw [hn.out]
      go_wp2_with fail
      go_loopw [52] (fun c wr => ∃ k : Nat, c = .int .i64 k ∧ k ≤ n ∧ Hid (wr.ownsRow w.heap.size 89 4 (.slice (some ⟨g, 0, none⟩) n cap) n (spv (toldF (n - k) S))) ∧ Hid (Below w.heap.size w wr)) (fun c _ => n - (intOf c).toNat)
      case atStart => exact ⟨0, rfl, Nat.zero_le _, O0, B0⟩
      case round =>
        clear O0 B0
        obtain ⟨k, rfl, hk, hO, hB⟩ := hrel
        have hs4 := hB.out.size
        by_cases hlk : k < n
        · obtain ⟨m, hmk⟩ : ∃ m : Nat, m = n - 1 - k := ⟨_, rfl⟩
          have hnk : n - k = m + 1 := by omega
          have hmn : m < n := by omega
          have Hmk := Lib.hid hmk
          have pj : (n : Int) - 1 - (k : Int) = (m : Int) := by omega
          have hs0 : S[m]? = some (S[m]'(by rw [hn.out]; exact hmn)) := List.getElem?_eq_getElem _
          obtain ⟨s, hs⟩ : ∃ s, Hid (S[m]? = some s) := ⟨_, Lib.hid hs0⟩
          clear hs0
          rw [hnk] at hO
          obtain ⟨hko, hmf, hnode, hsc⟩ := HT.out m s hs.out
          obtain ⟨S1, hS1⟩ : ∃ S1, Hid (toldF (m + 1) S = S1) := ⟨_, Lib.hid rfl⟩
          rw [hS1.out] at hO
          have hl1 : S1.length = n := by rw [← hS1.out, toldF_len, hn.out]
          have hs1 : S1[m]? = some s := by rw [← hS1.out, toldF_get hs.out, if_neg (by omega)]
          have hko1 : KidOk S1 s := by rw [← hS1.out]; exact hko.same (toldF_len _ _) (toldF_t _ _) rfl rfl
          have hkt : ∀ x ∈ kidsS S1 s, x.ends = endsN x.t ∧ x.rch = reachN x.t := fun x hx => by
            obtain ⟨j, hj⟩ := List.getElem?_of_mem hx
            rw [← hS1.out] at hj
            exact toldF_kids hko hmf x hj
          have hke : (kidsS S1 s).map (·.ends) = s.t.kids.map endsN := by
            rw [← hko1.2, List.map_map]
            exact List.map_congr_left fun x hx => (hkt x hx).1
          have hkr : (kidsS S1 s).map (·.rch) = s.t.kids.map reachN := by
            rw [← hko1.2, List.map_map]
            exact List.map_congr_left fun x hx => (hkt x hx).2
          have hkn : ∀ x ∈ kidsS S1 s, NodeP w x := fun x hx => by
            unfold kidsS at hx
            have h8 := List.mem_of_mem_drop (List.mem_of_mem_take hx)
            obtain ⟨j, hj⟩ := List.getElem?_of_mem h8
            have hjl := (List.getElem?_eq_some_iff.1 hj).1
            rw [← hS1.out] at hj
            rw [hl1] at hjl
            rw [toldF_get (List.getElem?_eq_getElem (by rw [hn.out]; exact hjl))] at hj
            have h7 := (HT.out j _ (List.getElem?_eq_getElem (by rw [hn.out]; exact hjl))).2.2.1
            split at hj <;> (obtain rfl := Option.some.inj hj; exact h7)
          have hkb : ∀ x ∈ kidsS S1 s, x.rch ≤ 2000000 := fun x hx => by
            rw [(hkt x hx).2]
            have h8 : x.t ∈ s.t.kids := by rw [← hko1.2]; exact List.mem_map_of_mem hx
            have h7 := cntL_mem h8
            have h6 := cnt_kids s.t
            have h5 := reach_le x.t
            omega
          have hends : endH s.t.hd s.t.kids ((kidsS S1 s).map (·.ends)) = endsN s.t := by rw [hke, ← ends_kids]
          have hrch : reachH s.t.hd ((kidsS S1 s).map (·.ends)) ((kidsS S1 s).map (·.rch)) = reachN s.t := by rw [hke, hkr, ← reach_kids]
          have C1 : Hid (Calls Try.prog 82 #[.slice (some ⟨g, 0, none⟩) n cap, .int .i64 (m : Nat)] wr fun e w' => e = .returned (.bool (endsN s.t)) ∧ Below wr.heap.size wr w') := Lib.hid (by
            have h9 := completes_any (.slice (some ⟨g, 0, none⟩) n cap) S1 m s wr hs1 hko1 (hnode.below hB.out) (fun x hx => (hkn x hx).below hB.out) (by omega) (SpRow.of_own (by rw [hl1]; exact hO.out))
            rw [hends] at h9
            exact h9)
          have C2 : Hid (∀ U, Below w.heap.size w U → SpRow U (.slice (some ⟨g, 0, none⟩) n cap) (S1.set m { s with ends := endsN s.t }) → Calls Try.prog 83 #[.slice (some ⟨g, 0, none⟩) n cap, .int .i64 (m : Nat)] U fun e w' => e = .returned (.int .i64 (reachN s.t : Nat)) ∧ Below U.heap.size U w') := Lib.hid (fun U hU hrow => by
            have hst : (S1.set m { s with ends := endsN s.t }).map (·.t) = S1.map (·.t) := by
              rw [List.map_set]
              refine List.ext_getElem? fun k => ?_
              rw [List.getElem?_set]
              split
              · rename_i e
                subst e
                rw [List.length_map, if_pos (by omega), List.getElem?_map, hs1]; rfl
              · rfl
            have hkk : kidsS (S1.set m { s with ends := endsN s.t }) { s with ends := endsN s.t } = kidsS S1 s := by
              unfold kidsS
              rw [List.drop_set_of_lt hmf]
            have h9 := count_any (.slice (some ⟨g, 0, none⟩) n cap) (S1.set m { s with ends := endsN s.t }) m { s with ends := endsN s.t } U (by rw [List.getElem?_set, if_pos rfl, if_pos (by omega)]) (hko1.same List.length_set hst rfl rfl) (show NodeP U { s with ends := endsN s.t } from hnode.below hU) (fun x hx => by rw [hkk] at hx; exact (hkn x hx).below hU) (fun x hx => by rw [hkk] at hx; exact hkb x hx) (by rw [List.length_set]; omega) hrow
            rw [hkk, hrch] at h9
            exact h9)
          have hend : Hid (((S1.set m { s with ends := endsN s.t }).set m { s with ends := endsN s.t, rch := reachN s.t }) = toldF m S) := Lib.hid (by
            rw [List.set_set, ← hS1.out, toldF_set hs.out])
          have HO := hO
          have Hs1 := Lib.hid hs1
          have Hl1 := Lib.hid hl1
          have Hnk := Lib.hid hnk
          clear hnk hmk hkt hke hkr hkn hkb hends hrch hko hmf hnode hsc hko1 hs1 hl1 hO
          have q1 : (m : Int) < (n : Int) := by omega
          have q0 : (0 : Int) ≤ (m : Int) := by omega
          go_wp2_with fail
          refine C1.out.mono ?_
          rintro e w2 ⟨rfl, b2⟩
          have O2 := Lib.hid (own_below HO.out b2)
          have B2 := Lib.hid (hB.out.trans (b2.mono hs4))
          have hs2 := b2.size
          clear b2
          obtain ⟨g9, cap9, cur9, e9, -, r9, -, -⟩ := own_at O2.out (by omega)
          obtain ⟨e1, -, -⟩ := Value.slice.inj e9
          cases e1
          have Zg : w2.frozen? ⟨g, m * 4 + 2, none⟩ = false := RowAt.frozen (t := 89) (vs := cur9) r9 _
          obtain ⟨a8, cap8, e8, -, -, h8⟩ := SpRow.of_own (S := S1) (by rw [Hl1.out]; exact O2.out)
          obtain ⟨g8, o8, rfl, z⟩ := h8 m s Hs1.out
          obtain ⟨e1, -, -⟩ := Value.slice.inj e8
          cases e1
          have z2 := z.c2
          rw [Nat.zero_add] at z2
          obtain ⟨W3, hW3⟩ : ∃ W3, Hid (w2.setCell ⟨g, m * 4 + 2, none⟩ (.bool (endsN s.t)) = W3) := ⟨_, Lib.hid rfl⟩
          have O3 : Hid (W3.ownsRow w.heap.size 89 4 (.slice (some ⟨g, 0, none⟩) n cap) n (spv (S1.set m { s with ends := endsN s.t }))) := Lib.hid (by
            rw [← hW3.out, ← spv_set Hs1.out 2 (by omega) (.bool (endsN s.t)) rfl]
            exact own_set O2.out _)
          have B3 : Hid (Below w.heap.size w W3) := Lib.hid (by rw [← hW3.out]; exact B2.out.setCell (p := ⟨g, m * 4 + 2, none⟩) hg1 _)
          clear h8 e8 z e9 r9 C1 HO
          go_upto_region 16 with fail
          rw [hW3.out]
          go_wp2_with fail
          refine (C2.out W3 B3.out (SpRow.of_own (by rw [List.length_set, Hl1.out]; exact O3.out))).mono ?_
          rintro e w4 ⟨rfl, b4⟩
          have O4 := Lib.hid (own_below O3.out b4)
          have B4 := Lib.hid (B3.out.trans (b4.mono B3.out.size))
          clear b4 Zg z2
          obtain ⟨g9, cap9, cur9, e9, -, r9, -, -⟩ := own_at O4.out (by omega)
          obtain ⟨e1, -, -⟩ := Value.slice.inj e9
          cases e1
          have Zg : w4.frozen? ⟨g, m * 4 + 3, none⟩ = false := RowAt.frozen (t := 89) (vs := cur9) r9 _
          obtain ⟨a8, cap8, e8, -, -, h8⟩ := SpRow.of_own (S := S1.set m { s with ends := endsN s.t }) (by rw [List.length_set, Hl1.out]; exact O4.out)
          obtain ⟨g8, o8, rfl, z⟩ := h8 m { s with ends := endsN s.t } (by rw [List.getElem?_set, if_pos rfl, if_pos (by rw [Hl1.out]; exact hmn)])
          obtain ⟨e1, -, -⟩ := Value.slice.inj e8
          cases e1
          have z3 := z.c3
          rw [Nat.zero_add] at z3
          have O5 : Hid ((w4.setCell ⟨g, m * 4 + 3, none⟩ (.int .i64 (reachN s.t : Nat))).ownsRow w.heap.size 89 4 (.slice (some ⟨g, 0, none⟩) n cap) n (spv (toldF (n - (k + 1)) S))) := Lib.hid (by
            rw [show n - (k + 1) = m by have := Hnk.out; omega, ← hend.out, ← spv_set (S := S1.set m { s with ends := endsN s.t }) (s := { s with ends := endsN s.t }) (s' := { s with ends := endsN s.t, rch := reachN s.t }) (by rw [List.getElem?_set, if_pos rfl, if_pos (by rw [Hl1.out]; exact hmn)]) 3 (by omega) (.int .i64 (reachN s.t : Nat)) rfl]
            exact own_set O4.out _)
          have B5 : Hid (Below w.heap.size w (w4.setCell ⟨g, m * 4 + 3, none⟩ (.int .i64 (reachN s.t : Nat)))) := Lib.hid (B4.out.setCell (p := ⟨g, m * 4 + 3, none⟩) hg1 _)
          clear h8 e8 z e9 r9 C2
          go_wp2_with fail
          exact ⟨⟨k + 1, by go_num, by omega, O5, B5⟩, by simp [intOf]; omega⟩
        · obtain rfl : k = n := by omega
          rw [Nat.sub_self] at hO
          have hfin : Hid (FlatAt wr (.slice (some ⟨g, 0, none⟩) k cap) T) := Lib.hid (by
            refine ⟨toldF 0 S, SpRow.of_own (by rw [toldF_len, hn.out]; exact hO.out), by rw [toldF_len, hn.out]; exact hnn, fun x hx => ?_, ⟨_, by rw [toldF_get HR0.out], by rw [if_pos (Nat.zero_le _)]; exact HR1.out⟩, fun j x hx => ?_⟩
            · obtain ⟨j, hj⟩ := List.getElem?_of_mem hx
              have hjl := (List.getElem?_eq_some_iff.1 hj).1
              rw [toldF_len] at hjl
              rw [toldF_get (List.getElem?_eq_getElem hjl), if_pos (Nat.zero_le _)] at hj
              obtain rfl := Option.some.inj hj
              exact (show NodeP w _ from (HT.out j _ (List.getElem?_eq_getElem hjl)).2.2.1).below hB.out
            · have hjl := (List.getElem?_eq_some_iff.1 hx).1
              rw [toldF_len] at hjl
              rw [toldF_get (List.getElem?_eq_getElem hjl), if_pos (Nat.zero_le _)] at hx
              obtain rfl := Option.some.inj hx
              exact ⟨(HT.out j _ (List.getElem?_eq_getElem hjl)).1.same (toldF_len _ _) (toldF_t _ _) rfl rfl, rfl, rfl⟩)
          clear hO
          go_wp2_with fail
          go_ret
          exact ⟨⟨_, rfl, hfin.out⟩, hB.out⟩
end Go.Proofs.Ytbnbmjdjkadgoaa.F
