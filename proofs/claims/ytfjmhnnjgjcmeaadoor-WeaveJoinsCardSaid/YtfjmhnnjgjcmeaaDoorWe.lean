/-
  For the laws of weave: the row of pieces in memory: what a new piece, a store and a longer text leave of it. No condition.
-/
import Derived.Test.YtfjmhnnjgjcmeaaDoorWd
import Derived.Laws.AppendOwn
import Derived.OneCell
namespace Go.Proofs.YtfjmhnnjgjcmeaaDoor
open Go.RowKit Go.Shelf
set_option linter.unusedSimpArgs false
set_option linter.unusedVariables false

/-- A piece's values. -/
structure Pv where
  clash : Bool
  vo : Value
  va : Value
  vb : Value
def Pv.row (p : Pv) : List Value := [.bool p.clash, p.vo, p.va, p.vb]
def pvv (P : List Pv) : List Value := P.flatMap Pv.row
theorem pvv_len (P : List Pv) : (pvv P).length = P.length * 4 := by
  unfold pvv
  induction P with
  | nil => rfl
  | cons p P ih => rw [List.flatMap_cons, List.length_append, ih, List.length_cons]; simp [Pv.row]; omega
theorem pvv_snoc (P : List Pv) (p : Pv) : pvv (P ++ [p]) = pvv P ++ p.row := by unfold pvv; rw [List.flatMap_append]; simp
theorem pvv_get {P : List Pv} {k : Nat} {p : Pv} (h : P[k]? = some p) (j : Nat) (hj : j < 4) : (pvv P)[k * 4 + j]? = p.row[j]? := by
  have e : P = P.take k ++ p :: P.drop (k + 1) := by rw [← drop_at h, List.take_append_drop]
  have hl : (pvv (P.take k)).length = k * 4 := by rw [pvv_len, List.length_take, Nat.min_eq_left (Nat.le_of_lt (List.getElem?_eq_some_iff.1 h).1)]
  have e2 : pvv P = pvv (P.take k) ++ (p.row ++ pvv (P.drop (k + 1))) := by
    conv => lhs; rw [e]
    unfold pvv
    rw [List.flatMap_append, List.flatMap_cons]
  rw [e2, List.getElem?_append_right (by omega), hl, Nat.add_sub_cancel_left, List.getElem?_append_left (by simp [Pv.row]; exact hj)]
theorem pvv_set1 (P : List Pv) (c : Bool) (x y z u : Value) : (pvv (P ++ [⟨c, x, y, z⟩])).set (P.length * 4 + 1) u = pvv (P ++ [⟨c, u, y, z⟩]) := by
  rw [pvv_snoc, pvv_snoc, List.set_append, if_neg (by rw [pvv_len]; omega), pvv_len, Nat.add_sub_cancel_left]; rfl
theorem pvv_set2 (P : List Pv) (c : Bool) (x y z u : Value) : (pvv (P ++ [⟨c, x, y, z⟩])).set (P.length * 4 + 2) u = pvv (P ++ [⟨c, x, u, z⟩]) := by
  rw [pvv_snoc, pvv_snoc, List.set_append, if_neg (by rw [pvv_len]; omega), pvv_len, Nat.add_sub_cancel_left]; rfl
/-- A store into a row that the call owns. -/
theorem own_store {W : World} {base e size n g cap j : Nat} {xs : List Value} (h : W.ownsRow base e size (.slice (some ⟨g, 0, none⟩) n cap) n xs) (hj : j < n * size) (u : Value) : (W.setCell ⟨g, j, none⟩ u).ownsRow base e size (.slice (some ⟨g, 0, none⟩) n cap) n (xs.set j u) := by
  refine ⟨by rw [List.length_set]; exact h.1, ?_⟩
  rcases h.2 with ⟨h0, -⟩ | ⟨g', cap', cur, e1, h1, hg, h2, h3, h4, h5⟩
  · cases h0
  · cases e1
    refine .inr ⟨g, cap, cur.setIfInBounds j u, rfl, h1, ?_, h2, h3, by simpa using h4, ?_⟩
    · have hr : RowAt W g e cur := hg
      exact hr.set j u
    · rw [← h5, Array.toList_setIfInBounds, List.take_set]
theorem own_cells {W : World} {base e size n : Nat} {v : Value} {xs : List Value} (h : W.ownsRow base e size v n xs) (hn : 0 < n) : ∃ g cap, v = .slice (some ⟨g, 0, none⟩) n cap ∧ base ≤ g ∧ g < W.heap.size ∧ n ≤ cap ∧ cap ≤ maxLen ∧ (∃ cs, RowAt W g e cs) ∧ ∀ j x, xs[j]? = some x → W.cell? ⟨g, j, none⟩ = some x := by
  rcases h.2 with ⟨-, h0⟩ | ⟨g, cap, cur, rfl, h1, hg, h2, h3, h4, h5⟩
  · omega
  · refine ⟨g, cap, rfl, h1, (Array.getElem?_eq_some_iff.1 hg).1, h2, h3, ⟨cur, hg⟩, fun j x hj => ?_⟩
    have hjl := (List.getElem?_eq_some_iff.1 hj).1
    rw [h.1] at hjl
    rw [← h5, List.getElem?_take_of_lt hjl] at hj
    simp [World.cell?, hg]
    simpa using hj
theorem own_type {W : World} {base e size n t : Nat} {v : Value} {xs : List Value} {b : Nat} {cs : Array Value} (h : W.ownsRow base e size v n xs) (hr : RowAt W b t cs) (ht : t ≠ e) : some b ≠ v.ownBlock := by
  intro hb
  rcases h.2 with ⟨rfl, _⟩ | ⟨q, cap, cur, rfl, _, hq, _⟩
  · simp [Value.ownBlock] at hb
  · obtain rfl : b = q := by simpa [Value.ownBlock] using hb
    rw [show W.heap[b]? = _ from hr] at hq
    cases hq
    exact ht rfl
/-- Pieces that are settled. -/
def Setl (n1 m : Nat) (W : World) (P : List Pv) (l : List Pc) : Prop := P.length = l.length ∧ ∀ (k : Nat) (p : Pv) (x : Pc), P[k]? = some p → l[k]? = some x → p.clash = x.clash ∧ SetV n1 m W p.vo x.o ∧ SetV n1 m W p.va x.a ∧ SetV n1 m W p.vb x.b
theorem Setl.keep {n1 m : Nat} {A B : World} {P : List Pv} {l : List Pc} (h : Setl n1 m A P l) (hk : KpM n1 m A B) : Setl n1 m B P l :=
  ⟨h.1, fun k p x hp hx => by obtain ⟨h1, h2, h3, h4⟩ := h.2 k p x hp hx; exact ⟨h1, h2.keep hk, h3.keep hk, h4.keep hk⟩⟩
theorem Setl.mono {n1 m m' : Nat} {W : World} {P : List Pv} {l : List Pc} (h : Setl n1 m W P l) (hm : m ≤ m') : Setl n1 m' W P l :=
  ⟨h.1, fun k p x hp hx => by obtain ⟨h1, h2, h3, h4⟩ := h.2 k p x hp hx; exact ⟨h1, h2.mono hm, h3.mono hm, h4.mono hm⟩⟩
theorem Setl.snoc {n1 m : Nat} {W : World} {P : List Pv} {l : List Pc} {p : Pv} {x : Pc} (h : Setl n1 m W P l) (h1 : p.clash = x.clash) (h2 : SetV n1 m W p.vo x.o) (h3 : SetV n1 m W p.va x.a) (h4 : SetV n1 m W p.vb x.b) : Setl n1 m W (P ++ [p]) (l ++ [x]) := by
  refine ⟨by simp [h.1], fun k p' x' hp hx => ?_⟩
  rcases Nat.lt_or_ge k P.length with hk | hk
  · rw [List.getElem?_append_left hk] at hp
    rw [List.getElem?_append_left (by rw [← h.1]; exact hk)] at hx
    exact h.2 k p' x' hp hx
  · rw [List.getElem?_append_right hk] at hp
    rw [List.getElem?_append_right (by rw [← h.1]; exact hk), ← h.1] at hx
    have hk0 : k - P.length = 0 := by have := (List.getElem?_eq_some_iff.1 hp).1; simp at this; omega
    rw [hk0] at hp hx
    simp at hp hx
    subst hp hx
    exact ⟨h1, h2, h3, h4⟩
/-- What holds of the pieces' row, with one open piece or none. -/
def CbI (n1 : Nat) (s : St) (v : Value) (W : World) : Prop := ∃ (P : List Pv) (m : Nat), n1 ≤ m ∧ m ≤ W.heap.size ∧ Setl n1 m W P s.1 ∧
  match s.2 with
  | none => W.ownsRow n1 55 4 v P.length (pvv P)
  | some q => ∃ vo va, W.ownsRow n1 55 4 v (P.length + 1) (pvv (P ++ [⟨false, vo, va, .slice none 0 0⟩])) ∧ W.ownsRow m 9 1 vo q.1.length (q.1.map .string) ∧ W.ownsRow m 9 1 va q.2.length (q.2.map .string) ∧ (vo.ownBlock = none ∨ vo.ownBlock ≠ va.ownBlock)
theorem KpM.low {n1 m m' : Nat} {A B : World} (h : KpM n1 m A B) (hm : m' ≤ m) : KpM n1 m' A B := ⟨h.1, fun b cs hb hr => h.2 b cs (Nat.lt_of_lt_of_le hb hm) hr⟩
/-- What lies above is not touched by what is new. -/
theorem CbI.below {n1 : Nat} {s : St} {v : Value} {A B : World} (h : CbI n1 s v A) (hb : Below A.heap.size A B) : CbI n1 s v B := by
  obtain ⟨P, m, h1, h2, h3, h4⟩ := h
  have hk := KpM.below (n1 := n1) (m := m) (by omega) hb
  refine ⟨P, m, h1, Nat.le_trans h2 hb.size, h3.keep hk, ?_⟩
  cases hs : s.2 with
  | none => rw [hs] at h4; exact own_below h4 hb
  | some q =>
    rw [hs] at h4
    obtain ⟨vo, va, a1, a2, a3, a4⟩ := h4
    show ∃ vo va, _
    exact ⟨vo, va, own_below a1 hb, own_below a2 hb, own_below a3 hb, a4⟩
/-- All pieces, settled. -/
theorem CbI.close {n1 : Nat} {s : St} {v : Value} {W : World} (h : CbI n1 s v W) : ∃ P, W.ownsRow n1 55 4 v P.length (pvv P) ∧ Setl n1 W.heap.size W P s.fin := by
  obtain ⟨P, m, h1, h2, h3, h4⟩ := h
  unfold St.fin
  cases hs : s.2 with
  | none => rw [hs] at h4; exact ⟨P, h4, by simpa using h3.mono h2⟩
  | some q =>
    rw [hs] at h4
    obtain ⟨vo, va, a1, a2, a3, a4⟩ := h4
    exact ⟨P ++ [⟨false, vo, va, .slice none 0 0⟩], by simpa using a1, (h3.mono h2).snoc rfl (setv_own a2) (setv_own a3) (setv_nil _ _ _)⟩
/-- The row of pieces is turned, nothing else. -/
theorem kpm_grown {n1 n : Nat} {v : Value} {xs : List Value} {A B : World} (h : A.ownsRow n1 55 4 v n xs) (hn : n1 ≤ A.heap.size) (hg : A.grownBy B v.ownBlock) (m : Nat) : KpM n1 m A B :=
  ⟨(Below.refl n1 A).grown hg hn (fun k e => (h.lt k e).1), fun b cs _ hr => (hg.block b hr.lt (own_type h hr (by decide))).trans hr⟩
/-- One clash more. -/
theorem CbI.clash {n1 n : Nat} {s : St} {v v' vx vy vz : Value} {A B : World} {x y z : TL} {P : List Pv} (h1 : A.ownsRow n1 55 4 v P.length (pvv P)) (h2 : Setl n1 A.heap.size A P s.fin) (hn : n1 ≤ A.heap.size)
    (hown : B.ownsRow n1 55 4 v' (P.length + 1) (pvv P ++ [.bool true, vx, vy, vz])) (hg : A.grownBy B v.ownBlock) (hx : ∀ m, SetV n1 m B vx x) (hy : ∀ m, SetV n1 m B vy y) (hz : ∀ m, SetV n1 m B vz z) : CbI n1 (s.fin ++ [⟨true, x, y, z⟩], none) v' B := by
  have hk := kpm_grown h1 hn hg A.heap.size
  refine ⟨P ++ [(⟨true, vx, vy, vz⟩ : Pv)], B.heap.size, Nat.le_trans hn hg.size, Nat.le_refl _, ((h2.keep hk).mono hg.size).snoc rfl (hx _) (hy _) (hz _), ?_⟩
  show B.ownsRow n1 55 4 v' (P ++ [(⟨true, vx, vy, vz⟩ : Pv)]).length (pvv (P ++ [(⟨true, vx, vy, vz⟩ : Pv)]))
  rw [pvv_snoc, List.length_append]
  exact hown
/-- A new open piece. -/
theorem CbI.open_ {n1 n : Nat} {l : List Pc} {v v' : Value} {A B : World} {P : List Pv} (h1 : A.ownsRow n1 55 4 v P.length (pvv P)) (h2 : Setl n1 A.heap.size A P l) (hn : n1 ≤ A.heap.size)
    (hown : B.ownsRow n1 55 4 v' (P.length + 1) (pvv P ++ [.bool false, .slice none 0 0, .slice none 0 0, .slice none 0 0])) (hg : A.grownBy B v.ownBlock) : CbI n1 (l, some ([], [])) v' B := by
  have hk := kpm_grown h1 hn hg A.heap.size
  refine ⟨P, B.heap.size, Nat.le_trans hn hg.size, Nat.le_refl _, (h2.keep hk).mono hg.size, _, _, ?_, World.ownsRow_nil _ _ _ _, World.ownsRow_nil _ _ _ _, .inl rfl⟩
  rw [pvv_snoc]
  exact hown
end Go.Proofs.YtfjmhnnjgjcmeaaDoor
