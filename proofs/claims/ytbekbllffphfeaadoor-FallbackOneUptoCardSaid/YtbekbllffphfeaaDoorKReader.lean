/-
  For the laws of marker: the reader, by the program: whether a section may follow, and how one ends. Condition: fewer than 1,000,000 parts.
-/
import Derived.Test.YtbekbllffphfeaaDoorKReadm
import Derived.Test.YtbekbllffphfeaaDoorKLast
namespace Go.Proofs.YtbekbllffphfeaaDoor.K
open Go.RowKit Go.Shelf
set_option linter.unusedSimpArgs false

def rdv (s f : Int) (p : Pt) (v : Value) : Array Value := #[.int .i64 s, .int .i64 f, .bool p.clash, .string (bs p.o), .string (bs p.a), .string (bs p.b), v]
/-- The reader stands at g, its parts above B2. -/
structure Rd (W : World) (g B2 : Nat) (s f : Int) (p : Pt) (out : List Pt) : Prop where
  row : ∃ v, RowAt W g 65 (rdv s f p v) ∧ W.ownsRow B2 52 4 v out.length (pv out)
  lt : g < B2
  size : B2 ≤ W.heap.size
set_option maxRecDepth 100000 in
set_option maxHeartbeats 8000000 in
theorem may_any (s k : Nat) (hs : s < 4) (hk : k < 4) (g : Nat) (w : World) (hg : w.cell? ⟨g, 0, none⟩ = some (.int .i64 s)) : Calls Tryd.prog 28 #[.pointer (some ⟨g, 0, none⟩), .int .i64 k] w fun e w' => e = .returned (.bool (mayB s k)) ∧ w' = w := by
  have hs4 : s = 0 ∨ s = 1 ∨ s = 2 ∨ s = 3 := by omega
  have hk4 : k = 0 ∨ k = 1 ∨ k = 2 ∨ k = 3 := by omega
  rcases hs4 with rfl | rfl | rfl | rfl <;> rcases hk4 with rfl | rfl | rfl | rfl
  all_goals
    go_enter Tryd.func28, Tryd.ntmps28
    go_wp2_with fail
    go_ret
    exact ⟨rfl, rfl⟩
theorem rd_cells {W : World} {g : Nat} {s f : Int} {p : Pt} {v : Value} (h : RowAt W g 65 (rdv s f p v)) : W.cell? ⟨g, 0, none⟩ = some (.int .i64 s) ∧ W.cell? ⟨g, 1, none⟩ = some (.int .i64 f) ∧ W.cell? ⟨g, 2, none⟩ = some (.bool p.clash) ∧ W.cell? ⟨g, 3, none⟩ = some (.string (bs p.o)) ∧ W.cell? ⟨g, 4, none⟩ = some (.string (bs p.a)) ∧ W.cell? ⟨g, 5, none⟩ = some (.string (bs p.b)) ∧ W.cell? ⟨g, 6, none⟩ = some v :=
  ⟨h.cell (j := 0) rfl, h.cell (j := 1) rfl, h.cell (j := 2) rfl, h.cell (j := 3) rfl, h.cell (j := 4) rfl, h.cell (j := 5) rfl, h.cell (j := 6) rfl⟩
/-- Behind end. -/
def EndIs (g B2 : Nat) (s f : Int) (st : St) (W : World) (e : Ending) (W' : World) : Prop :=
  e = .returned (.tuple #[]) ∧ Rd W' g B2 s f st.p st.out ∧ Below g W W' ∧ ∀ q, q < B2 → q ≠ g → W'.heap[q]? = W.heap[q]?
theorem hneq {W : World} {base e size n : Nat} {v : Value} {xs : List Value} (h : W.ownsRow base e size v n xs) (q : Nat) (hq : q < base) : some q ≠ v.ownBlock := fun e => by
  have := (h.lt q e.symm).1
  omega
theorem pt_new (W : World) (p : Pt) (t : TypeId) : ∀ j u, (rowP p)[j]? = some u → (W.alloc (.cells #[.bool p.clash, .string (bs p.o), .string (bs p.a), .string (bs p.b)] t)).cell? ((⟨W.heap.size, 0, none⟩ : Addr).add j) = some u := by
  intro j u hj
  rw [add_flat, Nat.zero_add, Lib.cell_of_heap (World.alloc_heap_new W _)]
  simpa [rowP] using hj
theorem pt_one (p : Pt) : ∀ u ∈ rowP p, u.oneCell' = true := by
  intro u hu
  simp [rowP] at hu
  rcases hu with rfl | rfl | rfl | rfl <;> rfl
theorem pv_snoc (L : List Pt) (p : Pt) : pv (L ++ [p]) = pv L ++ rowP p := by rw [pv_append]; simp [pv]
theorem row_grown {W w2 : World} {g : Nat} {t : TypeId} {vs : Array Value} {row : Option Nat} (h : RowAt W g t vs) (hg : W.grownBy w2 row) (hne : some g ≠ row) : RowAt w2 g t vs :=
  (hg.block g h.lt hne).trans h
theorem own_put {W : World} {g base e size n j : Nat} {v u : Value} {xs : List Value} {t : TypeId} {vs : Array Value} (h : W.ownsRow base e size v n xs) (hr : RowAt W g t vs) (ht : t ≠ e) : (W.setCell ⟨g, j, none⟩ u).ownsRow base e size v n xs :=
  own_keep h fun q cs m hq => Below.heap_setCell _ _ _ _ (by
    rintro rfl
    have h2 : W.heap[q]? = _ := hr
    rw [hq] at h2
    simp at h2
    exact ht h2.2.1.symm)
/-- A fresh clash, stored. -/
theorem put_fresh {W : World} {g B2 n : Nat} {s f : Int} {p : Pt} {v : Value} {xs : List Value} (hr : RowAt W g 65 (rdv s f p v)) (ho : W.ownsRow B2 52 4 v n xs) :
    ∃ W', ((((W.setCell ⟨g, 2, none⟩ (.bool true)).setCell ⟨g, 3, none⟩ (.string ⟨#[]⟩)).setCell ⟨g, 4, none⟩ (.string ⟨#[]⟩)).setCell ⟨g, 5, none⟩ (.string ⟨#[]⟩)) = W' ∧
      RowAt W' g 65 (rdv s f freshPt v) ∧ W'.ownsRow B2 52 4 v n xs ∧ Below g W W' ∧ (∀ q, q ≠ g → W'.heap[q]? = W.heap[q]?) := by
  refine ⟨_, rfl, (((hr.set 2 _).set 3 _).set 4 _).set 5 _, ?_, ?_, ?_⟩
  · exact own_put (own_put (own_put (own_put ho hr (by decide)) (hr.set 2 _) (by decide)) ((hr.set 2 _).set 3 _) (by decide)) (((hr.set 2 _).set 3 _).set 4 _) (by decide)
  · exact ((((Below.refl g W).setCell (p := ⟨g, 2, none⟩) (Nat.le_refl _) _).setCell (p := ⟨g, 3, none⟩) (Nat.le_refl _) _).setCell (p := ⟨g, 4, none⟩) (Nat.le_refl _) _).setCell (p := ⟨g, 5, none⟩) (Nat.le_refl _) _
  · intro q hq
    rw [Below.heap_setCell _ _ _ _ (by simpa using hq), Below.heap_setCell _ _ _ _ (by simpa using hq), Below.heap_setCell _ _ _ _ (by simpa using hq), Below.heap_setCell _ _ _ _ (by simpa using hq)]

set_option maxRecDepth 100000 in
set_option maxHeartbeats 8000000 in
theorem end_one (g B2 : Nat) (f : Int) (now : By) (p : Pt) (out : List Pt) (t : By) (W : World) (h : Rd W g B2 1 f p out) : Calls Tryd.prog 29 #[.pointer (some ⟨g, 0, none⟩), .string (bs t)] W (EndIs g B2 1 f (endS ⟨1, now, p, out⟩ t) W) := by
  obtain ⟨⟨v, hr, hown⟩, hlt, hsz⟩ := h
  have Hr := Lib.hid hr
  have Hown := Lib.hid hown
  obtain ⟨c0, -, -, -, c4, -, -⟩ := rd_cells hr
  have f4 := hr.frozen 4
  clear hr hown
  go_enter Tryd.func29, Tryd.ntmps29
  go_wp2_with fail
  go_end0
  refine ⟨rfl, ⟨⟨v, Hr.out.set 4 _, own_keep Hown.out fun q cs m hq => Below.heap_setCell _ _ _ _ ?_⟩, hlt, by simpa using hsz⟩, (Below.refl g W).setCell (p := ⟨g, 4, none⟩) (Nat.le_refl _) _, fun q _ hqg => Below.heap_setCell _ _ _ _ (by simpa using hqg)⟩
  rintro rfl
  have h2 : W.heap[q]? = _ := Hr.out
  rw [hq] at h2
  simp at h2
set_option maxRecDepth 100000 in
set_option maxHeartbeats 8000000 in
theorem end_two (g B2 : Nat) (f : Int) (now : By) (p : Pt) (out : List Pt) (t : By) (W : World) (h : Rd W g B2 2 f p out) : Calls Tryd.prog 29 #[.pointer (some ⟨g, 0, none⟩), .string (bs t)] W (EndIs g B2 2 f (endS ⟨2, now, p, out⟩ t) W) := by
  obtain ⟨⟨v, hr, hown⟩, hlt, hsz⟩ := h
  have Hr := Lib.hid hr
  have Hown := Lib.hid hown
  obtain ⟨c0, -, -, c4, -, -, -⟩ := rd_cells hr
  have f4 := hr.frozen 3
  clear hr hown
  go_enter Tryd.func29, Tryd.ntmps29
  go_wp2_with fail
  go_end0
  refine ⟨rfl, ⟨⟨v, Hr.out.set 3 _, own_keep Hown.out fun q cs m hq => Below.heap_setCell _ _ _ _ ?_⟩, hlt, by simpa using hsz⟩, (Below.refl g W).setCell (p := ⟨g, 3, none⟩) (Nat.le_refl _) _, fun q _ hqg => Below.heap_setCell _ _ _ _ (by simpa using hqg)⟩
  rintro rfl
  have h2 : W.heap[q]? = _ := Hr.out
  rw [hq] at h2
  simp at h2
set_option maxRecDepth 100000 in
set_option maxHeartbeats 8000000 in
theorem end_none (g B2 : Nat) (f : Int) (now : By) (p : Pt) (out : List Pt) (t : By) (hout : out.length ≤ 100000000) (W : World) (h : Rd W g B2 0 f p out) : Calls Tryd.prog 29 #[.pointer (some ⟨g, 0, none⟩), .string (bs t)] W (EndIs g B2 0 f (endS ⟨0, now, p, out⟩ t) W) := by
  obtain ⟨⟨v, hr, hown⟩, hlt, hsz⟩ := h
  obtain ⟨i0, hi0, hz0, hz1, hz2⟩ := info_parts infoPt
  have Hr := Lib.hid hr
  have Hown := Lib.hid hown
  obtain ⟨c0, c1, c2, c3, c4, c5, c6⟩ := rd_cells hr
  have e2 := hr.frozen 2
  have e3 := hr.frozen 3
  have e4 := hr.frozen 4
  have e5 := hr.frozen 5
  have e6 := hr.frozen 6
  clear hr hown
  by_cases ht : t = []
  · have v1 : t.isEmpty = true := by simpa using ht
    have hst : Hid (endS ⟨0, now, p, out⟩ t = ⟨0, now, freshPt, out⟩) := Lib.hid (by simp [endS, ht])
    rw [hst.out]
    clear ht
    go_enter Tryd.func29, Tryd.ntmps29
    go_wp2_with fail
    go_end0
    obtain ⟨W', hW', r', o', b', q'⟩ := put_fresh Hr.out Hown.out
    rw [hW']
    exact ⟨rfl, ⟨⟨v, r', o'⟩, hlt, Nat.le_trans hsz b'.size⟩, b', fun q _ hq => q' q hq⟩
  · have v1 : t.isEmpty = false := by simpa using ht
    have hst : Hid (endS ⟨0, now, p, out⟩ t = ⟨0, now, freshPt, out ++ [⟨false, t, t, t⟩]⟩) := Lib.hid (by simp [endS, ht])
    rw [hst.out]
    clear ht
    have hne := hneq Hown.out g hlt
    have Hne := Lib.hid hne
    clear hne c1 c2 c3 c4 c5 e2 e3 e4 e5 e6
    go_enter Tryd.func29, Tryd.ntmps29
    go_wp2_with (at_builtin; refine wpList_append_own _ rfl _ _ 53 rfl B2 52 i0 _ 4 56 Tryd.underlying53 hi0 hz0 hz1 hz2 rfl (by decide) _ out.length _ rfl (Hown.out.alloc _) ⟨W.heap.size, 0, none⟩ 1 1 (rowP ⟨false, t, t, t⟩) rfl rfl (pt_new W ⟨false, t, t, t⟩ _) (pt_one _) (by unfold maxLen; omega) (by omega) (by simp; omega) ?_; intro v' w2 hown' hgrow _; have r2 := row_grown (Hr.out.alloc _) hgrow Hne.out; obtain ⟨d0, d1, d2, d3, d4, d5, d6⟩ := rd_cells r2; have f2 := r2.frozen 2; have f3 := r2.frozen 3; have f4 := r2.frozen 4; have f5 := r2.frozen 5; have f6 := r2.frozen 6; obtain ⟨ao, n', cap, rfl⟩ := own_slice hown'; have R2 := Lib.hid r2; have O2 := Lib.hid hown'; have G2 := Lib.hid hgrow; clear r2 hown' hgrow)
    go_end0
    have hs2 := G2.out.size
    have r3 := R2.out.set 6 (.slice ao n' cap)
    have o3 := own_put (j := 6) (u := .slice ao n' cap) O2.out R2.out (by decide)
    obtain ⟨W', hW', r', o', b', q'⟩ := put_fresh (p := p) (v := .slice ao n' cap) r3 o3
    rw [hW']
    have hb2 : Below g W w2 := ((Below.refl g W).alloc (by omega) _).grown G2.out (by simp; omega) (fun k hk => Nat.le_trans (Nat.le_of_lt hlt) (Hown.out.lt k hk).1)
    have hb3 := (hb2.setCell (p := ⟨g, 6, none⟩) (Nat.le_refl _) (.slice ao n' cap)).trans b'
    refine ⟨rfl, ⟨⟨_, r', ?_⟩, hlt, Nat.le_trans hsz hb3.size⟩, hb3, fun q hq hqg => ?_⟩
    · rw [pv_snoc, List.length_append]
      exact o'
    · rw [q' q hqg, Below.heap_setCell _ _ _ _ (by simpa using hqg), G2.out.block q (by simp; omega) (hneq Hown.out q hq)]
      exact Below.heap_alloc W _ q (by omega)
end Go.Proofs.YtbekbllffphfeaaDoor.K
