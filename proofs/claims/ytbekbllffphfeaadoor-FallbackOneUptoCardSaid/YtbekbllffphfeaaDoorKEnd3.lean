/-
  For the laws of marker: the reader, by the program: how a clash's last section ends. Condition: fewer than 1,000,000 parts.
-/
import Derived.Test.YtbekbllffphfeaaDoorKReader
namespace Go.Proofs.YtbekbllffphfeaaDoor.K
open Go.RowKit Go.Shelf
set_option linter.unusedSimpArgs false

set_option maxRecDepth 100000 in
set_option maxHeartbeats 8000000 in
theorem end_three (g B2 : Nat) (f : Int) (now : By) (p : Pt) (out : List Pt) (t : By) (hout : out.length ≤ 100000000) (W : World) (h : Rd W g B2 3 f p out) : Calls Tryd.prog 29 #[.pointer (some ⟨g, 0, none⟩), .string (bs t)] W (EndIs g B2 3 f (endS ⟨3, now, p, out⟩ t) W) := by
  obtain ⟨⟨v, hr, hown⟩, hlt, hsz⟩ := h
  obtain ⟨i0, hi0, hz0, hz1, hz2⟩ := info_parts infoPt
  have hst : Hid (endS ⟨3, now, p, out⟩ t = ⟨3, now, ⟨p.clash, p.o, p.a, t⟩, out ++ [⟨p.clash, p.o, p.a, t⟩]⟩) := Lib.hid (by simp [endS])
  rw [hst.out]
  obtain ⟨P, hP⟩ : ∃ P : Pt, Hid (⟨p.clash, p.o, p.a, t⟩ = P) := ⟨_, Lib.hid rfl⟩
  rw [hP.out]
  obtain ⟨c0, -, -, -, -, c5, -⟩ := rd_cells hr
  have e5 := hr.frozen 5
  obtain ⟨W1, hW1⟩ : ∃ W1, Hid (W.setCell ⟨g, 5, none⟩ (.string (bs t)) = W1) := ⟨_, Lib.hid rfl⟩
  have r1 : RowAt W1 g 65 (rdv 3 f P v) := by rw [← hW1.out, ← hP.out]; exact hr.set 5 _
  have o1 : W1.ownsRow B2 52 4 v out.length (pv out) := by rw [← hW1.out]; exact own_put hown hr (by decide)
  have s1 : W1.heap.size = W.heap.size := by rw [← hW1.out]; simp
  have b1 : Below g W W1 := by rw [← hW1.out]; exact (Below.refl g W).setCell (p := ⟨g, 5, none⟩) (Nat.le_refl _) _
  have q1 : ∀ q, q ≠ g → W1.heap[q]? = W.heap[q]? := fun q hq => by rw [← hW1.out]; exact Below.heap_setCell _ _ _ _ (by simpa using hq)
  have R1 := Lib.hid r1
  have O1 := Lib.hid o1
  have S1 := Lib.hid s1
  have B1 := Lib.hid b1
  have Q1 := Lib.hid q1
  have hs1 : B2 ≤ W1.heap.size := by omega
  clear hr hown r1 o1 b1 q1 s1
  go_enter Tryd.func29, Tryd.ntmps29
  go_wp2_with fail
  rw [hW1.out]
  obtain ⟨d0, d1, d2, d3, d4, d5, d6⟩ := rd_cells R1.out
  refine wp_region_E (S := fun W' => W'.cell? ⟨g, 6, none⟩ = some v ∧ W'.cell? ⟨g, 2, none⟩ = some (.bool P.clash) ∧ W'.cell? ⟨g, 3, none⟩ = some (.string (bs P.o)) ∧ W'.cell? ⟨g, 4, none⟩ = some (.string (bs P.a)) ∧ W'.cell? ⟨g, 5, none⟩ = some (.string (bs P.b))) (z := 13) (by kernel_rfl) ?_
  have hS : W1.drew.cell? ⟨g, 6, none⟩ = some v ∧ W1.drew.cell? ⟨g, 2, none⟩ = some (.bool P.clash) ∧ W1.drew.cell? ⟨g, 3, none⟩ = some (.string (bs P.o)) ∧ W1.drew.cell? ⟨g, 4, none⟩ = some (.string (bs P.a)) ∧ W1.drew.cell? ⟨g, 5, none⟩ = some (.string (bs P.b)) := ⟨d6, d2, d3, d4, d5⟩
  clear c0 c5 e5
  refine wpAnyE_take (i := 0) (v := ?_) rfl (by kernel_rfl) (by kernel_rfl) (by kernel_rfl) (by kernel_rfl) (fun _ _ _ h => h) (Or.inl ⟨by rfl, ?_⟩) hS ?_
  rotate_left
  · intro w hSw
    obtain ⟨x1, x2, x3, x4, x5⟩ := hSw
    go_simp
    try with_reducible rfl
  try simp only [Act.put, List.setIfInBounds_toArray, List.set_cons_zero, List.set_cons_succ]
  refine wpAnyE_take (i := 1) (v := ?_) rfl (by kernel_rfl) (by kernel_rfl) (by kernel_rfl) (by kernel_rfl) (fun _ _ _ h => h) (Or.inl ⟨by rfl, ?_⟩) hS ?_
  rotate_left
  · intro w hSw
    obtain ⟨x1, x2, x3, x4, x5⟩ := hSw
    go_simp
    try with_reducible rfl
  try simp only [Act.put, List.setIfInBounds_toArray, List.set_cons_zero, List.set_cons_succ]
  refine wpAnyE_take (i := 2) (v := ?_) rfl (by kernel_rfl) (by kernel_rfl) (by kernel_rfl) (by kernel_rfl) (fun _ _ _ h => h) (Or.inl ⟨by rfl, ?_⟩) hS ?_
  rotate_left
  · intro w hSw
    obtain ⟨x1, x2, x3, x4, x5⟩ := hSw
    go_simp
    try with_reducible rfl
  try simp only [Act.put, List.setIfInBounds_toArray, List.set_cons_zero, List.set_cons_succ]
  refine wpAnyE_take (i := 3) (v := ?_) rfl (by kernel_rfl) (by kernel_rfl) (by kernel_rfl) (by kernel_rfl) (fun _ _ _ h => h) (Or.inl ⟨by rfl, ?_⟩) hS ?_
  rotate_left
  · intro w hSw
    obtain ⟨x1, x2, x3, x4, x5⟩ := hSw
    go_simp
    try with_reducible rfl
  try simp only [Act.put, List.setIfInBounds_toArray, List.set_cons_zero, List.set_cons_succ]
  refine wpAnyE_take (i := 4) (v := ?_) rfl (by kernel_rfl) (by kernel_rfl) (by kernel_rfl) (by kernel_rfl) (fun _ _ _ h => h) (Or.inl ⟨by rfl, ?_⟩) hS ?_
  rotate_left
  · intro w hSw
    obtain ⟨x1, x2, x3, x4, x5⟩ := hSw
    go_simp
    try with_reducible rfl
  try simp only [Act.put, List.setIfInBounds_toArray, List.set_cons_zero, List.set_cons_succ]
  refine wpAnyE_take (i := 5) (v := ?_) rfl (by kernel_rfl) (by kernel_rfl) (by kernel_rfl) (by kernel_rfl) (fun _ _ _ h => h) (Or.inl ⟨by rfl, ?_⟩) hS ?_
  rotate_left
  · intro w hSw
    obtain ⟨x1, x2, x3, x4, x5⟩ := hSw
    go_simp
    try with_reducible rfl
  try simp only [Act.put, List.setIfInBounds_toArray, List.set_cons_zero, List.set_cons_succ]
  refine wpAnyE_take (i := 6) (v := ?_) rfl (by kernel_rfl) (by kernel_rfl) (by kernel_rfl) (by kernel_rfl) (fun _ _ _ h => h) (Or.inl ⟨by rfl, ?_⟩) hS ?_
  rotate_left
  · intro w hSw
    obtain ⟨x1, x2, x3, x4, x5⟩ := hSw
    go_simp
    try with_reducible rfl
  try simp only [Act.put, List.setIfInBounds_toArray, List.set_cons_zero, List.set_cons_succ]
  refine wpAnyE_take (i := 7) (v := ?_) rfl (by kernel_rfl) (by kernel_rfl) (by kernel_rfl) (by kernel_rfl) (fun _ _ _ h => h) (Or.inl ⟨by rfl, ?_⟩) hS ?_
  rotate_left
  · intro w hSw
    obtain ⟨x1, x2, x3, x4, x5⟩ := hSw
    go_simp
    try with_reducible rfl
  try simp only [Act.put, List.setIfInBounds_toArray, List.set_cons_zero, List.set_cons_succ]
  refine wpAnyE_take (i := 8) (v := ?_) rfl (by kernel_rfl) (by kernel_rfl) (by kernel_rfl) (by kernel_rfl) (fun _ _ _ h => h) (Or.inl ⟨by rfl, ?_⟩) hS ?_
  rotate_left
  · intro w hSw
    obtain ⟨x1, x2, x3, x4, x5⟩ := hSw
    go_simp
    try with_reducible rfl
  try simp only [Act.put, List.setIfInBounds_toArray, List.set_cons_zero, List.set_cons_succ]
  have ra := R1.out.alloc (.cells #[.bool P.clash, .string (bs P.o), .string (bs P.a), .string (bs P.b)] 52)
  obtain ⟨-, -, a2, a3, a4, a5, a6⟩ := rd_cells ra
  refine wpAnyE_one (i := 9) (by kernel_rfl) rfl (fun K hK => ?_)
  go_simp
  refine hK.out _ _ (fun _ => ⟨a6, a2, a3, a4, a5⟩) ?_
  clear hK K
  refine wpAnyE_one (i := 10) (by kernel_rfl) rfl (fun K hK => ?_)
  refine step_append_lies _ (by rfl) _ _ _ (by rfl) B2 52 i0 _ 4 56 Tryd.underlying53 hi0 hz0 hz1 hz2 rfl (by decide) _ out.length _ (by rfl) (O1.out.alloc _) ⟨W1.heap.size, 0, none⟩ 1 1 (rowP P) (by rfl) rfl (fun j u hj => pt_new W1 P 52 j u hj) (pt_one _) (by omega) (by unfold maxLen; omega) (by omega) (by simp; omega) (W1.heap.size + 1) (by simp) ?_
  intro g2 cap' w2 hown' hgrow _ _
  have r2 : RowAt w2 g 65 (rdv 3 f P v) := row_grown (W := (W1.alloc (.cells #[.bool P.clash, .string (bs P.o), .string (bs P.a), .string (bs P.b)] 52)).drew) ra hgrow (hneq O1.out g hlt)
  obtain ⟨-, -, a2', a3', a4', a5', a6'⟩ := rd_cells r2
  have f6 := r2.frozen 6
  have hbel : Below g W1 w2 := (below_draws ((Below.refl g W1).alloc (by omega) _) 1).grown hgrow (by show g ≤ (W1.alloc _).heap.size; simp; omega) (fun j ej => by have := (O1.out.lt j ej).1; omega)
  have hq2 : ∀ q, q < B2 → w2.heap[q]? = W1.heap[q]? := fun q hq => by
    rw [hgrow.block q (by show q < (W1.alloc _).heap.size; simp; omega) (hneq O1.out q hq)]
    exact Below.heap_alloc W1 _ q (by omega)
  refine hK.out _ _ (fun _ => ⟨a6', a2', a3', a4', a5'⟩) ?_
  clear hK K
  refine wpAnyE_one (i := 11) (by kernel_rfl) rfl (fun K hK => ?_)
  go_simp
  refine hK.out _ _ (fun _ => ⟨a6', a2', a3', a4', a5'⟩) ?_
  clear hK K
  refine wpAnyE_one (i := 12) (by kernel_rfl) rfl (fun K hK => ?_)
  go_simp
  refine hK.out _ _ (fun _ => ⟨a6', a2', a3', a4', a5'⟩) ?_
  clear hK K
  refine wpAnyE_one (i := 13) (by kernel_rfl) rfl (fun K hK => ?_)
  go_simp
  refine hK.out _ _ (fun h => absurd rfl h) ?_
  clear hK K
  refine wpAnyE_done (by kernel_rfl) ?_ _
  have R2 := Lib.hid r2
  have O2 := Lib.hid hown'
  have Bel := Lib.hid hbel
  have Hq2 := Lib.hid hq2
  clear hS d0 d1 d2 d3 d4 d5 d6 ra a2 a3 a4 a5 a6 a2' a3' a4' a5' a6' r2 hown' hbel hq2 hgrow f6
  go_wp2_with fail
  go_end0
  have hb3 : Below g W (w2.setCell ⟨g, 6, none⟩ (.slice (some ⟨g2, 0, none⟩) (out.length + 1) cap')) := (B1.out.trans Bel.out).setCell (p := ⟨g, 6, none⟩) (Nat.le_refl _) _
  refine ⟨rfl, ⟨⟨_, R2.out.set 6 _, ?_⟩, hlt, by have := Bel.out.size; simp; omega⟩, hb3, fun q hq hqg => ?_⟩
  · rw [pv_snoc, List.length_append]
    exact own_put O2.out R2.out (by decide)
  · rw [Below.heap_setCell _ _ _ _ (by simpa using hqg), Hq2.out q hq, Q1.out q hqg]
end Go.Proofs.YtbekbllffphfeaaDoor.K
