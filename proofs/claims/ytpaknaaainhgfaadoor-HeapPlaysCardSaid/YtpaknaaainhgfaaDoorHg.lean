/-
  For the law HeapPlays: the document's heap: Get. Condition: at most 1,000,000 fields that were set.
-/
import Derived.Test.YtpaknaaainhgfaaDoorHm
namespace Go.Proofs.YtpaknaaainhgfaaDoor
open Go.RowKit Go.Maps Go.WideMaps Go.Shelf
set_option linter.unusedSimpArgs false
set_option linter.unusedVariables false

/-- What a field holds, by what was set. -/
def sget (L : List Sl) (o : Int) (id : ByteArray) : Option (Int × Int) := (L.reverse.find? fun x => decide (x.1 = o ∧ x.2.1 = id)).map (·.2.2)
theorem sget_last {L : List Sl} {k : Nat} {x : Sl} (h : L[k]? = some x) (o : Int) (id : ByteArray) : sget (L.take (k + 1)) o id = if x.1 = o ∧ x.2.1 = id then some x.2.2 else sget (L.take k) o id := by
  unfold sget
  rw [List.take_add_one, h, Option.toList_some, List.reverse_append, List.reverse_singleton, List.singleton_append, List.find?_cons]
  by_cases hc : x.1 = o ∧ x.2.1 = id
  · rw [decide_eq_true hc, if_pos hc]; rfl
  · rw [decide_eq_false hc, if_neg hc]
theorem sl_cells {W : World} {base : Nat} {q : Option Addr} {d : Nat} {L : List Sl} (h : W.ownsRow base 93 4 (.slice q L.length d) L.length (slv L)) {k : Nat} {x : Sl} (hx : L[k]? = some x) : ∃ g, q = some ⟨g, 0, none⟩ ∧ g < W.heap.size ∧ L.length ≤ d ∧ W.cell? ⟨g, k * 4, none⟩ = some (.int .i64 x.1) ∧ W.cell? ⟨g, k * 4 + 1, none⟩ = some (.string x.2.1) ∧ W.cell? ⟨g, k * 4 + 2, none⟩ = some (.int .i64 x.2.2.1) ∧ W.cell? ⟨g, k * 4 + 3, none⟩ = some (.int .i64 x.2.2.2) := by
  have hk := (List.getElem?_eq_some_iff.1 hx).1
  rcases h.2 with ⟨e1, e2⟩ | ⟨g, cap, cur, e1, _, hg, h1, h2, h3⟩
  · omega
  · cases e1
    have ca : ∀ j v, (slv L)[j]? = some v → W.cell? ⟨g, j, none⟩ = some v := fun j v hj => by
      have := h.cells (g := g) rfl j v hj
      rwa [show (⟨g, 0, none⟩ : Addr).add j = ⟨g, j, none⟩ by unfold Addr.add; split <;> simp_all] at this
    refine ⟨g, rfl, (Array.getElem?_eq_some_iff.1 hg).1, by omega, ca _ _ ?_, ca _ _ ?_, ca _ _ ?_, ca _ _ ?_⟩
    · have := slv_get hx (j := 0) (by omega); simpa [slF] using this
    · rw [slv_get hx (by omega)]; rfl
    · rw [slv_get hx (by omega)]; rfl
    · rw [slv_get hx (by omega)]; rfl
theorem row_new2 (w : World) (A B : Obj) (t : TypeId) (vs : Array Value) : RowAt (((w.alloc A).alloc B).alloc (.cells vs t)) (w.heap.size + 1 + 1) t vs := by
  have := RowAt.new ((w.alloc A).alloc B) t vs
  rwa [World.size_alloc, World.size_alloc] at this
theorem row_new1 (w : World) (A : Obj) (t : TypeId) (vs : Array Value) : RowAt ((w.alloc A).alloc (.cells vs t)) (w.heap.size + 1) t vs := by
  have := RowAt.new (w.alloc A) t vs
  rwa [World.size_alloc] at this
set_option maxRecDepth 100000 in
set_option maxHeartbeats 8000000 in
theorem RefGet_any (p : Option Addr) (n c : Nat) (q : Option Addr) (d : Nat) (L : List Sl) (k m : Int) (id kind : ByteArray) (w : World) (base : Nat) (hL : L.length ≤ 1000000) (hown : w.ownsRow base 93 4 (.slice q L.length d) L.length (slv L)) : Calls Tryd.prog 30 #[rf p n c q L.length d, val2 k m, .string id, .string kind] w fun e w' => e = .returned (.tuple #[val2 (getOf n (sget L) k m id kind).1.1 (getOf n (sget L) k m id kind).1.2, .int .i64 (getOf n (sget L) k m id kind).2]) ∧ Below w.heap.size w w' := by
  obtain ⟨l, hl⟩ : ∃ n, Hid (L.length = n) := ⟨_, Lib.hid rfl⟩
  have Hown := Lib.hid hown
  rw [hl.out] at hL ⊢
  clear hown
  obtain ⟨W2, hW2⟩ : ∃ W2, Hid (((w.alloc (.cells #[.slice p n c, .slice q l d] 42)).alloc (.cells #[.int .i64 k, .int .i64 m] 49)).alloc (.cells #[.int .i64 0, .int .i64 0] 49) = W2) := ⟨_, Lib.hid rfl⟩
  have B2 : Hid (Below w.heap.size w W2) := by rw [← hW2.out]; exact Lib.hid ((((Below.refl _ w).alloc (Nat.le_refl _) _).alloc (by simp) _).alloc (by simp; omega) _)
  have r0 : Hid (RowAt W2 w.heap.size 42 #[.slice p n c, .slice q l d]) := by rw [← hW2.out]; exact Lib.hid (((RowAt.new w 42 _).alloc _).alloc _)
  have r1 : Hid (RowAt W2 (w.heap.size + 1) 49 #[.int .i64 k, .int .i64 m]) := by rw [← hW2.out]; exact Lib.hid ((row_new1 w _ 49 _).alloc _)
  have r2 : Hid (RowAt W2 (w.heap.size + 1 + 1) 49 #[.int .i64 0, .int .i64 0]) := by rw [← hW2.out]; exact Lib.hid (row_new2 w _ _ 49 _)
  have a0 : W2.cell? ⟨w.heap.size, 0, none⟩ = some (.slice p n c) := r0.out.cell rfl
  have a1 : W2.cell? ⟨w.heap.size, 1, none⟩ = some (.slice q l d) := r0.out.cell rfl
  have d0 : W2.cell? ⟨w.heap.size + 1, 0, none⟩ = some (.int .i64 k) := r1.out.cell rfl
  have d1 : W2.cell? ⟨w.heap.size + 1, 1, none⟩ = some (.int .i64 m) := r1.out.cell rfl
  obtain ⟨G, hG⟩ : ∃ G, Hid (getOf n (sget L) k m id kind = G) := ⟨_, Lib.hid rfl⟩
  obtain ⟨⟨oo, er⟩, hwe⟩ : ∃ z, Hid (whereAt n k m = z) := ⟨_, Lib.hid rfl⟩
  have call := Lib.hid (which_any p n c q l d k m W2)
  rw [hwe.out] at call
  rw [hG.out]
  go_enter Tryd.func30, Tryd.ntmps30
  go_wp2_with fail
  rw [hW2.out]
  go_wp2_with fail
  refine call.out.mono ?_
  rintro e w1 ⟨rfl, b1⟩
  have R0 := Lib.hid (r0.out.later b1)
  have R2 := Lib.hid (r2.out.later b1)
  have B1 := Lib.hid (B2.out.trans (b1.mono B2.out.size))
  clear b1 call a0 a1 d0 d1
  dsimp only
  by_cases he : er = 0
  · subst he
    have hGv : Hid (G = ((sget L oo id).getD (firstK kind, 0), 0)) := Lib.hid (by rw [← hG.out]; unfold getOf; rw [hwe.out, if_pos rfl])
    have x1 : w1.cell? ⟨w.heap.size, 1, none⟩ = some (.slice q l d) := R0.out.cell rfl
    have hw1 : wrap64 ((l : Int) - 1) = (l : Int) - 1 := Go.IntWalk.wrap64_in _ (by omega)
    go_wp2_with fail
    go_loopw [12] (fun t wr => ∃ j : Nat, t = .int .i64 ((j : Int) - 1) ∧ j ≤ l ∧ Hid (sget (L.take j) oo id = sget L oo id) ∧ Hid (Below w1.heap.size w1 wr)) (fun t _ => (intOf t + 1).toNat)
    case atStart => exact ⟨l, rfl, Nat.le_refl _, Lib.hid (by rw [← hl.out, List.take_length]), Lib.hid (Below.refl _ _)⟩
    case round =>
      obtain ⟨j, rfl, hj, hs, hB⟩ := hrel
      have Q0 := Lib.hid (R0.out.later hB.out)
      have Q2 := Lib.hid (R2.out.later hB.out)
      have z1 : wr.cell? ⟨w.heap.size, 1, none⟩ = some (.slice q l d) := Q0.out.cell rfl
      have BB := Lib.hid (B1.out.trans (hB.out.mono B1.out.size))
      cases j with
      | zero =>
        have hnone : Hid (G = ((firstK kind, 0), 0)) := Lib.hid (by rw [hGv.out, ← hs.out]; rfl)
        obtain rfl : G = ((firstK kind, 0), 0) := hnone.out
        clear z1
        go_wp2_with fail
        refine (RefFirst_any kind wr).mono ?_
        rintro e w3 ⟨rfl, b3⟩
        have Q3 := Lib.hid (Q2.out.later b3)
        have B3 := Lib.hid (BB.out.trans (b3.mono BB.out.size))
        have t0 := Q3.out.frozen 0
        have t1 := Q3.out.frozen 1
        have u0 : w3.cell? ⟨w.heap.size + 1 + 1, 0, none⟩ = some (.int .i64 0) := Q3.out.cell rfl
        have u1 : w3.cell? ⟨w.heap.size + 1 + 1, 1, none⟩ = some (.int .i64 0) := Q3.out.cell rfl
        clear b3
        go_wp2_with fail
        refine bodyPost_ret (results_cell_row_tmp (P := Tryd.prog) rfl _ _ (w.heap.size + 1 + 1) 49 #[.int .i64 (firstK kind), .int .i64 0] (0, 0) _ rfl ((Q3.out.set 0 _).set 1 _) Tryd.underlying49 rfl rfl) rfl ?_
        exact ⟨rfl, (B3.out.setCell (p := ⟨w.heap.size + 1 + 1, 0, none⟩) (by simp; omega) _).setCell (p := ⟨w.heap.size + 1 + 1, 1, none⟩) (by simp; omega) _⟩
      | succ j =>
        have jl : j < l := by omega
        obtain ⟨x, hx⟩ : ∃ x, L[j]? = some x := ⟨_, List.getElem?_eq_getElem (by have := hl.out; omega)⟩
        have ho2 := owns_same Hown.out (fun k hk => BB.out.block k (Hown.out.lt k hk).2)
        obtain ⟨g, rfl, hgl, hcap, c0, c1, c2, c3⟩ := sl_cells ho2 hx
        rw [hl.out] at hcap
        have hsn := hs.out
        rw [sget_last hx] at hsn
        obtain ⟨xo, xi, xa, xb⟩ := x
        dsimp only at c0 c1 c2 c3 hsn
        have e0 : ((j + 1 : Nat) : Int) - 1 = (j : Int) := by omega
        rw [e0]
        have p0 : (0 : Int) ≤ (j : Int) := by omega
        have p1 : (j : Int) < (l : Int) := by omega
        have p2 : (j : Int) < (d : Int) := by omega
        have t0 := Q2.out.frozen 0
        have t1 := Q2.out.frozen 1
        have u0 : wr.cell? ⟨w.heap.size + 1 + 1, 0, none⟩ = some (.int .i64 0) := Q2.out.cell rfl
        have u1 : wr.cell? ⟨w.heap.size + 1 + 1, 1, none⟩ = some (.int .i64 0) := Q2.out.cell rfl
        clear ho2 hx
        by_cases h1 : xo = oo
        · by_cases h2 : xi = id
          · have hGs : Hid (G = ((xa, xb), 0)) := Lib.hid (by rw [hGv.out, ← hsn, if_pos ⟨h1, h2⟩]; rfl)
            obtain rfl : G = ((xa, xb), 0) := hGs.out
            subst h1 h2
            clear hsn e0
            go_wp2_with fail
            refine bodyPost_ret (results_cell_row_tmp (P := Tryd.prog) rfl _ _ (w.heap.size + 1 + 1) 49 #[.int .i64 xa, .int .i64 xb] (0, 0) _ rfl ((Q2.out.set 0 _).set 1 _) Tryd.underlying49 rfl rfl) rfl ?_
            exact ⟨rfl, (BB.out.setCell (p := ⟨w.heap.size + 1 + 1, 0, none⟩) (by simp; omega) _).setCell (p := ⟨w.heap.size + 1 + 1, 1, none⟩) (by simp; omega) _⟩
          · have f2 : (xi.toList == id.toList) = false := beq_eq_false_iff_ne.2 (fun e => h2 (by rw [Lib.toList_data, Lib.toList_data] at e; exact ByteArray.ext (Array.toList_inj.1 e)))
            have hs2 : Hid (sget (L.take j) oo id = sget L oo id) := Lib.hid (by rw [← hsn, if_neg (fun e => h2 e.2)])
            have ew : wrap64 ((j : Int) - 1) = (j : Int) - 1 := Go.IntWalk.wrap64_in _ (by omega)
            clear hsn e0
            go_wp2_with fail
            exact ⟨⟨j, rfl, by omega, hs2, hB⟩, by simp [intOf]⟩
        · have f1 : (xo == oo) = false := beq_eq_false_iff_ne.2 h1
          have hs2 : Hid (sget (L.take j) oo id = sget L oo id) := Lib.hid (by rw [← hsn, if_neg (fun e => h1 e.1)])
          have ew : wrap64 ((j : Int) - 1) = (j : Int) - 1 := Go.IntWalk.wrap64_in _ (by omega)
          clear hsn e0
          go_wp2_with fail
          exact ⟨⟨j, rfl, by omega, hs2, hB⟩, by simp [intOf]⟩
  · have hGv : G = ((0, 0), er) := by rw [← hG.out]; unfold getOf; rw [hwe.out, if_neg he]
    subst hGv
    have ge : (er == 0) = false := beq_eq_false_iff_ne.2 he
    have t0 := R2.out.frozen 0
    have t1 := R2.out.frozen 1
    have u0 : w1.cell? ⟨w.heap.size + 1 + 1, 0, none⟩ = some (.int .i64 0) := R2.out.cell rfl
    have u1 : w1.cell? ⟨w.heap.size + 1 + 1, 1, none⟩ = some (.int .i64 0) := R2.out.cell rfl
    go_wp2_with fail
    refine bodyPost_ret (results_cell_row_tmp (P := Tryd.prog) rfl _ _ (w.heap.size + 1 + 1) 49 #[.int .i64 0, .int .i64 0] (0, 0) _ rfl ((R2.out.set 0 _).set 1 _) Tryd.underlying49 rfl rfl) rfl ?_
    exact ⟨rfl, (B1.out.setCell (p := ⟨w.heap.size + 1 + 1, 0, none⟩) (by simp; omega) _).setCell (p := ⟨w.heap.size + 1 + 1, 1, none⟩) (by simp; omega) _⟩
end Go.Proofs.YtpaknaaainhgfaaDoor
