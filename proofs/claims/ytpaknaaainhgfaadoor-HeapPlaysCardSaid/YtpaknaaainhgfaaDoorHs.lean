/-
  For the law HeapPlays: the document's heap: Set. Condition: at most 100,000 fields that were set.
-/
import Derived.Test.YtpaknaaainhgfaaDoorHg
namespace Go.Proofs.YtpaknaaainhgfaaDoor
open Go.RowKit Go.Maps Go.WideMaps Go.Shelf
set_option linter.unusedSimpArgs false
set_option linter.unusedVariables false

def others (o : Int) (id : ByteArray) (L : List Sl) : List Sl := L.filter fun x => !decide (x.1 = o ∧ x.2.1 = id)
/-- What was set, behind Set. -/
def setL (n : Nat) (L : List Sl) (k m : Int) (id : ByteArray) (a b : Int) : List Sl := if (whereAt n k m).2 = 0 then others (whereAt n k m).1 id L ++ [((whereAt n k m).1, id, a, b)] else L
theorem others_next {L : List Sl} {j : Nat} {x : Sl} (h : L[j]? = some x) (o : Int) (id : ByteArray) : others o id (L.take (j + 1)) = others o id (L.take j) ++ (if x.1 = o ∧ x.2.1 = id then [] else [x]) := by
  unfold others
  rw [List.take_add_one, h, Option.toList_some, List.filter_append]
  congr 1
  by_cases hc : x.1 = o ∧ x.2.1 = id
  · simp [hc]
  · rw [if_neg hc, List.filter_cons, decide_eq_false hc]; rfl
theorem others_len (o : Int) (id : ByteArray) (L : List Sl) : (others o id L).length ≤ L.length := List.length_filter_le _ _
theorem sl_new (w : World) (x : Sl) : ∀ j u, (slF x)[j]? = some u → (w.alloc (.cells #[.int .i64 x.1, .string x.2.1, .int .i64 x.2.2.1, .int .i64 x.2.2.2] 93)).cell? ((⟨w.heap.size, 0, none⟩ : Addr).add j) = some u := by
  intro j u hj
  rw [show (⟨w.heap.size, 0, none⟩ : Addr).add j = ⟨w.heap.size, j, none⟩ by unfold Addr.add; split <;> simp_all]
  have hr := RowAt.new w 93 #[.int .i64 x.1, .string x.2.1, .int .i64 x.2.2.1, .int .i64 x.2.2.2]
  match j, hj with
  | 0, hj => simp [slF] at hj; subst hj; exact hr.cell rfl
  | 1, hj => simp [slF] at hj; subst hj; exact hr.cell rfl
  | 2, hj => simp [slF] at hj; subst hj; exact hr.cell rfl
  | 3, hj => simp [slF] at hj; subst hj; exact hr.cell rfl
  | j + 4, hj => simp [slF] at hj
set_option maxRecDepth 100000 in
theorem info93 : ∃ i0, Tryd.prog.info? 93 = some i0 ∧ i0.zero = some (.agg #[.int .i64 0, .string ⟨#[]⟩, .int .i64 0, .int .i64 0]) ∧ i0.size = 4 ∧ i0.bytes = 40 := ⟨_, rfl, by kernel_rfl, by kernel_rfl, by kernel_rfl⟩
theorem row_new3 (w : World) (A B C : Obj) (t : TypeId) (vs : Array Value) : RowAt ((((w.alloc A).alloc B).alloc C).alloc (.cells vs t)) (w.heap.size + 1 + 1 + 1) t vs := by
  have := RowAt.new (((w.alloc A).alloc B).alloc C) t vs
  rwa [World.size_alloc, World.size_alloc, World.size_alloc] at this
theorem own_low4 {w : World} {b base n : Nat} {v : Value} {xs : List Value} (h : w.ownsRow base 93 4 v n xs) (hb : b ≤ base) : w.ownsRow b 93 4 v n xs := by
  refine ⟨h.1, ?_⟩
  rcases h.2 with h0 | ⟨g, cap, cur, e1, h1, r⟩
  · exact .inl h0
  · exact .inr ⟨g, cap, cur, e1, Nat.le_trans hb h1, r⟩
set_option maxRecDepth 100000 in
set_option maxHeartbeats 8000000 in
theorem RefSet_any (p : Option Addr) (n c : Nat) (q : Option Addr) (d : Nat) (L : List Sl) (k m : Int) (id : ByteArray) (a b : Int) (w : World) (base : Nat) (hbase : base ≤ w.heap.size) (hL : L.length ≤ 100000) (hown : w.ownsRow base 93 4 (.slice q L.length d) L.length (slv L)) : Calls Tryd.prog 32 #[rf p n c q L.length d, val2 k m, .string id, val2 a b] w fun e w' => ∃ q' d', e = .returned (.tuple #[rf p n c q' (setL n L k m id a b).length d', .int .i64 (whereAt n k m).2]) ∧ w'.ownsRow base 93 4 (.slice q' (setL n L k m id a b).length d') (setL n L k m id a b).length (slv (setL n L k m id a b)) ∧ Below w.heap.size w w' := by
  obtain ⟨l, hl⟩ : ∃ n, Hid (L.length = n) := ⟨_, Lib.hid rfl⟩
  have Hown := Lib.hid hown
  rw [hl.out] at hL ⊢
  clear hown
  obtain ⟨W2, hW2⟩ : ∃ W2, Hid ((((w.alloc (.cells #[.slice p n c, .slice q l d] 42)).alloc (.cells #[.int .i64 k, .int .i64 m] 49)).alloc (.cells #[.int .i64 a, .int .i64 b] 49)).alloc (.cells #[.slice none 0 0, .slice none 0 0] 42) = W2) := ⟨_, Lib.hid rfl⟩
  have B2 : Hid (Below w.heap.size w W2) := by rw [← hW2.out]; exact Lib.hid (((((Below.refl _ w).alloc (Nat.le_refl _) _).alloc (by simp) _).alloc (by simp; omega) _).alloc (by simp; omega) _)
  have r0 : Hid (RowAt W2 w.heap.size 42 #[.slice p n c, .slice q l d]) := by rw [← hW2.out]; exact Lib.hid ((((RowAt.new w 42 _).alloc _).alloc _).alloc _)
  have r1 : Hid (RowAt W2 (w.heap.size + 1) 49 #[.int .i64 k, .int .i64 m]) := by rw [← hW2.out]; exact Lib.hid (((row_new1 w _ 49 _).alloc _).alloc _)
  have r2 : Hid (RowAt W2 (w.heap.size + 1 + 1) 49 #[.int .i64 a, .int .i64 b]) := by rw [← hW2.out]; exact Lib.hid ((row_new2 w _ _ 49 _).alloc _)
  have r3 : Hid (RowAt W2 (w.heap.size + 1 + 1 + 1) 42 #[.slice none 0 0, .slice none 0 0]) := by rw [← hW2.out]; exact Lib.hid (row_new3 w _ _ _ 42 _)
  have a0 : W2.cell? ⟨w.heap.size, 0, none⟩ = some (.slice p n c) := r0.out.cell rfl
  have a1 : W2.cell? ⟨w.heap.size, 1, none⟩ = some (.slice q l d) := r0.out.cell rfl
  have d0 : W2.cell? ⟨w.heap.size + 1, 0, none⟩ = some (.int .i64 k) := r1.out.cell rfl
  have d1 : W2.cell? ⟨w.heap.size + 1, 1, none⟩ = some (.int .i64 m) := r1.out.cell rfl
  obtain ⟨M, hM⟩ : ∃ G, Hid (setL n L k m id a b = G) := ⟨_, Lib.hid rfl⟩
  obtain ⟨⟨oo, er⟩, hwe⟩ : ∃ z, Hid (whereAt n k m = z) := ⟨_, Lib.hid rfl⟩
  have call := Lib.hid (which_any p n c q l d k m W2)
  rw [hwe.out] at call
  rw [hM.out, hwe.out]
  go_enter Tryd.func32, Tryd.ntmps32
  go_wp2_with fail
  rw [hW2.out]
  go_wp2_with fail
  refine call.out.mono ?_
  rintro e w1 ⟨rfl, b1⟩
  have R0 := Lib.hid (r0.out.later b1)
  have R2 := Lib.hid (r2.out.later b1)
  have R3 := Lib.hid (r3.out.later b1)
  have B1 := Lib.hid (B2.out.trans (b1.mono B2.out.size))
  have hs1 := R3.out.lt
  clear b1 call a0 a1 d0 d1
  dsimp only
  by_cases he : er = 0
  · subst he
    have hMv : Hid (M = others oo id L ++ [(oo, id, a, b)]) := Lib.hid (by rw [← hM.out]; unfold setL; rw [hwe.out, if_pos rfl])
    obtain ⟨i0, hi, hz0, hz1, hz2⟩ := info93
    go_wp2_with fail
    go_loopw [12, 13] (fun u t wr => ∃ (j : Nat) (A : List Sl), t = .int .i64 j ∧ j ≤ l ∧ Hid (others oo id (L.take j) = A) ∧ A.length ≤ j ∧ Hid (wr.ownsRow w1.heap.size 93 4 u A.length (slv A)) ∧ Hid (Below w1.heap.size w1 wr)) (fun _ t _ => l - (intOf t).toNat)
    case atStart => exact ⟨0, [], rfl, Nat.zero_le _, Lib.hid rfl, Nat.le_refl _, Lib.hid (World.ownsRow_nil _ _ _ _), Lib.hid (Below.refl _ _)⟩
    case round =>
      obtain ⟨j, A, rfl, hj, hA, hAl, hown, hB⟩ := hrel
      have hbs := hB.out.size
      have Q0 := Lib.hid (R0.out.later hB.out)
      have Q2 := Lib.hid (R2.out.later hB.out)
      have Q3 := Lib.hid (R3.out.later hB.out)
      have z1 : wr.cell? ⟨w.heap.size, 1, none⟩ = some (.slice q l d) := Q0.out.cell rfl
      have BB := Lib.hid (B1.out.trans (hB.out.mono B1.out.size))
      by_cases jl : j < l
      · obtain ⟨x, hx⟩ : ∃ x, L[j]? = some x := ⟨_, List.getElem?_eq_getElem (by have := hl.out; omega)⟩
        have ho2 := owns_same Hown.out (fun k hk => BB.out.block k (Hown.out.lt k hk).2)
        obtain ⟨g, rfl, hgl, hcap, c0, c1, c2, c3⟩ := sl_cells ho2 hx
        rw [hl.out] at hcap
        have hAn := others_next hx oo id
        rw [hA.out] at hAn
        obtain ⟨xo, xi, xa, xb⟩ := x
        dsimp only at c0 c1 c2 c3 hAn
        have p0 : (0 : Int) ≤ (j : Int) := by omega
        have p1 : (j : Int) < (l : Int) := by omega
        have p2 : (j : Int) < (d : Int) := by omega
        clear ho2 hx
        by_cases h1 : xo = oo
        · by_cases h2 : xi = id
          · rw [if_pos ⟨h1, h2⟩, List.append_nil] at hAn
            have HAn := Lib.hid hAn
            subst h1 h2
            clear hAn
            go_wp2_with fail
            exact ⟨⟨j + 1, A, by go_num, by omega, HAn, by omega, hown, hB⟩, by simp [intOf]; omega⟩
          · rw [if_neg (fun e => h2 e.2)] at hAn
            have HAn := Lib.hid hAn
            have f2 : (xi.toList == id.toList) = false := beq_eq_false_iff_ne.2 (fun e => h2 (by rw [Lib.toList_data, Lib.toList_data] at e; exact ByteArray.ext (Array.toList_inj.1 e)))
            clear hAn
            subst h1
            go_wp2_with (at_builtin; refine wpList_append_own _ rfl _ _ 40 rfl w1.heap.size 93 i0 (.agg #[.int .i64 0, .string ⟨#[]⟩, .int .i64 0, .int .i64 0]) 4 40 Tryd.underlying40 hi hz0 hz1 hz2 rfl (by decide) _ _ _ rfl (hown.out.alloc _) ⟨wr.heap.size, 0, none⟩ 1 1 (slF (xo, xi, xa, xb)) rfl rfl (sl_new wr (xo, xi, xa, xb)) (by simp [slF, Value.oneCell']) (by unfold maxLen; omega) (by omega) (by simp; omega) ?_; intro v3 w3 ho hgr _)
            have hB3 := Lib.hid ((hB.out.alloc hbs (.cells #[.int .i64 xo, .string xi, .int .i64 xa, .int .i64 xb] 93)).grown hgr (by simp; omega) (fun k hk => (hown.out.lt k hk).1))
            have ho3 : Hid (w3.ownsRow w1.heap.size 93 4 v3 (A ++ [(xo, xi, xa, xb)]).length (slv (A ++ [(xo, xi, xa, xb)]))) := Lib.hid (by rw [slv_append, List.length_append]; exact ho)
            exact ⟨⟨j + 1, _, by go_num, by omega, HAn, by simp; omega, ho3, hB3⟩, by simp [intOf]; omega⟩
        · rw [if_neg (fun e => h1 e.1)] at hAn
          have HAn := Lib.hid hAn
          have f1 : (xo == oo) = false := beq_eq_false_iff_ne.2 h1
          clear hAn
          go_wp2_with (at_builtin; refine wpList_append_own _ rfl _ _ 40 rfl w1.heap.size 93 i0 (.agg #[.int .i64 0, .string ⟨#[]⟩, .int .i64 0, .int .i64 0]) 4 40 Tryd.underlying40 hi hz0 hz1 hz2 rfl (by decide) _ _ _ rfl (hown.out.alloc _) ⟨wr.heap.size, 0, none⟩ 1 1 (slF (xo, xi, xa, xb)) rfl rfl (sl_new wr (xo, xi, xa, xb)) (by simp [slF, Value.oneCell']) (by unfold maxLen; omega) (by omega) (by simp; omega) ?_; intro v3 w3 ho hgr _)
          have hB3 := Lib.hid ((hB.out.alloc hbs (.cells #[.int .i64 xo, .string xi, .int .i64 xa, .int .i64 xb] 93)).grown hgr (by simp; omega) (fun k hk => (hown.out.lt k hk).1))
          have ho3 : Hid (w3.ownsRow w1.heap.size 93 4 v3 (A ++ [(xo, xi, xa, xb)]).length (slv (A ++ [(xo, xi, xa, xb)]))) := Lib.hid (by rw [slv_append, List.length_append]; exact ho)
          exact ⟨⟨j + 1, _, by go_num, by omega, HAn, by simp; omega, ho3, hB3⟩, by simp [intOf]; omega⟩
      · obtain rfl : j = l := by omega
        have hMA : M = A ++ [(oo, id, a, b)] := by rw [hMv.out, ← hA.out, ← hl.out, List.take_length]
        subst hMA
        have y4 : wr.cell? ⟨w.heap.size + 1 + 1, 0, none⟩ = some (.int .i64 a) := Q2.out.cell rfl
        have y5 : wr.cell? ⟨w.heap.size + 1 + 1, 1, none⟩ = some (.int .i64 b) := Q2.out.cell rfl
        go_wp2_with (at_builtin; refine wpList_append_own _ rfl _ _ 40 rfl w1.heap.size 93 i0 (.agg #[.int .i64 0, .string ⟨#[]⟩, .int .i64 0, .int .i64 0]) 4 40 Tryd.underlying40 hi hz0 hz1 hz2 rfl (by decide) _ _ _ rfl (hown.out.alloc _) ⟨wr.heap.size, 0, none⟩ 1 1 (slF (oo, id, a, b)) rfl rfl (sl_new wr (oo, id, a, b)) (by simp [slF, Value.oneCell']) (by unfold maxLen; omega) (by omega) (by simp; omega) ?_; intro v3 w3 ho hgr _; have hB3 := Lib.hid ((hB.out.alloc hbs (.cells #[.int .i64 oo, .string id, .int .i64 a, .int .i64 b] 93)).grown hgr (by simp; omega) (fun k hk => (hown.out.lt k hk).1)); have ho3 : Hid (w3.ownsRow w1.heap.size 93 4 v3 (A ++ [(oo, id, a, b)]).length (slv (A ++ [(oo, id, a, b)]))) := Lib.hid (by rw [slv_append, List.length_append]; exact ho); obtain ⟨q', d', rfl⟩ := slice_of_owns ho3.out; have S0 := Lib.hid (R0.out.later hB3.out); have S3 := Lib.hid (R3.out.later hB3.out); have s0 : w3.cell? ⟨w.heap.size, 0, none⟩ = some (.slice p n c) := S0.out.cell rfl; have s1 : w3.cell? ⟨w.heap.size, 1, none⟩ = some (.slice q j d) := S0.out.cell rfl; have s2 := S0.out.frozen 1; have s3 : w3.cell? ⟨w.heap.size + 1 + 1 + 1, 0, none⟩ = some (.slice none 0 0) := S3.out.cell rfl; have s4 : w3.cell? ⟨w.heap.size + 1 + 1 + 1, 1, none⟩ = some (.slice none 0 0) := S3.out.cell rfl; have s5 := S3.out.frozen 0; have s6 := S3.out.frozen 1; have BB3 := Lib.hid (B1.out.trans (hB3.out.mono B1.out.size)); clear ho hgr)
        refine bodyPost_ret (results_cell_row_tmp (P := Tryd.prog) rfl _ _ (w.heap.size + 1 + 1 + 1) 42 #[.slice p n c, .slice q' (A.length + 1) d'] (0, 0) _ rfl (((S3.out.other (show w.heap.size + 1 + 1 + 1 ≠ w.heap.size by omega) _ _).set 0 _).set 1 _) Tryd.underlying42 rfl rfl) rfl ?_
        have hlen : (A ++ [(oo, id, a, b)]).length = A.length + 1 := by rw [List.length_append]; rfl
        rw [hlen]
        have bf := ((BB3.out.setCell (p := ⟨w.heap.size, 1, none⟩) (by simp) (.slice q' (A.length + 1) d')).setCell (p := ⟨w.heap.size + 1 + 1 + 1, 0, none⟩) (by simp; omega) (.slice p n c)).setCell (p := ⟨w.heap.size + 1 + 1 + 1, 1, none⟩) (by simp; omega) (.slice q' (A.length + 1) d')
        have ho4 := ho3.out
        rw [hlen] at ho4
        refine ⟨q', d', rfl, owns_same (own_low4 ho4 (by omega)) (fun k h => ?_), bf⟩
        have hk := (ho4.lt k h).1
        exact ((Below.heap_setCell _ _ _ k (show k ≠ w.heap.size + 1 + 1 + 1 by omega)).trans (Below.heap_setCell _ _ _ k (show k ≠ w.heap.size + 1 + 1 + 1 by omega))).trans (Below.heap_setCell _ _ _ k (show k ≠ w.heap.size by omega))
  · have hMv : M = L := by rw [← hM.out]; unfold setL; rw [hwe.out, if_neg he]
    subst hMv
    have ge : (er == 0) = false := beq_eq_false_iff_ne.2 he
    have t0 := R3.out.frozen 0
    have t1 := R3.out.frozen 1
    have u0 : w1.cell? ⟨w.heap.size + 1 + 1 + 1, 0, none⟩ = some (.slice none 0 0) := R3.out.cell rfl
    have u1 : w1.cell? ⟨w.heap.size + 1 + 1 + 1, 1, none⟩ = some (.slice none 0 0) := R3.out.cell rfl
    have u2 : w1.cell? ⟨w.heap.size, 0, none⟩ = some (.slice p n c) := R0.out.cell rfl
    have u3 : w1.cell? ⟨w.heap.size, 1, none⟩ = some (.slice q l d) := R0.out.cell rfl
    go_wp2_with fail
    refine bodyPost_ret (results_cell_row_tmp (P := Tryd.prog) rfl _ _ (w.heap.size + 1 + 1 + 1) 42 #[.slice p n c, .slice q l d] (0, 0) _ rfl ((R3.out.set 0 _).set 1 _) Tryd.underlying42 rfl rfl) rfl ?_
    have bf := (B1.out.setCell (p := ⟨w.heap.size + 1 + 1 + 1, 0, none⟩) (by simp; omega) (.slice p n c)).setCell (p := ⟨w.heap.size + 1 + 1 + 1, 1, none⟩) (by simp; omega) (.slice q l d)
    exact ⟨q, d, by rw [hl.out]; rfl, owns_same Hown.out (fun k hk => bf.block k (Hown.out.lt k hk).2), bf⟩
end Go.Proofs.YtpaknaaainhgfaaDoor
