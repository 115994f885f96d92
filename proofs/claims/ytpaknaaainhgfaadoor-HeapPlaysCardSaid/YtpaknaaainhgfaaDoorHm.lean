/-
  For the law HeapPlays: the document's heap: Make. Condition: at most 9,999 objects.
-/
import Derived.Test.YtpaknaaainhgfaaDoorHr
import Derived.Deep.RegionHeld
namespace Go.Proofs.YtpaknaaainhgfaaDoor
open Go.RowKit Go.Maps Go.WideMaps Go.Shelf
set_option linter.unusedSimpArgs false
set_option linter.unusedVariables false

theorem results_cell2_tmp {P : Program} {fn : Func} {p u v : Tmp} {t1 t2 : TypeId} (h : fn.results = #[.cell p t1, .cell u t2, .tmp v]) (tmps : Array Value) (w : World) (g1 g2 : Nat) (s1 s2 : TypeId) (c1 c2 : Array Value) (f1 f2 : Nat × Nat) (d1 d2 : TypeDesc)
    (hp : tmps.getD p undef = .pointer (some ⟨g1, 0, none⟩)) (hg1 : w.heap[g1]? = some (.cells c1 s1 f1)) (hu : tmps.getD u undef = .pointer (some ⟨g2, 0, none⟩)) (hg2 : w.heap[g2]? = some (.cells c2 s2 f2))
    (hu1 : P.underlying t1 = some d1) (hd1 : (match d1 with | .struct _ | .array _ _ => true | _ => false) = true) (hi1 : (P.info? t1).map (·.size) = some c1.size)
    (hu2 : P.underlying t2 = some d2) (hd2 : (match d2 with | .struct _ | .array _ _ => true | _ => false) = true) (hi2 : (P.info? t2).map (·.size) = some c2.size) :
    (results fn tmps).run P w = .ok (.tuple #[.agg c1, .agg c2, tmps.getD v undef]) w := by
  simp only [results, h]
  simp [Sem.run_bind, Result.andThen, ← Array.getD_eq_getD_getElem?, hp, hu, asAddr, run_loadVar_row w g1 s1 t1 c1 f1 d1 hg1 hu1 hd1 hi1, run_loadVar_row w g2 s2 t2 c2 f2 d2 hg2 hu2 hd2 hi2]
/-- What the document's Make keeps: all but the row of classes. -/
def Kp (ob : Option Nat) (W W' : World) : Prop := W'.os = W.os ∧ W'.tape = W.tape ∧ W'.output = W.output ∧ W.heap.size ≤ W'.heap.size ∧ ∀ k, k < W.heap.size → some k ≠ ob → W'.heap[k]? = W.heap[k]?
set_option maxRecDepth 100000 in
set_option maxHeartbeats 4000000 in
theorem RefMake_any (p : Option Addr) (c : Nat) (q : Option Addr) (l d : Nat) (cs : List ByteArray) (s : ByteArray) (w : World) (base : Nat) (hn : cs.length < 10000) (hbase : base ≤ w.heap.size) (hown : w.ownsRow base 9 1 (.slice p cs.length c) cs.length (cs.map Value.string)) : Calls Tryd.prog 27 #[rf p cs.length c q l d, .string s] w fun e w' => ∃ p' c', e = .returned (.tuple #[rf p' (cs.length + 1) c' q l d, val2 3 (cs.length + 1), .int .i64 0]) ∧ w'.ownsRow base 9 1 (.slice p' (cs.length + 1) c') (cs.length + 1) ((cs ++ [s]).map Value.string) ∧ Kp (Value.slice p cs.length c).ownBlock w w' ∧ ((Value.slice p' (cs.length + 1) c').ownBlock = (Value.slice p cs.length c).ownBlock ∨ ∃ g, (Value.slice p' (cs.length + 1) c').ownBlock = some g ∧ w.heap.size ≤ g) := by
  obtain ⟨n, hlen⟩ : ∃ n, cs.length = n := ⟨_, rfl⟩
  rw [hlen] at hown hn ⊢
  have Hlen := Lib.hid hlen; clear hlen
  obtain ⟨i0, hi, hz0, hz1, hz2⟩ : ∃ i0, Tryd.prog.info? 9 = some i0 ∧ i0.zero = some (.string ⟨#[]⟩) ∧ i0.size = 1 ∧ i0.bytes = 16 := ⟨_, rfl, by kernel_rfl, by kernel_rfl, by kernel_rfl⟩
  have hge : decide ((10000 : Int) ≤ (n : Int)) = false := by simp; omega
  obtain ⟨W3, hW3⟩ : ∃ W3, Hid (((w.alloc (.cells #[.slice p n c, .slice q l d] 42)).alloc (.cells #[.slice none 0 0, .slice none 0 0] 42)).alloc (.cells #[.int .i64 0, .int .i64 0] 49) = W3) := ⟨_, Lib.hid rfl⟩
  have B3 : Hid (Below w.heap.size w W3) := by rw [← hW3.out]; exact Lib.hid ((((Below.refl _ w).alloc (Nat.le_refl _) _).alloc (by simp) _).alloc (by simp; omega) _)
  have s3 : W3.heap.size = w.heap.size + 3 := by rw [← hW3.out]; simp
  have r0 : Hid (RowAt W3 w.heap.size 42 #[.slice p n c, .slice q l d]) := by rw [← hW3.out]; exact Lib.hid (((RowAt.new w 42 _).alloc _).alloc _)
  have r1 : Hid (RowAt W3 (w.heap.size + 1) 42 #[.slice none 0 0, .slice none 0 0]) := by
    rw [← hW3.out]
    have := (RowAt.new (w.alloc (.cells #[.slice p n c, .slice q l d] 42)) 42 #[.slice none 0 0, .slice none 0 0]).alloc (.cells #[.int .i64 0, .int .i64 0] 49)
    rw [World.size_alloc] at this
    exact Lib.hid this
  have r2 : Hid (RowAt W3 (w.heap.size + 2) 49 #[.int .i64 0, .int .i64 0]) := by
    rw [← hW3.out]
    have := RowAt.new ((w.alloc (.cells #[.slice p n c, .slice q l d] 42)).alloc (.cells #[.slice none 0 0, .slice none 0 0] 42)) 49 #[.int .i64 0, .int .i64 0]
    rw [World.size_alloc, World.size_alloc] at this
    exact Lib.hid this
  have a0 : W3.cell? ⟨w.heap.size, 0, none⟩ = some (.slice p n c) := r0.out.cell rfl
  have a1 : W3.cell? ⟨w.heap.size, 1, none⟩ = some (.slice q l d) := r0.out.cell rfl
  have hown3 := Lib.hid (owns_same hown (fun k hk => B3.out.block k (hown.lt k hk).2))
  have Hown := Lib.hid hown
  clear hown
  go_enter Tryd.func27, Tryd.ntmps27
  have hc1 : Hid (∀ j u, ([.string s] : List Value)[j]? = some u → (W3.alloc (.cells #[.string s] 9)).cell? ((⟨w.heap.size + 1 + 1 + 1, 0, none⟩ : Addr).add j) = some u) := Lib.hid (by
    have := cell_one_new W3 (.string s) 9
    rw [s3] at this
    exact this)
  clear a0 a1
  go_wp2_with (at_builtin; rw [hW3.out]; refine wpList_append_lies _ rfl _ _ 39 rfl base 9 i0 (.string ⟨#[]⟩) 1 16 Tryd.underlying39 hi hz0 hz1 hz2 rfl (by decide) (.slice p n c) _ _ rfl (hown3.out.alloc _) ⟨w.heap.size + 1 + 1 + 1, 0, none⟩ 1 1 [.string s] rfl rfl hc1.out (by simp [Value.oneCell']) (by decide) (by unfold maxLen; omega) (by omega) (by simp; omega) (w.heap.size + 4) (by simp; omega) ?_; intro g' c' w1 hown' hgrow hat _; have HO := Lib.hid hown'; have HG := Lib.hid hgrow; have HA := Lib.hid hat; have q0 : Hid (RowAt w1 w.heap.size 42 #[.slice p n c, .slice q l d]) := Lib.hid ((r0.out.alloc _).same (hgrow.block _ (by simp; omega) (own_ne hown3.out r0.out (by decide)))); have q1 : Hid (RowAt w1 (w.heap.size + 1) 42 #[.slice none 0 0, .slice none 0 0]) := Lib.hid ((r1.out.alloc _).same (hgrow.block _ (by simp; omega) (own_ne hown3.out r1.out (by decide)))); have q2 : Hid (RowAt w1 (w.heap.size + 2) 49 #[.int .i64 0, .int .i64 0]) := Lib.hid ((r2.out.alloc _).same (hgrow.block _ (by simp; omega) (own_ne hown3.out r2.out (by decide)))); have x0 : w1.cell? ⟨w.heap.size, 0, none⟩ = some (.slice p n c) := q0.out.cell rfl; have x1 := q0.out.frozen 0; clear hown' hgrow hat)
  obtain ⟨V, hV⟩ : ∃ V, Hid (w1.setCell ⟨w.heap.size, 0, none⟩ (.slice (some ⟨g', 0, none⟩) (n + 1) c') = V) := ⟨_, Lib.hid rfl⟩
  have z0 : Hid (RowAt V w.heap.size 42 #[.slice (some ⟨g', 0, none⟩) (n + 1) c', .slice q l d]) := by rw [← hV.out]; exact Lib.hid (q0.out.set 0 _)
  have z1 : Hid (RowAt V (w.heap.size + 1) 42 #[.slice none 0 0, .slice none 0 0]) := by rw [← hV.out]; exact Lib.hid (q1.out.other (show w.heap.size + 1 ≠ w.heap.size by omega) _ _)
  have z2 : Hid (RowAt V (w.heap.size + 2) 49 #[.int .i64 0, .int .i64 0]) := by rw [← hV.out]; exact Lib.hid (q2.out.other (show w.heap.size + 2 ≠ w.heap.size by omega) _ _)
  have ho2 : Hid (V.ownsRow base 9 1 (.slice (some ⟨g', 0, none⟩) (n + 1) c') (n + 1) ((cs ++ [s]).map Value.string)) := Lib.hid (by
    rw [List.map_append, ← hV.out]
    exact owns_same HO.out (fun k hk => Below.heap_setCell _ _ _ k (by
      have h1 := own_ne HO.out q0.out (by decide)
      intro e
      exact h1 (by rw [hk, e]))))
  have hkp : Hid (Kp (Value.slice p n c).ownBlock w V) := Lib.hid (by
    have hg := HG.out
    have hz := hg.size
    rw [World.size_alloc] at hz
    refine ⟨?_, ?_, ?_, ?_, fun k h1 h2 => ?_⟩
    · rw [← hV.out]; exact hg.os.trans B3.out.os
    · rw [← hV.out]; exact hg.tape.trans B3.out.tape
    · rw [← hV.out]; exact hg.output.trans B3.out.output
    · rw [← hV.out]; simp; omega
    · rw [← hV.out, Below.heap_setCell _ _ _ k (show k ≠ w.heap.size by omega), hg.block k (by simp; omega) h2, Below.heap_alloc _ _ k (by omega)]
      exact B3.out.block k h1)
  have hfr : Hid ((Value.slice (some ⟨g', 0, none⟩) (n + 1) c').ownBlock = (Value.slice p n c).ownBlock ∨ ∃ g, (Value.slice (some ⟨g', 0, none⟩) (n + 1) c').ownBlock = some g ∧ w.heap.size ≤ g) := Lib.hid (by
    rcases HA.out with h | h
    · exact .inl h.symm
    · exact .inr ⟨g', rfl, by omega⟩)
  have y0 : V.cell? ⟨w.heap.size, 0, none⟩ = some (.slice (some ⟨g', 0, none⟩) (n + 1) c') := z0.out.cell rfl
  have y1 : V.cell? ⟨w.heap.size, 1, none⟩ = some (.slice q l d) := z0.out.cell rfl
  have y2 : V.cell? ⟨w.heap.size + 1, 0, none⟩ = some (.slice none 0 0) := z1.out.cell rfl
  have y3 : V.cell? ⟨w.heap.size + 1, 1, none⟩ = some (.slice none 0 0) := z1.out.cell rfl
  have y4 : V.cell? ⟨w.heap.size + 1 + 1, 0, none⟩ = some (.int .i64 0) := z2.out.cell rfl
  have y5 : V.cell? ⟨w.heap.size + 1 + 1, 1, none⟩ = some (.int .i64 0) := z2.out.cell rfl
  have t2 := z1.out.frozen 0
  have t3 := z1.out.frozen 1
  have t4 : V.frozen? ⟨w.heap.size + 1 + 1, 0, none⟩ = false := z2.out.frozen 0
  have t5 : V.frozen? ⟨w.heap.size + 1 + 1, 1, none⟩ = false := z2.out.frozen 1
  rw [hV.out]
  clear x0 x1
  go_region
  all_goals
    go_wp2
    refine bodyPost_ret (results_cell2_tmp (P := Tryd.prog) rfl _ _ (w.heap.size + 1) (w.heap.size + 1 + 1) 42 49 #[.slice (some ⟨g', 0, none⟩) (n + 1) c', .slice q l d] #[.int .i64 3, .int .i64 ((n : Int) + 1)] (0, 0) (0, 0) _ _ rfl ?_ rfl ?_ Tryd.underlying42 rfl rfl Tryd.underlying49 rfl rfl) rfl ?_
    · exact (((z1.out.set 0 _).set 1 _).other (show w.heap.size + 1 ≠ w.heap.size + 1 + 1 by omega) _ _).other (show w.heap.size + 1 ≠ w.heap.size + 1 + 1 by omega) _ _
    · exact (((RowAt.other z2.out (show w.heap.size + 2 ≠ w.heap.size + 1 by omega) _ _).other (show w.heap.size + 2 ≠ w.heap.size + 1 by omega) _ _).set 0 _).set 1 _
    · have hk : ∀ (x1 x2 x3 x4 : Value) (k : Nat), k ≠ w.heap.size + 1 → k ≠ w.heap.size + 1 + 1 → ((((V.drew.setCell ⟨w.heap.size + 1, 0, none⟩ x1).setCell ⟨w.heap.size + 1, 1, none⟩ x2).setCell ⟨w.heap.size + 1 + 1, 0, none⟩ x3).setCell ⟨w.heap.size + 1 + 1, 1, none⟩ x4).heap[k]? = V.heap[k]? := fun x1 x2 x3 x4 k h1 h2 =>
        ((Below.heap_setCell _ _ _ k h2).trans (Below.heap_setCell _ _ _ k h2)).trans ((Below.heap_setCell _ _ _ k h1).trans (Below.heap_setCell _ _ _ k h1))
      refine ⟨_, _, rfl, ?_, ?_, hfr.out⟩
      · refine owns_same ho2.out (fun k h => hk _ _ _ _ k ?_ ?_)
        · have h1 := own_ne ho2.out z1.out (by decide)
          intro e
          exact h1 (by rw [h, e])
        · have h1 := own_ne ho2.out z2.out (by decide)
          intro e
          exact h1 (by rw [h, e])
      · obtain ⟨k1, k2, k3, k4, k5⟩ := hkp.out
        refine ⟨k1, k2, k3, ?_, fun k h1 h2 => ?_⟩
        · simp
          exact k4
        · exact (hk _ _ _ _ k (by omega) (by omega)).trans (k5 k h1 h2)
end Go.Proofs.YtpaknaaainhgfaaDoor
