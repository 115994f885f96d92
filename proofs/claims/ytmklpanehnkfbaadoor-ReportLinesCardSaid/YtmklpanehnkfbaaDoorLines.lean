/-
  For the law ReportLines. Condition: the program's tables are as they are laid.
-/
import Derived.Test.YtmklpanehnkfbaaDoorWake
import Derived.Test.YtmklpanehnkfbaaDoorRefr
namespace Go.Proofs.YtmklpanehnkfbaaDoor
open Go.RowKit Go.Shelf

theorem six {W : World} {a b c : Nat} {t : TypeId} {k x : Int} {key xkey : ByteArray} (h1 : RowAt W a t #[.int .i64 k, .string key]) (h2 : RowAt W b t #[.int .i64 x, .string xkey]) (h3 : RowAt W c t #[.int .i64 x, .string xkey]) :
    W.cell? ⟨a, 0, none⟩ = some (.int .i64 k) ∧ W.cell? ⟨a, 1, none⟩ = some (.string key) ∧ W.cell? ⟨b, 0, none⟩ = some (.int .i64 x) ∧ W.cell? ⟨b, 1, none⟩ = some (.string xkey) ∧ W.cell? ⟨c, 0, none⟩ = some (.int .i64 x) ∧ W.cell? ⟨c, 1, none⟩ = some (.string xkey) :=
  ⟨h1.cell (j := 0) rfl, h1.cell (j := 1) rfl, h2.cell (j := 0) rfl, h2.cell (j := 1) rfl, h3.cell (j := 0) rfl, h3.cell (j := 1) rfl⟩
set_option maxRecDepth 100000 in
set_option maxHeartbeats 16000000 in
theorem reportLines_any (k : Int) (key s : ByteArray) (kd : Int) (w : World) (hW : RepW w) : Calls Tryd.prog 3 #[.agg #[.int .i64 k, .string key], .string s, .int .i64 kd] w fun e w' => e = .returned (.bool true) ∧ Below w.heap.size w w' := by
  have HW := Lib.hid hW; clear hW
  have hW4 := HW.out.size
  obtain ⟨W1, hW1⟩ : ∃ W1, Hid (w.alloc (.cells #[.int .i64 k, .string key] 23) = W1) := ⟨_, Lib.hid rfl⟩
  have hb1 : Hid (Below w.heap.size w W1) := by rw [← hW1.out]; exact Lib.hid ((Below.refl _ w).alloc (Nat.le_refl _) _)
  have hc1 : Hid (RowAt W1 w.heap.size 23 #[.int .i64 k, .string key]) := by rw [← hW1.out]; exact Lib.hid (RowAt.new w 23 _)
  have hs1 : w.heap.size + 1 ≤ W1.heap.size := by rw [← hW1.out]; simp
  go_enter Tryd.func3, Tryd.ntmps3
  go_wp2_with fail
  rw [hW1.out]
  refine (awake_any _ (HW.out.below hb1.out hW4)).mono ?_
  rintro e w2 ⟨rfl, b2⟩
  have hB2 := Lib.hid (hb1.out.trans (b2.mono (by omega)))
  have hc2 := Lib.hid (hc1.out.later b2)
  have hs2 : w.heap.size + 1 ≤ w2.heap.size := by have := b2.size; omega
  clear b2
  have c0 := hc2.out.cell (j := 0) rfl
  have c1 := hc2.out.cell (j := 1) rfl
  by_cases hk200 : 200 < key.size
  · have hd : decide ((200 : Int) < (key.size : Int)) = true := by simp; omega
    go_wp2_with fail
    go_ret
    exact ⟨rfl, hB2.out⟩
  have hd : decide ((200 : Int) < (key.size : Int)) = false := by simp; omega
  by_cases hs200 : 200 < s.size
  · have hd2 : decide ((200 : Int) < (s.size : Int)) = true := by simp; omega
    go_wp2_with fail
    go_ret
    exact ⟨rfl, hB2.out⟩
  have hd2 : decide ((200 : Int) < (s.size : Int)) = false := by simp; omega
  go_wp2_with fail
  refine (Read_any s _ (HW.out.below hB2.out hW4) (by omega)).mono ?_
  rintro e w3 ⟨hX, b3⟩
  have hB3 := Lib.hid (hB2.out.trans (b3.mono (by omega)))
  have hc3 := Lib.hid (hc2.out.later b3)
  have hs3 := b3.size
  clear b3 c0 c1
  obtain ⟨isX, xk, xkey, rfl, hxg⟩ : ∃ (isX : Bool) (xk : Int) (xkey : ByteArray), e = .returned (.tuple #[.agg #[.int .i64 xk, .string xkey], .bool isX]) ∧ Hid ((isX = true ∧ Reads (tl s) xk (tl xkey)) ∨ (isX = false ∧ (∀ k key, ¬ Reads (tl s) k key) ∧ xk = 0 ∧ xkey = ⟨#[]⟩)) := by
    rcases hX with ⟨k', key', h, rfl⟩ | ⟨hno, rfl⟩
    · exact ⟨true, k', key', rfl, Lib.hid (.inl ⟨rfl, h⟩)⟩
    · exact ⟨false, 0, ⟨#[]⟩, rfl, Lib.hid (.inr ⟨rfl, hno, rfl, rfl⟩)⟩
  clear hX
  have hx4 := Lib.hid (RowAt.new w3 23 #[.int .i64 xk, .string xkey])
  have hB4 := Lib.hid (hB3.out.alloc (by omega) (.cells #[.int .i64 xk, .string xkey] 23))
  have hc4 := Lib.hid (hc3.out.alloc (.cells #[.int .i64 xk, .string xkey] 23))
  go_wp2_with fail
  refine (RefRead_any s _ (by omega)).mono ?_
  rintro e w5 ⟨hY, b5⟩
  have hB5 := Lib.hid (hB4.out.trans (b5.mono (by simp; omega)))
  have hc5 := Lib.hid (hc4.out.later b5)
  have hx5 := Lib.hid (hx4.out.later b5)
  have hs5 := b5.size
  rw [World.size_alloc] at hs5
  clear b5
  -- both answer the same
  obtain rfl : e = .returned (.tuple #[.agg #[.int .i64 xk, .string xkey], .bool isX]) := by
    rcases hY with ⟨k', key', h, rfl⟩ | ⟨hno, rfl⟩
    · rcases hxg.out with ⟨rfl, h'⟩ | ⟨rfl, hno, -, -⟩
      · obtain ⟨e1, e2⟩ := h'.same h.1 h.2.1 h.2.2.1
        have e3 : key' = xkey := by rw [← bs_tl key', e2, bs_tl]
        rw [e1, e3]
      · exact absurd h (hno _ _)
    · rcases hxg.out with ⟨rfl, h'⟩ | ⟨rfl, -, rfl, rfl⟩
      · exact absurd h' (hno _ _)
      · rfl
  clear hY hxg
  have hy6 := Lib.hid (RowAt.new w5 23 #[.int .i64 xk, .string xkey])
  have hB6 := Lib.hid (hB5.out.alloc (by omega) (.cells #[.int .i64 xk, .string xkey] 23))
  have hc6 := Lib.hid (hc5.out.alloc (.cells #[.int .i64 xk, .string xkey] 23))
  have hx6 := Lib.hid (hx5.out.alloc (.cells #[.int .i64 xk, .string xkey] 23))
  obtain ⟨W6, hW6⟩ : ∃ W6, Hid (w5.alloc (.cells #[.int .i64 xk, .string xkey] 23) = W6) := ⟨_, Lib.hid rfl⟩
  rw [hW6.out] at hy6 hB6 hc6 hx6
  have hs6 : w5.heap.size + 1 ≤ W6.heap.size := by rw [← hW6.out]; simp
  go_wp2_with fail
  rw [hW6.out]
  have C6 := Lib.hid (six hc6.out hx6.out hy6.out)
  have cD : Hid (RowAt W6.drew w.heap.size 23 #[.int .i64 k, .string key]) := Lib.hid hc6.out
  have xD : Hid (RowAt W6.drew w3.heap.size 23 #[.int .i64 xk, .string xkey]) := Lib.hid hx6.out
  have yD : Hid (RowAt W6.drew w5.heap.size 23 #[.int .i64 xk, .string xkey]) := Lib.hid hy6.out
  have BD : Hid (Below w.heap.size w W6.drew) := Lib.hid (below_draws hB6.out 1)
  have RD : Hid (RepW W6.drew) := Lib.hid (HW.out.below BD.out hW4)
  have sD : w.heap.size ≤ W6.drew.heap.size := BD.out.size
  obtain ⟨r, hr⟩ : ∃ r, Hid (conOf k (tl key) = r) := ⟨_, Lib.hid rfl⟩
  obtain ⟨o, ho⟩ : ∃ o, Hid (outOf kd = o) := ⟨_, Lib.hid rfl⟩
  clear hc6 hx6 hy6
  go_region_held3 (fun W => W.cell? ⟨w.heap.size, 0, none⟩ = some (.int .i64 k) ∧ W.cell? ⟨w.heap.size, 1, none⟩ = some (.string key) ∧ W.cell? ⟨w3.heap.size, 0, none⟩ = some (.int .i64 xk) ∧ W.cell? ⟨w3.heap.size, 1, none⟩ = some (.string xkey) ∧ W.cell? ⟨w5.heap.size, 0, none⟩ = some (.int .i64 xk) ∧ W.cell? ⟨w5.heap.size, 1, none⟩ = some (.string xkey))
    (first | exact C6.out | (with_reducible exact C7.out) | (with_reducible exact C8.out) | (with_reducible exact C9.out) | (with_reducible exact C10.out))
    (first
      | (go_at_call 10; ((with_reducible refine (Conflict_any k key _ RD.out (by omega)).mono ?_); rw [hr.out]; rintro e w7 ⟨rfl, b7⟩; have c7 := Lib.hid (cD.out.later b7); have x7 := Lib.hid (xD.out.later b7); have y7 := Lib.hid (yD.out.later b7); have B7 := Lib.hid (BD.out.trans (b7.mono sD)); have s7 := B7.out.size; have C7 := Lib.hid (six c7.out x7.out y7.out); clear b7))
      | (go_at_call 11; ((with_reducible refine (RefConflict_any k key _ (by omega)).mono ?_); rw [hr.out]; rintro e w8 ⟨rfl, b8⟩; have c8 := Lib.hid (c7.out.later b8); have x8 := Lib.hid (x7.out.later b8); have y8 := Lib.hid (y7.out.later b8); have B8 := Lib.hid (B7.out.trans (b8.mono s7)); have s8 := B8.out.size; have R8 := Lib.hid (HW.out.below B8.out hW4); have C8 := Lib.hid (six c8.out x8.out y8.out); clear b8))
      | (go_at_call 12; ((with_reducible refine (Outcome_any kd _ R8.out).mono ?_); rw [ho.out]; rintro e w9 ⟨rfl, b9⟩; have c9 := Lib.hid (c8.out.later b9); have x9 := Lib.hid (x8.out.later b9); have y9 := Lib.hid (y8.out.later b9); have B9 := Lib.hid (B8.out.trans (b9.mono s8)); have s9 := B9.out.size; have C9 := Lib.hid (six c9.out x9.out y9.out); clear b9))
      | (go_at_call 13; ((with_reducible refine (RefOutcome_any kd _).mono ?_); rw [ho.out]; rintro e w10 ⟨rfl, b10⟩; have c10 := Lib.hid (c9.out.later b10); have x10 := Lib.hid (x9.out.later b10); have y10 := Lib.hid (y9.out.later b10); have B10 := Lib.hid (B9.out.trans (b10.mono s9)); have C10 := Lib.hid (six c10.out x10.out y10.out); clear b10)))
  all_goals
    go_wp2_with fail
    go_ret
    exact ⟨rfl, B10.out⟩
end Go.Proofs.YtmklpanehnkfbaaDoor
