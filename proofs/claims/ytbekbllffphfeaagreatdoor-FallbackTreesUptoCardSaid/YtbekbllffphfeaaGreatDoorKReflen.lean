/-
  For the laws of marker: how long marks are to be, by the reference, by the program. Condition: texts of at most 5,000,000 bytes each.
-/
import Derived.Test.YtbekbllffphfeaaGreatDoorKRefs
namespace Go.Proofs.YtbekbllffphfeaaGreatDoor.K
open Go.RowKit Go.Shelf
set_option linter.unusedSimpArgs false

set_option maxRecDepth 100000 in
set_option maxHeartbeats 8000000 in
theorem refrun_same (s : ByteArray) (c : UInt8) (hs : s.size ≤ maxLen) (w : World) : Calls Tryz.prog 59 #[.string s, .int .u8 c.toNat] w fun e w' => e = .returned (.int .i64 (lead c (tl s) : Nat)) ∧ w' = w := by
  unfold maxLen at hs
  obtain ⟨r, hr⟩ : ∃ r, Hid (lead c (tl s) = r) := ⟨_, Lib.hid rfl⟩
  have hrs : r ≤ s.size := by rw [← hr.out, ← tl_length]; exact lead_le _ _
  rw [hr.out]
  go_enter Tryz.func59, Tryz.ntmps59
  go_wp2_with fail
  go_loopw [5] (fun x wr => ∃ k : Nat, x = .int .i64 k ∧ k ≤ r ∧ Hid (wr = w)) (fun x _ => r - (intOf x).toNat)
  case atStart => exact ⟨0, rfl, by omega, Lib.hid rfl⟩
  case round =>
    obtain ⟨k, rfl, hk, hq⟩ := hrel
    have hstep : Hid (k < r ↔ (tl s)[k]? = some c) := Lib.hid (by rw [← hr.out] at hk ⊢; exact lead_step hk)
    by_cases hlt : k < s.size
    · have hg := tl_get s hlt
      have p0 : (0 : Int) ≤ (k : Int) := by omega
      have p1 : (k : Int) < (s.size : Int) := by omega
      by_cases e : s[k] = c
      · have hkr : k < r := hstep.out.2 (by rw [hg, e])
        have hb : ((s[k].toNat : Int) == (c.toNat : Int)) = true := by rw [e]; simp
        clear hg
        go_wp2_with fail
        exact ⟨⟨k + 1, by go_num, by omega, hq⟩, by simp [intOf]; omega⟩
      · have hkr : k = r := by
          have : ¬ k < r := fun h => by have := hstep.out.1 h; rw [hg] at this; exact e (by simpa using this)
          omega
        have hne : ¬ s[k].toNat = c.toNat := fun h => e (UInt8.toNat_inj.1 h)
        have hb : ((s[k].toNat : Int) == (c.toNat : Int)) = false := beq_eq_false_iff_ne.2 (by omega)
        have Hkr := Lib.hid hkr
        clear hg hkr
        go_wp2_with fail
        go_ret
        exact ⟨ret_int (congrArg Int.ofNat Hkr.out), hq.out⟩
    · obtain rfl : k = r := by omega
      have hks : k = s.size := by omega
      have p1 : ¬ (k : Int) < (s.size : Int) := by omega
      have f1 : decide ((k : Int) < (s.size : Int)) = false := decide_eq_false p1
      go_wp2_with fail
      go_ret
      exact ⟨by first | rfl | exact ret_int (congrArg Int.ofNat hks.symm), hq.out⟩
theorem ite_max (x y : Int) : (if y > x then y else x) = max x y := by
  rw [Int.max_def]
  split <;> split <;> omega
theorem ite_max2 (x y : Int) : (if x < y then y else x) = max x y := ite_max x y
theorem run_max5 {P : Program} (w : World) (ts : Array TypeId) (t : TypeId) (a b c d e : Int) : (Builtin.max_ ts t #[.int .i64 a, .int .i64 b, .int .i64 c, .int .i64 d, .int .i64 e]).run P w = .ok (.int .i64 (max (max (max (max a b) c) d) e)) w := by
  simp [Builtin.max_, Builtin.max2, ite_max, ite_max2]
theorem refrun_q (s : ByteArray) (c : UInt8) (z : Int) (hz : z = c.toNat) (hs : s.size ≤ maxLen) (n : Nat) (w : World) : Calls Tryz.prog 59 #[.string s, .int .u8 z] (w.drewN n) fun e w'' => e = .returned (.int .i64 (lead c (tl s) : Nat)) ∧ ∃ m, w'' = w.drewN m := by
  subst hz
  exact Calls.quiet_of_same (refrun_same s c hs _)
set_option maxRecDepth 100000 in
set_option maxHeartbeats 8000000 in
theorem RefLength_any (v : Value) (xs : List ByteArray) (hx : ∀ x ∈ xs, x.size ≤ 50000000) (w : World) (h1 : Strz w v xs) : Calls Tryz.prog 39 #[v] w fun e w' => e = .returned (.int .i64 (lenL 7 (allL xs) : Nat)) ∧ Below w.heap.size w w' := by
  obtain ⟨a, cap, rfl, hc, hat⟩ := strs_of_strz h1
  have hm : xs.length ≤ maxLen := h1.choose_spec.choose_spec.2.2.1
  unfold maxLen at hm
  have Hat := Lib.hid hat
  have Hx := Lib.hid hx
  clear hat hx h1
  obtain ⟨r, hr⟩ : ∃ r, Hid (lenL 7 (allL xs) = r) := ⟨_, Lib.hid rfl⟩
  rw [hr.out]
  go_enter Tryz.func39, Tryz.ntmps39
  go_wp2_with fail
  go_loopw [3, 4] (fun m c wr => ∃ (i : Nat), c = .int .i64 i ∧ i ≤ xs.length ∧ m = .int .i64 (lenL 7 (allL (xs.take i)) : Nat) ∧ Hid (Below w.heap.size w wr)) (fun _ c _ => xs.length - (intOf c).toNat)
  case atStart => exact ⟨0, rfl, by omega, rfl, Lib.hid (Below.refl _ _)⟩
  case round =>
    obtain ⟨i, rfl, hi, rfl, hB⟩ := hrel
    have hbs := hB.out.size
    obtain ⟨N, hN⟩ : ∃ N, Hid (lenL 7 (allL (xs.take i)) = N) := ⟨_, Lib.hid rfl⟩
    by_cases hlt : i < xs.length
    · obtain ⟨x, hx⟩ : ∃ x, xs[i]? = some x := ⟨_, List.getElem?_eq_getElem hlt⟩
      obtain ⟨b, off, rfl, hbl, hl0⟩ := Hat.out i x hx
      have c0 : wr.cell? ⟨b, off + i, none⟩ = some (.string x) := (hB.out.cell (p := ⟨b, off + i, none⟩) hbl).trans hl0
      have hxs := Hx.out x (List.mem_of_getElem? hx)
      have Hnx := Lib.hid (allL_take hx)
      have HN7 : Hid (7 ≤ N) := Lib.hid (by rw [← hN.out]; exact (lenL_ge _ 7).1)
      rw [hN.out]
      clear hl0 hx
      go_wp2_with fail
      refine (RefSplit_any x hxs wr).mono ?_
      rintro e w1 ⟨u, rfl, hu, b1⟩
      obtain ⟨a2, cap2, rfl, hc2, hat2⟩ := strs_of_strz hu
      have hm2 : (lns x).length ≤ 50000000 := Nat.le_trans (lns_len x) hxs
      have Hat2 := Lib.hid hat2
      have HB1 := Lib.hid (hB.out.trans (b1.mono hbs))
      clear hat2 hu b1
      go_wp2_with fail
      go_loopw [3, 6] (fun m c wx => ∃ (j : Nat), c = .int .i64 j ∧ j ≤ (lns x).length ∧ m = .int .i64 (lenL N ((lnB x).take j) : Nat) ∧ Hid (Below w1.heap.size w1 wx)) (fun _ c _ => (lns x).length - (intOf c).toNat)
      case atStart => exact ⟨0, rfl, by omega, rfl, Lib.hid (Below.refl _ _)⟩
      case round =>
        obtain ⟨j, rfl, hj, rfl, hX⟩ := hrel
        have hbx := hX.out.size
        obtain ⟨m, hm'⟩ : ∃ m, Hid (lenL N ((lnB x).take j) = m) := ⟨_, Lib.hid rfl⟩
        rw [hm'.out]
        by_cases hlt2 : j < (lns x).length
        · obtain ⟨l, hl⟩ : ∃ l, (lns x)[j]? = some l := ⟨_, List.getElem?_eq_getElem hlt2⟩
          obtain ⟨b2, off2, rfl, hb2, m0⟩ := Hat2.out j l hl
          have c1 : wr.cell? ⟨b2, off2 + j, none⟩ = some (.string l) := (hX.out.cell (p := ⟨b2, off2 + j, none⟩) hb2).trans m0
          have hls := lns_sizes x l (List.mem_of_getElem? hl)
          have hlB : (lnB x)[j]? = some (tl l) := by unfold lnB; rw [List.getElem?_map, hl]; rfl
          have hst := lenL_take (n := N) hlB
          have hn7 : 7 ≤ m := by rw [← hm'.out]; exact Nat.le_trans HN7.out (lenL_ge _ N).1
          rw [hm'.out, ← run_four _ _ hn7] at hst
          have k1 := lead_le 60 (tl l)
          have k2 := lead_le 124 (tl l)
          have k3 := lead_le 61 (tl l)
          have k4 := lead_le 62 (tl l)
          rw [tl_length] at k1 k2 k3 k4
          obtain ⟨r1, hr1⟩ : ∃ r, Hid (lead 60 (tl l) = r) := ⟨_, Lib.hid rfl⟩
          obtain ⟨r2, hr2⟩ : ∃ r, Hid (lead 124 (tl l) = r) := ⟨_, Lib.hid rfl⟩
          obtain ⟨r3, hr3⟩ : ∃ r, Hid (lead 61 (tl l) = r) := ⟨_, Lib.hid rfl⟩
          obtain ⟨r4, hr4⟩ : ∃ r, Hid (lead 62 (tl l) = r) := ⟨_, Lib.hid rfl⟩
          rw [hr1.out] at k1 hst
          rw [hr2.out] at k2 hst
          rw [hr3.out] at k3 hst
          rw [hr4.out] at k4 hst
          have Hst := Lib.hid hst
          have w1' : IntKind.i64.wrap ((r1 : Int) + 1) = (r1 : Int) + 1 := by rw [Go.IntWalk.i64_left, Go.IntWalk.wrap64_in _ (by omega)]
          have w2' : IntKind.i64.wrap ((r2 : Int) + 1) = (r2 : Int) + 1 := by rw [Go.IntWalk.i64_left, Go.IntWalk.wrap64_in _ (by omega)]
          have w3' : IntKind.i64.wrap ((r3 : Int) + 1) = (r3 : Int) + 1 := by rw [Go.IntWalk.i64_left, Go.IntWalk.wrap64_in _ (by omega)]
          have w4' : IntKind.i64.wrap ((r4 : Int) + 1) = (r4 : Int) + 1 := by rw [Go.IntWalk.i64_left, Go.IntWalk.wrap64_in _ (by omega)]
          have hlm : l.size ≤ maxLen := by unfold maxLen; omega
          have q1 : ∀ n, Calls Tryz.prog 59 #[.string l, .int .u8 60] (wr.drewN n) fun e w'' => e = .returned (.int .i64 (r1 : Nat)) ∧ ∃ m, w'' = wr.drewN m := fun n => by
            rw [← hr1.out]; exact refrun_q l 60 60 (by decide) hlm n wr
          have q2 : ∀ n, Calls Tryz.prog 59 #[.string l, .int .u8 124] (wr.drewN n) fun e w'' => e = .returned (.int .i64 (r2 : Nat)) ∧ ∃ m, w'' = wr.drewN m := fun n => by
            rw [← hr2.out]; exact refrun_q l 124 124 (by decide) hlm n wr
          have q3 : ∀ n, Calls Tryz.prog 59 #[.string l, .int .u8 61] (wr.drewN n) fun e w'' => e = .returned (.int .i64 (r3 : Nat)) ∧ ∃ m, w'' = wr.drewN m := fun n => by
            rw [← hr3.out]; exact refrun_q l 61 61 (by decide) hlm n wr
          have q4 : ∀ n, Calls Tryz.prog 59 #[.string l, .int .u8 62] (wr.drewN n) fun e w'' => e = .returned (.int .i64 (r4 : Nat)) ∧ ∃ m, w'' = wr.drewN m := fun n => by
            rw [← hr4.out]; exact refrun_q l 62 62 (by decide) hlm n wr
          clear m0 hl hlB hst hn7
          go_wp2_with fail
          have Q1 := Lib.hid q1
          have Q2 := Lib.hid q2
          have Q3 := Lib.hid q3
          have Q4 := Lib.hid q4
          have W1 := Lib.hid w1'
          have W2 := Lib.hid w2'
          have W3 := Lib.hid w3'
          have W4 := Lib.hid w4'
          clear q1 q2 q3 q4 w1' w2' w3' w4' k1 k2 k3 k4 hls
          refine wp_region_quiet_lit (by kernel_rfl) (by kernel_rfl) ?_
          repeat (quiet_step (first | with_reducible exact Q1.out _ | with_reducible exact Q2.out _ | with_reducible exact Q3.out _ | with_reducible exact Q4.out _))
          refine wpQuiet_step (fun K hK => ?_)
          go_simp
          apply Exists.intro
          refine ⟨fun _ => ?_, hK _ ?_⟩
          · rw [run_max5]
            exact ⟨rfl, rfl⟩
          clear hK K
          rw [W1.out, W2.out, W3.out, W4.out]
          obtain ⟨mm, hmm⟩ : ∃ mm : Nat, max (max (max (max (m : Int) ((r1 : Int) + 1)) ((r2 : Int) + 1)) ((r3 : Int) + 1)) ((r4 : Int) + 1) = (mm : Int) := ⟨max (max (max (max m (r1 + 1)) (r2 + 1)) (r3 + 1)) (r4 + 1), by omega⟩
          have hmn : Hid (lenL N ((lnB x).take (j + 1)) = mm) := Lib.hid (by rw [Hst.out]; omega)
          rw [hmm]
          clear hmm W1 W2 W3 W4 Q1 Q2 Q3 Q4
          repeat (quiet_step (fail))
          refine wpQuiet_nil ?_
          rintro _ ⟨nq, rfl⟩
          go_wp2_with fail
          exact ⟨⟨j + 1, by go_num, by omega, by rw [hmn.out], Lib.hid (below_draws hX.out _)⟩, by simp [intOf]; omega⟩
        · obtain rfl : j = (lns x).length := by omega
          have hm2 := hm'.out
          rw [List.take_of_length_le (by unfold lnB; rw [List.length_map]; exact Nat.le_refl _), ← hN.out, ← lenL_append, ← Hnx.out] at hm2
          have Hm2 := Lib.hid hm2
          have HX3 := Lib.hid (HB1.out.trans (hX.out.mono HB1.out.size))
          clear hm2
          go_wp2_with fail
          exact ⟨⟨i + 1, by go_num, by omega, by rw [Hm2.out], HX3⟩, by simp [intOf]; omega⟩
    · obtain rfl : i = xs.length := by omega
      have hN2 := hN.out
      rw [List.take_length, hr.out] at hN2
      rw [hN.out]
      go_wp2_with fail
      go_ret
      exact ⟨ret_int (congrArg Int.ofNat hN2.symm), hB.out⟩
end Go.Proofs.YtbekbllffphfeaaGreatDoor.K
