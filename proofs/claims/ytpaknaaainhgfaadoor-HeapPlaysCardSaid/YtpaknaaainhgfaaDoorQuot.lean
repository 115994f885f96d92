/-
  For the laws of arith: ArithQuotient returns true for all numbers. Condition: the table of the powers of ten holds them.
-/
import Derived.Test.YtpaknaaainhgfaaDoorLaws
namespace Go.Proofs.YtpaknaaainhgfaaDoor
open Go.RowKit

theorem Do_quo_v (a b v : Int) (h0 : ¬ wrap32 b = 0) (h : wrap32 ((wrap32 a).tdiv (wrap32 b)) = v) (w : World) : Calls Tryd.prog 13 #[.string ⟨#[47]⟩, .int .i64 a, .int .i64 b] w fun e w' => e = .returned (.tuple #[.int .i64 v, .int .i64 0]) ∧ Below w.heap.size w w' := by
  rw [← h]; exact Do_quo a b w h0
theorem Do_rem_v (a b v : Int) (h0 : ¬ wrap32 b = 0) (h : (wrap32 a).tmod (wrap32 b) = v) (w : World) : Calls Tryd.prog 13 #[.string ⟨#[37]⟩, .int .i64 a, .int .i64 b] w fun e w' => e = .returned (.tuple #[.int .i64 v, .int .i64 0]) ∧ Below w.heap.size w w' := by
  rw [← h]; exact Do_rem a b w h0

/-- What is told of a remainder. -/
theorem rem_facts (x y : Int) (h0 : ¬ y = 0) : (0 ≤ x → 0 ≤ x.tmod y) ∧ (x ≤ 0 → x.tmod y ≤ 0) ∧ (x.tmod y).natAbs < y.natAbs := by
  refine ⟨fun h => Int.tmod_nonneg y h, fun h => ?_, ?_⟩
  · have h1 := Int.tmod_nonneg y (show 0 ≤ -x by omega)
    rw [Int.neg_tmod] at h1
    omega
  · rw [Int.natAbs_tmod]
    exact Nat.mod_lt _ (by omega)

theorem rem_quo (a b : Int) : wrap32 (wrap32 (wrap32 ((wrap32 a).tdiv (wrap32 b)) * b) + (wrap32 a).tmod (wrap32 b)) = wrap32 a := by
  rw [wadd_l, ← wadd, wmul_l, ← wmul_r, wadd]
  have h := Int.tdiv_mul_add_tmod (wrap32 a) (wrap32 b)
  rw [h, w32_32]

set_option maxRecDepth 100000 in
set_option maxHeartbeats 8000000 in
theorem Quotient_zero (a b : Int) (w : World) (hp : Pow w) (h0 : wrap32 b = 0) : Calls Tryd.prog 6 #[.int .i64 a, .int .i64 b] w fun e w' => e = .returned (.bool true) ∧ Below w.heap.size w w' := by
  have H0 := Lib.hid h0; clear h0
  go_enter Tryd.func6, Tryd.ntmps6
  go_wp2_with fail
  refine (awake_any _ hp).mono ?_
  rintro e w1 ⟨rfl, hb⟩
  go_wp2_with fail
  refine (Do_quo_zero a b _ H0.out).mono ?_
  rintro e w2 ⟨rfl, q2⟩
  have hb2 := hb.trans (q2.mono hb.size)
  clear hb q2
  go_wp2_with fail
  refine (Do_rem_zero a b _ H0.out).mono ?_
  rintro e w3 ⟨rfl, q3⟩
  have hb3 := hb2.trans (q3.mono hb2.size)
  clear hb2 q3
  go_wp2_with fail
  refine (Wrap_any a _).mono ?_
  rintro e w4 ⟨rfl, rfl⟩
  go_wp2_with fail
  refine (Wrap_v b 0 H0.out _).mono ?_
  rintro e w4 ⟨rfl, rfl⟩
  go_wp2
  go_ret
  exact ⟨rfl, hb3⟩

set_option maxRecDepth 100000 in
set_option maxHeartbeats 8000000 in
theorem Quotient_some (a b : Int) (w : World) (hp : Pow w) (h0 : ¬ wrap32 b = 0) : Calls Tryd.prog 6 #[.int .i64 a, .int .i64 b] w fun e w' => e = .returned (.bool true) ∧ Below w.heap.size w w' := by
  obtain ⟨f1, f2, f3⟩ := rem_facts (wrap32 a) (wrap32 b) h0
  have f4 := w32_range a
  have f5 := w32_range b
  have hq := rem_quo a b
  obtain ⟨x, hx⟩ : ∃ v, Hid (wrap32 a = v) := ⟨_, rfl⟩
  obtain ⟨y, hy⟩ : ∃ v, Hid (wrap32 b = v) := ⟨_, rfl⟩
  obtain ⟨r, hr⟩ : ∃ v, Hid ((wrap32 a).tmod (wrap32 b) = v) := ⟨_, rfl⟩
  obtain ⟨q, hqq⟩ : ∃ v, Hid (wrap32 ((wrap32 a).tdiv (wrap32 b)) = v) := ⟨_, rfl⟩
  obtain ⟨p, hpp⟩ : ∃ v, Hid (wrap32 (q * b) = v) := ⟨_, rfl⟩
  rw [hqq.out, hpp.out, hr.out, hx.out] at hq
  rw [hr.out, hx.out] at f1 f2
  rw [hr.out, hy.out] at f3
  rw [hx.out] at f4
  rw [hy.out] at f5
  have H0 := Lib.hid h0
  rw [hy.out] at h0
  have hy0 : (y == 0) = false := by simpa using h0
  have HQ := Lib.hid hq; clear hq
  have hcase : (r < 0 ∧ x < 0) ∨ r = 0 ∨ (0 < r ∧ 0 < x) := by omega
  have f3' : (r < y ∧ -r < y) ∨ (r < -y ∧ -r < -y) := by omega
  have hyc : y < 0 ∨ 0 < y := by omega
  clear f1 f2 h0 f3
  go_enter Tryd.func6, Tryd.ntmps6
  go_wp2_with fail
  refine (awake_any _ hp).mono ?_
  rintro e w1 ⟨rfl, hb⟩
  go_wp2_with fail
  refine (Do_quo_v a b q H0.out hqq.out _).mono ?_
  rintro e w2 ⟨rfl, q2⟩
  have hb2 := hb.trans (q2.mono hb.size)
  clear hb q2
  go_wp2_with fail
  refine (Do_rem_v a b r H0.out hr.out _).mono ?_
  rintro e w3 ⟨rfl, q3⟩
  have hb3 := hb2.trans (q3.mono hb2.size)
  clear hb2 q3
  go_wp2_with fail
  refine (Wrap_v a x hx.out _).mono ?_
  rintro e w4 ⟨rfl, rfl⟩
  go_wp2_with fail
  refine (Wrap_v b y hy.out _).mono ?_
  rintro e w4 ⟨rfl, rfl⟩
  go_wp2_with fail
  refine (Do_mul_v q b p hpp.out _).mono ?_
  rintro e w4 ⟨rfl, q4⟩
  have hb4 := hb3.trans (q4.mono hb3.size)
  clear hb3 q4
  go_wp2_with fail
  refine (Do_add_v p r x HQ.out _).mono ?_
  rintro e w5 ⟨rfl, q5⟩
  have hb5 := hb4.trans (q5.mono hb4.size)
  clear hb4 q5
  have hm0 : max r (-r) < max y (-y) := by omega
  have hm : decide (max r (-r) < max y (-y)) = true := by simpa using hm0
  have hrb : -2147483648 ≤ r ∧ r ≤ 2147483647 := by omega
  have hm1 : decide (0 < max y (-y)) = true := by
    have : 0 < max y (-y) := by omega
    simpa using this
  clear hm0 f3' hyc
  rcases hcase with ⟨h1, h2⟩ | rfl | ⟨h1, h2⟩
  · have g1 : decide (r < 0) = true := by simpa using h1
    have g2 : decide (0 ≤ x) = false := by simp; omega
    have g3 : decide (0 < r) = false := by simp; omega
    go_wp2
    go_ret
    exact ⟨rfl, hb5⟩
  · go_wp2
    go_ret
    exact ⟨rfl, hb5⟩
  · have g1 : decide (r < 0) = false := by simp; omega
    have g2 : decide (x ≤ 0) = false := by simp; omega
    have g3 : decide (0 < r) = true := by simpa using h1
    go_wp2
    go_ret
    exact ⟨rfl, hb5⟩

theorem Quotient_any (a b : Int) (w : World) (hp : Pow w) : Calls Tryd.prog 6 #[.int .i64 a, .int .i64 b] w fun e w' => e = .returned (.bool true) ∧ Below w.heap.size w w' := by
  by_cases h0 : wrap32 b = 0
  · exact Quotient_zero a b w hp h0
  · exact Quotient_some a b w hp h0
end Go.Proofs.YtpaknaaainhgfaaDoor
