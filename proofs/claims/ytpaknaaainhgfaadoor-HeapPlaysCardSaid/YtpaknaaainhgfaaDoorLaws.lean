/-
  For the laws of arith: ArithOrder, ArithRing and ArithQuotient return true for all numbers. Condition: the table of the powers of ten holds them.
-/
import Derived.Test.YtpaknaaainhgfaaDoorShow
namespace Go.Proofs.YtpaknaaainhgfaaDoor
open Go.RowKit

set_option maxRecDepth 100000 in
set_option maxHeartbeats 4000000 in
theorem Order_any (a b : Int) (w : World) (hp : Pow w) : Calls Tryd.prog 7 #[.int .i64 a, .int .i64 b] w fun e w' => e = .returned (.bool true) ∧ Below w.heap.size w w' := by
  go_enter Tryd.func7, Tryd.ntmps7
  go_wp2_with fail
  refine (awake_any _ hp).mono ?_
  rintro e w1 ⟨rfl, hb⟩
  go_wp2_with fail
  refine (Test_lt a b _).mono ?_
  rintro e w2 ⟨rfl, rfl⟩
  go_wp2_with fail
  refine (Test_eq a b _).mono ?_
  rintro e w2 ⟨rfl, rfl⟩
  go_wp2_with fail
  refine (Test_gt a b _).mono ?_
  rintro e w2 ⟨rfl, rfl⟩
  go_wp2_with fail
  refine (Test_le a b _).mono ?_
  rintro e w2 ⟨rfl, rfl⟩
  go_wp2_with fail
  refine (Test_ge a b _).mono ?_
  rintro e w2 ⟨rfl, rfl⟩
  go_wp2_with fail
  refine (Test_ne a b _).mono ?_
  rintro e w2 ⟨rfl, rfl⟩
  go_wp2_with fail
  refine (Test_lt b a _).mono ?_
  rintro e w2 ⟨rfl, rfl⟩
  rcases Int.lt_trichotomy (wrap32 a) (wrap32 b) with h | h | h
  · have d1 : decide (wrap32 a < wrap32 b) = true := by simpa using h
    have d2 : (wrap32 a == wrap32 b) = false := by rw [beq_eq_false_iff_ne]; omega
    have d3 : decide (wrap32 b < wrap32 a) = false := by simp; omega
    have d4 : decide (wrap32 a ≤ wrap32 b) = true := by simp; omega
    have d5 : decide (wrap32 b ≤ wrap32 a) = false := by simp; omega
    have d6 : (wrap32 a != wrap32 b) = true := by rw [bne, d2]; rfl
    clear h
    rw [d1, d2, d3, d4, d5, d6]
    go_wp2_with (go_at_call 17; refine (Wrap_any _ _).mono ?_; rintro e w' ⟨rfl, rfl⟩)
    go_ret
    exact ⟨rfl, hb⟩
  · have d1 : decide (wrap32 a < wrap32 b) = false := by simp; omega
    have d2 : (wrap32 a == wrap32 b) = true := by rw [beq_iff_eq]; omega
    have d3 : decide (wrap32 b < wrap32 a) = false := by simp; omega
    have d4 : decide (wrap32 a ≤ wrap32 b) = true := by simp; omega
    have d5 : decide (wrap32 b ≤ wrap32 a) = true := by simp; omega
    have d6 : (wrap32 a != wrap32 b) = false := by rw [bne, d2]; rfl
    clear h
    rw [d1, d2, d3, d4, d5, d6]
    go_wp2_with (go_at_call 17; refine (Wrap_any _ _).mono ?_; rintro e w' ⟨rfl, rfl⟩)
    go_ret
    exact ⟨rfl, hb⟩
  · have d1 : decide (wrap32 a < wrap32 b) = false := by simp; omega
    have d2 : (wrap32 a == wrap32 b) = false := by rw [beq_eq_false_iff_ne]; omega
    have d3 : decide (wrap32 b < wrap32 a) = true := by simpa using h
    have d4 : decide (wrap32 a ≤ wrap32 b) = false := by simp; omega
    have d5 : decide (wrap32 b ≤ wrap32 a) = true := by simp; omega
    have d6 : (wrap32 a != wrap32 b) = true := by rw [bne, d2]; rfl
    clear h
    rw [d1, d2, d3, d4, d5, d6]
    go_wp2_with (go_at_call 17; refine (Wrap_any _ _).mono ?_; rintro e w' ⟨rfl, rfl⟩)
    go_ret
    exact ⟨rfl, hb⟩

/-! ### Sums and products, up to multiples of 2 to the 32 -/
theorem wrap_of (x : Int) : ∃ k, wrap32 x = x + 4294967296 * k := ⟨-((x + 2147483648) / 4294967296), by unfold wrap32; omega⟩
theorem wrap_more (x k : Int) : wrap32 (x + 4294967296 * k) = wrap32 x := by unfold wrap32; omega
theorem wadd (x y : Int) : wrap32 (wrap32 x + wrap32 y) = wrap32 (x + y) := by
  obtain ⟨k, hk⟩ := wrap_of x
  obtain ⟨m, hm⟩ := wrap_of y
  rw [hk, hm, show x + 4294967296 * k + (y + 4294967296 * m) = x + y + 4294967296 * (k + m) by omega, wrap_more]
theorem wsub (x y : Int) : wrap32 (wrap32 x - wrap32 y) = wrap32 (x - y) := by
  obtain ⟨k, hk⟩ := wrap_of x
  obtain ⟨m, hm⟩ := wrap_of y
  rw [hk, hm, show x + 4294967296 * k - (y + 4294967296 * m) = x - y + 4294967296 * (k - m) by omega, wrap_more]
theorem wmul (x y : Int) : wrap32 (wrap32 x * wrap32 y) = wrap32 (x * y) := by
  obtain ⟨k, hk⟩ := wrap_of x
  obtain ⟨m, hm⟩ := wrap_of y
  have e : (x + 4294967296 * k) * (y + 4294967296 * m) = x * y + 4294967296 * (x * m + k * y + 4294967296 * (k * m)) := by
    rw [Int.add_mul, Int.mul_add, Int.mul_add, Int.mul_add, Int.mul_add]
    rw [show x * (4294967296 * m) = 4294967296 * (x * m) by rw [← Int.mul_assoc, Int.mul_comm x, Int.mul_assoc], show 4294967296 * k * y = 4294967296 * (k * y) by rw [Int.mul_assoc],
      show 4294967296 * k * (4294967296 * m) = 4294967296 * (4294967296 * (k * m)) by rw [Int.mul_assoc, show k * (4294967296 * m) = 4294967296 * (k * m) by rw [← Int.mul_assoc, Int.mul_comm k, Int.mul_assoc]]]
    omega
  rw [hk, hm, e, wrap_more]
theorem wadd_l (x y : Int) : wrap32 (wrap32 x + y) = wrap32 (x + y) := by rw [← wadd, w32_32, wadd]
theorem wadd_r (x y : Int) : wrap32 (x + wrap32 y) = wrap32 (x + y) := by rw [← wadd, w32_32, wadd]
theorem wsub_r (x y : Int) : wrap32 (x - wrap32 y) = wrap32 (x - y) := by rw [← wsub, w32_32, wsub]
theorem wmul_l (x y : Int) : wrap32 (wrap32 x * y) = wrap32 (x * y) := by rw [← wmul, w32_32, wmul]
theorem wmul_r (x y : Int) : wrap32 (x * wrap32 y) = wrap32 (x * y) := by rw [← wmul, w32_32, wmul]

theorem Do_add_v (a b v : Int) (h : wrap32 (a + b) = v) (w : World) : Calls Tryd.prog 13 #[.string ⟨#[43]⟩, .int .i64 a, .int .i64 b] w fun e w' => e = .returned (.tuple #[.int .i64 v, .int .i64 0]) ∧ Below w.heap.size w w' := by
  rw [← h, ← wadd]; exact Do_add a b w
theorem Do_mul_v (a b v : Int) (h : wrap32 (a * b) = v) (w : World) : Calls Tryd.prog 13 #[.string ⟨#[42]⟩, .int .i64 a, .int .i64 b] w fun e w' => e = .returned (.tuple #[.int .i64 v, .int .i64 0]) ∧ Below w.heap.size w w' := by
  rw [← h, ← wmul]; exact Do_mul a b w
theorem Neg_v (a v : Int) (h : wrap32 (0 - a) = v) (w : World) : Calls Tryd.prog 19 #[.int .i64 a] w fun e w' => e = .returned (.int .i64 v) ∧ Below w.heap.size w w' := by
  rw [← h, ← wsub]; exact Neg_any a w
theorem Wrap_v (a v : Int) (h : wrap32 a = v) (w : World) : Calls Tryd.prog 17 #[.int .i64 a] w fun e w' => e = .returned (.int .i64 v) ∧ w = w' := by
  rw [← h]; exact Wrap_any a w
theorem w32_0 : wrap32 0 = 0 := by decide +kernel

set_option maxRecDepth 100000 in
set_option maxHeartbeats 8000000 in
theorem Ring_any (a b c : Int) (w : World) (hp : Pow w) : Calls Tryd.prog 5 #[.int .i64 a, .int .i64 b, .int .i64 c] w fun e w' => e = .returned (.bool true) ∧ Below w.heap.size w w' := by
  obtain ⟨ab, h1⟩ : ∃ v, Hid (wrap32 (a + b) = v) := ⟨_, rfl⟩
  obtain ⟨bc, h2⟩ : ∃ v, Hid (wrap32 (b + c) = v) := ⟨_, rfl⟩
  obtain ⟨lr, h3⟩ : ∃ v, Hid (wrap32 (a + b + c) = v) := ⟨_, rfl⟩
  obtain ⟨pq, h4⟩ : ∃ v, Hid (wrap32 (a * b) = v) := ⟨_, rfl⟩
  obtain ⟨r, h5⟩ : ∃ v, Hid (wrap32 (b * c) = v) := ⟨_, rfl⟩
  obtain ⟨pp, h6⟩ : ∃ v, Hid (wrap32 (a * b * c) = v) := ⟨_, rfl⟩
  obtain ⟨ac, h7⟩ : ∃ v, Hid (wrap32 (a * c) = v) := ⟨_, rfl⟩
  obtain ⟨sw, h8⟩ : ∃ v, Hid (wrap32 (a * (b + c)) = v) := ⟨_, rfl⟩
  obtain ⟨na, h9⟩ : ∃ v, Hid (wrap32 (0 - a) = v) := ⟨_, rfl⟩
  obtain ⟨wa, h10⟩ : ∃ v, Hid (wrap32 a = v) := ⟨_, rfl⟩
  go_enter Tryd.func5, Tryd.ntmps5
  go_wp2_with fail
  refine (awake_any _ hp).mono ?_
  rintro e w1 ⟨rfl, hb⟩
  go_wp2_with fail
  refine (Do_add_v a b ab h1.out _).mono ?_
  rintro e w2 ⟨rfl, q2⟩
  have hb2 := hb.trans (q2.mono hb.size)
  clear hb q2
  go_wp2_with fail
  refine (Do_add_v b a ab (by rw [Int.add_comm]; exact h1.out) _).mono ?_
  rintro e w3 ⟨rfl, q3⟩
  have hb3 := hb2.trans (q3.mono hb2.size)
  clear hb2 q3
  go_wp2_with fail
  refine (Do_add_v b c bc h2.out _).mono ?_
  rintro e w4 ⟨rfl, q4⟩
  have hb4 := hb3.trans (q4.mono hb3.size)
  clear hb3 q4
  go_wp2_with fail
  refine (Do_add_v ab c lr (by rw [← h1.out, wadd_l]; exact h3.out) _).mono ?_
  rintro e w5 ⟨rfl, q5⟩
  have hb5 := hb4.trans (q5.mono hb4.size)
  clear hb4 q5
  go_wp2_with fail
  refine (Do_add_v a bc lr (by rw [← h2.out, wadd_r, ← Int.add_assoc]; exact h3.out) _).mono ?_
  rintro e w6 ⟨rfl, q6⟩
  have hb6 := hb5.trans (q6.mono hb5.size)
  clear hb5 q6
  go_wp2_with fail
  refine (Do_mul_v a b pq h4.out _).mono ?_
  rintro e w7 ⟨rfl, q7⟩
  have hb7 := hb6.trans (q7.mono hb6.size)
  clear hb6 q7
  go_wp2_with fail
  refine (Do_mul_v b a pq (by rw [Int.mul_comm]; exact h4.out) _).mono ?_
  rintro e w8 ⟨rfl, q8⟩
  have hb8 := hb7.trans (q8.mono hb7.size)
  clear hb7 q8
  go_wp2_with fail
  refine (Do_mul_v b c r h5.out _).mono ?_
  rintro e w9 ⟨rfl, q9⟩
  have hb9 := hb8.trans (q9.mono hb8.size)
  clear hb8 q9
  go_wp2_with fail
  refine (Do_mul_v pq c pp (by rw [← h4.out, wmul_l]; exact h6.out) _).mono ?_
  rintro e w10 ⟨rfl, q10⟩
  have hb10 := hb9.trans (q10.mono hb9.size)
  clear hb9 q10
  go_wp2_with fail
  refine (Do_mul_v a r pp (by rw [← h5.out, wmul_r, ← Int.mul_assoc]; exact h6.out) _).mono ?_
  rintro e w11 ⟨rfl, q11⟩
  have hb11 := hb10.trans (q11.mono hb10.size)
  clear hb10 q11
  go_wp2_with fail
  refine (Do_mul_v a c ac h7.out _).mono ?_
  rintro e w12 ⟨rfl, q12⟩
  have hb12 := hb11.trans (q12.mono hb11.size)
  clear hb11 q12
  go_wp2_with fail
  refine (Do_add_v pq ac sw (by rw [← h4.out, ← h7.out, wadd, ← Int.mul_add]; exact h8.out) _).mono ?_
  rintro e w13 ⟨rfl, q13⟩
  have hb13 := hb12.trans (q13.mono hb12.size)
  clear hb12 q13
  go_wp2_with fail
  refine (Do_mul_v a bc sw (by rw [← h2.out, wmul_r]; exact h8.out) _).mono ?_
  rintro e w14 ⟨rfl, q14⟩
  have hb14 := hb13.trans (q14.mono hb13.size)
  clear hb13 q14
  go_wp2_with fail
  refine (Neg_v a na h9.out _).mono ?_
  rintro e w15 ⟨rfl, q15⟩
  have hb15 := hb14.trans (q15.mono hb14.size)
  clear hb14 q15
  go_wp2_with fail
  refine (Do_add_v a na 0 (by rw [← h9.out, wadd_r, show a + (0 - a) = 0 by omega]; exact w32_0) _).mono ?_
  rintro e w16 ⟨rfl, q16⟩
  have hb16 := hb15.trans (q16.mono hb15.size)
  clear hb15 q16
  go_wp2_with fail
  refine (Neg_v a na h9.out _).mono ?_
  rintro e w17 ⟨rfl, q17⟩
  have hb17 := hb16.trans (q17.mono hb16.size)
  clear hb16 q17
  go_wp2_with fail
  refine (Neg_v na wa (by rw [← h9.out, wsub_r, show 0 - (0 - a) = a by omega]; exact h10.out) _).mono ?_
  rintro e w18 ⟨rfl, q18⟩
  have hb18 := hb17.trans (q18.mono hb17.size)
  clear hb17 q18
  go_wp2_with fail
  refine (Wrap_v a wa h10.out _).mono ?_
  rintro e w19 ⟨rfl, rfl⟩
  go_wp2
  go_ret
  exact ⟨rfl, hb18⟩
end Go.Proofs.YtpaknaaainhgfaaDoor
