/-
  For the laws of arith: the document's own answers: its Wrap, its Do and its Test. Condition: the numbers are int64.
-/
import Derived.Test.YtpaknaaainhgfaaDoorQuot
namespace Go.Proofs.YtpaknaaainhgfaaDoor
open Go.RowKit Go.Maps Go.WideMaps

theorem tmod_range (a : Int) : -4294967296 < a.tmod 4294967296 ∧ a.tmod 4294967296 < 4294967296 ∧ ∃ k, a = 4294967296 * k + a.tmod 4294967296 := by
  have h1 := Int.natAbs_tmod a 4294967296
  have h2 := Nat.mod_lt a.natAbs (show 0 < (4294967296 : Int).natAbs by decide)
  have h3 := Int.mul_tdiv_add_tmod a 4294967296
  have h4 : (4294967296 : Int).natAbs = 4294967296 := rfl
  rw [h4] at h1 h2
  exact ⟨by omega, by omega, a.tdiv 4294967296, h3.symm⟩
theorem ret_i64 {a b : Int} (h : a = b) : Ending.returned (.int .i64 a) = .returned (.int .i64 b) := by rw [h]

/-- The four ways of the document's Wrap. -/
theorem way1 {a k m : Int} (t : a = 4294967296 * k + m) (t1 : -4294967296 < m) (h1 : m < 0) (h2 : 2147483648 ≤ wrap64 (m + 4294967296)) : wrap64 (wrap64 (m + 4294967296) - 4294967296) = wrap32 a := by
  unfold wrap64 at *; unfold wrap32; omega
theorem way2 {a k m : Int} (t : a = 4294967296 * k + m) (t1 : -4294967296 < m) (h1 : m < 0) (h2 : wrap64 (m + 4294967296) < 2147483648) : wrap64 (m + 4294967296) = wrap32 a := by
  unfold wrap64 at *; unfold wrap32; omega
theorem way3 {a k m : Int} (t : a = 4294967296 * k + m) (t2 : m < 4294967296) (h2 : 2147483648 ≤ m) : wrap64 (m - 4294967296) = wrap32 a := by
  unfold wrap64 at *; unfold wrap32; omega
theorem way4 {a k m : Int} (t : a = 4294967296 * k + m) (h1 : 0 ≤ m) (h2 : m < 2147483648) : m = wrap32 a := by
  unfold wrap32; omega

set_option maxHeartbeats 2000000 in
theorem RefWrap_any (a : Int) (w : World) : Calls Tryd.prog 18 #[.int .i64 a] w fun e w' => e = .returned (.int .i64 (wrap32 a)) ∧ w = w' := by
  have ht := tmod_range a
  have Ht := Lib.hid ht; clear ht
  go_enter Tryd.func18, Tryd.ntmps18
  go_wp2
  all_goals go_ret
  all_goals obtain ⟨t1, t2, k, t3⟩ := Ht.out
  all_goals first
    | exact ⟨ret_i64 (way1 t3 t1 ‹_› ‹_›), rfl⟩
    | exact ⟨ret_i64 (way2 t3 t1 ‹_› ‹_›), rfl⟩
    | exact ⟨ret_i64 (way3 t3 t2 ‹_›), rfl⟩
    | exact ⟨ret_i64 (way4 t3 ‹_› ‹_›), rfl⟩
theorem RefWrap_v (a v : Int) (h : wrap32 a = v) (w : World) : Calls Tryd.prog 18 #[.int .i64 a] w fun e w' => e = .returned (.int .i64 v) ∧ w = w' := by
  rw [← h]; exact RefWrap_any a w

theorem mul_range {x y : Int} (hx : -2147483648 ≤ x ∧ x ≤ 2147483647) (hy : -2147483648 ≤ y ∧ y ≤ 2147483647) : -4611686018427387904 ≤ x * y ∧ x * y ≤ 4611686018427387904 := by
  have h1 := Int.natAbs_mul x y
  have h2 : x.natAbs * y.natAbs ≤ 2147483648 * 2147483648 := Nat.mul_le_mul (by omega) (by omega)
  omega
theorem div_range {x y : Int} (hx : -2147483648 ≤ x ∧ x ≤ 2147483647) : -2147483648 ≤ x.tdiv y ∧ x.tdiv y ≤ 2147483648 := by
  have h1 : (x.tdiv y).natAbs = x.natAbs / y.natAbs := Int.natAbs_tdiv x y
  have h2 := Nat.div_le_self x.natAbs y.natAbs
  omega

set_option maxRecDepth 100000 in
set_option maxHeartbeats 2000000 in
theorem RefDo_add (a b : Int) (w : World) :
    Calls Tryd.prog 14 #[.string ⟨#[43]⟩, .int .i64 a, .int .i64 b] w fun e w' => e = .returned (.tuple #[.int .i64 (wrap32 (a + b)), .int .i64 0]) ∧ w = w' := by
  rw [← wadd]
  have ra := w32_range a
  have rb := w32_range b
  obtain ⟨x, hx⟩ : ∃ v, Hid (wrap32 a = v) := ⟨_, rfl⟩
  obtain ⟨y, hy⟩ : ∃ v, Hid (wrap32 b = v) := ⟨_, rfl⟩
  rw [hx.out] at ra ⊢
  rw [hy.out] at rb ⊢
  go_enter Tryd.func14, Tryd.ntmps14
  go_wp2_with fail
  refine (RefWrap_v a x hx.out _).mono ?_
  rintro e w2 ⟨rfl, rfl⟩
  go_wp2_with fail
  refine (RefWrap_v b y hy.out _).mono ?_
  rintro e w2 ⟨rfl, rfl⟩
  go_wp2_with fail
  refine (RefWrap_any (x + y) _).mono ?_
  rintro e w2 ⟨rfl, rfl⟩
  go_wp2
  go_ret2
  exact ⟨rfl, rfl⟩

set_option maxRecDepth 100000 in
set_option maxHeartbeats 2000000 in
theorem RefDo_sub (a b : Int) (w : World) :
    Calls Tryd.prog 14 #[.string ⟨#[45]⟩, .int .i64 a, .int .i64 b] w fun e w' => e = .returned (.tuple #[.int .i64 (wrap32 (a - b)), .int .i64 0]) ∧ w = w' := by
  rw [← wsub]
  have ra := w32_range a
  have rb := w32_range b
  obtain ⟨x, hx⟩ : ∃ v, Hid (wrap32 a = v) := ⟨_, rfl⟩
  obtain ⟨y, hy⟩ : ∃ v, Hid (wrap32 b = v) := ⟨_, rfl⟩
  rw [hx.out] at ra ⊢
  rw [hy.out] at rb ⊢
  go_enter Tryd.func14, Tryd.ntmps14
  go_wp2_with fail
  refine (RefWrap_v a x hx.out _).mono ?_
  rintro e w2 ⟨rfl, rfl⟩
  go_wp2_with fail
  refine (RefWrap_v b y hy.out _).mono ?_
  rintro e w2 ⟨rfl, rfl⟩
  go_wp2_with fail
  refine (RefWrap_any (x - y) _).mono ?_
  rintro e w2 ⟨rfl, rfl⟩
  go_wp2
  go_ret2
  exact ⟨rfl, rfl⟩

set_option maxRecDepth 100000 in
set_option maxHeartbeats 2000000 in
theorem RefDo_mul (a b : Int) (w : World) :
    Calls Tryd.prog 14 #[.string ⟨#[42]⟩, .int .i64 a, .int .i64 b] w fun e w' => e = .returned (.tuple #[.int .i64 (wrap32 (a * b)), .int .i64 0]) ∧ w = w' := by
  rw [← wmul]
  have ra := w32_range a
  have rb := w32_range b
  obtain ⟨x, hx⟩ : ∃ v, Hid (wrap32 a = v) := ⟨_, rfl⟩
  obtain ⟨y, hy⟩ : ∃ v, Hid (wrap32 b = v) := ⟨_, rfl⟩
  rw [hx.out] at ra ⊢
  rw [hy.out] at rb ⊢
  have rm := mul_range ra rb
  go_enter Tryd.func14, Tryd.ntmps14
  go_wp2_with fail
  refine (RefWrap_v a x hx.out _).mono ?_
  rintro e w2 ⟨rfl, rfl⟩
  go_wp2_with fail
  refine (RefWrap_v b y hy.out _).mono ?_
  rintro e w2 ⟨rfl, rfl⟩
  go_wp2_with fail
  refine (RefWrap_any (x * y) _).mono ?_
  rintro e w2 ⟨rfl, rfl⟩
  go_wp2
  go_ret2
  exact ⟨rfl, rfl⟩

set_option maxRecDepth 100000 in
set_option maxHeartbeats 2000000 in
theorem RefDo_quo_zero (a b : Int) (h0 : wrap32 b = 0) (w : World) :
    Calls Tryd.prog 14 #[.string ⟨#[47]⟩, .int .i64 a, .int .i64 b] w fun e w' => e = .returned (.tuple #[.int .i64 0, .int .i64 221]) ∧ w = w' := by
  have H0 := Lib.hid h0; clear h0
  go_enter Tryd.func14, Tryd.ntmps14
  go_wp2_with fail
  refine (RefWrap_any a _).mono ?_
  rintro e w2 ⟨rfl, rfl⟩
  go_wp2_with fail
  refine (RefWrap_v b 0 H0.out _).mono ?_
  rintro e w2 ⟨rfl, rfl⟩
  go_wp2
  go_ret2
  exact ⟨rfl, rfl⟩

set_option maxRecDepth 100000 in
set_option maxHeartbeats 2000000 in
theorem RefDo_quo (a b : Int) (h0 : ¬ wrap32 b = 0) (w : World) :
    Calls Tryd.prog 14 #[.string ⟨#[47]⟩, .int .i64 a, .int .i64 b] w fun e w' => e = .returned (.tuple #[.int .i64 (wrap32 ((wrap32 a).tdiv (wrap32 b))), .int .i64 0]) ∧ w = w' := by
  have ra := w32_range a
  have rd := div_range (y := wrap32 b) ra
  have hrem := Int.mul_tdiv_add_tmod (wrap32 a) (wrap32 b)
  have rt := w64_tmod a b
  obtain ⟨x, hx⟩ : ∃ v, Hid (wrap32 a = v) := ⟨_, rfl⟩
  obtain ⟨y, hy⟩ : ∃ v, Hid (wrap32 b = v) := ⟨_, rfl⟩
  rw [hx.out] at ra rd hrem rt ⊢
  rw [hy.out] at rd hrem rt h0 ⊢
  have hy0 : (y == 0) = false := by simpa using h0
  clear hrem rt
  have hq : wrap64 (x.tdiv y) = x.tdiv y := by unfold wrap64; omega
  have Hq := Lib.hid hq; clear hq
  go_enter Tryd.func14, Tryd.ntmps14
  go_wp2_with fail
  refine (RefWrap_v a x hx.out _).mono ?_
  rintro e w2 ⟨rfl, rfl⟩
  go_wp2_with fail
  refine (RefWrap_v b y hy.out _).mono ?_
  rintro e w2 ⟨rfl, rfl⟩
  go_wp2_with fail
  refine (RefWrap_any (x.tdiv y) _).mono ?_
  rintro e w2 ⟨rfl, rfl⟩
  go_wp2
  go_ret2
  exact ⟨rfl, rfl⟩

set_option maxRecDepth 100000 in
set_option maxHeartbeats 2000000 in
theorem RefDo_rem_zero (a b : Int) (h0 : wrap32 b = 0) (w : World) :
    Calls Tryd.prog 14 #[.string ⟨#[37]⟩, .int .i64 a, .int .i64 b] w fun e w' => e = .returned (.tuple #[.int .i64 0, .int .i64 221]) ∧ w = w' := by
  have H0 := Lib.hid h0; clear h0
  go_enter Tryd.func14, Tryd.ntmps14
  go_wp2_with fail
  refine (RefWrap_any a _).mono ?_
  rintro e w2 ⟨rfl, rfl⟩
  go_wp2_with fail
  refine (RefWrap_v b 0 H0.out _).mono ?_
  rintro e w2 ⟨rfl, rfl⟩
  go_wp2
  go_ret2
  exact ⟨rfl, rfl⟩

set_option maxRecDepth 100000 in
set_option maxHeartbeats 2000000 in
theorem RefDo_rem (a b : Int) (h0 : ¬ wrap32 b = 0) (w : World) :
    Calls Tryd.prog 14 #[.string ⟨#[37]⟩, .int .i64 a, .int .i64 b] w fun e w' => e = .returned (.tuple #[.int .i64 ((wrap32 a).tmod (wrap32 b)), .int .i64 0]) ∧ w = w' := by
  have ra := w32_range a
  have rd := div_range (y := wrap32 b) ra
  have hrem := Int.mul_tdiv_add_tmod (wrap32 a) (wrap32 b)
  have rt := w64_tmod a b
  obtain ⟨x, hx⟩ : ∃ v, Hid (wrap32 a = v) := ⟨_, rfl⟩
  obtain ⟨y, hy⟩ : ∃ v, Hid (wrap32 b = v) := ⟨_, rfl⟩
  rw [hx.out] at ra rd hrem rt ⊢
  rw [hy.out] at rd hrem rt h0 ⊢
  have hy0 : (y == 0) = false := by simpa using h0
  have hq : wrap64 (x.tdiv y) = x.tdiv y := by unfold wrap64; omega
  have hs : x - y * x.tdiv y = x.tmod y := by omega
  have hf : wrap64 (x - wrap64 (y * x.tdiv y)) = x.tmod y := by
    rw [← rt, ← hs]
    unfold wrap64
    omega
  clear hrem rt hs
  have Hf := Lib.hid hf; clear hf
  have Hq := Lib.hid hq; clear hq
  go_enter Tryd.func14, Tryd.ntmps14
  go_wp2_with fail
  refine (RefWrap_v a x hx.out _).mono ?_
  rintro e w2 ⟨rfl, rfl⟩
  go_wp2_with fail
  refine (RefWrap_v b y hy.out _).mono ?_
  rintro e w2 ⟨rfl, rfl⟩
  go_wp2
  go_ret2
  refine ⟨?_, rfl⟩
  rw [← Hf.out]
  rfl

end Go.Proofs.YtpaknaaainhgfaaDoor
