/-
  For the laws of arith: Do, at each operator, and what is told of numbers by a comparison. No condition.
-/
import Derived.Test.YtpaknaaainhgfaaDoorOps
namespace Go.Proofs.YtpaknaaainhgfaaDoor
open Go.RowKit Go.Maps Go.WideMaps

theorem fnR_inv {v : Value} {n : Nat} {ps : List MemPlace} (h : fnR v = some (.lit (.int .i64 n), ps)) : v = .func (.func n) #[] #[] := by
  unfold fnR at h
  split at h
  · simp at h
  · rename_i m
    simp only [Option.some.injEq, Prod.mk.injEq, DataW.lit.injEq, Lit.int.injEq, true_and] at h
    have : m = n := Int.ofNat.inj h.1
    subst this
    rfl
  · simp at h

theorem zero72 (w : World) : (zeroValue 72).run Tryd.prog w = .ok .nilFunc w := by kernel_rfl

/-- The look-up of a name in the table. -/
theorem look {w : World} {b : Nat} (h : w.ownsMap Tryd.prog 9 fnR b 5 tabD) (s : ByteArray) (hs : s.size ≤ maxLen) :
    ∃ v ps, (Instr.lookup 74 (.map (some b)) (.string s) true).run Tryd.prog w = .ok (.tuple #[v, .bool (Maps.has tabD (.string s.data.toList))]) w ∧ fnR v = some (tabD.atKey (.string s.data.toList) (.lit (.int .i64 (-1))), ps) :=
  h.look_ok (Maps.string_keyed Tryd.underlying9) Tryd.underlying74 (zero72 w) rfl (keyOf_string_mk Tryd.underlying9 hs)

theorem w64_32 (x : Int) : wrap64 (wrap32 x) = wrap32 x := by unfold wrap64 wrap32; omega
theorem w64_tmod (x y : Int) : wrap64 ((wrap32 x).tmod (wrap32 y)) = (wrap32 x).tmod (wrap32 y) := by
  have h1 : -2147483648 ≤ wrap32 x ∧ wrap32 x ≤ 2147483647 := by unfold wrap32; omega
  have h2 := Int.natAbs_tmod (wrap32 x) (wrap32 y)
  have h3 := Nat.mod_le (wrap32 x).natAbs (wrap32 y).natAbs
  unfold wrap64; omega
theorem w32_32 (x : Int) : wrap32 (wrap32 x) = wrap32 x := by unfold wrap32; omega

theorem look_add {w : World} {b : Nat} (h : w.ownsMap Tryd.prog 9 fnR b 5 tabD) : (Instr.lookup 74 (.map (some b)) (.string ⟨#[43]⟩) true).run Tryd.prog w = .ok (.tuple #[.func (.func 47) #[] #[], .bool true]) w := by
  obtain ⟨v, ps, h1, h2⟩ := look h ⟨#[43]⟩ (by unfold maxLen; decide)
  rw [show tabD.atKey (.string (⟨#[43]⟩ : ByteArray).data.toList) (.lit (.int .i64 (-1))) = .lit (.int .i64 (47 : Nat)) from rfl] at h2
  rw [fnR_inv h2] at h1
  exact h1
theorem look_sub {w : World} {b : Nat} (h : w.ownsMap Tryd.prog 9 fnR b 5 tabD) : (Instr.lookup 74 (.map (some b)) (.string ⟨#[45]⟩) true).run Tryd.prog w = .ok (.tuple #[.func (.func 48) #[] #[], .bool true]) w := by
  obtain ⟨v, ps, h1, h2⟩ := look h ⟨#[45]⟩ (by unfold maxLen; decide)
  rw [show tabD.atKey (.string (⟨#[45]⟩ : ByteArray).data.toList) (.lit (.int .i64 (-1))) = .lit (.int .i64 (48 : Nat)) from rfl] at h2
  rw [fnR_inv h2] at h1
  exact h1
theorem look_mul {w : World} {b : Nat} (h : w.ownsMap Tryd.prog 9 fnR b 5 tabD) : (Instr.lookup 74 (.map (some b)) (.string ⟨#[42]⟩) true).run Tryd.prog w = .ok (.tuple #[.func (.func 49) #[] #[], .bool true]) w := by
  obtain ⟨v, ps, h1, h2⟩ := look h ⟨#[42]⟩ (by unfold maxLen; decide)
  rw [show tabD.atKey (.string (⟨#[42]⟩ : ByteArray).data.toList) (.lit (.int .i64 (-1))) = .lit (.int .i64 (49 : Nat)) from rfl] at h2
  rw [fnR_inv h2] at h1
  exact h1
theorem look_quo {w : World} {b : Nat} (h : w.ownsMap Tryd.prog 9 fnR b 5 tabD) : (Instr.lookup 74 (.map (some b)) (.string ⟨#[47]⟩) true).run Tryd.prog w = .ok (.tuple #[.func (.func 50) #[] #[], .bool true]) w := by
  obtain ⟨v, ps, h1, h2⟩ := look h ⟨#[47]⟩ (by unfold maxLen; decide)
  rw [show tabD.atKey (.string (⟨#[47]⟩ : ByteArray).data.toList) (.lit (.int .i64 (-1))) = .lit (.int .i64 (50 : Nat)) from rfl] at h2
  rw [fnR_inv h2] at h1
  exact h1
theorem look_rem {w : World} {b : Nat} (h : w.ownsMap Tryd.prog 9 fnR b 5 tabD) : (Instr.lookup 74 (.map (some b)) (.string ⟨#[37]⟩) true).run Tryd.prog w = .ok (.tuple #[.func (.func 51) #[] #[], .bool true]) w := by
  obtain ⟨v, ps, h1, h2⟩ := look h ⟨#[37]⟩ (by unfold maxLen; decide)
  rw [show tabD.atKey (.string (⟨#[37]⟩ : ByteArray).data.toList) (.lit (.int .i64 (-1))) = .lit (.int .i64 (51 : Nat)) from rfl] at h2
  rw [fnR_inv h2] at h1
  exact h1

set_option maxRecDepth 100000 in
set_option maxHeartbeats 1000000 in
theorem Do_add (a b : Int) (w : World) : Calls Tryd.prog 13 #[.string ⟨#[43]⟩, .int .i64 a, .int .i64 b] w fun e w' => e = .returned (.tuple #[.int .i64 (wrap32 (wrap32 a + wrap32 b)), .int .i64 0]) ∧ Below w.heap.size w w' := by
  rw [← w64_32]
  go_enter Tryd.func13, Tryd.ntmps13
  go_wp2_with fail
  refine (ops_any _).mono ?_
  rintro e w1 ⟨m, rfl, hm, hb⟩
  have hl := look_add hm
  go_wp2
  go_ret2
  exact ⟨rfl, hb⟩

set_option maxRecDepth 100000 in
set_option maxHeartbeats 1000000 in
theorem Do_sub (a b : Int) (w : World) : Calls Tryd.prog 13 #[.string ⟨#[45]⟩, .int .i64 a, .int .i64 b] w fun e w' => e = .returned (.tuple #[.int .i64 (wrap32 (wrap32 a - wrap32 b)), .int .i64 0]) ∧ Below w.heap.size w w' := by
  rw [← w64_32]
  go_enter Tryd.func13, Tryd.ntmps13
  go_wp2_with fail
  refine (ops_any _).mono ?_
  rintro e w1 ⟨m, rfl, hm, hb⟩
  have hl := look_sub hm
  go_wp2
  go_ret2
  exact ⟨rfl, hb⟩

set_option maxRecDepth 100000 in
set_option maxHeartbeats 1000000 in
theorem Do_mul (a b : Int) (w : World) : Calls Tryd.prog 13 #[.string ⟨#[42]⟩, .int .i64 a, .int .i64 b] w fun e w' => e = .returned (.tuple #[.int .i64 (wrap32 (wrap32 a * wrap32 b)), .int .i64 0]) ∧ Below w.heap.size w w' := by
  rw [← w64_32]
  go_enter Tryd.func13, Tryd.ntmps13
  go_wp2_with fail
  refine (ops_any _).mono ?_
  rintro e w1 ⟨m, rfl, hm, hb⟩
  have hl := look_mul hm
  go_wp2
  go_ret2
  exact ⟨rfl, hb⟩

set_option maxRecDepth 100000 in
set_option maxHeartbeats 1000000 in
theorem Do_quo_zero (a b : Int) (w : World) (h0 : wrap32 b = 0) : Calls Tryd.prog 13 #[.string ⟨#[47]⟩, .int .i64 a, .int .i64 b] w fun e w' => e = .returned (.tuple #[.int .i64 0, .int .i64 221]) ∧ Below w.heap.size w w' := by
  go_enter Tryd.func13, Tryd.ntmps13
  go_wp2_with fail
  refine (ops_any _).mono ?_
  rintro e w1 ⟨m, rfl, hm, hb⟩
  have hl := look_quo hm
  go_wp2
  go_ret2
  exact ⟨rfl, hb⟩

set_option maxRecDepth 100000 in
set_option maxHeartbeats 1000000 in
theorem Do_quo (a b : Int) (w : World) (h0 : ¬ wrap32 b = 0) : Calls Tryd.prog 13 #[.string ⟨#[47]⟩, .int .i64 a, .int .i64 b] w fun e w' => e = .returned (.tuple #[.int .i64 (wrap32 ((wrap32 a).tdiv (wrap32 b))), .int .i64 0]) ∧ Below w.heap.size w w' := by
  have h1 : (wrap32 b == 0) = false := by simpa using h0
  rw [← w64_32]
  go_enter Tryd.func13, Tryd.ntmps13
  go_wp2_with fail
  refine (ops_any _).mono ?_
  rintro e w1 ⟨m, rfl, hm, hb⟩
  have hl := look_quo hm
  go_wp2
  go_ret2
  exact ⟨rfl, hb⟩

set_option maxRecDepth 100000 in
set_option maxHeartbeats 1000000 in
theorem Do_rem_zero (a b : Int) (w : World) (h0 : wrap32 b = 0) : Calls Tryd.prog 13 #[.string ⟨#[37]⟩, .int .i64 a, .int .i64 b] w fun e w' => e = .returned (.tuple #[.int .i64 0, .int .i64 221]) ∧ Below w.heap.size w w' := by
  go_enter Tryd.func13, Tryd.ntmps13
  go_wp2_with fail
  refine (ops_any _).mono ?_
  rintro e w1 ⟨m, rfl, hm, hb⟩
  have hl := look_rem hm
  go_wp2
  go_ret2
  exact ⟨rfl, hb⟩

set_option maxRecDepth 100000 in
set_option maxHeartbeats 1000000 in
theorem Do_rem (a b : Int) (w : World) (h0 : ¬ wrap32 b = 0) : Calls Tryd.prog 13 #[.string ⟨#[37]⟩, .int .i64 a, .int .i64 b] w fun e w' => e = .returned (.tuple #[.int .i64 ((wrap32 a).tmod (wrap32 b)), .int .i64 0]) ∧ Below w.heap.size w w' := by
  have h1 : (wrap32 b == 0) = false := by simpa using h0
  rw [← w64_tmod]
  go_enter Tryd.func13, Tryd.ntmps13
  go_wp2_with fail
  refine (ops_any _).mono ?_
  rintro e w1 ⟨m, rfl, hm, hb⟩
  have hl := look_rem hm
  go_wp2
  go_ret2
  exact ⟨rfl, hb⟩

set_option maxHeartbeats 1000000 in
theorem Wrap_any (a : Int) (w : World) : Calls Tryd.prog 17 #[.int .i64 a] w fun e w' => e = .returned (.int .i64 (wrap32 a)) ∧ w = w' := by
  rw [← w64_32]
  go_enter Tryd.func17, Tryd.ntmps17
  go_wp2
  go_ret
  exact ⟨rfl, rfl⟩

set_option maxHeartbeats 1000000 in
theorem Neg_any (a : Int) (w : World) : Calls Tryd.prog 19 #[.int .i64 a] w fun e w' => e = .returned (.int .i64 (wrap32 (wrap32 0 - wrap32 a))) ∧ Below w.heap.size w w' := by
  go_enter Tryd.func19, Tryd.ntmps19
  go_wp2_with fail
  refine (Do_sub 0 a _).mono ?_
  rintro e w1 ⟨rfl, hb⟩
  go_wp2
  go_ret
  exact ⟨rfl, hb⟩

set_option maxRecDepth 100000 in
set_option maxHeartbeats 1000000 in
theorem Test_lt (a b : Int) (w : World) : Calls Tryd.prog 15 #[.string ⟨#[60]⟩, .int .i64 a, .int .i64 b] w fun e w' => e = .returned (.tuple #[.bool (decide (wrap32 a < wrap32 b)), .bool true]) ∧ w = w' := by
  go_enter Tryd.func15, Tryd.ntmps15
  go_wp2_with (first | (go_at_call 17; refine (Wrap_any _ _).mono ?_; rintro e w' ⟨rfl, rfl⟩))
  go_ret2
  exact ⟨rfl, rfl⟩

set_option maxRecDepth 100000 in
set_option maxHeartbeats 1000000 in
theorem Test_le (a b : Int) (w : World) : Calls Tryd.prog 15 #[.string ⟨#[60, 61]⟩, .int .i64 a, .int .i64 b] w fun e w' => e = .returned (.tuple #[.bool (decide (wrap32 a ≤ wrap32 b)), .bool true]) ∧ w = w' := by
  go_enter Tryd.func15, Tryd.ntmps15
  go_wp2_with (first | (go_at_call 17; refine (Wrap_any _ _).mono ?_; rintro e w' ⟨rfl, rfl⟩))
  go_ret2
  exact ⟨rfl, rfl⟩

set_option maxRecDepth 100000 in
set_option maxHeartbeats 1000000 in
theorem Test_gt (a b : Int) (w : World) : Calls Tryd.prog 15 #[.string ⟨#[62]⟩, .int .i64 a, .int .i64 b] w fun e w' => e = .returned (.tuple #[.bool (decide (wrap32 b < wrap32 a)), .bool true]) ∧ w = w' := by
  go_enter Tryd.func15, Tryd.ntmps15
  go_wp2_with (first | (go_at_call 17; refine (Wrap_any _ _).mono ?_; rintro e w' ⟨rfl, rfl⟩))
  go_ret2
  exact ⟨rfl, rfl⟩

set_option maxRecDepth 100000 in
set_option maxHeartbeats 1000000 in
theorem Test_ge (a b : Int) (w : World) : Calls Tryd.prog 15 #[.string ⟨#[62, 61]⟩, .int .i64 a, .int .i64 b] w fun e w' => e = .returned (.tuple #[.bool (decide (wrap32 b ≤ wrap32 a)), .bool true]) ∧ w = w' := by
  go_enter Tryd.func15, Tryd.ntmps15
  go_wp2_with (first | (go_at_call 17; refine (Wrap_any _ _).mono ?_; rintro e w' ⟨rfl, rfl⟩))
  go_ret2
  exact ⟨rfl, rfl⟩

set_option maxRecDepth 100000 in
set_option maxHeartbeats 1000000 in
theorem Test_eq (a b : Int) (w : World) : Calls Tryd.prog 15 #[.string ⟨#[61, 61]⟩, .int .i64 a, .int .i64 b] w fun e w' => e = .returned (.tuple #[.bool (wrap32 a == wrap32 b), .bool true]) ∧ w = w' := by
  go_enter Tryd.func15, Tryd.ntmps15
  go_wp2_with (first | (go_at_call 17; refine (Wrap_any _ _).mono ?_; rintro e w' ⟨rfl, rfl⟩))
  go_ret2
  exact ⟨rfl, rfl⟩

set_option maxRecDepth 100000 in
set_option maxHeartbeats 1000000 in
theorem Test_ne (a b : Int) (w : World) : Calls Tryd.prog 15 #[.string ⟨#[33, 61]⟩, .int .i64 a, .int .i64 b] w fun e w' => e = .returned (.tuple #[.bool (wrap32 a != wrap32 b), .bool true]) ∧ w = w' := by
  go_enter Tryd.func15, Tryd.ntmps15
  go_wp2_with (first | (go_at_call 17; refine (Wrap_any _ _).mono ?_; rintro e w' ⟨rfl, rfl⟩))
  go_ret2
  exact ⟨rfl, rfl⟩
end Go.Proofs.YtpaknaaainhgfaaDoor
