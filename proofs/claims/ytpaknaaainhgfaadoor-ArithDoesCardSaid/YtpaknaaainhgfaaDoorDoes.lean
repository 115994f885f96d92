/-
  For the laws of arith: ArithDoes returns true for every text and all numbers. Condition: the table of the powers of ten holds them.
-/
import Derived.Test.YtpaknaaainhgfaaDoorRef
namespace Go.Proofs.YtpaknaaainhgfaaDoor
open Go.RowKit Go.Maps Go.WideMaps

/-- None of the five operators. -/
def NoOp (l : List UInt8) : Prop := l ≠ [43] ∧ l ≠ [45] ∧ l ≠ [42] ∧ l ≠ [47] ∧ l ≠ [37]
/-- None of the six comparisons. -/
def NoTest (l : List UInt8) : Prop := l ≠ [60] ∧ l ≠ [60, 61] ∧ l ≠ [62] ∧ l ≠ [62, 61] ∧ l ≠ [61, 61] ∧ l ≠ [33, 61]

theorem has_none {l : List UInt8} (h : NoOp l) : Maps.has tabD (.string l) = false := by
  obtain ⟨h1, h2, h3, h4, h5⟩ := h
  have e : tabD = .map [(.string [37], .lit (.int .i64 51)), (.string [42], .lit (.int .i64 49)), (.string [43], .lit (.int .i64 47)), (.string [45], .lit (.int .i64 48)), (.string [47], .lit (.int .i64 50))] := rfl
  rw [e]
  simp [Maps.has, Lit.sameKey, Ne.symm h1, Ne.symm h2, Ne.symm h3, Ne.symm h4, Ne.symm h5]

theorem bne_list {s : ByteArray} {l : List UInt8} (h : s.data.toList ≠ l) : (s.toList == l) = false := by
  rw [Lib.toList_data]; simpa using h

set_option maxRecDepth 100000 in
set_option maxHeartbeats 1000000 in
theorem Do_none (s : ByteArray) (hs : s.size ≤ maxLen) (h : NoOp s.data.toList) (a b : Int) (w : World) : Calls Tryd.prog 13 #[.string s, .int .i64 a, .int .i64 b] w fun e w' => e = .returned (.tuple #[.int .i64 0, .int .i64 1]) ∧ Below w.heap.size w w' := by
  have Hh := Lib.hid h; clear h
  go_enter Tryd.func13, Tryd.ntmps13
  go_wp2_with fail
  refine (ops_any _).mono ?_
  rintro e w1 ⟨m, rfl, hm, hb⟩
  obtain ⟨v, ps, hl, -⟩ := look hm s hs
  rw [has_none Hh.out] at hl
  go_wp2
  go_ret2
  exact ⟨rfl, hb⟩

set_option maxRecDepth 100000 in
set_option maxHeartbeats 1000000 in
theorem RefDo_none (s : ByteArray) (h : NoOp s.data.toList) (a b : Int) (w : World) : Calls Tryd.prog 14 #[.string s, .int .i64 a, .int .i64 b] w fun e w' => e = .returned (.tuple #[.int .i64 0, .int .i64 1]) ∧ w = w' := by
  obtain ⟨h0, h1, h2, h3, h4⟩ := h
  have n0 := bne_list h0
  have n1 := bne_list h1
  have n2 := bne_list h2
  have n3 := bne_list h3
  have n4 := bne_list h4
  clear h0 h1 h2 h3 h4
  go_enter Tryd.func14, Tryd.ntmps14
  go_wp2_with fail
  refine (RefWrap_any a _).mono ?_
  rintro e w2 ⟨rfl, rfl⟩
  go_wp2_with fail
  refine (RefWrap_any b _).mono ?_
  rintro e w2 ⟨rfl, rfl⟩
  go_wp2
  go_ret2
  exact ⟨rfl, rfl⟩

set_option maxRecDepth 100000 in
set_option maxHeartbeats 1000000 in
theorem Test_none (s : ByteArray) (h : NoTest s.data.toList) (a b : Int) (w : World) : Calls Tryd.prog 15 #[.string s, .int .i64 a, .int .i64 b] w fun e w' => e = .returned (.tuple #[.bool false, .bool false]) ∧ w = w' := by
  obtain ⟨h0, h1, h2, h3, h4, h5⟩ := h
  have n0 := bne_list h0
  have n1 := bne_list h1
  have n2 := bne_list h2
  have n3 := bne_list h3
  have n4 := bne_list h4
  have n5 := bne_list h5
  clear h0 h1 h2 h3 h4 h5
  go_enter Tryd.func15, Tryd.ntmps15
  go_wp2_with (first | (go_at_call 17; refine (Wrap_any _ _).mono ?_; rintro e w' ⟨rfl, rfl⟩))
  go_ret2
  exact ⟨rfl, rfl⟩

set_option maxRecDepth 100000 in
set_option maxHeartbeats 1000000 in
theorem RefTest_none (s : ByteArray) (h : NoTest s.data.toList) (a b : Int) (w : World) : Calls Tryd.prog 16 #[.string s, .int .i64 a, .int .i64 b] w fun e w' => e = .returned (.tuple #[.bool false, .bool false]) ∧ w = w' := by
  obtain ⟨h0, h1, h2, h3, h4, h5⟩ := h
  have n0 := bne_list h0
  have n1 := bne_list h1
  have n2 := bne_list h2
  have n3 := bne_list h3
  have n4 := bne_list h4
  have n5 := bne_list h5
  clear h0 h1 h2 h3 h4 h5
  go_enter Tryd.func16, Tryd.ntmps16
  go_wp2_with (first | (go_at_call 18; refine (RefWrap_any _ _).mono ?_; rintro e w' ⟨rfl, rfl⟩))
  go_ret2
  exact ⟨rfl, rfl⟩

set_option maxRecDepth 100000 in
set_option maxHeartbeats 1000000 in
theorem RefTest_lt (a b : Int) (w : World) : Calls Tryd.prog 16 #[.string ⟨#[60]⟩, .int .i64 a, .int .i64 b] w fun e w' => e = .returned (.tuple #[.bool (decide (wrap32 a < wrap32 b)), .bool true]) ∧ w = w' := by
  go_enter Tryd.func16, Tryd.ntmps16
  go_wp2_with (first | (go_at_call 18; refine (RefWrap_any _ _).mono ?_; rintro e w' ⟨rfl, rfl⟩))
  go_ret2
  exact ⟨rfl, rfl⟩

set_option maxRecDepth 100000 in
set_option maxHeartbeats 1000000 in
theorem RefTest_le (a b : Int) (w : World) : Calls Tryd.prog 16 #[.string ⟨#[60, 61]⟩, .int .i64 a, .int .i64 b] w fun e w' => e = .returned (.tuple #[.bool (decide (wrap32 a ≤ wrap32 b)), .bool true]) ∧ w = w' := by
  go_enter Tryd.func16, Tryd.ntmps16
  go_wp2_with (first | (go_at_call 18; refine (RefWrap_any _ _).mono ?_; rintro e w' ⟨rfl, rfl⟩))
  go_ret2
  exact ⟨rfl, rfl⟩

set_option maxRecDepth 100000 in
set_option maxHeartbeats 1000000 in
theorem RefTest_gt (a b : Int) (w : World) : Calls Tryd.prog 16 #[.string ⟨#[62]⟩, .int .i64 a, .int .i64 b] w fun e w' => e = .returned (.tuple #[.bool (decide (wrap32 b < wrap32 a)), .bool true]) ∧ w = w' := by
  go_enter Tryd.func16, Tryd.ntmps16
  go_wp2_with (first | (go_at_call 18; refine (RefWrap_any _ _).mono ?_; rintro e w' ⟨rfl, rfl⟩))
  go_ret2
  exact ⟨rfl, rfl⟩

set_option maxRecDepth 100000 in
set_option maxHeartbeats 1000000 in
theorem RefTest_ge (a b : Int) (w : World) : Calls Tryd.prog 16 #[.string ⟨#[62, 61]⟩, .int .i64 a, .int .i64 b] w fun e w' => e = .returned (.tuple #[.bool (decide (wrap32 b ≤ wrap32 a)), .bool true]) ∧ w = w' := by
  go_enter Tryd.func16, Tryd.ntmps16
  go_wp2_with (first | (go_at_call 18; refine (RefWrap_any _ _).mono ?_; rintro e w' ⟨rfl, rfl⟩))
  go_ret2
  exact ⟨rfl, rfl⟩

set_option maxRecDepth 100000 in
set_option maxHeartbeats 1000000 in
theorem RefTest_eq (a b : Int) (w : World) : Calls Tryd.prog 16 #[.string ⟨#[61, 61]⟩, .int .i64 a, .int .i64 b] w fun e w' => e = .returned (.tuple #[.bool (wrap32 a == wrap32 b), .bool true]) ∧ w = w' := by
  go_enter Tryd.func16, Tryd.ntmps16
  go_wp2_with (first | (go_at_call 18; refine (RefWrap_any _ _).mono ?_; rintro e w' ⟨rfl, rfl⟩))
  go_ret2
  exact ⟨rfl, rfl⟩

set_option maxRecDepth 100000 in
set_option maxHeartbeats 1000000 in
theorem RefTest_ne (a b : Int) (w : World) : Calls Tryd.prog 16 #[.string ⟨#[33, 61]⟩, .int .i64 a, .int .i64 b] w fun e w' => e = .returned (.tuple #[.bool (wrap32 a != wrap32 b), .bool true]) ∧ w = w' := by
  go_enter Tryd.func16, Tryd.ntmps16
  go_wp2_with (first | (go_at_call 18; refine (RefWrap_any _ _).mono ?_; rintro e w' ⟨rfl, rfl⟩))
  go_ret2
  exact ⟨rfl, rfl⟩

/-- Do, of whatever name: the same as the document's. -/
theorem Do_same (s : ByteArray) (hs : s.size ≤ maxLen) (a b : Int) : ∃ r e : Int, (∀ w, Calls Tryd.prog 13 #[.string s, .int .i64 a, .int .i64 b] w fun e1 w' => e1 = .returned (.tuple #[.int .i64 r, .int .i64 e]) ∧ Below w.heap.size w w') ∧
    (∀ w, Calls Tryd.prog 14 #[.string s, .int .i64 a, .int .i64 b] w fun e1 w' => e1 = .returned (.tuple #[.int .i64 r, .int .i64 e]) ∧ w = w') := by
  have hx : ∀ {l : List UInt8}, s.data.toList = l → s = ⟨l.toArray⟩ := fun h => by
    apply ByteArray.ext
    rw [← h]
  by_cases h1 : s.data.toList = [43]
  · rw [hx h1]; exact ⟨_, _, Do_add_v a b _ rfl, RefDo_add a b⟩
  by_cases h2 : s.data.toList = [45]
  · rw [hx h2]
    refine ⟨_, _, fun w => ?_, RefDo_sub a b⟩
    rw [← wsub]; exact Do_sub a b w
  by_cases h3 : s.data.toList = [42]
  · rw [hx h3]; exact ⟨_, _, Do_mul_v a b _ rfl, RefDo_mul a b⟩
  by_cases h4 : s.data.toList = [47]
  · rw [hx h4]
    by_cases h0 : wrap32 b = 0
    · exact ⟨_, _, fun w => Do_quo_zero a b w h0, RefDo_quo_zero a b h0⟩
    · exact ⟨_, _, fun w => Do_quo a b w h0, RefDo_quo a b h0⟩
  by_cases h5 : s.data.toList = [37]
  · rw [hx h5]
    by_cases h0 : wrap32 b = 0
    · exact ⟨_, _, fun w => Do_rem_zero a b w h0, RefDo_rem_zero a b h0⟩
    · exact ⟨_, _, fun w => Do_rem a b w h0, RefDo_rem a b h0⟩
  exact ⟨_, _, Do_none s hs ⟨h1, h2, h3, h4, h5⟩ a b, RefDo_none s ⟨h1, h2, h3, h4, h5⟩ a b⟩

theorem Test_same (s : ByteArray) (a b : Int) : ∃ r e : Bool, (∀ w, Calls Tryd.prog 15 #[.string s, .int .i64 a, .int .i64 b] w fun e1 w' => e1 = .returned (.tuple #[.bool r, .bool e]) ∧ w = w') ∧
    (∀ w, Calls Tryd.prog 16 #[.string s, .int .i64 a, .int .i64 b] w fun e1 w' => e1 = .returned (.tuple #[.bool r, .bool e]) ∧ w = w') := by
  have hx : ∀ {l : List UInt8}, s.data.toList = l → s = ⟨l.toArray⟩ := fun h => by
    apply ByteArray.ext
    rw [← h]
  by_cases h0 : s.data.toList = [60]
  · rw [hx h0]; exact ⟨_, _, Test_lt a b, RefTest_lt a b⟩
  by_cases h1 : s.data.toList = [60, 61]
  · rw [hx h1]; exact ⟨_, _, Test_le a b, RefTest_le a b⟩
  by_cases h2 : s.data.toList = [62]
  · rw [hx h2]; exact ⟨_, _, Test_gt a b, RefTest_gt a b⟩
  by_cases h3 : s.data.toList = [62, 61]
  · rw [hx h3]; exact ⟨_, _, Test_ge a b, RefTest_ge a b⟩
  by_cases h4 : s.data.toList = [61, 61]
  · rw [hx h4]; exact ⟨_, _, Test_eq a b, RefTest_eq a b⟩
  by_cases h5 : s.data.toList = [33, 61]
  · rw [hx h5]; exact ⟨_, _, Test_ne a b, RefTest_ne a b⟩
  exact ⟨_, _, Test_none s ⟨h0, h1, h2, h3, h4, h5⟩ a b, RefTest_none s ⟨h0, h1, h2, h3, h4, h5⟩ a b⟩

set_option maxRecDepth 100000 in
set_option maxHeartbeats 8000000 in
theorem Does_any (s : ByteArray) (hs : s.size ≤ maxLen) (a b : Int) (w : World) (hp : Pow w) : Calls Tryd.prog 3 #[.string s, .int .i64 a, .int .i64 b] w fun e w' => e = .returned (.bool true) ∧ Below w.heap.size w w' := by
  by_cases hbig : 20 < s.size
  · go_enter Tryd.func3, Tryd.ntmps3
    go_wp2_with fail
    refine (awake_any _ hp).mono ?_
    rintro e w1 ⟨rfl, hb⟩
    go_wp2
    go_ret
    exact ⟨rfl, hb⟩
  · have hd0 : decide ((20 : Int) < (s.size : Int)) = false := by simp; omega
    obtain ⟨r, e, d1, d2⟩ := Do_same s hs a b
    obtain ⟨u, v, t1, t2⟩ := Test_same s a b
    have D1 := Lib.hid d1; clear d1
    have D2 := Lib.hid d2; clear d2
    have T1 := Lib.hid t1; clear t1
    have T2 := Lib.hid t2; clear t2
    obtain ⟨na, hna⟩ : ∃ v, Hid (wrap32 (0 - a) = v) := ⟨_, rfl⟩
    go_enter Tryd.func3, Tryd.ntmps3
    go_wp2_with fail
    refine (awake_any _ hp).mono ?_
    rintro e w1 ⟨rfl, hb⟩
    go_wp2_with fail
    refine (D1.out _).mono ?_
    rintro e w2 ⟨rfl, q2⟩
    have hb2 := hb.trans (q2.mono hb.size)
    clear hb q2
    go_wp2_with fail
    refine (D2.out _).mono ?_
    rintro e w3 ⟨rfl, rfl⟩
    go_wp2_with fail
    refine (T1.out _).mono ?_
    rintro e w3 ⟨rfl, rfl⟩
    go_wp2_with fail
    refine (T2.out _).mono ?_
    rintro e w3 ⟨rfl, rfl⟩
    go_wp2_with fail
    refine (RefDo_sub 0 a _).mono ?_
    rw [hna.out]
    rintro e w3 ⟨rfl, rfl⟩
    go_wp2_with fail
    refine (Wrap_any a _).mono ?_
    rintro e w3 ⟨rfl, rfl⟩
    go_wp2_with fail
    refine (RefWrap_any a _).mono ?_
    rintro e w3 ⟨rfl, rfl⟩
    go_wp2_with fail
    refine (Neg_v a na hna.out _).mono ?_
    rintro e w3 ⟨rfl, q3⟩
    have hb3 := hb2.trans (q3.mono hb2.size)
    clear hb2 q3
    go_wp2
    go_ret
    exact ⟨rfl, hb3⟩
end Go.Proofs.YtpaknaaainhgfaaDoor
