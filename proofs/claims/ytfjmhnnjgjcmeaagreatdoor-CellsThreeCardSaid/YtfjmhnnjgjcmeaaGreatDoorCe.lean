/-
  For the laws of cells: whether two of three versions are the same, and one of them, by the program. Condition: texts no longer than any may be.
-/
import Derived.Test.YtfjmhnnjgjcmeaaGreatDoorCc
import Derived.DeepKeys
import Derived.RegionTactic
import Derived.ChangeAlike
namespace Go.Proofs.YtfjmhnnjgjcmeaaGreatDoor
open Go.RowKit Go.Shelf
set_option linter.unusedSimpArgs false
set_option linter.unusedVariables false

theorem dl (s t : ByteArray) : s.data.toList = t.data.toList ↔ s = t := by
  constructor
  · intro h
    exact ByteArray.ext (Array.toList_inj.1 h)
  · rintro rfl; rfl
theorem kl9 (d : Nat) {s : ByteArray} (h : s.size ≤ maxLen) : Tryz.prog.keyLits (d + 1) 9 [.string s] = some [.string s.data.toList] := by
  unfold Program.keyLits
  rw [Tryz.underlying9]
  simp only
  rw [if_pos h]
def chain3 (x y z : Option (List Lit)) : Option (List Lit) := Option.map List.flatten (do let a ← x; let b ← y; let c ← z; pure [a, b, c])
def chain2 (x y : Option (List Lit)) : Option (List Lit) := Option.map List.flatten (do let a ← x; let b ← y; pure [a, b])
theorem kl43 {a b c : ByteArray} (ha : a.size ≤ maxLen) (hb : b.size ≤ maxLen) (hc : c.size ≤ maxLen) : Tryz.prog.keyLits 5 43 (Value.agg #[.string a, .string b, .string c]).cells.toList = some [.string a.data.toList, .string b.data.toList, .string c.data.toList] := by
  have h : Tryz.prog.keyLits 5 43 (Value.agg #[.string a, .string b, .string c]).cells.toList = chain3 (Tryz.prog.keyLits 4 9 [.string a]) (Tryz.prog.keyLits 4 9 [.string b]) (Tryz.prog.keyLits 4 9 [.string c]) := by kernel_rfl
  rw [h, kl9 3 ha, kl9 3 hb, kl9 3 hc]
  rfl
theorem kl49 {a b : ByteArray} (ha : a.size ≤ maxLen) (hb : b.size ≤ maxLen) : Tryz.prog.keyLits 5 49 (Value.agg #[.string a, .string b]).cells.toList = some [.string a.data.toList, .string b.data.toList] := by
  have h : Tryz.prog.keyLits 5 49 (Value.agg #[.string a, .string b]).cells.toList = chain2 (Tryz.prog.keyLits 4 9 [.string a]) (Tryz.prog.keyLits 4 9 [.string b]) := by kernel_rfl
  rw [h, kl9 3 ha, kl9 3 hb]
  rfl
theorem eq43 {a0 a1 a2 b0 b1 b2 : ByteArray} (h1 : a0.size ≤ maxLen) (h2 : a1.size ≤ maxLen) (h3 : a2.size ≤ maxLen) (h4 : b0.size ≤ maxLen) (h5 : b1.size ≤ maxLen) (h6 : b2.size ≤ maxLen) (W : World) : (Op.equalIn 10000 43 (.agg #[.string a0, .string a1, .string a2]) (.agg #[.string b0, .string b1, .string b2])).run Tryz.prog W = .ok (decide (a0 = b0 ∧ a1 = b1 ∧ a2 = b2)) W := by
  obtain ⟨r, h, e⟩ := run_equalIn_deep (P := Tryz.prog) 9990 10 43 (by kernel_rfl) W 5 5 (.agg #[.string a0, .string a1, .string a2]) (.agg #[.string b0, .string b1, .string b2]) _ _ (by kernel_rfl) (by kernel_rfl) (kl43 h1 h2 h3) (kl43 h4 h5 h6)
  have e2 : r = decide (a0 = b0 ∧ a1 = b1 ∧ a2 = b2) := by
    rw [Bool.eq_iff_iff, e, decide_eq_true_iff]
    simp only [List.cons.injEq, and_true, Lit.string.injEq, dl]
  rw [← e2]
  exact h
theorem eq44 (a0 a1 a2 b0 b1 b2 : Bool) (W : World) : (Op.equalIn 10000 44 (.agg #[.bool a0, .bool a1, .bool a2]) (.agg #[.bool b0, .bool b1, .bool b2])).run Tryz.prog W = .ok (decide (a0 = b0 ∧ a1 = b1 ∧ a2 = b2)) W := by
  obtain ⟨r, h, e⟩ := run_equalIn_deep (P := Tryz.prog) 9990 10 44 (by kernel_rfl) W 5 5 (.agg #[.bool a0, .bool a1, .bool a2]) (.agg #[.bool b0, .bool b1, .bool b2]) [.bool a0, .bool a1, .bool a2] [.bool b0, .bool b1, .bool b2] (by kernel_rfl) (by kernel_rfl) (by kernel_rfl) (by kernel_rfl)
  have e2 : r = decide (a0 = b0 ∧ a1 = b1 ∧ a2 = b2) := by
    rw [Bool.eq_iff_iff, e, decide_eq_true_iff]
    simp only [List.cons.injEq, and_true, Lit.bool.injEq]
  rw [← e2]
  exact h
theorem eq49 {a0 a1 b0 b1 : ByteArray} (h1 : a0.size ≤ maxLen) (h2 : a1.size ≤ maxLen) (h3 : b0.size ≤ maxLen) (h4 : b1.size ≤ maxLen) (W : World) : (Op.equalIn 10000 49 (.agg #[.string a0, .string a1]) (.agg #[.string b0, .string b1])).run Tryz.prog W = .ok (decide (a0 = b0 ∧ a1 = b1)) W := by
  obtain ⟨r, h, e⟩ := run_equalIn_deep (P := Tryz.prog) 9990 10 49 (by kernel_rfl) W 5 5 (.agg #[.string a0, .string a1]) (.agg #[.string b0, .string b1]) _ _ (by kernel_rfl) (by kernel_rfl) (kl49 h1 h2) (kl49 h3 h4)
  have e2 : r = decide (a0 = b0 ∧ a1 = b1) := by
    rw [Bool.eq_iff_iff, e, decide_eq_true_iff]
    simp only [List.cons.injEq, and_true, Lit.string.injEq, dl]
  rw [← e2]
  exact h
/-- Three versions, as a value. -/
def verV (s0 s1 s2 : ByteArray) (t0 t1 t2 : Bool) : Value := .agg #[.string s0, .string s1, .string s2, .bool t0, .bool t1, .bool t2]
set_option maxRecDepth 100000 in
set_option maxHeartbeats 8000000 in
theorem alike12_any (s0 s1 s2 : ByteArray) (t0 t1 t2 : Bool) (w : World) (h0 : s0.size ≤ maxLen) (h1 : s1.size ≤ maxLen) (h2 : s2.size ≤ maxLen) : Calls Tryz.prog 54 #[verV s0 s1 s2 t0 t1 t2, .int .i64 1, .int .i64 2] w fun e w' => e = .returned (.bool (decide (s1 = s2 ∧ t1 = t2))) ∧ Below w.heap.size w w' := by
  have E1 := eq43 h0 h2 h1 h0 h1 h2
  have E2 := eq44 t0 t2 t1 t0 t1 t2
  obtain ⟨d1, hd1⟩ : ∃ d, Hid (decide (s0 = s0 ∧ s2 = s1 ∧ s1 = s2) = d) := ⟨_, Lib.hid rfl⟩
  obtain ⟨d2, hd2⟩ : ∃ d, Hid (decide (t0 = t0 ∧ t2 = t1 ∧ t1 = t2) = d) := ⟨_, Lib.hid rfl⟩
  obtain ⟨d3, hd3⟩ : ∃ d, Hid (decide (s1 = s2 ∧ t1 = t2) = d) := ⟨_, Lib.hid rfl⟩
  have hd : Hid (d3 = (d1 && d2)) := Lib.hid (by
    rw [← hd1.out, ← hd2.out, ← hd3.out, Bool.eq_iff_iff, Bool.and_eq_true, decide_eq_true_iff, decide_eq_true_iff, decide_eq_true_iff]
    constructor
    · rintro ⟨a, b⟩
      exact ⟨by simp [a], by simp [b]⟩
    · rintro ⟨a, b⟩
      exact ⟨a.2.2, b.2.2⟩)
  rw [hd1.out] at E1
  rw [hd2.out] at E2
  rw [hd3.out]
  clear h0 h1 h2 hd1 hd2 hd3
  unfold verV
  cases d1 <;>
    (go_enter Tryz.func54, Tryz.ntmps54
     go_wp2_with fail
     go_region
     all_goals
      go_wp2_with fail
      go_region
     all_goals
      go_wp2_with fail
      go_region
     all_goals
      go_wp2_with fail
      go_ret
      refine ⟨by rw [hd.out]; rfl, ?_⟩
      repeat (first | exact Below.refl _ _ | refine below_drew ?_ | refine Below.alloc ?_ (by first | (simp; done) | (simp; omega)) _))
set_option maxRecDepth 100000 in
set_option maxHeartbeats 8000000 in
theorem alike10_any (s0 s1 s2 : ByteArray) (t0 t1 t2 : Bool) (w : World) (h0 : s0.size ≤ maxLen) (h1 : s1.size ≤ maxLen) (h2 : s2.size ≤ maxLen) : Calls Tryz.prog 54 #[verV s0 s1 s2 t0 t1 t2, .int .i64 1, .int .i64 0] w fun e w' => e = .returned (.bool (decide (s1 = s0 ∧ t1 = t0))) ∧ Below w.heap.size w w' := by
  have E1 := eq43 h1 h0 h2 h0 h1 h2
  have E2 := eq44 t1 t0 t2 t0 t1 t2
  obtain ⟨d1, hd1⟩ : ∃ d, Hid (decide (s1 = s0 ∧ s0 = s1 ∧ s2 = s2) = d) := ⟨_, Lib.hid rfl⟩
  obtain ⟨d2, hd2⟩ : ∃ d, Hid (decide (t1 = t0 ∧ t0 = t1 ∧ t2 = t2) = d) := ⟨_, Lib.hid rfl⟩
  obtain ⟨d3, hd3⟩ : ∃ d, Hid (decide (s1 = s0 ∧ t1 = t0) = d) := ⟨_, Lib.hid rfl⟩
  have hd : Hid (d3 = (d1 && d2)) := Lib.hid (by
    rw [← hd1.out, ← hd2.out, ← hd3.out, Bool.eq_iff_iff, Bool.and_eq_true, decide_eq_true_iff, decide_eq_true_iff, decide_eq_true_iff]
    constructor
    · rintro ⟨a, b⟩
      exact ⟨by simp [a], by simp [b]⟩
    · rintro ⟨a, b⟩
      exact ⟨a.1, b.1⟩)
  rw [hd1.out] at E1
  rw [hd2.out] at E2
  rw [hd3.out]
  clear h0 h1 h2 hd1 hd2 hd3
  unfold verV
  cases d1 <;>
    (go_enter Tryz.func54, Tryz.ntmps54
     go_wp2_with fail
     go_region
     all_goals
      go_wp2_with fail
      go_region
     all_goals
      go_wp2_with fail
      go_region
     all_goals
      go_wp2_with fail
      go_ret
      refine ⟨by rw [hd.out]; rfl, ?_⟩
      repeat (first | exact Below.refl _ _ | refine below_drew ?_ | refine Below.alloc ?_ (by first | (simp; done) | (simp; omega)) _))
set_option maxRecDepth 100000 in
set_option maxHeartbeats 8000000 in
theorem alike20_any (s0 s1 s2 : ByteArray) (t0 t1 t2 : Bool) (w : World) (h0 : s0.size ≤ maxLen) (h1 : s1.size ≤ maxLen) (h2 : s2.size ≤ maxLen) : Calls Tryz.prog 54 #[verV s0 s1 s2 t0 t1 t2, .int .i64 2, .int .i64 0] w fun e w' => e = .returned (.bool (decide (s2 = s0 ∧ t2 = t0))) ∧ Below w.heap.size w w' := by
  have E1 := eq43 h2 h1 h0 h0 h1 h2
  have E2 := eq44 t2 t1 t0 t0 t1 t2
  obtain ⟨d1, hd1⟩ : ∃ d, Hid (decide (s2 = s0 ∧ s1 = s1 ∧ s0 = s2) = d) := ⟨_, Lib.hid rfl⟩
  obtain ⟨d2, hd2⟩ : ∃ d, Hid (decide (t2 = t0 ∧ t1 = t1 ∧ t0 = t2) = d) := ⟨_, Lib.hid rfl⟩
  obtain ⟨d3, hd3⟩ : ∃ d, Hid (decide (s2 = s0 ∧ t2 = t0) = d) := ⟨_, Lib.hid rfl⟩
  have hd : Hid (d3 = (d1 && d2)) := Lib.hid (by
    rw [← hd1.out, ← hd2.out, ← hd3.out, Bool.eq_iff_iff, Bool.and_eq_true, decide_eq_true_iff, decide_eq_true_iff, decide_eq_true_iff]
    constructor
    · rintro ⟨a, b⟩
      exact ⟨by simp [a], by simp [b]⟩
    · rintro ⟨a, b⟩
      exact ⟨a.1, b.1⟩)
  rw [hd1.out] at E1
  rw [hd2.out] at E2
  rw [hd3.out]
  clear h0 h1 h2 hd1 hd2 hd3
  unfold verV
  cases d1 <;>
    (go_enter Tryz.func54, Tryz.ntmps54
     go_wp2_with fail
     go_region
     all_goals
      go_wp2_with fail
      go_region
     all_goals
      go_wp2_with fail
      go_region
     all_goals
      go_wp2_with fail
      go_ret
      refine ⟨by rw [hd.out]; rfl, ?_⟩
      repeat (first | exact Below.refl _ _ | refine below_drew ?_ | refine Below.alloc ?_ (by first | (simp; done) | (simp; omega)) _))
end Go.Proofs.YtfjmhnnjgjcmeaaGreatDoor
