/-
  For the laws of hunk: whether hunks may be. No condition but that the numbers are ints.
-/
import Derived.Test.YthligkdncddmpaaHk
namespace Go.Proofs.Ythligkdncddmpaa
open Go.RowKit

def Hk.wf (h : Hk) : Prop := (-2 ^ 63 ≤ h.a ∧ h.a < 2 ^ 63) ∧ (-2 ^ 63 ≤ h.an ∧ h.an < 2 ^ 63) ∧ (-2 ^ 63 ≤ h.b ∧ h.b < 2 ^ 63) ∧ (-2 ^ 63 ≤ h.bn ∧ h.bn < 2 ^ 63)
/-- May a hunk follow the first a and b things? -/
def Hk.good (n m a b : Int) (f : Prop) (h : Hk) : Prop :=
  a ≤ h.a ∧ b ≤ h.b ∧ h.a - a = h.b - b ∧ (h.a = a → f) ∧ 0 ≤ h.an ∧ 0 ≤ h.bn ∧ (h.an = 0 → h.bn ≠ 0) ∧ h.a ≤ n ∧ h.an ≤ n - h.a ∧ h.b ≤ m ∧ h.bn ≤ m - h.b
/-- May hunks follow the first a and b things? -/
def may (n m a b : Int) (f : Prop) : List Hk → Prop
  | [] => a ≤ n ∧ n - a = m - b
  | h :: H => h.good n m a b f ∧ may n m (h.a + h.an) (h.b + h.bn) False H
theorem may_at {n m a b : Int} {f : Prop} {H : List Hk} {k : Nat} {h : Hk} (hk : H[k]? = some h) : may n m a b f (H.drop k) ↔ (h.good n m a b f ∧ may n m (h.a + h.an) (h.b + h.bn) False (H.drop (k + 1))) := by
  obtain ⟨hl, rfl⟩ := List.getElem?_eq_some_iff.1 hk
  rw [List.drop_eq_getElem_cons hl]
  rfl

set_option maxRecDepth 100000 in
set_option maxHeartbeats 8000000 in
theorem Check_any (v : Value) (H : List Hk) (n m : Nat) (w : World) (h1 : Hunks w v H) (hw : ∀ h ∈ H, h.wf) (hn : n ≤ maxLen) (hm : m ≤ maxLen) :
    Calls Try.prog 34 #[v, .int .i64 n, .int .i64 m] w fun e w' => (∃ c : Int, e = .returned (.int .i64 c) ∧ (c = 0 ∨ c = 60) ∧ (c = 0 ↔ may n m 0 0 True H)) ∧ Below w.heap.size w w' := by
  obtain ⟨a, cap, rfl, hc, hmx, hat⟩ := h1
  have Hat := Lib.hid hat; clear hat
  have Hwf := Lib.hid hw; clear hw
  unfold maxLen at hmx hn hm
  go_enter Try.func34, Try.ntmps34
  go_wp2_with fail
  go_loopw [7, 8, 13] (fun x y c wr => ∃ (k : Nat) (a b : Int), k ≤ H.length ∧ c = .int .i64 k ∧ x = .int .i64 a ∧ y = .int .i64 b ∧ 0 ≤ a ∧ a ≤ n ∧ 0 ≤ b ∧ b ≤ m ∧ (may n m 0 0 True H ↔ may n m a b (k = 0) (H.drop k)) ∧ Below w.heap.size w wr) (fun _ _ c _ => H.length - (intOf c).toNat)
  case atStart => exact ⟨0, 0, 0, by omega, rfl, rfl, rfl, by omega, by omega, by omega, by omega, by simp, Below.refl _ _⟩
  case round =>
    obtain ⟨k, a, b, hk, rfl, rfl, rfl, ha0, han, hb0, hbm, hiff, hB⟩ := hrel
    by_cases hlt : k < H.length
    · obtain ⟨h, hh⟩ : ∃ h, H[k]? = some h := ⟨_, List.getElem?_eq_getElem hlt⟩
      obtain ⟨blk, off, rfl, hl, hat⟩ := Hat.out k h hh
      obtain ⟨⟨w1, w2⟩, ⟨w3, w4⟩, ⟨w5, w6⟩, ⟨w7, w8⟩⟩ := Hwf.out h (List.mem_of_getElem? hh)
      rw [may_at hh] at hiff
      have Hiff := Lib.hid hiff; clear hiff
      obtain ⟨c0, c1, c2, c3⟩ := hat.below hB hl
      obtain ⟨A, An, B, Bn⟩ := h
      simp only at c0 c1 c2 c3 w1 w2 w3 w4 w5 w6 w7 w8
      clear hat
      by_cases t1 : A < a
      · have d1 : decide (A < a) = true := decide_eq_true t1
        go_wp2_with fail
        go_ret
        refine ⟨⟨60, rfl, .inr rfl, ?_⟩, hB.alloc hB.size _⟩
        rw [Hiff.out]
        try have t3 := T3.out
        try have t4 := T4.out
        simp only [Hk.good]
        omega
      have d1 : decide (A < a) = false := decide_eq_false t1
      by_cases t2 : B < b
      · have d2 : decide (B < b) = true := decide_eq_true t2
        go_wp2_with fail
        go_ret
        refine ⟨⟨60, rfl, .inr rfl, ?_⟩, hB.alloc hB.size _⟩
        rw [Hiff.out]
        try have t3 := T3.out
        try have t4 := T4.out
        simp only [Hk.good]
        omega
      have d2 : decide (B < b) = false := decide_eq_false t2
      have e1 : wrap64 (A - a) = A - a := by unfold wrap64; omega
      have e2 : wrap64 (B - b) = B - b := by unfold wrap64; omega
      by_cases t3 : A - a ≠ B - b
      · have d3 : (A - a != B - b) = true := by simpa using t3
        go_wp2_with fail
        go_ret
        refine ⟨⟨60, rfl, .inr rfl, ?_⟩, hB.alloc hB.size _⟩
        rw [Hiff.out]
        try have t3 := T3.out
        try have t4 := T4.out
        simp only [Hk.good]
        omega
      have d3 : (A - a != B - b) = false := by simpa using t3
      by_cases t4 : A = a ∧ 0 < k
      · have d4 : (A == a) = true := by simpa using t4.1
        have d5 : decide (0 < k) = true := by simpa using t4.2
        have T3 := Lib.hid t3; have T4 := Lib.hid t4; clear t3 t4
        go_wp2_with fail
        go_ret
        refine ⟨⟨60, rfl, .inr rfl, ?_⟩, hB.alloc hB.size _⟩
        rw [Hiff.out]
        try have t3 := T3.out
        try have t4 := T4.out
        simp only [Hk.good]
        omega
      have r4 : ((A == a) = true ∧ decide (0 < k) = false) ∨ (A == a) = false := by by_cases r : A = a <;> simp [r] <;> omega
      rcases r4 with ⟨d4, d5⟩ | d4
      all_goals
        by_cases t5 : An < 0
        · have d6 : decide (An < 0) = true := decide_eq_true t5
          go_wp2_with fail
          go_ret
          refine ⟨⟨60, rfl, .inr rfl, ?_⟩, hB.alloc hB.size _⟩
          rw [Hiff.out]
          try have t3 := T3.out
          try have t4 := T4.out
          simp only [Hk.good]
          omega
        have d6 : decide (An < 0) = false := decide_eq_false t5
        by_cases t6 : Bn < 0
        · have d7 : decide (Bn < 0) = true := decide_eq_true t6
          go_wp2_with fail
          go_ret
          refine ⟨⟨60, rfl, .inr rfl, ?_⟩, hB.alloc hB.size _⟩
          rw [Hiff.out]
          try have t3 := T3.out
          try have t4 := T4.out
          simp only [Hk.good]
          omega
        have d7 : decide (Bn < 0) = false := decide_eq_false t6
        by_cases t7 : An = 0 ∧ Bn = 0
        · have d8 : (An == 0) = true := by simpa using t7.1
          have d9 : (Bn == 0) = true := by simpa using t7.2
          go_wp2_with fail
          go_ret
          refine ⟨⟨60, rfl, .inr rfl, ?_⟩, hB.alloc hB.size _⟩
          rw [Hiff.out]
          try have t3 := T3.out
          try have t4 := T4.out
          simp only [Hk.good]
          omega
        have r7 : ((An == 0) = true ∧ (Bn == 0) = false) ∨ (An == 0) = false := by by_cases r : An = 0 <;> simp [r] <;> omega
        rcases r7 with ⟨d8, d9⟩ | d8
        all_goals
          by_cases t8 : (n : Int) < A
          · have d10 : decide ((n : Int) < A) = true := decide_eq_true t8
            go_wp2_with fail
            go_ret
            refine ⟨⟨60, rfl, .inr rfl, ?_⟩, hB.alloc hB.size _⟩
            rw [Hiff.out]
            try have t3 := T3.out
            try have t4 := T4.out
            simp only [Hk.good]
            omega
          have d10 : decide ((n : Int) < A) = false := decide_eq_false t8
          have e3 : wrap64 ((n : Int) - A) = (n : Int) - A := by unfold wrap64; omega
          by_cases t9 : (n : Int) - A < An
          · have d11 : decide ((n : Int) - A < An) = true := decide_eq_true t9
            go_wp2_with fail
            go_ret
            refine ⟨⟨60, rfl, .inr rfl, ?_⟩, hB.alloc hB.size _⟩
            rw [Hiff.out]
            try have t3 := T3.out
            try have t4 := T4.out
            simp only [Hk.good]
            omega
          have d11 : decide ((n : Int) - A < An) = false := decide_eq_false t9
          by_cases t10 : (m : Int) < B
          · have d12 : decide ((m : Int) < B) = true := decide_eq_true t10
            go_wp2_with fail
            go_ret
            refine ⟨⟨60, rfl, .inr rfl, ?_⟩, hB.alloc hB.size _⟩
            rw [Hiff.out]
            try have t3 := T3.out
            try have t4 := T4.out
            simp only [Hk.good]
            omega
          have d12 : decide ((m : Int) < B) = false := decide_eq_false t10
          have e4 : wrap64 ((m : Int) - B) = (m : Int) - B := by unfold wrap64; omega
          by_cases t11 : (m : Int) - B < Bn
          · have d13 : decide ((m : Int) - B < Bn) = true := decide_eq_true t11
            go_wp2_with fail
            go_ret
            refine ⟨⟨60, rfl, .inr rfl, ?_⟩, hB.alloc hB.size _⟩
            rw [Hiff.out]
            try have t3 := T3.out
            try have t4 := T4.out
            simp only [Hk.good]
            omega
          have d13 : decide ((m : Int) - B < Bn) = false := decide_eq_false t11
          have e5 : wrap64 (A + An) = A + An := by unfold wrap64; omega
          have e6 : wrap64 (B + Bn) = B + Bn := by unfold wrap64; omega
          have hg : Hid (Hk.good n m a b (k = 0) ⟨A, An, B, Bn⟩) := by refine Lib.hid ?_; simp only [Hk.good]; omega
          clear t3 t4 t7 Hwf
          go_wp2_with fail
          go_quiet (fail)
          go_wp2_with fail
          refine ⟨⟨k + 1, A + An, B + Bn, by omega, by go_num, rfl, rfl, by omega, by omega, by omega, by omega, ?_, below_draws (hB.alloc hB.size _) _⟩, by simp [intOf]; omega⟩
          rw [Hiff.out]
          exact ⟨fun x => by simpa using x.2, fun x => ⟨hg.out, by simpa using x⟩⟩
    · obtain rfl : k = H.length := by omega
      rw [List.drop_length] at hiff
      have Hiff := Lib.hid hiff; clear hiff
      have e1 : wrap64 ((n : Int) - a) = (n : Int) - a := by unfold wrap64; omega
      have e2 : wrap64 ((m : Int) - b) = (m : Int) - b := by unfold wrap64; omega
      have d1 : decide ((n : Int) < a) = false := by simp; omega
      have d2 : decide ((m : Int) < b) = false := by simp; omega
      by_cases t3 : (n : Int) - a ≠ (m : Int) - b
      · have d3 : ((n : Int) - a != (m : Int) - b) = true := by simpa using t3
        go_wp2_with fail
        go_ret
        refine ⟨⟨60, rfl, .inr rfl, ?_⟩, hB⟩
        rw [Hiff.out]
        simp only [may]
        omega
      · have t4 : (n : Int) - a = (m : Int) - b := Decidable.not_not.1 t3
        have d3 : ((n : Int) - a != (m : Int) - b) = false := by simpa using t4
        go_wp2_with fail
        go_ret
        refine ⟨⟨0, rfl, .inl rfl, ?_⟩, hB⟩
        rw [Hiff.out]
        exact iff_of_true rfl ⟨han, t4⟩
end Go.Proofs.Ythligkdncddmpaa
