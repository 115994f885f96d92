/-
  For the laws of hunk: the document's word on whether a row is a match. No condition but that the numbers are ints.
-/
import Derived.Test.YthligkdncddmpaaHw
namespace Go.Proofs.Ythligkdncddmpaa
open Go.RowKit

set_option maxRecDepth 100000 in
set_option maxHeartbeats 4000000 in
theorem RefMatchIs_any (v : Value) (M : List Int) (n : Int) (w : World) (h1 : Ints w .i64 v M) (_hn : n < 2 ^ 63) : Calls Try.prog 46 #[v, .int .i64 n] w (MatchIs w n M) := by
  obtain ⟨a, cap, rfl, hc, hm, hat⟩ := h1.at
  have Hat := Lib.hid hat; clear hat h1
  unfold maxLen at hm
  go_enter Try.func46, Try.ntmps46
  go_wp2_with fail
  go_loopw [5, 6] (fun q c wr => ∃ (k : Nat) (x : Int), k ≤ M.length ∧ c = .int .i64 k ∧ q = .int .i64 x ∧ -1 ≤ x ∧ (isMatch n 0 M ↔ isMatch n (x + 1) (M.drop k)) ∧ Below w.heap.size w wr) (fun _ c _ => M.length - (intOf c).toNat)
  case atStart => exact ⟨0, -1, by omega, rfl, rfl, by omega, by simp, Below.refl _ _⟩
  case round =>
    obtain ⟨k, q, hk, rfl, rfl, hq, hiff, hB⟩ := hrel
    by_cases hlt : k < M.length
    · obtain ⟨x, hx⟩ : ∃ x, M[k]? = some x := ⟨_, List.getElem?_eq_getElem hlt⟩
      obtain ⟨b, off, rfl, hl, e1⟩ := Hat.out k x hx
      have c1 : wr.cell? ⟨b, off + k, none⟩ = some (.int .i64 x) := (hB.cell (p := ⟨b, off + k, none⟩) hl).trans e1
      rw [isMatch_at hx] at hiff
      have Hiff := Lib.hid hiff; clear hiff e1
      by_cases t1 : x < -1
      · have d1 : decide (x < -1) = true := decide_eq_true t1
        go_wp2_with fail
        go_ret
        refine ⟨⟨false, rfl, ?_⟩, hB⟩
        rw [Hiff.out]
        exact iff_of_false Bool.false_ne_true (fun y => by have := y.1; omega)
      have d1 : decide (x < -1) = false := decide_eq_false t1
      by_cases t2 : n ≤ x
      · have d2 : decide (n ≤ x) = true := decide_eq_true t2
        go_wp2_with fail
        go_ret
        refine ⟨⟨false, rfl, ?_⟩, hB⟩
        rw [Hiff.out]
        exact iff_of_false Bool.false_ne_true (fun y => by have := y.2.1; omega)
      have d2 : decide (n ≤ x) = false := decide_eq_false t2
      by_cases t3 : 0 ≤ x
      · have d3 : decide (0 ≤ x) = true := decide_eq_true t3
        by_cases t4 : x ≤ q
        · have d4 : decide (x ≤ q) = true := decide_eq_true t4
          go_wp2_with fail
          go_ret
          refine ⟨⟨false, rfl, ?_⟩, hB⟩
          rw [Hiff.out]
          exact iff_of_false Bool.false_ne_true (fun y => by have := y.2.2.1 t3; omega)
        · have d4 : decide (x ≤ q) = false := decide_eq_false t4
          go_wp2_with fail
          refine ⟨⟨k + 1, x, by omega, by go_num, rfl, by omega, ?_, hB⟩, by simp [intOf]; omega⟩
          rw [Hiff.out, if_pos t3]
          exact ⟨fun y => y.2.2.2, fun y => ⟨by omega, by omega, fun _ => by omega, y⟩⟩
      · have d3 : decide (0 ≤ x) = false := decide_eq_false t3
        go_wp2_with fail
        refine ⟨⟨k + 1, q, by omega, by go_num, rfl, hq, ?_, hB⟩, by simp [intOf]; omega⟩
        rw [Hiff.out, if_neg t3]
        exact ⟨fun y => y.2.2.2, fun y => ⟨by omega, by omega, fun z => absurd z t3, y⟩⟩
    · obtain rfl : k = M.length := by omega
      rw [List.drop_length] at hiff
      have Hiff := Lib.hid hiff; clear hiff
      obtain ⟨c, hc⟩ : ∃ c, Hid (decide (0 ≤ n) = c) := ⟨_, Lib.hid rfl⟩
      have d := hc.out
      go_wp2_with fail
      go_ret
      refine ⟨⟨c, by first | rfl | simp [d], ?_⟩, hB⟩
      rw [Hiff.out, ← hc.out]
      simp [isMatch]
end Go.Proofs.Ythligkdncddmpaa
