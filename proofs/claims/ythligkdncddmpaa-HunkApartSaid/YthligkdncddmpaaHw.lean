/-
  For the laws of hunk: whether a row is a match. No condition but that the numbers are ints.
-/
import Derived.Test.YthligkdncddmpaaHk
namespace Go.Proofs.Ythligkdncddmpaa
open Go.RowKit

/-- Is a row a match from the next place on? -/
def isMatch (n : Int) : Int → List Int → Prop
  | _, [] => 0 ≤ n
  | q, x :: M => -1 ≤ x ∧ x < n ∧ (0 ≤ x → q ≤ x) ∧ isMatch n (if 0 ≤ x then x + 1 else q) M
theorem isMatch_at {n q : Int} {M : List Int} {k : Nat} {x : Int} (hk : M[k]? = some x) : isMatch n q (M.drop k) ↔ (-1 ≤ x ∧ x < n ∧ (0 ≤ x → q ≤ x) ∧ isMatch n (if 0 ≤ x then x + 1 else q) (M.drop (k + 1))) := by
  obtain ⟨hl, rfl⟩ := List.getElem?_eq_some_iff.1 hk
  rw [List.drop_eq_getElem_cons hl]
  rfl
def MatchIs (w : World) (n : Int) (M : List Int) (e : Ending) (w' : World) : Prop :=
  (∃ c : Bool, e = .returned (.bool c) ∧ (c = true ↔ isMatch n 0 M)) ∧ Below w.heap.size w w'

set_option maxRecDepth 100000 in
set_option maxHeartbeats 4000000 in
theorem matches_any (v : Value) (M : List Int) (n : Int) (w : World) (h1 : Ints w .i64 v M) (hn : n < 2 ^ 63) : Calls Try.prog 43 #[v, .int .i64 n] w (MatchIs w n M) := by
  obtain ⟨a, cap, rfl, hc, hm, hat⟩ := h1.at
  have Hat := Lib.hid hat; clear hat h1
  unfold maxLen at hm
  go_enter Try.func43, Try.ntmps43
  go_wp2_with fail
  go_loopw [5, 10] (fun q c wr => ∃ (k : Nat) (x : Int), k ≤ M.length ∧ c = .int .i64 k ∧ q = .int .i64 x ∧ (isMatch n 0 M ↔ isMatch n x (M.drop k)) ∧ Below w.heap.size w wr) (fun _ c _ => M.length - (intOf c).toNat)
  case atStart => exact ⟨0, 0, by omega, rfl, rfl, by simp, Below.refl _ _⟩
  case round =>
    obtain ⟨k, q, hk, rfl, rfl, hiff, hB⟩ := hrel
    by_cases hlt : k < M.length
    · obtain ⟨x, hx⟩ : ∃ x, M[k]? = some x := ⟨_, List.getElem?_eq_getElem hlt⟩
      obtain ⟨b, off, rfl, hl, e1⟩ := Hat.out k x hx
      have c1 : wr.cell? ⟨b, off + k, none⟩ = some (.int .i64 x) := (hB.cell (p := ⟨b, off + k, none⟩) hl).trans e1
      rw [isMatch_at hx] at hiff
      have Hiff := Lib.hid hiff; clear hiff e1
      by_cases t1 : x < -1
      · have d1 : decide (x < -1) = true := decide_eq_true t1
        go_wp2_with fail
        go_ret
        refine ⟨⟨false, rfl, ?_⟩, hB⟩
        rw [Hiff.out]
        exact iff_of_false Bool.false_ne_true (fun y => by have := y.1; omega)
      have d1 : decide (x < -1) = false := decide_eq_false t1
      by_cases t2 : n ≤ x
      · have d2 : decide (n ≤ x) = true := decide_eq_true t2
        go_wp2_with fail
        go_ret
        refine ⟨⟨false, rfl, ?_⟩, hB⟩
        rw [Hiff.out]
        exact iff_of_false Bool.false_ne_true (fun y => by have := y.2.1; omega)
      have d2 : decide (n ≤ x) = false := decide_eq_false t2
      by_cases t3 : 0 ≤ x
      · have d3 : decide (0 ≤ x) = true := decide_eq_true t3
        have e1 : wrap64 (x + 1) = x + 1 := by unfold wrap64; omega
        by_cases t4 : x < q
        · have d4 : decide (x < q) = true := decide_eq_true t4
          go_wp2_with fail
          go_ret
          refine ⟨⟨false, rfl, ?_⟩, hB⟩
          rw [Hiff.out]
          exact iff_of_false Bool.false_ne_true (fun y => by have := y.2.2.1 t3; omega)
        · have d4 : decide (x < q) = false := decide_eq_false t4
          go_wp2_with fail
          refine ⟨⟨k + 1, x + 1, by omega, by go_num, by first | rfl | rw [e1], ?_, hB⟩, by simp [intOf]; omega⟩
          rw [Hiff.out, if_pos t3]
          exact ⟨fun y => y.2.2.2, fun y => ⟨by omega, by omega, fun _ => by omega, y⟩⟩
      · have d3 : decide (0 ≤ x) = false := decide_eq_false t3
        go_wp2_with fail
        refine ⟨⟨k + 1, q, by omega, by go_num, rfl, ?_, hB⟩, by simp [intOf]; omega⟩
        rw [Hiff.out, if_neg t3]
        exact ⟨fun y => y.2.2.2, fun y => ⟨by omega, by omega, fun z => absurd z t3, y⟩⟩
    · obtain rfl : k = M.length := by omega
      rw [List.drop_length] at hiff
      have Hiff := Lib.hid hiff; clear hiff
      obtain ⟨c, hc⟩ : ∃ c, Hid (decide (0 ≤ n) = c) := ⟨_, Lib.hid rfl⟩
      have d := hc.out
      go_wp2_with fail
      go_ret
      refine ⟨⟨c, by first | rfl | simp [d], ?_⟩, hB⟩
      rw [Hiff.out, ← hc.out]
      simp [isMatch]
end Go.Proofs.Ythligkdncddmpaa
