/-
  For the laws of lines: Join returns the texts put one behind the other; Same answers yes of two slices that read alike. Condition: their bytes together are at most 2 to the 47.
-/
import Derived.Test.YthojjmebjhempaaPlace
import Derived.Deep.QuietTactic
import Derived.BigQuiet
namespace Go.Proofs.Ythojjmebjhempaa
open Go.RowKit Go.Shelf

theorem below_draws {B : Nat} {a w : World} (h : Below B a w) (q : Nat) : Below B a (w.drewN q) := ⟨h.os, h.tape, h.output, h.size, h.block⟩

/-- The texts put one behind the other. -/
def joinB (xs : List ByteArray) : ByteArray := ⟨(Lib.join (xs.map (·.data.toList)) []).toArray⟩

set_option maxHeartbeats 1000000 in
theorem Join_any (v : Value) (xs : List ByteArray) (w : World) (h : Strs w v xs) (hlen : (Lib.join (xs.map (·.data.toList)) []).length ≤ 140737488355328) (hN : xs.length ≤ 140737488355328) :
    Calls Try.prog 13 #[v] w fun e w' => e = .returned (.string (joinB xs)) ∧ Below w.heap.size w w' := by
  obtain ⟨a, cap, rfl, hc, hm, h | ⟨b, off, rfl, hlt, hx⟩⟩ := h
  · subst h
    go_enter Try.func13, Try.ntmps13
    go_wp2_with (go_at_call 22; refine (Try.strings_Join_none _ _ _ _).mono ?_; rintro e w' ⟨rfl, rfl⟩)
    go_ret
    exact ⟨rfl, Below.refl _ _⟩
  · go_enter Try.func13, Try.ntmps13
    go_wp2_with (go_at_call 22; refine (Try.strings_Join b off cap xs _ _ hx hlt hN hc hlen).mono ?_; rintro e w' ⟨rfl, hb⟩)
    go_ret
    exact ⟨rfl, hb⟩

set_option maxHeartbeats 2000000 in
theorem Same_yes (v1 v2 : Value) (xs : List ByteArray) (w : World) (h1 : Strs w v1 xs) (h2 : Strs w v2 xs) :
    Calls Try.prog 10 #[v1, v2] w fun e w' => e = .returned (.bool true) ∧ Below w.heap.size w w' := by
  obtain ⟨a1, cap1, rfl, hc1, hm1, h1 | ⟨b1, o1, rfl, hlt1, hx1⟩⟩ := h1
  · subst h1
    obtain ⟨a2, cap2, rfl, -⟩ := h2
    go_enter Try.func10, Try.ntmps10
    go_wp2
    go_loop [5] (fun i => i = .int .i64 0) (fun _ => 0)
    case atStart => rfl
    case round =>
      subst hrel
      go_wp2
      go_ret
      exact ⟨rfl, Below.refl _ _⟩
  · obtain ⟨a2, cap2, rfl, hc2, hm2, h2 | ⟨b2, o2, rfl, hlt2, hx2⟩⟩ := h2
    · subst h2
      go_enter Try.func10, Try.ntmps10
      go_wp2
      go_loop [5] (fun i => i = .int .i64 0) (fun _ => 0)
      case atStart => rfl
      case round =>
        subst hrel
        go_wp2
        go_ret
        exact ⟨rfl, Below.refl _ _⟩
    · unfold maxLen at hm1
      go_enter Try.func10, Try.ntmps10
      go_wp2
      go_loopw [5] (fun i wr => ∃ k : Nat, k ≤ xs.length ∧ i = .int .i64 k ∧ Below w.heap.size w wr) (fun i _ => xs.length - (intOf i).toNat)
      case atStart => exact ⟨0, Nat.zero_le _, rfl, Below.refl _ _⟩
      case round =>
        obtain ⟨k, hk, rfl, hB⟩ := hrel
        by_cases hlt : k < xs.length
        · have e1 := (hB.cell (p := ⟨b1, o1 + k, none⟩) hlt1).trans (hx1 k xs[k] (List.getElem?_eq_getElem hlt))
          have e2 := (hB.cell (p := ⟨b2, o2 + k, none⟩) hlt2).trans (hx2 k xs[k] (List.getElem?_eq_getElem hlt))
          go_wp2
          go_quiet (fail)
          go_wp2
          refine ⟨⟨k + 1, by omega, by go_num, below_draws hB nq⟩, by simp [intOf]; omega⟩
        · obtain rfl : k = xs.length := by omega
          go_wp2
          go_ret
          exact ⟨rfl, hB⟩
end Go.Proofs.Ythojjmebjhempaa
