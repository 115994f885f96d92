/-
  For the laws of hunk: two slices of the same hunks are the same. No condition.
-/
import Derived.Test.YthligkdncddmpaaHk
import Derived.BigQuiet
namespace Go.Proofs.Ythligkdncddmpaa
open Go.RowKit

set_option maxRecDepth 100000 in
set_option maxHeartbeats 4000000 in
theorem SameH_any (v1 v2 : Value) (H : List Hk) (w : World) (h1 : Hunks w v1 H) (h2 : Hunks w v2 H) : Calls Try.prog 25 #[v1, v2] w fun e w' => e = .returned (.bool true) ∧ Below w.heap.size w w' := by
  obtain ⟨a1, cap1, rfl, hc1, hm1, hat1⟩ := h1
  obtain ⟨a2, cap2, rfl, hc2, hm2, hat2⟩ := h2
  have Hat1 := Lib.hid hat1; clear hat1
  have Hat2 := Lib.hid hat2; clear hat2
  unfold maxLen at hm1 hm2
  go_enter Try.func25, Try.ntmps25
  go_wp2_with fail
  go_loopw [5] (fun c wr => ∃ k : Nat, k ≤ H.length ∧ c = .int .i64 k ∧ Below w.heap.size w wr) (fun c _ => H.length - (intOf c).toNat)
  case atStart => exact ⟨0, by omega, rfl, Below.refl _ _⟩
  case round =>
    obtain ⟨k, hk, rfl, hB⟩ := hrel
    by_cases hlt : k < H.length
    · obtain ⟨h, hh⟩ : ∃ h, H[k]? = some h := ⟨_, List.getElem?_eq_getElem hlt⟩
      obtain ⟨b1, off1, rfl, hl1, hat1⟩ := Hat1.out k h hh
      obtain ⟨b2, off2, rfl, hl2, hat2⟩ := Hat2.out k h hh
      obtain ⟨c0, c1, c2, c3⟩ := hat1.below hB hl1
      obtain ⟨d0, d1, d2, d3⟩ := hat2.below hB hl2
      clear hat1 hat2
      go_wp2_with fail
      go_quiet (fail)
      go_wp2_with fail
      exact ⟨⟨k + 1, by omega, by go_num, below_draws hB _⟩, by simp [intOf]; omega⟩
    · obtain rfl : k = H.length := by omega
      go_wp2_with fail
      go_ret
      exact ⟨rfl, hB⟩
end Go.Proofs.Ythligkdncddmpaa
