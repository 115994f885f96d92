/-
  For the laws of hunk: whether texts are few. No condition.
-/
import Derived.Test.YthligkdncddmpaaRow
namespace Go.Proofs.Ythligkdncddmpaa
open Go.RowKit

theorem short_any (p : Option Addr) (n c : Nat) (w : World) : Calls Try.prog 30 #[.slice p n c] w fun e w' => e = .returned (.bool (decide (n ≤ 100))) ∧ w' = w := by
  obtain ⟨v, hv⟩ : ∃ v, Hid (decide (n ≤ 100) = v) := ⟨_, Lib.hid rfl⟩
  rw [hv.out]
  have hd : decide ((n : Int) ≤ 100) = v := by rw [← hv.out]; simp; omega
  go_enter Try.func30, Try.ntmps30
  go_wp2_with fail
  go_ret
  exact ⟨by first | rfl | simp [hd] | (have := hv.out; simp_all), rfl⟩
end Go.Proofs.Ythligkdncddmpaa
