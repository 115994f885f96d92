/-
  For the laws of marker: how many bytes of one kind a line begins with, by the reference, by the program. Condition: a text as handed in.
-/
import Derived.Test.YtbekbllffphfeaaGreatDoorKRun
namespace Go.Proofs.YtbekbllffphfeaaGreatDoor.K
open Go.RowKit Go.Shelf
set_option linter.unusedSimpArgs false

set_option maxRecDepth 100000 in
set_option maxHeartbeats 8000000 in
theorem refrun_any (s : ByteArray) (c : UInt8) (hs : s.size ≤ maxLen) (w : World) : Calls Tryz.prog 59 #[.string s, .int .u8 c.toNat] w fun e w' => e = .returned (.int .i64 (lead c (tl s) : Nat)) ∧ Below w.heap.size w w' := by
  unfold maxLen at hs
  obtain ⟨r, hr⟩ : ∃ r, Hid (lead c (tl s) = r) := ⟨_, Lib.hid rfl⟩
  have hrs : r ≤ s.size := by rw [← hr.out, ← tl_length]; exact lead_le _ _
  rw [hr.out]
  go_enter Tryz.func59, Tryz.ntmps59
  go_wp2_with fail
  go_loopw [5] (fun x wr => ∃ k : Nat, x = .int .i64 k ∧ k ≤ r ∧ ∃ q, Hid (wr = w.drewN q)) (fun x _ => r - (intOf x).toNat)
  case atStart => exact ⟨0, rfl, by omega, 0, Lib.hid rfl⟩
  case round =>
    obtain ⟨k, rfl, hk, q, hq⟩ := hrel
    have hstep : Hid (k < r ↔ (tl s)[k]? = some c) := Lib.hid (by rw [← hr.out] at hk ⊢; exact lead_step hk)
    by_cases hlt : k < s.size
    · have hg := tl_get s hlt
      have p0 : (0 : Int) ≤ (k : Int) := by omega
      have p1 : (k : Int) < (s.size : Int) := by omega
      by_cases e : s[k] = c
      · have hkr : k < r := hstep.out.2 (by rw [hg, e])
        have hb : ((s[k].toNat : Int) == (c.toNat : Int)) = true := by rw [e]; simp
        clear hg
        go_wp2_with fail
        exact ⟨⟨k + 1, by go_num, by omega, q, hq⟩, by simp [intOf]; omega⟩
      · have hkr : k = r := by
          have : ¬ k < r := fun h => by have := hstep.out.1 h; rw [hg] at this; exact e (by simpa using this)
          omega
        have hne : ¬ s[k].toNat = c.toNat := fun h => e (UInt8.toNat_inj.1 h)
        have hb : ((s[k].toNat : Int) == (c.toNat : Int)) = false := beq_eq_false_iff_ne.2 (by omega)
        have Hkr := Lib.hid hkr
        clear hg hkr
        go_wp2_with fail
        go_ret
        exact ⟨ret_int (congrArg Int.ofNat Hkr.out), by rw [hq.out]; exact below_draws (Below.refl _ _) _⟩
    · obtain rfl : k = r := by omega
      have hks : k = s.size := by omega
      have p1 : ¬ (k : Int) < (s.size : Int) := by omega
      have f1 : decide ((k : Int) < (s.size : Int)) = false := decide_eq_false p1
      go_wp2_with fail
      go_ret
      exact ⟨by first | rfl | exact ret_int (congrArg Int.ofNat hks.symm), by rw [hq.out]; exact below_draws (Below.refl _ _) _⟩
end Go.Proofs.YtbekbllffphfeaaGreatDoor.K
