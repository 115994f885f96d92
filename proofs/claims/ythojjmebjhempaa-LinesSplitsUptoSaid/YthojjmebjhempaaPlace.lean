/-
  For the laws of lines: Place returns the line and the column. Condition: at most 5,000,000 bytes.
-/
import Derived.Test.YthojjmebjhempaaWhole
namespace Go.Proofs.Ythojjmebjhempaa
open Go.RowKit Go.Shelf

/-- The line and the column behind k bytes. -/
def plc (s : ByteArray) : Nat → Nat × Nat
  | 0 => (1, 1)
  | k + 1 => if nlB s k then ((plc s k).1 + 1, 1) else ((plc s k).1, (plc s k).2 + 1)
theorem plc_yes {s : ByteArray} {k : Nat} (h : nlB s k = true) : plc s (k + 1) = ((plc s k).1 + 1, 1) := by rw [plc, if_pos h]
theorem plc_no {s : ByteArray} {k : Nat} (h : nlB s k = false) : plc s (k + 1) = ((plc s k).1, (plc s k).2 + 1) := by rw [plc, h]; rfl
theorem plc_le (s : ByteArray) : ∀ k, (plc s k).1 ≤ k + 1 ∧ (plc s k).2 ≤ k + 1 ∧ 1 ≤ (plc s k).1 ∧ 1 ≤ (plc s k).2
  | 0 => ⟨Nat.le_refl _, Nat.le_refl _, Nat.le_refl _, Nat.le_refl _⟩
  | k + 1 => by
    have h1 := plc_le s k
    cases h : nlB s k with
    | true => rw [plc_yes h]; simp; omega
    | false => rw [plc_no h]; simp; omega
theorem nlB_true' {s : ByteArray} {k : Nat} (h : k < s.size) (hb : ((s[k].toNat : Int) == 10) = true) : nlB s k = true :=
  nlB_true h (by rw [bne, hb]; rfl)
theorem nlB_false' {s : ByteArray} {k : Nat} (h : k < s.size) (hb : ((s[k].toNat : Int) == 10) = false) : nlB s k = false :=
  nlB_false h (by rw [bne, hb]; rfl)

def placeV (s : ByteArray) (i : Int) : Nat × Nat := if i < 0 ∨ (s.size : Int) < i then (0, 0) else plc s i.toNat

set_option maxHeartbeats 1000000 in
theorem Place_any (s : ByteArray) (i : Int) (hs : s.size ≤ 5000000) (w : World) :
    Calls Try.prog 17 #[.string s, .int .i64 i] w fun e w' => e = .returned (.tuple #[.int .i64 ((placeV s i).1 : Nat), .int .i64 ((placeV s i).2 : Nat)]) ∧ w = w' := by
  by_cases h0 : i < 0
  · have hv : placeV s i = (0, 0) := by unfold placeV; rw [if_pos (.inl h0)]
    have Hv := Lib.hid hv; clear hv
    go_enter Try.func17, Try.ntmps17
    go_wp2
    go_ret2
    exact ⟨by rw [Hv.out]; rfl, rfl⟩
  · by_cases h1 : (s.size : Int) < i
    · have hv : placeV s i = (0, 0) := by unfold placeV; rw [if_pos (.inr h1)]
      have Hv := Lib.hid hv; clear hv
      go_enter Try.func17, Try.ntmps17
      go_wp2
      go_ret2
      exact ⟨by rw [Hv.out]; rfl, rfl⟩
    · obtain ⟨m, rfl⟩ := Int.eq_ofNat_of_zero_le (show 0 ≤ i by omega)
      have hm : m ≤ s.size := by omega
      have hv : placeV s (m : Int) = plc s m := by unfold placeV; rw [if_neg (by omega)]; rfl
      have Hv := Lib.hid hv; clear hv
      clear h1
      have h1 : decide ((s.size : Int) < (m : Int)) = false := by simpa using hm
      have h1' : decide (s.size < m) = false := by simpa using hm
      go_enter Try.func17, Try.ntmps17
      go_wp2
      go_loop [6, 7, 18] (fun a b c => ∃ k : Nat, k ≤ m ∧ c = .int .i64 k ∧ a = .int .i64 ((plc s k).1 : Nat) ∧ b = .int .i64 ((plc s k).2 : Nat)) (fun _ _ c => m - (intOf c).toNat)
      case atStart => exact ⟨0, Nat.zero_le _, rfl, rfl, rfl⟩
      case round =>
        obtain ⟨k, hk, rfl, rfl, rfl⟩ := hrel
        have hp := plc_le s k
        by_cases hlt : k < m
        · have hks : k < s.size := by omega
          by_cases hb : ((s[k].toNat : Int) == 10) = true
          · have hn := plc_yes (nlB_true' hks hb)
            have Hn := Lib.hid hn; clear hn
            go_wp2
            go_round
            case rel => exact ⟨k + 1, by omega, by go_num, by rw [Hn.out]; go_num, by rw [Hn.out]; rfl⟩
            case measure => simp [intOf]; omega
          · replace hb : ((s[k].toNat : Int) == 10) = false := by simpa using hb
            have hn := plc_no (nlB_false' hks hb)
            have Hn := Lib.hid hn; clear hn
            go_wp2
            go_round
            case rel => exact ⟨k + 1, by omega, by go_num, by rw [Hn.out], by rw [Hn.out]; go_num⟩
            case measure => simp [intOf]; omega
        · obtain rfl : k = m := by omega
          go_wp2
          go_ret2
          exact ⟨by rw [Hv.out]; rfl, rfl⟩
end Go.Proofs.Ythojjmebjhempaa
