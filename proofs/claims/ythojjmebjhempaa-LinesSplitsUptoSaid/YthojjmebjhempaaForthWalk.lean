/-
  For the laws of lines: the law LinesForth returns true for every text and every number. No condition.
-/
import Derived.Test.YthojjmebjhempaaPure
import Derived.Test.YthojjmebjhempaaAwake
import Derived.Deep.QuietTactic
import Derived.BigQuiet
import Derived.IntWalk
namespace Go.Proofs.Ythojjmebjhempaa
open Go.RowKit Go.Shelf

theorem plc_st (s : ByteArray) : ∀ k, (plc s k).1 = (st s k).1.length + 1 ∧ (plc s k).2 + (st s k).2 = k + 1
  | 0 => ⟨rfl, rfl⟩
  | k + 1 => by
    have h1 := plc_st s k
    cases h : nlB s k with
    | true => rw [plc_yes h, st_yes h]; simp; omega
    | false => rw [plc_no h, st_no h]; simp; omega
theorem st_before (s : ByteArray) : ∀ k, (st s k).2 = 0 ∨ nlB s ((st s k).2 - 1) = true
  | 0 => .inl rfl
  | k + 1 => by
    cases h : nlB s k with
    | true => rw [st_yes h]; exact .inr h
    | false => rw [st_no h]; exact st_before s k
theorem st_gap (s : ByteArray) : ∀ k i, (st s k).2 ≤ i → i < k → nlB s i = false
  | 0, i, _, h => by omega
  | k + 1, i, h1, h2 => by
    cases h : nlB s k with
    | true => rw [st_yes h] at h1; simp at h1; omega
    | false =>
      rw [st_no h] at h1
      by_cases e : i = k
      · rw [e]; exact h
      · exact st_gap s k i h1 (by omega)
theorem byte_no {s : ByteArray} {k : Nat} (h : k < s.size) (hb : nlB s k = false) : ((s[k].toNat : Int) == 10) = false := by
  cases h2 : ((s[k].toNat : Int) == 10) with
  | false => rfl
  | true => rw [nlB_true' h h2] at hb; cases hb
theorem byte_yes {s : ByteArray} {k : Nat} (h : k < s.size) (hb : nlB s k = true) : ((s[k].toNat : Int) == 10) = true := by
  cases h2 : ((s[k].toNat : Int) == 10) with
  | true => rfl
  | false => rw [nlB_false' h h2] at hb; cases hb
theorem start_of_place (s : ByteArray) (m : Nat) (hm : m ≤ s.size) : startV s ((plc s m).1 : Nat) = ((st s m).2, true) := by
  obtain ⟨h1, h2⟩ := plc_st s m
  have hpre := st_lns hm
  have hlen := hpre.length_le
  have hsum := sumL_st s m hm
  unfold startV
  by_cases hA : (st s m).1.length + 1 ≤ (lns s).length
  · rw [if_pos ⟨by omega, by omega⟩]
    obtain ⟨t, ht⟩ := hpre
    have e : (lns s).take (((plc s m).1 : Int) - 1).toNat = (st s m).1 := by
      rw [h1, ← ht]
      exact List.take_left' (by omega)
    rw [e, hsum]
  · have he : (st s m).1 = lns s := hpre.eq_of_length (by omega)
    have hz : (st s m).2 = s.size := by rw [← hsum, he, sumL_lns]
    have hle := st_le s m
    have hms : m = s.size := by omega
    subst hms
    have hw : whole s = s := by
      apply whole_id
      rcases st_before s s.size with h | h
      · left
        have : s.data.toList.length = 0 := by rw [show s.data.toList.length = s.size by simp]; omega
        exact List.length_eq_zero_iff.1 this
      · by_cases h0 : s.size = 0
        · left
          have : s.data.toList.length = 0 := by rw [show s.data.toList.length = s.size by simp]; omega
          exact List.length_eq_zero_iff.1 this
        · right
          rw [hz, nlB_get (by omega)] at h
          have hl : s.data.toList.length = s.size := by simp
          rw [List.getLast?_eq_getElem?, List.getElem?_eq_getElem (by omega)]
          simp only [hl]
          exact congrArg some (by simpa using h)
    rw [if_neg (by omega), if_pos ⟨by omega, hw⟩, sumL_lns, hz]

set_option maxHeartbeats 1000000 in
theorem Place_big (s : ByteArray) (i : Int) (w : World) (h : i < 0 ∨ (s.size : Int) < i) :
    Calls Try.prog 17 #[.string s, .int .i64 i] w fun e w' => e = .returned (.tuple #[.int .i64 0, .int .i64 0]) ∧ w = w' := by
  by_cases h0 : i < 0
  · clear h
    go_enter Try.func17, Try.ntmps17
    go_wp2
    go_ret2
    exact ⟨rfl, rfl⟩
  · have h1 : (s.size : Int) < i := by omega
    clear h
    go_enter Try.func17, Try.ntmps17
    go_wp2
    go_ret2
    exact ⟨rfl, rfl⟩

set_option maxRecDepth 100000 in
set_option maxHeartbeats 4000000 in
theorem Forth_any (s : ByteArray) (i : Int) (w : World) : Calls Try.prog 6 #[.string s, .int .i64 i] w fun e w' => e = .returned (.bool true) ∧ Below w.heap.size w w' := by
  by_cases hbig : 5000 < s.size
  · have hd0 : decide ((5000 : Int) < (s.size : Int)) = true := by simp; omega
    go_enter Try.func6, Try.ntmps6
    go_wp2_with fail
    refine (awake_any _).mono ?_
    rintro e w1 ⟨rfl, hb1⟩
    go_wp2_with fail
    refine (Place_big s (-1) _ (.inl (by omega))).mono ?_
    rintro e w2 ⟨rfl, rfl⟩
    go_wp2
    go_ret
    exact ⟨rfl, hb1⟩
  · have hs : s.size ≤ 5000 := by omega
    clear hbig
    have hd0 : decide ((5000 : Int) < (s.size : Int)) = false := by simp; omega
    by_cases hout : i < 0 ∨ (s.size : Int) < i
    · have hd1 : (decide (i < 0) || decide ((s.size : Int) < i)) = true := by simpa using hout
      by_cases h0 : i < 0
      · clear hout
        go_enter Try.func6, Try.ntmps6
        go_wp2_with fail
        refine (awake_any _).mono ?_
        rintro e w1 ⟨rfl, hb1⟩
        go_wp2_with fail
        refine (Place_big s (-1) _ (.inl (by omega))).mono ?_
        rintro e w2 ⟨rfl, rfl⟩
        go_wp2
        go_ret
        exact ⟨rfl, hb1⟩
      · have h1 : (s.size : Int) < i := by omega
        clear hout
        go_enter Try.func6, Try.ntmps6
        go_wp2_with fail
        refine (awake_any _).mono ?_
        rintro e w1 ⟨rfl, hb1⟩
        go_wp2_with fail
        refine (Place_big s (-1) _ (.inl (by omega))).mono ?_
        rintro e w2 ⟨rfl, rfl⟩
        go_wp2
        go_ret
        exact ⟨rfl, hb1⟩
    · obtain ⟨m, rfl⟩ := Int.eq_ofNat_of_zero_le (show 0 ≤ i by omega)
      have hm : m ≤ s.size := by omega
      clear hout
      have hd : decide ((s.size : Int) < (m : Int)) = false := by simpa using hm
      have hd1 : decide (s.size < m) = false := by simpa using hm
      obtain ⟨h1, h2⟩ := plc_st s m
      have hle := st_le s m
      have hpl := plc_le s m
      have hsv := start_of_place s m hm
      have hpv : placeV s (m : Int) = plc s m := by unfold placeV; rw [if_neg (by omega)]; rfl
      have hbf := st_before s m
      have Hsv := Lib.hid hsv; clear hsv
      have Hpv := Lib.hid hpv; clear hpv
      have Hbf := Lib.hid hbf; clear hbf
      have H1 := Lib.hid h1; clear h1
      have h2' : ((st s m).2 : Int) + (plc s m).2 - 1 = m := by omega
      have hne : ((((st s m).2 : Int) + (plc s m).2 - 1) != m) = false := by simp; omega
      have H2 := Lib.hid h2; clear h2 h2'
      go_enter Try.func6, Try.ntmps6
      go_wp2_with fail
      refine (awake_any _).mono ?_
      rintro e w1 ⟨rfl, hb1⟩
      go_wp2_with fail
      refine (Place_any s m (by omega) _).mono ?_
      rw [Hpv.out]
      rintro e w2 ⟨rfl, rfl⟩
      go_wp2_with fail
      refine (Start_any s _ (by omega) _).mono ?_
      rw [Hsv.out]
      rintro e w2 ⟨rfl, hb2⟩
      have hb02 := hb1.trans (hb2.mono hb1.size)
      clear hb1 hb2
      go_wp2
      have Hb := Lib.hid hb02; clear hb02 hne
      go_loop [12] (fun c => ∃ k : Nat, (st s m).2 ≤ k ∧ k ≤ m ∧ c = .int .i64 k) (fun c => m - (intOf c).toNat)
      case atStart => exact ⟨_, Nat.le_refl _, hle, rfl⟩
      case round =>
        obtain ⟨k, hk1, hk2, rfl⟩ := hrel
        by_cases hlt : k < m
        · have hby := byte_no (by omega) (st_gap s m k hk1 hlt)
          go_wp2
          go_round
          case rel => exact ⟨k + 1, by omega, by omega, by go_num⟩
          case measure => simp [intOf]; omega
        · obtain rfl : k = m := by omega
          by_cases hz : (st s k).2 = 0
          · have hzb : (((st s k).2 : Int) == 0) = true := by rw [hz]; rfl
            have Hz := Lib.hid hz; clear hz
            go_wp2
            go_ret
            exact ⟨rfl, Hb.out⟩
          · have hzb : (((st s k).2 : Int) == 0) = false := by rw [beq_eq_false_iff_ne]; omega
            have hnl : nlB s ((st s k).2 - 1) = true := by rcases Hbf.out with h | h; exact absurd h hz; exact h
            have hlt2 : (st s k).2 - 1 < s.size := by omega
            have hby := byte_yes hlt2 hnl
            have g3 : (((st s k).2 : Int) - 1).toNat = (st s k).2 - 1 := by omega
            have g5 : (0 : Int) ≤ ((st s k).2 : Int) - 1 := by omega
            have g6 : ((st s k).2 : Int) - 1 < s.size := by omega
            have Hnl := Lib.hid hnl; clear hnl
            have Hz := Lib.hid hz; clear hz
            go_wp2
            go_ret
            exact ⟨rfl, Hb.out⟩
end Go.Proofs.Ythojjmebjhempaa
