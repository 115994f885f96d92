/-
  For the laws of lines: the law LinesSplits returns true for every text and every texts. Condition: the texts together have at most 2,000,000 bytes.
-/
import Derived.Test.YthojjmebjhempaaRef
namespace Go.Proofs.Ythojjmebjhempaa
open Go.RowKit Go.Shelf

def catB (xs : List ByteArray) : ByteArray := xs.foldl (· ++ ·) ⟨#[]⟩
theorem catB_snoc (xs : List ByteArray) (x : ByteArray) : catB (xs ++ [x]) = catB xs ++ x := by simp [catB]
theorem catB_list (xs : List ByteArray) : (catB xs).data.toList = (xs.map (·.data.toList)).flatten := by
  rw [show xs = xs.reverse.reverse by simp]
  induction xs.reverse with
  | nil => rfl
  | cons x r ih =>
    rw [List.reverse_cons, catB_snoc]
    simp [ih]
theorem catB_join (xs : List ByteArray) : catB xs = joinB xs := by
  apply ext_list
  rw [catB_list]
  unfold joinB
  rw [join_flat]
theorem flat_size (xs : List ByteArray) : (xs.map (·.data.toList)).flatten.length = sumL xs := by
  induction xs with
  | nil => rfl
  | cons x r ih => simp [sumL] at ih ⊢; omega
theorem catB_size (xs : List ByteArray) : (catB xs).size = sumL xs := by
  rw [← flat_size, ← catB_list]; simp
theorem take_snocB (xs : List ByteArray) {k : Nat} (h : k < xs.length) : xs.take (k + 1) = xs.take k ++ [xs[k]] := by
  rw [List.take_append_getElem h]

set_option maxRecDepth 100000 in
set_option maxHeartbeats 2000000 in
theorem RefJoin_any (v : Value) (xs : List ByteArray) (w : World) (h : Strs w v xs) (hlen : sumL xs ≤ 2000000) :
    Calls Try.prog 14 #[v] w fun e w' => e = .returned (.string (joinB xs)) ∧ w = w' := by
  rw [← catB_join]
  obtain ⟨a, cap, rfl, hc, hm, hv⟩ := h
  unfold maxLen at hm
  have hend : catB (xs.take xs.length) = catB xs := by rw [List.take_length]
  have Hend := Lib.hid hend; clear hend
  go_enter Try.func14, Try.ntmps14
  go_wp2
  go_loop [3, 4] (fun s i => ∃ k : Nat, k ≤ xs.length ∧ i = .int .i64 k ∧ s = .string (catB (xs.take k))) (fun _ i => xs.length - (intOf i).toNat)
  case atStart => exact ⟨0, Nat.zero_le _, rfl, rfl⟩
  case round =>
    obtain ⟨k, hk, rfl, rfl⟩ := hrel
    by_cases hlt : k < xs.length
    · rcases hv with hv | ⟨b, off, rfl, hbs, hx⟩
      · rw [hv] at hlt; simp at hlt
      · have e1 := hx k xs[k] (List.getElem?_eq_getElem hlt)
        have hst : catB (xs.take (k + 1)) = catB (xs.take k) ++ xs[k] := by rw [take_snocB xs hlt, catB_snoc]
        have hsz := catB_size (xs.take (k + 1))
        have hle := sumL_prefix (List.take_prefix (k + 1) xs)
        rw [hst, ByteArray.size_append] at hsz
        have hsz2 : (catB (xs.take k)).size + (xs[k]).size ≤ 2000000 := by omega
        clear hsz hle
        generalize xs[k] = x at *
        have Hst := Lib.hid hst; clear hst
        clear hx
        go_wp2
        go_round
        case rel => exact ⟨k + 1, by omega, by go_num, by rw [Hst.out]⟩
        case measure => simp [intOf]; omega
    · obtain rfl : k = xs.length := by omega
      go_wp2
      go_ret
      exact ⟨by rw [← Hend.out]; rfl, rfl⟩

set_option maxRecDepth 100000 in
set_option maxHeartbeats 2000000 in
theorem RefWhole_any (s : ByteArray) (hs : s.size ≤ 5000000) (w : World) :
    Calls Try.prog 16 #[.string s] w fun e w' => e = .returned (.string (whole s)) ∧ w = w' := by
  rcases whole_cases s with ⟨h0 | h0, hw⟩ | ⟨c, h0, hc10, hw⟩
  · have hz := size_zero h0
    have hd2 : decide ((0 : Int) < (s.size : Int)) = false := by rw [hz]; rfl
    have hd3 : decide (0 < s.size) = false := by rw [hz]; rfl
    have Hz := Lib.hid hz; clear hz
    have Hw := Lib.hid hw; clear hw h0
    go_enter Try.func16, Try.ntmps16
    go_wp2
    go_ret
    exact ⟨by rw [Hw.out]; rfl, rfl⟩
  · have hp := size_pos h0
    have hlt2 : s.size - 1 < s.size := by omega
    have hby := last_no hlt2 h0
    have hd2 : decide ((0 : Int) < (s.size : Int)) = true := by simp; omega
    have g3 : ((s.size : Int) - 1).toNat = s.size - 1 := by omega
    have g5 : (0 : Int) ≤ (s.size : Int) - 1 := by omega
    have g6 : (s.size : Int) - 1 < s.size := by omega
    have Hw := Lib.hid hw; clear hw h0
    go_enter Try.func16, Try.ntmps16
    go_wp2
    go_ret
    exact ⟨by rw [Hw.out]; rfl, rfl⟩
  · have hp := size_pos h0
    have hlt2 : s.size - 1 < s.size := by omega
    have hby := last_yes hlt2 h0 hc10
    have hd2 : decide ((0 : Int) < (s.size : Int)) = true := by simp; omega
    have g3 : ((s.size : Int) - 1).toNat = s.size - 1 := by omega
    have g5 : (0 : Int) ≤ (s.size : Int) - 1 := by omega
    have g6 : (s.size : Int) - 1 < s.size := by omega
    have hw2 : whole s = s ++ ⟨#[10]⟩ := ext_list (by rw [hw]; simp)
    have Hw := Lib.hid hw2; clear hw hw2 h0 hc10
    go_enter Try.func16, Try.ntmps16
    go_wp2
    go_ret
    exact ⟨by rw [Hw.out]; rfl, rfl⟩

set_option maxRecDepth 100000 in
set_option maxHeartbeats 4000000 in
theorem Splits_any (s : ByteArray) (v : Value) (xs : List ByteArray) (w : World) (hv : Strs w v xs) (hsum : sumL xs ≤ 2000000) :
    Calls Try.prog 3 #[.string s, v] w fun e w' => e = .returned (.bool true) ∧ Below w.heap.size w w' := by
  by_cases h1 : 5000 < s.size
  · obtain ⟨a, cap, rfl, hc, hm, hv⟩ := hv
    go_enter Try.func3, Try.ntmps3
    go_wp2_with fail
    refine (awake_any _).mono ?_
    rintro e w1 ⟨rfl, hb⟩
    go_wp2
    go_ret
    exact ⟨rfl, hb⟩
  · have hd0 : decide ((5000 : Int) < (s.size : Int)) = false := by simp; omega
    by_cases h2 : 200 < xs.length
    · obtain ⟨a, cap, rfl, hc, hm, hv⟩ := hv
      go_enter Try.func3, Try.ntmps3
      go_wp2_with fail
      refine (awake_any _).mono ?_
      rintro e w1 ⟨rfl, hb⟩
      go_wp2
      go_ret
      exact ⟨rfl, hb⟩
    · have hd1 : decide ((200 : Int) < (xs.length : Int)) = false := by simp; omega
      have hs : s.size ≤ 5000000 := by omega
      have hfl := flat_size xs
      have hjf := join_flat (xs.map (·.data.toList))
      have hlen : (Lib.join (xs.map (·.data.toList)) []).length ≤ 140737488355328 := by rw [hjf, hfl]; omega
      clear hfl hjf
      have hv0 := hv
      obtain ⟨a, cap, rfl, hc, hm, hv⟩ := hv
      go_enter Try.func3, Try.ntmps3
      go_wp2_with fail
      refine (awake_any _).mono ?_
      rintro e w1 ⟨rfl, hb1⟩
      go_wp2_with fail
      refine (RefSplit_any s hs _).mono ?_
      rintro e w2 ⟨v2, rfl, hv2, hb2⟩
      have hb02 := hb1.trans (hb2.mono hb1.size)
      clear hb1 hb2
      go_wp2_with fail
      refine (Split_any s hs _).mono ?_
      rintro e w3 ⟨v3, rfl, hv3, hb3⟩
      have hb03 := hb02.trans (hb3.mono hb02.size)
      have hv23 := hv2.below hb3
      clear hb02 hb3
      go_wp2_with fail
      refine (Same_yes v3 v2 _ w3 hv3 hv23).mono ?_
      rintro e w4 ⟨rfl, hb4⟩
      have hb04 := hb03.trans (hb4.mono hb03.size)
      clear hb03 hb4 hv3 hv23
      obtain ⟨a2, cap2, rfl, -⟩ := hv2
      go_wp2_with fail
      refine (Count_any s hs _).mono ?_
      rintro e w5 ⟨rfl, hb5⟩
      have hb05 := hb04.trans (hb5.mono hb04.size)
      clear hb04 hb5
      have hv5 := hv0.below hb05
      go_wp2_with fail
      refine (Join_any _ xs w5 hv5 hlen (by omega)).mono ?_
      rintro e w6 ⟨rfl, hb6⟩
      have hb06 := hb05.trans (hb6.mono hb05.size)
      have hv6 := hv5.below hb6
      clear hb05 hb6 hv5
      go_wp2_with fail
      refine (RefJoin_any _ xs w6 hv6 hsum).mono ?_
      rintro e w7 ⟨rfl, rfl⟩
      go_wp2_with fail
      refine (Whole_any s hs _).mono ?_
      rintro e w7 ⟨rfl, rfl⟩
      go_wp2_with fail
      refine (RefWhole_any s hs _).mono ?_
      rintro e w7 ⟨rfl, rfl⟩
      go_wp2
      go_ret
      exact ⟨rfl, hb06⟩
end Go.Proofs.Ythojjmebjhempaa
