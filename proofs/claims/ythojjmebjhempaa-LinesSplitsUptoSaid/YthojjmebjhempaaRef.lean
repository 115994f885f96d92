/-
  For the laws of lines: the document's own answers: its Split returns the lines, its Place the line and the column. Condition: at most 5,000,000 bytes.
-/
import Derived.Test.YthojjmebjhempaaPartsWalk
import Derived.Test.YthojjmebjhempaaForthWalk
namespace Go.Proofs.Ythojjmebjhempaa
open Go.RowKit Go.Shelf

/-- Behind an append to a slice of the call's own. -/
theorem below_appended {w wr w1 : World} {o : Value} {n : Nat} {xs : List Value} {tmp : Obj} (hB : Below w.heap.size w wr) (hown : wr.ownsRow w.heap.size 9 1 o n xs) (hgrow : (wr.alloc tmp).grownBy w1 o.ownBlock) : Below w.heap.size w w1 :=
  (hB.alloc hB.size tmp).grown hgrow (by have := hB.size; simp; omega) fun k e => (hown.lt k e).1

set_option maxRecDepth 100000 in
set_option maxHeartbeats 4000000 in
theorem RefSplit_any (s : ByteArray) (hs : s.size ≤ 5000000) (w : World) :
    Calls Try.prog 9 #[.string s] w fun e W' => ∃ v, e = .returned v ∧ Strs W' v (lns s) ∧ Below w.heap.size w W' := by
  obtain ⟨i0, hi, hz0, hz1, hz2⟩ := info_parts try_info9
  go_enter Try.func9, Try.ntmps9
  go_wp2
  go_loopw [3, 4, 5] (fun o f i wr => ∃ k : Nat, k ≤ s.size ∧ i = .int .i64 k ∧ f = .int .i64 ((st s k).2 : Nat) ∧ wr.ownsRow w.heap.size 9 1 o (st s k).1.length ((st s k).1.map Value.string) ∧ Below w.heap.size w wr)
    (fun _ _ i _ => s.size - (intOf i).toNat)
  case atStart => exact ⟨0, Nat.zero_le _, rfl, rfl, World.ownsRow_nil _ _ _ _, Below.refl _ _⟩
  case round =>
    obtain ⟨k, hk, rfl, rfl, hown, hB⟩ := hrel
    have hfk := st_le s k
    have hlk := st_len s k
    by_cases hlt : k < s.size
    · by_cases hb : ((s[k].toNat : Int) == 10) = true
      · have hst := st_yes (nlB_true' hlt hb)
        have Hst := Lib.hid hst; clear hst
        go_wp2_with (at_builtin; refine wpList_append_own _ rfl _ _ 22 rfl w.heap.size 9 i0 (.string ⟨#[]⟩) 1 16 Try.underlying22 hi hz0 hz1 hz2 rfl (by decide) _ _ _ rfl (hown.alloc _) ⟨wr.heap.size, 0, none⟩ 1 1 [.string (s.extract (st s k).2 (k + 1))] rfl rfl (cell_one_new _ _ _) (by simp [Value.oneCell']) (by unfold maxLen; omega) (by omega) (by have := hB.size; simp; omega) ?_; intro v' w1 hown' hgrow _)
        refine ⟨⟨k + 1, by omega, by go_num, by rw [Hst.out]; go_num, by rw [Hst.out]; simpa using hown', below_appended hB hown hgrow⟩, by simp [intOf]; omega⟩
      · replace hb : ((s[k].toNat : Int) == 10) = false := by simpa using hb
        have hst := st_no (nlB_false' hlt hb)
        have Hst := Lib.hid hst; clear hst
        go_wp2
        refine ⟨⟨k + 1, by omega, by go_num, by rw [Hst.out], by rw [Hst.out]; exact hown, hB⟩, by simp [intOf]; omega⟩
    · obtain rfl : k = s.size := by omega
      by_cases hf : (st s s.size).2 < s.size
      · have hl : lns s = (st s s.size).1 ++ [s.extract (st s s.size).2 s.size] := by unfold lns; rw [if_pos hf]
        have Hl := Lib.hid hl; clear hl
        go_wp2_with (at_builtin; refine wpList_append_own _ rfl _ _ 22 rfl w.heap.size 9 i0 (.string ⟨#[]⟩) 1 16 Try.underlying22 hi hz0 hz1 hz2 rfl (by decide) _ _ _ rfl (hown.alloc _) ⟨wr.heap.size, 0, none⟩ 1 1 [.string (s.extract (st s s.size).2 s.size)] rfl rfl (cell_one_new _ _ _) (by simp [Value.oneCell']) (by unfold maxLen; omega) (by omega) (by have := hB.size; simp; omega) ?_; intro v' w1 hown' hgrow _)
        go_ret
        exact ⟨v', rfl, strs_of_owns (by rw [Hl.out]; simpa using hown'), below_appended hB hown hgrow⟩
      · have hl : lns s = (st s s.size).1 := by unfold lns; rw [if_neg hf]
        have Hl := Lib.hid hl; clear hl
        go_wp2
        go_ret
        exact ⟨_, rfl, strs_of_owns (by rw [Hl.out]; exact hown), hB⟩

set_option maxRecDepth 100000 in
set_option maxHeartbeats 1000000 in
theorem RefPlace_any (s : ByteArray) (i : Int) (hs : s.size ≤ 5000000) (w : World) :
    Calls Try.prog 18 #[.string s, .int .i64 i] w fun e w' => e = .returned (.tuple #[.int .i64 ((placeV s i).1 : Nat), .int .i64 ((placeV s i).2 : Nat)]) ∧ w = w' := by
  by_cases h0 : i < 0
  · have hv : placeV s i = (0, 0) := by unfold placeV; rw [if_pos (.inl h0)]
    have Hv := Lib.hid hv; clear hv
    go_enter Try.func18, Try.ntmps18
    go_wp2
    go_ret2
    exact ⟨by rw [Hv.out]; rfl, rfl⟩
  · by_cases h1 : (s.size : Int) < i
    · have hv : placeV s i = (0, 0) := by unfold placeV; rw [if_pos (.inr h1)]
      have Hv := Lib.hid hv; clear hv
      go_enter Try.func18, Try.ntmps18
      go_wp2
      go_ret2
      exact ⟨by rw [Hv.out]; rfl, rfl⟩
    · obtain ⟨m, rfl⟩ := Int.eq_ofNat_of_zero_le (show 0 ≤ i by omega)
      have hm : m ≤ s.size := by omega
      have hv : placeV s (m : Int) = plc s m := by unfold placeV; rw [if_neg (by omega)]; rfl
      have Hv := Lib.hid hv; clear hv
      clear h1
      have h1 : decide ((s.size : Int) < (m : Int)) = false := by simpa using hm
      have h1' : decide (s.size < m) = false := by simpa using hm
      go_enter Try.func18, Try.ntmps18
      go_wp2
      go_loop [6, 7, 8] (fun a b c => ∃ k : Nat, k ≤ m ∧ c = .int .i64 k ∧ a = .int .i64 ((plc s k).1 : Nat) ∧ b = .int .i64 ((st s k).2 : Nat)) (fun _ _ c => m - (intOf c).toNat)
      case atStart => exact ⟨0, Nat.zero_le _, rfl, rfl, rfl⟩
      case round =>
        obtain ⟨k, hk, rfl, rfl, rfl⟩ := hrel
        have hp := plc_le s k
        have hle := st_le s k
        by_cases hlt : k < m
        · have hks : k < s.size := by omega
          by_cases hb : ((s[k].toNat : Int) == 10) = true
          · have hn := plc_yes (nlB_true' hks hb)
            have Hn := Lib.hid hn; clear hn
            have hst := st_yes (nlB_true' hks hb)
            have Hst := Lib.hid hst; clear hst
            go_wp2
            go_round
            case rel => exact ⟨k + 1, by omega, by go_num, by rw [Hn.out]; go_num, by rw [Hst.out]; go_num⟩
            case measure => simp [intOf]; omega
          · replace hb : ((s[k].toNat : Int) == 10) = false := by simpa using hb
            have hn := plc_no (nlB_false' hks hb)
            have Hn := Lib.hid hn; clear hn
            have hst := st_no (nlB_false' hks hb)
            have Hst := Lib.hid hst; clear hst
            go_wp2
            go_round
            case rel => exact ⟨k + 1, by omega, by go_num, by rw [Hn.out], by rw [Hst.out]⟩
            case measure => simp [intOf]; omega
        · obtain rfl : k = m := by omega
          have hps := (plc_st s k).2
          have Hps := Lib.hid hps; clear hps
          go_wp2
          go_ret2
          refine ⟨?_, rfl⟩
          rw [Hv.out]
          have e : ((k : Int) - (st s k).2 + 1) = (plc s k).2 := by have := Hps.out; omega
          rw [← e]
          rfl

/-- .. with the premises that a sum of sizes wants. -/
theorem sumL_take (xs : List ByteArray) {k : Nat} (h : k < xs.length) : sumL (xs.take (k + 1)) = sumL (xs.take k) + (xs[k]).size := by
  rw [← List.take_append_getElem h, sumL_snoc]
theorem sumL_take_le (xs : List ByteArray) (k : Nat) : sumL (xs.take k) ≤ sumL xs := sumL_prefix (List.take_prefix _ _)

theorem last_byte {s : ByteArray} {c : UInt8} (hx : s.size - 1 < s.size) (h : s.data.toList.getLast? = some c) : s[s.size - 1] = c := by
  rw [List.getLast?_eq_getElem?] at h
  have hl : s.data.toList.length = s.size := by simp
  rw [List.getElem?_eq_getElem (by omega)] at h
  simp only [hl] at h
  exact Option.some.inj h
theorem last_no {s : ByteArray} (hx : s.size - 1 < s.size) (h : s.data.toList.getLast? = some 10) : ((s[s.size - 1].toNat : Int) != 10) = false := by
  rw [last_byte hx h]; rfl
theorem last_yes {s : ByteArray} {c : UInt8} (hx : s.size - 1 < s.size) (h : s.data.toList.getLast? = some c) (hc : c ≠ 10) : ((s[s.size - 1].toNat : Int) != 10) = true := by
  rw [last_byte hx h, bne_iff_ne]
  intro e
  exact hc (UInt8.toNat_inj.1 (by have : c.toNat = 10 := by omega
                                  exact this))
theorem size_zero {s : ByteArray} (h : s.data.toList = []) : s.size = 0 := by
  have := congrArg List.length h
  simpa using this
theorem size_pos {s : ByteArray} {c : UInt8} (h : s.data.toList.getLast? = some c) : 0 < s.size := by
  have hl : s.data.toList.length = s.size := by simp
  cases hd : s.data.toList with
  | nil => rw [hd] at h; simp at h
  | cons a r => rw [hd] at hl; simp at hl; omega
theorem whole_ne {s : ByteArray} (h : (whole s).data.toList = s.data.toList ++ [10]) : ¬ whole s = s := by
  intro e
  rw [e] at h
  have := congrArg List.length h
  simp at this

set_option maxRecDepth 100000 in
set_option maxHeartbeats 4000000 in
theorem RefStart_any (s : ByteArray) (line : Int) (hs : s.size ≤ 5000000) (w : World) :
    Calls Try.prog 20 #[.string s, .int .i64 line] w fun e W' => e = .returned (.tuple #[.int .i64 ((startV s line).1 : Nat), .bool (startV s line).2]) ∧ Below w.heap.size w W' := by
  have hll := lns_len s
  have hsl := sumL_lns s
  by_cases h0 : line < 1
  · have hv : startV s line = (0, false) := by unfold startV; rw [if_neg (by omega), if_neg (by omega)]
    have Hv := Lib.hid hv; clear hv
    have Hsl := Lib.hid hsl; clear hsl
    go_enter Try.func20, Try.ntmps20
    go_wp2_with fail
    refine (RefSplit_any s hs _).mono ?_
    rintro e w1 ⟨v, rfl, hv, hb⟩
    obtain ⟨a, cap, rfl, hc, hm, hv⟩ := hv
    go_wp2
    go_ret2
    exact ⟨by rw [Hv.out]; rfl, hb⟩
  · by_cases h1 : ((lns s).length : Int) + 1 < line
    · have hv : startV s line = (0, false) := by unfold startV; rw [if_neg (by omega), if_neg (by omega)]
      have Hv := Lib.hid hv; clear hv
      have Hsl := Lib.hid hsl; clear hsl
      go_enter Try.func20, Try.ntmps20
      go_wp2_with fail
      refine (RefSplit_any s hs _).mono ?_
      rintro e w1 ⟨v, rfl, hv, hb⟩
      obtain ⟨a, cap, rfl, hc, hm, hv⟩ := hv
      go_wp2
      go_ret2
      exact ⟨by rw [Hv.out]; rfl, hb⟩
    · obtain ⟨m, rfl⟩ : ∃ m : Nat, line = (m : Int) + 1 := ⟨(line - 1).toNat, by omega⟩
      have hm1 : m ≤ (lns s).length := by omega
      have hd : decide (((lns s).length : Int) + 1 < (m : Int) + 1) = false := by simp; omega
      have Hsl := Lib.hid hsl; clear hsl
      clear h1 h0
      go_enter Try.func20, Try.ntmps20
      go_wp2_with fail
      refine (RefSplit_any s hs _).mono ?_
      rintro e w1 ⟨v, rfl, hv, hb⟩
      obtain ⟨a, cap, rfl, hc, hm, hv⟩ := hv
      go_wp2
      go_loopw [7, 8] (fun q i wr => ∃ k : Nat, k ≤ m ∧ i = .int .i64 k ∧ q = .int .i64 (sumL ((lns s).take k) : Nat) ∧ wr = w1) (fun _ i _ => m - (intOf i).toNat)
      case atStart => exact ⟨0, Nat.zero_le _, rfl, rfl, rfl⟩
      case round =>
        obtain ⟨k, hk, rfl, rfl, rfl⟩ := hrel
        by_cases hlt : k < m
        · have hlt2 : k < (lns s).length := by omega
          rcases hv with hv | ⟨b, off, rfl, hbs, hx⟩
          · rw [hv] at hlt2; simp at hlt2
          · have hget : (lns s)[k]? = some (lns s)[k] := List.getElem?_eq_getElem hlt2
            have e1 := hx k _ hget
            have hst := sumL_take (lns s) hlt2
            have hle := sumL_take_le (lns s) (k + 1)
            rw [Hsl.out, hst] at hle
            generalize (lns s)[k] = x at *
            have Hst := Lib.hid hst; clear hst hx hget
            go_wp2
            refine ⟨⟨k + 1, by omega, by go_num, by rw [Hst.out]; go_num, trivial⟩, by simp [intOf]; omega⟩
        · obtain rfl : k = m := by omega
          by_cases hA : k + 1 ≤ (lns s).length
          · have hsv : startV s ((k : Int) + 1) = (sumL ((lns s).take k), true) := by
              unfold startV; rw [if_pos ⟨by omega, by omega⟩, show ((k : Int) + 1 - 1).toNat = k by omega]
            have hne : ((k : Int) == ((lns s).length : Int)) = false := by rw [beq_eq_false_iff_ne]; omega
            have hne2 : (((k : Int) + 1) == ((lns s).length : Int) + 1) = false := by rw [beq_eq_false_iff_ne]; omega
            have Hsv := Lib.hid hsv; clear hsv
            go_wp2
            go_ret2
            exact ⟨by rw [Hsv.out]; rfl, hb⟩
          · obtain rfl : k = (lns s).length := by omega
            have ht : (lns s).take (lns s).length = lns s := List.take_length
            have hsz := Hsl.out
            rcases whole_cases s with ⟨h0 | h0, hw⟩ | ⟨c, h0, hc10, hw⟩
            · have hz := size_zero h0
              have hsv : startV s (((lns s).length : Int) + 1) = (s.size, true) := by
                unfold startV; rw [if_neg (by omega), if_pos ⟨rfl, hw⟩, hsz]
              have hd2 : decide ((0 : Int) < (s.size : Int)) = false := by rw [hz]; rfl
              have hd3 : decide (0 < s.size) = false := by rw [hz]; rfl
              have Hsv := Lib.hid hsv; clear hsv
              have Hz := Lib.hid hz; clear hz
              clear hw h0
              have HT := Lib.hid ht; clear ht
              have HS := Lib.hid hsz; clear hsz
              go_wp2
              go_ret2
              exact ⟨by rw [Hsv.out]; simp only [Array.getD_eq_getD_getElem?]; simp [HT.out, HS.out], hb⟩
            · have hp := size_pos h0
              have hlt2 : s.size - 1 < s.size := by omega
              have hby := last_no hlt2 h0
              have hsv : startV s (((lns s).length : Int) + 1) = (s.size, true) := by
                unfold startV; rw [if_neg (by omega), if_pos ⟨rfl, hw⟩, hsz]
              have hd2 : decide ((0 : Int) < (s.size : Int)) = true := by simp; omega
              have g3 : ((s.size : Int) - 1).toNat = s.size - 1 := by omega
              have g5 : (0 : Int) ≤ (s.size : Int) - 1 := by omega
              have g6 : (s.size : Int) - 1 < s.size := by omega
              have Hsv := Lib.hid hsv; clear hsv
              clear hw h0
              have HT := Lib.hid ht; clear ht
              have HS := Lib.hid hsz; clear hsz
              go_wp2
              go_ret2
              exact ⟨by rw [Hsv.out]; simp only [Array.getD_eq_getD_getElem?]; simp [HS.out], hb⟩
            · have hp := size_pos h0
              have hlt2 : s.size - 1 < s.size := by omega
              have hby := last_yes hlt2 h0 hc10
              have hsv : startV s (((lns s).length : Int) + 1) = (0, false) := by
                unfold startV; rw [if_neg (by omega), if_neg (fun h => whole_ne hw h.2)]
              have hd2 : decide ((0 : Int) < (s.size : Int)) = true := by simp; omega
              have g3 : ((s.size : Int) - 1).toNat = s.size - 1 := by omega
              have g5 : (0 : Int) ≤ (s.size : Int) - 1 := by omega
              have g6 : (s.size : Int) - 1 < s.size := by omega
              have Hsv := Lib.hid hsv; clear hsv
              clear hw h0 hc10
              have HT := Lib.hid ht; clear ht
              have HS := Lib.hid hsz; clear hsz
              go_wp2
              go_ret2
              exact ⟨by rw [Hsv.out]; rfl, hb⟩
end Go.Proofs.Ythojjmebjhempaa
