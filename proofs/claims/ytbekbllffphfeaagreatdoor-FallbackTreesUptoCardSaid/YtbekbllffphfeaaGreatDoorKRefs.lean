/-
  For the laws of marker: the document's own Split and Whole, by the program. Condition: at most 5,000,000 bytes.
-/
import Derived.Test.YtbekbllffphfeaaGreatDoorKWhole
import Derived.Test.YtbekbllffphfeaaGreatDoorKRefrun
namespace Go.Proofs.YtbekbllffphfeaaGreatDoor.K
open Go.RowKit Go.Shelf

theorem nlB_true' {s : ByteArray} {k : Nat} (h : k < s.size) (hb : ((s[k].toNat : Int) == 10) = true) : nlB s k = true :=
  nlB_true h (by rw [bne, hb]; rfl)
theorem nlB_false' {s : ByteArray} {k : Nat} (h : k < s.size) (hb : ((s[k].toNat : Int) == 10) = false) : nlB s k = false :=
  nlB_false h (by rw [bne, hb]; rfl)

/-- Behind an append to a slice of the call's own. -/
theorem below_appended {w wr w1 : World} {o : Value} {n : Nat} {xs : List Value} {tmp : Obj} (hB : Below w.heap.size w wr) (hown : wr.ownsRow w.heap.size 9 1 o n xs) (hgrow : (wr.alloc tmp).grownBy w1 o.ownBlock) : Below w.heap.size w w1 :=
  (hB.alloc hB.size tmp).grown hgrow (by have := hB.size; simp; omega) fun k e => (hown.lt k e).1

set_option maxRecDepth 100000 in
set_option maxHeartbeats 4000000 in
theorem RefSplit_any (s : ByteArray) (hs : s.size ≤ 50000000) (w : World) :
    Calls Tryz.prog 36 #[.string s] w fun e W' => ∃ v, e = .returned v ∧ Strz W' v (lns s) ∧ Below w.heap.size w W' := by
  obtain ⟨i0, hi, hz0, hz1, hz2⟩ := info_parts try_info9
  go_enter Tryz.func36, Tryz.ntmps36
  go_wp2
  go_loopw [3, 4, 5] (fun o f i wr => ∃ k : Nat, k ≤ s.size ∧ i = .int .i64 k ∧ f = .int .i64 ((st s k).2 : Nat) ∧ wr.ownsRow w.heap.size 9 1 o (st s k).1.length ((st s k).1.map Value.string) ∧ Below w.heap.size w wr)
    (fun _ _ i _ => s.size - (intOf i).toNat)
  case atStart => exact ⟨0, Nat.zero_le _, rfl, rfl, World.ownsRow_nil _ _ _ _, Below.refl _ _⟩
  case round =>
    obtain ⟨k, hk, rfl, rfl, hown, hB⟩ := hrel
    have hfk := st_le s k
    have hlk := st_len s k
    by_cases hlt : k < s.size
    · by_cases hb : ((s[k].toNat : Int) == 10) = true
      · have hst := st_yes (nlB_true' hlt hb)
        have Hst := Lib.hid hst; clear hst
        go_wp2_with (at_builtin; refine wpList_append_own _ rfl _ _ 55 rfl w.heap.size 9 i0 (.string ⟨#[]⟩) 1 16 Tryz.underlying55 hi hz0 hz1 hz2 rfl (by decide) _ _ _ rfl (hown.alloc _) ⟨wr.heap.size, 0, none⟩ 1 1 [.string (s.extract (st s k).2 (k + 1))] rfl rfl (cell_one_new _ _ _) (by simp [Value.oneCell']) (by unfold maxLen; omega) (by omega) (by have := hB.size; simp; omega) ?_; intro v' w1 hown' hgrow _)
        refine ⟨⟨k + 1, by omega, by go_num, by rw [Hst.out]; go_num, by rw [Hst.out]; simpa using hown', below_appended hB hown hgrow⟩, by simp [intOf]; omega⟩
      · replace hb : ((s[k].toNat : Int) == 10) = false := by simpa using hb
        have hst := st_no (nlB_false' hlt hb)
        have Hst := Lib.hid hst; clear hst
        go_wp2
        refine ⟨⟨k + 1, by omega, by go_num, by rw [Hst.out], by rw [Hst.out]; exact hown, hB⟩, by simp [intOf]; omega⟩
    · obtain rfl : k = s.size := by omega
      by_cases hf : (st s s.size).2 < s.size
      · have hl : lns s = (st s s.size).1 ++ [s.extract (st s s.size).2 s.size] := by unfold lns; rw [if_pos hf]
        have Hl := Lib.hid hl; clear hl
        go_wp2_with (at_builtin; refine wpList_append_own _ rfl _ _ 55 rfl w.heap.size 9 i0 (.string ⟨#[]⟩) 1 16 Tryz.underlying55 hi hz0 hz1 hz2 rfl (by decide) _ _ _ rfl (hown.alloc _) ⟨wr.heap.size, 0, none⟩ 1 1 [.string (s.extract (st s s.size).2 s.size)] rfl rfl (cell_one_new _ _ _) (by simp [Value.oneCell']) (by unfold maxLen; omega) (by omega) (by have := hB.size; simp; omega) ?_; intro v' w1 hown' hgrow _)
        go_ret
        exact ⟨v', rfl, strz_of_owns (by rw [Hl.out]; simpa using hown'), below_appended hB hown hgrow⟩
      · have hl : lns s = (st s s.size).1 := by unfold lns; rw [if_neg hf]
        have Hl := Lib.hid hl; clear hl
        go_wp2
        go_ret
        exact ⟨_, rfl, strz_of_owns (by rw [Hl.out]; exact hown), hB⟩

theorem last_byte {s : ByteArray} {c : UInt8} (hx : s.size - 1 < s.size) (h : s.data.toList.getLast? = some c) : s[s.size - 1] = c := by
  rw [List.getLast?_eq_getElem?] at h
  have hl : s.data.toList.length = s.size := by simp
  rw [List.getElem?_eq_getElem (by omega)] at h
  simp only [hl] at h
  exact Option.some.inj h
theorem last_no {s : ByteArray} (hx : s.size - 1 < s.size) (h : s.data.toList.getLast? = some 10) : ((s[s.size - 1].toNat : Int) != 10) = false := by
  rw [last_byte hx h]; rfl
theorem last_yes {s : ByteArray} {c : UInt8} (hx : s.size - 1 < s.size) (h : s.data.toList.getLast? = some c) (hc : c ≠ 10) : ((s[s.size - 1].toNat : Int) != 10) = true := by
  rw [last_byte hx h, bne_iff_ne]
  intro e
  exact hc (UInt8.toNat_inj.1 (by have : c.toNat = 10 := by omega
                                  exact this))
theorem size_zero {s : ByteArray} (h : s.data.toList = []) : s.size = 0 := by
  have := congrArg List.length h
  simpa using this
theorem size_pos {s : ByteArray} {c : UInt8} (h : s.data.toList.getLast? = some c) : 0 < s.size := by
  have hl : s.data.toList.length = s.size := by simp
  cases hd : s.data.toList with
  | nil => rw [hd] at h; simp at h
  | cons a r => rw [hd] at hl; simp at hl; omega
theorem ext_list {s t : ByteArray} (h : s.data.toList = t.data.toList) : s = t := ByteArray.ext (Array.toList_inj.1 h)
theorem suffix_last (l : List UInt8) : Lib.hasSuffix l [10] = true ↔ l.getLast? = some 10 := by
  unfold Lib.hasSuffix
  rw [List.isSuffixOf_iff_suffix]
  constructor
  · rintro ⟨t, rfl⟩; simp
  · intro h
    obtain ⟨t, rfl⟩ := List.getLast?_eq_some_iff.1 h
    exact ⟨t, rfl⟩
theorem wholeS_id {s : ByteArray} (h : s.data.toList = [] ∨ s.data.toList.getLast? = some 10) : wholeS s = s := by
  unfold wholeS
  rw [if_pos]
  rcases h with h | h
  · rw [Lib.toList_data, h]; rfl
  · rw [(suffix_last _).2 h, Bool.or_true]
theorem whole_cases (s : ByteArray) : ((s.data.toList = [] ∨ s.data.toList.getLast? = some 10) ∧ wholeS s = s) ∨ (∃ c, s.data.toList.getLast? = some c ∧ c ≠ 10 ∧ (wholeS s).data.toList = s.data.toList ++ [10]) := by
  cases hl : s.data.toList.getLast? with
  | none =>
    have h : s.data.toList = [] := List.getLast?_eq_none_iff.1 hl
    exact .inl ⟨.inl h, wholeS_id (.inl h)⟩
  | some c =>
    by_cases hc : c = 10
    · subst hc
      exact .inl ⟨.inr rfl, wholeS_id (.inr hl)⟩
    · refine .inr ⟨c, rfl, hc, ?_⟩
      have h1 : Lib.hasSuffix s.data.toList [10] = false := by
        cases h : Lib.hasSuffix s.data.toList [10] with
        | false => rfl
        | true => rw [suffix_last, hl] at h; simp at h; exact absurd h hc
      have h0 : s.toList.isEmpty = false := by
        rw [Lib.toList_data]
        cases h : s.data.toList with
        | nil => rw [h] at hl; simp at hl
        | cons a r => rfl
      unfold wholeS
      rw [h0, h1]
      simp
set_option maxRecDepth 100000 in
set_option maxHeartbeats 2000000 in
theorem RefWhole_any (s : ByteArray) (hs : s.size ≤ 50000000) (w : World) :
    Calls Tryz.prog 77 #[.string s] w fun e w' => e = .returned (.string (wholeS s)) ∧ w = w' := by
  rcases whole_cases s with ⟨h0 | h0, hw⟩ | ⟨c, h0, hc10, hw⟩
  · have hz := size_zero h0
    have hd2 : decide ((0 : Int) < (s.size : Int)) = false := by rw [hz]; rfl
    have hd3 : decide (0 < s.size) = false := by rw [hz]; rfl
    have Hz := Lib.hid hz; clear hz
    have Hw := Lib.hid hw; clear hw h0
    go_enter Tryz.func77, Tryz.ntmps77
    go_wp2
    go_ret
    exact ⟨by rw [Hw.out]; rfl, rfl⟩
  · have hp := size_pos h0
    have hlt2 : s.size - 1 < s.size := by omega
    have hby := last_no hlt2 h0
    have hd2 : decide ((0 : Int) < (s.size : Int)) = true := by simp; omega
    have g3 : ((s.size : Int) - 1).toNat = s.size - 1 := by omega
    have g5 : (0 : Int) ≤ (s.size : Int) - 1 := by omega
    have g6 : (s.size : Int) - 1 < s.size := by omega
    have Hw := Lib.hid hw; clear hw h0
    go_enter Tryz.func77, Tryz.ntmps77
    go_wp2
    go_ret
    exact ⟨by rw [Hw.out]; rfl, rfl⟩
  · have hp := size_pos h0
    have hlt2 : s.size - 1 < s.size := by omega
    have hby := last_yes hlt2 h0 hc10
    have hd2 : decide ((0 : Int) < (s.size : Int)) = true := by simp; omega
    have g3 : ((s.size : Int) - 1).toNat = s.size - 1 := by omega
    have g5 : (0 : Int) ≤ (s.size : Int) - 1 := by omega
    have g6 : (s.size : Int) - 1 < s.size := by omega
    have hw2 : wholeS s = s ++ ⟨#[10]⟩ := ext_list (by rw [hw]; simp)
    have Hw := Lib.hid hw2; clear hw hw2 h0 hc10
    go_enter Tryz.func77, Tryz.ntmps77
    go_wp2
    go_ret
    exact ⟨by rw [Hw.out]; rfl, rfl⟩

end Go.Proofs.YtbekbllffphfeaaGreatDoor.K
