/-
  For the laws of lex: which words are kept; how long a mark is. Condition: the text has at most 2 to the 62 bytes.
-/
import Derived.Test.YtfjmhnnjgjcmeaaDoorXBuild
namespace Go.Proofs.YtfjmhnnjgjcmeaaDoor.X
open Go.RowKit Go.Shelf

theorem is_word {s : ByteArray} {l : List UInt8} (h : (s.toList == l) = true) : tl s = l := by rw [beq_iff_eq, Lib.toList_data] at h; exact h
theorem no_word {s : ByteArray} {l : List UInt8} (h : (s.toList == l) = false) : tl s ≠ l := by rw [beq_eq_false_iff_ne, Lib.toList_data] at h; exact h
theorem word_true {s : ByteArray} {l : List UInt8} (h : tl s = l) : (s.toList == l) = true := by rw [beq_iff_eq, Lib.toList_data]; exact h
theorem word_false {s : ByteArray} {l : List UInt8} (h : tl s ≠ l) : (s.toList == l) = false := by rw [beq_eq_false_iff_ne, Lib.toList_data]; exact h
theorem kept_yes {s : ByteArray} {l : List UInt8} (h : (s.toList == l) = true) (hk : decide (l ∈ keptL) = true) : decide (tl s ∈ keptL) = true := by rw [is_word h]; exact hk

set_option maxHeartbeats 4000000 in
theorem Kept_any (s : ByteArray) (w : World) : Calls Tryd.prog 42 #[.string s] w fun e w' => e = .returned (.bool (decide (tl s ∈ keptL))) ∧ w = w' := by
  obtain ⟨v, hv⟩ : ∃ v, Hid (decide (tl s ∈ keptL) = v) := ⟨_, Lib.hid rfl⟩
  rw [hv.out]
  go_enter Tryd.func42, Tryd.ntmps42
  go_wp2_with fail
  all_goals
    first
    | (have : True = False := by simp_all
       exact absurd trivial (this ▸ id))
    | (go_ret
       refine ⟨ret_bool ?_, rfl⟩
       rw [← hv.out]
       first
       | (symm
          refine kept_yes (by assumption) (by decide))
       | (symm
          rw [decide_eq_false_iff_not]
          intro hk
          simp only [keptL, List.mem_cons, List.not_mem_nil, or_false] at hk
          rcases hk with hk | hk | hk | hk | hk | hk | hk | hk | hk | hk | hk | hk | hk | hk | hk | hk
          all_goals exact no_word (by assumption) hk))

theorem byte_back (c : UInt8) : ((c.toNat : Int)).toNat.toUInt8 = c := by simp
theorem index_mem (l : List UInt8) (c : UInt8) : 0 ≤ Lib.indexByte l c ↔ c ∈ l := by
  constructor
  · intro h
    obtain ⟨o, ho⟩ := Int.eq_ofNat_of_zero_le h
    exact List.mem_of_getElem? (Lib.indexByte_some ho).1
  · intro h
    have hg := Lib.indexByte_ge l c
    rcases Int.lt_or_le (Lib.indexByte l c) 0 with h1 | h1
    · exfalso
      obtain ⟨k, hk⟩ := List.getElem?_of_mem h
      exact Lib.indexByte_none (show Lib.indexByte l c = -1 by omega) k hk
    · exact h1
theorem toList_ne {s : ByteArray} (h : 0 < s.size) : s.toList.isEmpty = false ∧ ¬ s.toList = [] := by
  have : s.toList ≠ [] := by
    rw [Lib.toList_data]
    intro e
    have h2 := tl_length s
    rw [show tl s = [] from e] at h2
    simp at h2
    omega
  exact ⟨by simpa using this, this⟩
theorem markLen_two {l : List UInt8} (h : l.take 2 ∈ twoM) : markLen l = 2 := by
  cases l with
  | nil => simp [twoM] at h
  | cons c r => rw [markLen, if_pos h]
theorem markLen_one {l : List UInt8} {c : UInt8} (h : ¬ l.take 2 ∈ twoM) (hc : l[0]? = some c) : markLen l = if c ∈ oneM then 1 else 0 := by
  cases l with
  | nil => simp at hc
  | cons x r =>
    obtain rfl : x = c := by simpa using hc
    rw [markLen, if_neg h]
theorem take_two {s : ByteArray} : (s.extract 0 2).toList = (tl s).take 2 := by rw [Lib.toList_data, Lib.extract_data]; simp

theorem mark_index (c : UInt8) (q : Int) (w : World) (hq : Lib.indexByte oneM c = q) : Calls Tryd.prog 38 #[.string ⟨#[43, 45, 42, 47, 37, 60, 62, 61, 33, 40, 41, 123, 125, 59, 44, 46]⟩, .int .u8 (c.toNat : Int)] w fun e w' => e = .returned (.int .i64 q) ∧ w = w' := by
  refine (Tryd.strings_IndexByte ⟨#[43, 45, 42, 47, 37, 60, 62, 61, 33, 40, 41, 123, 125, 59, 44, 46]⟩ (c.toNat : Int) w).mono ?_
  rw [byte_back]
  rintro e w' ⟨rfl, rfl⟩
  exact ⟨ret_int hq, rfl⟩

set_option maxHeartbeats 4000000 in
theorem markLength_any (s : ByteArray) (w : World) (hs : s.size ≤ maxLen) : Calls Tryd.prog 45 #[.string s] w fun e w' => e = .returned (.int .i64 (markLen (tl s) : Nat)) ∧ w = w' := by
  unfold maxLen at hs
  by_cases h0 : 0 < s.size
  · obtain ⟨n1, n2⟩ := toList_ne h0
    have hc0 := tl_get s h0
    by_cases hm : (tl s).take 2 ∈ twoM
    · have hl : 2 ≤ s.size := by
        have h3 : ((tl s).take 2).length = 2 := by
          have h := hm
          simp only [twoM, List.mem_cons, List.not_mem_nil, or_false] at h
          rcases h with h | h | h | h | h | h <;> rw [h] <;> rfl
        rw [List.length_take, tl_length] at h3
        omega
      rw [markLen_two hm]
      rw [← take_two] at hm
      simp only [twoM, List.mem_cons, List.not_mem_nil, or_false] at hm
      clear n1 n2 hc0
      rcases hm with e | e | e | e | e | e
      all_goals
        go_enter Tryd.func45, Tryd.ntmps45
        go_wp2_with fail
        go_ret
        exact ⟨rfl, rfl⟩
    · have hk := markLen_one hm hc0
      rw [hk]
      have hi := index_mem oneM s[0]
      have Hi := Lib.hid hi
      rw [← take_two] at hm
      simp only [twoM, List.mem_cons, List.not_mem_nil, or_false, not_or] at hm
      obtain ⟨m1, m2, m3, m4, m5, m6⟩ := hm
      have e1 := beq_eq_false_iff_ne.2 m1
      have e2 := beq_eq_false_iff_ne.2 m2
      have e3 := beq_eq_false_iff_ne.2 m3
      have e4 := beq_eq_false_iff_ne.2 m4
      have e5 := beq_eq_false_iff_ne.2 m5
      have e6 := beq_eq_false_iff_ne.2 m6
      clear m1 m2 m3 m4 m5 m6 hk hc0 hi
      by_cases hin : s[0] ∈ oneM
      · rw [if_pos hin]
        have hd0 : 0 ≤ Lib.indexByte oneM s[0] := Hi.out.2 hin
        obtain ⟨q, hq⟩ : ∃ q, Hid (Lib.indexByte oneM s[0] = q) := ⟨_, Lib.hid rfl⟩
        rw [hq.out] at hd0
        have hd : decide (0 ≤ q) = true := decide_eq_true hd0
        by_cases h2 : 2 ≤ s.size
        all_goals
          go_enter Tryd.func45, Tryd.ntmps45
          go_wp2_with (go_at_call 38; refine (mark_index s[0] q _ hq.out).mono ?_; rintro e w' ⟨rfl, rfl⟩)
          go_ret
          exact ⟨rfl, rfl⟩
      · rw [if_neg hin]
        have hd0 : Lib.indexByte oneM s[0] < 0 := Int.not_le.1 (fun h => hin (Hi.out.1 h))
        obtain ⟨q, hq⟩ : ∃ q, Hid (Lib.indexByte oneM s[0] = q) := ⟨_, Lib.hid rfl⟩
        rw [hq.out] at hd0
        have hd : decide (0 ≤ q) = false := decide_eq_false (by omega)
        by_cases h2 : 2 ≤ s.size
        all_goals
          go_enter Tryd.func45, Tryd.ntmps45
          go_wp2_with (go_at_call 38; refine (mark_index s[0] q _ hq.out).mono ?_; rintro e w' ⟨rfl, rfl⟩)
          go_ret
          exact ⟨rfl, rfl⟩
  · have hz : s.size = 0 := by omega
    have hl : tl s = [] := List.eq_nil_of_length_eq_zero (by rw [tl_length]; exact hz)
    have hk : markLen (tl s) = 0 := by rw [hl]; rfl
    rw [hk]
    have e1 : s.toList = [] := by rw [Lib.toList_data]; exact hl
    have e2 : s.toList.isEmpty = true := by rw [e1]; rfl
    have hd : decide ((2 : Int) ≤ (s.size : Int)) = false := by simp; omega
    clear hk hl hz
    go_enter Tryd.func45, Tryd.ntmps45
    go_wp2_with fail
    go_ret
    exact ⟨rfl, rfl⟩
end Go.Proofs.YtfjmhnnjgjcmeaaDoor.X
