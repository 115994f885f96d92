/-
  For the laws of lex: which bytes a name has, how long a name is, how long a number is. Condition: the text has at most 2 to the 62 bytes.
-/
import Derived.WalkKit
import Derived.WalkSpells
import Derived.Lib.Hide
import Derived.Deep.QuietTactic
import Derived.BigQuiet
import Derived.IntWalk
import Derived.Test.YtfjmhnnjgjcmeaaDoorProg
import Derived.Test.YtfjmhnnjgjcmeaaDoorXPure
namespace Go.Proofs.YtfjmhnnjgjcmeaaDoor.X
open Go.RowKit

/-- A text's bytes. -/
abbrev tl (s : ByteArray) : List UInt8 := s.data.toList
theorem tl_length (s : ByteArray) : (tl s).length = s.size := by simp [tl]
theorem dig_iff (c : UInt8) : dig c = decide (48 ≤ (c.toNat : Int) ∧ (c.toNat : Int) ≤ 57) := by
  rw [Bool.eq_iff_iff]; simp [dig, UInt8.le_iff_toNat_le]; omega
theorem ltr_iff (c : UInt8) : ltr c = decide ((97 ≤ (c.toNat : Int) ∧ (c.toNat : Int) ≤ 122) ∨ (65 ≤ (c.toNat : Int) ∧ (c.toNat : Int) ≤ 90) ∨ (c.toNat : Int) = 95) := by
  rw [Bool.eq_iff_iff]; simp [ltr, UInt8.le_iff_toNat_le, ← UInt8.toNat_inj]; omega
theorem byte_bd (c : UInt8) : 0 ≤ (c.toNat : Int) ∧ (c.toNat : Int) < 256 := by have := c.toNat_lt; omega

theorem ret_bool {a b : Bool} (h : a = b) : Ending.returned (.bool a) = Ending.returned (.bool b) := by rw [h]
theorem ret_int {a b : Int} (h : a = b) : Ending.returned (.int .i64 a) = Ending.returned (.int .i64 b) := by rw [h]

set_option maxHeartbeats 1000000 in
theorem inName_any (c : UInt8) (f : Bool) (w : World) : Calls Tryd.prog 51 #[.int .u8 (c.toNat : Int), .bool f] w fun e w' => e = .returned (.bool (if dig c = true then !f else ltr c)) ∧ w = w' := by
  obtain ⟨v, hv⟩ : ∃ v, Hid ((if dig c = true then !f else ltr c) = v) := ⟨_, Lib.hid rfl⟩
  rw [hv.out]
  have h1 := dig_iff c
  have h2 := ltr_iff c
  have Hv : Hid ((if decide (48 ≤ (c.toNat : Int) ∧ (c.toNat : Int) ≤ 57) = true then !f else decide ((97 ≤ (c.toNat : Int) ∧ (c.toNat : Int) ≤ 122) ∨ (65 ≤ (c.toNat : Int) ∧ (c.toNat : Int) ≤ 90) ∨ (c.toNat : Int) = 95)) = v) := by rw [← h1, ← h2]; exact hv
  have hb := byte_bd c
  clear h1 h2 hv
  generalize (c.toNat : Int) = x at Hv hb ⊢
  by_cases h95 : x = 95
  · subst h95
    obtain rfl : true = v := by rw [← Hv.out]; simp
    go_enter Tryd.func51, Tryd.ntmps51
    go_wp2_with fail
    go_ret
    exact ⟨rfl, rfl⟩
  · have q : (x == 95) = false := by simp [h95]
    cases f
    all_goals
      go_enter Tryd.func51, Tryd.ntmps51
      go_wp2_with fail
      all_goals
        go_ret
        refine ⟨ret_bool ?_, rfl⟩
        rw [← Hv.out]
        first
        | (rw [if_pos (by simp; omega)]; simp; done)
        | (rw [if_neg (by simp; omega)]; simp; omega)
theorem dig_true (c : UInt8) (h : dig c = true) : 48 ≤ (c.toNat : Int) ∧ (c.toNat : Int) ≤ 57 := by rw [dig_iff] at h; simpa using h
theorem dig_false (c : UInt8) (h : dig c = false) : (c.toNat : Int) < 48 ∨ 57 < (c.toNat : Int) := by rw [dig_iff] at h; simp at h; omega

/-- How far a run of such bytes goes. -/
theorem run_next {p : UInt8 → Bool} {l : List UInt8} {k : Nat} {c : UInt8} (h : k ≤ (l.takeWhile p).length) (hc : l[k]? = some c) : (p c = true → k + 1 ≤ (l.takeWhile p).length) ∧ (p c = false → k = (l.takeWhile p).length) := by
  induction l generalizing k with
  | nil => simp at hc
  | cons x l ih =>
    cases k with
    | zero =>
      obtain rfl : x = c := by simpa using hc
      constructor
      · intro h2; rw [List.takeWhile_cons_of_pos h2]; simp
      · intro h2; rw [List.takeWhile_cons_of_neg (by simp [h2])]; rfl
    | succ k =>
      cases hx : p x with
      | false => rw [List.takeWhile_cons_of_neg (by simp [hx])] at h; simp at h
      | true =>
        rw [List.takeWhile_cons_of_pos hx] at h ⊢
        simp only [List.length_cons] at h ⊢
        have := ih (k := k) (by omega) (by simpa using hc)
        constructor
        · intro h2; have := this.1 h2; omega
        · intro h2; have := this.2 h2; omega
theorem name_next {l : List UInt8} {k : Nat} {c : UInt8} (h : k ≤ nameLen l) (hc : l[k]? = some c) : ((if dig c = true then !(decide (k = 0)) else ltr c) = true → k + 1 ≤ nameLen l) ∧ ((if dig c = true then !(decide (k = 0)) else ltr c) = false → k = nameLen l) := by
  cases l with
  | nil => simp at hc
  | cons x l =>
    rw [nameLen] at h ⊢
    cases k with
    | zero =>
      obtain rfl : x = c := by simpa using hc
      cases hd : dig x with
      | true =>
        have : ltr x = false := by
          rw [dig_iff] at hd
          rw [ltr_iff]
          simp at hd ⊢
          omega
        simp [this]
      | false => cases hl : ltr x <;> simp
    | succ k =>
      by_cases hx : ltr x = true
      · rw [if_pos hx] at h ⊢
        have := run_next (p := aln) (k := k) (c := c) (l := l) (by omega) (by simpa using hc)
        have e : aln c = (if dig c = true then !(decide (k + 1 = 0)) else ltr c) := by unfold aln; cases dig c <;> simp
        rw [← e]
        constructor
        · intro h2; have := this.1 h2; omega
        · intro h2; have := this.2 h2; omega
      · rw [if_neg hx] at h
        omega
theorem tl_get (s : ByteArray) {k : Nat} (h : k < s.size) : (tl s)[k]? = some s[k] := by
  rw [List.getElem?_eq_getElem (by rw [tl_length]; exact h)]
  rfl

set_option maxHeartbeats 1000000 in
theorem nameLength_any (s : ByteArray) (w : World) (hs : s.size ≤ maxLen) : Calls Tryd.prog 41 #[.string s] w fun e w' => e = .returned (.int .i64 (nameLen (tl s) : Nat)) ∧ w = w' := by
  have hle := nameLen_le (tl s)
  rw [tl_length] at hle
  unfold maxLen at hs
  go_enter Tryd.func41, Tryd.ntmps41
  go_wp2_with fail
  go_loop [3] (fun c => ∃ k : Nat, c = .int .i64 k ∧ k ≤ nameLen (tl s)) (fun c => s.size - (intOf c).toNat)
  case atStart => exact ⟨0, rfl, Nat.zero_le _⟩
  case round =>
    obtain ⟨k, rfl, hk⟩ := hrel
    by_cases hlt : k < s.size
    · have hn := name_next hk (tl_get s hlt)
      have Hn := Lib.hid hn; clear hn
      obtain ⟨f, hf⟩ : ∃ f, Hid (decide (k = 0) = f) := ⟨_, Lib.hid rfl⟩
      have h0 : ((k : Int) == 0) = f := by rw [← hf.out]; rw [Bool.eq_iff_iff]; simp
      rw [hf.out] at Hn
      obtain ⟨v, hv⟩ : ∃ v, Hid ((if dig s[k] = true then !f else ltr s[k]) = v) := ⟨_, Lib.hid rfl⟩
      rw [hv.out] at Hn
      cases v
      · have hfin : Hid (k = nameLen (tl s)) := Lib.hid (Hn.out.2 rfl)
        clear Hn
        go_wp2_with (go_at_call 51; refine (inName_any s[k] f _).mono ?_; rw [hv.out]; rintro e w' ⟨rfl, rfl⟩)
        go_ret
        exact ⟨ret_int (by rw [← hfin.out]), rfl⟩
      · have hnx : Hid (k + 1 ≤ nameLen (tl s)) := Lib.hid (Hn.out.1 rfl)
        clear Hn
        go_wp2_with (go_at_call 51; refine (inName_any s[k] f _).mono ?_; rw [hv.out]; rintro e w' ⟨rfl, rfl⟩)
        exact ⟨⟨k + 1, by go_num, hnx.out⟩, by simp [intOf]; omega⟩
    · obtain rfl : k = nameLen (tl s) := by omega
      go_wp2_with fail
      go_ret
      exact ⟨rfl, rfl⟩

set_option maxHeartbeats 1000000 in
theorem numberLength_any (s : ByteArray) (w : World) (hs : s.size ≤ maxLen) : Calls Tryd.prog 43 #[.string s] w fun e w' => e = .returned (.int .i64 (numLen (tl s) : Nat)) ∧ w = w' := by
  have hle := numLen_le (tl s)
  rw [tl_length] at hle
  unfold maxLen at hs
  go_enter Tryd.func43, Tryd.ntmps43
  go_wp2_with fail
  go_loop [3] (fun c => ∃ k : Nat, c = .int .i64 k ∧ k ≤ numLen (tl s)) (fun c => s.size - (intOf c).toNat)
  case atStart => exact ⟨0, rfl, Nat.zero_le _⟩
  case round =>
    obtain ⟨k, rfl, hk⟩ := hrel
    by_cases hlt : k < s.size
    · have hn := run_next hk (tl_get s hlt)
      have Hn := Lib.hid hn; clear hn
      cases hd : dig s[k] with
      | false =>
        have h1 := dig_false _ hd
        have hfin := Hn.out.2 hd
        have Hfin := Lib.hid hfin; clear hfin
        by_cases h2 : 48 ≤ (s[k].toNat : Int)
        · have h3 : 57 < (s[k].toNat : Int) := by omega
          go_wp2_with fail
          go_ret
          exact ⟨ret_int (by rw [show numLen (tl s) = k from Hfin.out.symm]), rfl⟩
        · have h3 : (s[k].toNat : Int) < 48 := by omega
          go_wp2_with fail
          go_ret
          exact ⟨ret_int (by rw [show numLen (tl s) = k from Hfin.out.symm]), rfl⟩
      | true =>
        obtain ⟨h1, h2⟩ := dig_true _ hd
        go_wp2_with fail
        exact ⟨⟨k + 1, by go_num, Hn.out.1 hd⟩, by simp [intOf]; omega⟩
    · obtain rfl : k = numLen (tl s) := by omega
      go_wp2_with fail
      go_ret
      exact ⟨rfl, rfl⟩
end Go.Proofs.YtfjmhnnjgjcmeaaDoor.X
