/-
  For the laws of lex: which tokens a text has; facts on lists of bytes alone, no program.
-/
import Derived.Lib.IndexMore
import Derived.Lib.IndexBytes
import Derived.WalkKit
import Derived.WalkSpells
import Derived.Lib.Hide
import Derived.Deep.QuietTactic
import Derived.BigQuiet
import Derived.IntWalk
import Derived.Test.YtfjmhnnjgjcmeaaGreatDoorProg
import Derived.Test.YtfjmhnnjgjcmeaaGreatDoorShelf
import Derived.WalkMore
import Derived.Lib.SmallJoins
import Derived.Deep.RegionHeldLaw
import Derived.Deep.AppendLies
import Derived.RangeFuncBox
import Derived.RangeFuncNested
import Derived.Laws.AppendOwn
import Derived.Laws.EntriesVeiled
namespace Go.Proofs.YtfjmhnnjgjcmeaaGreatDoor.X

def dig (c : UInt8) : Bool := 48 ≤ c && c ≤ 57
def ltr (c : UInt8) : Bool := (97 ≤ c && c ≤ 122) || (65 ≤ c && c ≤ 90) || c == 95
def aln (c : UInt8) : Bool := dig c || ltr c
def nameLen : List UInt8 → Nat
  | [] => 0
  | c :: r => if ltr c = true then (r.takeWhile aln).length + 1 else 0
def numLen (l : List UInt8) : Nat := (l.takeWhile dig).length
def twoM : List (List UInt8) := [[61, 61], [33, 61], [60, 61], [62, 61], [38, 38], [124, 124]]
def oneM : List UInt8 := [43, 45, 42, 47, 37, 60, 62, 61, 33, 40, 41, 123, 125, 59, 44, 46]
def markLen : List UInt8 → Nat
  | [] => 0
  | c :: r => if (c :: r).take 2 ∈ twoM then 2 else if c ∈ oneM then 1 else 0
def blank (c : UInt8) : Bool := c == 32 || c == 9 || c == 10 || c == 13
/-- How long a line is, without its end. -/
def lineLen (l : List UInt8) : Nat := (l.takeWhile (fun c => c != 10)).length
/-- Where a note ends. -/
def closeAt : List UInt8 → Option Nat
  | [] => none
  | [_] => none
  | a :: b :: r => if a = 42 ∧ b = 47 then some 0 else (closeAt (b :: r)).map (· + 1)
/-- What stands between tokens: how long it is, and whether its notes end. -/
def sep : List UInt8 → Nat × Bool
  | [] => (0, true)
  | c :: r =>
    if blank c = true then ((sep r).1 + 1, (sep r).2)
    else if c = 47 ∧ r.head? = some 47 then ((sep (r.drop (lineLen r))).1 + (lineLen r + 1), (sep (r.drop (lineLen r))).2)
    else if c = 47 ∧ r.head? = some 42 then
      match closeAt (r.drop 1) with
      | none => (0, false)
      | some n => ((sep (r.drop (n + 3))).1 + (n + 4), (sep (r.drop (n + 3))).2)
    else (0, true)
termination_by l => l.length
decreasing_by all_goals (simp only [List.length_cons, List.length_drop]; omega)
def keptL : List (List UInt8) := [[99, 108, 97, 115, 115], [101, 120, 116, 101, 110, 100, 115], [115, 116, 97, 116, 105, 99], [118, 111, 105, 100], [105, 110, 116], [98, 111, 111, 108, 101, 97, 110], [105, 102], [101, 108, 115, 101],
  [119, 104, 105, 108, 101], [114, 101, 116, 117, 114, 110], [112, 114, 105, 110, 116], [116, 114, 117, 101], [102, 97, 108, 115, 101], [110, 117, 108, 108], [116, 104, 105, 115], [110, 101, 119]]
/-- A number's value. -/
def valOf (l : List UInt8) : Nat := l.foldl (fun n c => 10 * n + (c.toNat - 48)) 0
def badNum (l : List UInt8) : Bool := decide (2147483647 < valOf l) || (decide (1 < l.length) && l.head? == some 48)
/-- The token that begins here: its kind, its length, or an error. -/
def first (l : List UInt8) : Int × Nat × Int :=
  if 0 < nameLen l then (if 20 < nameLen l then (0, 0, 2) else if l.take (nameLen l) ∈ keptL then (3, nameLen l, 0) else (1, nameLen l, 0))
  else if 0 < numLen l then (if badNum (l.take (numLen l)) = true then (0, 0, 31) else (2, numLen l, 0))
  else if 0 < markLen l then (4, markLen l, 0)
  else (0, 0, 30)
structure Tk where
  kind : Int
  text : List UInt8
  at_ : Int
  lead : List UInt8
/-- The tokens of what is left at a place, or where there is none, and why. -/
def lexR (n : Nat) (l : List UInt8) : List Tk × Nat × Int :=
  if (sep l).2 = false then ([], n + (sep l).1, 32)
  else if l.drop (sep l).1 = [] then ([⟨5, [], ((n + (sep l).1 : Nat) : Int), l.take (sep l).1⟩], 0, 0)
  else if (first (l.drop (sep l).1)).2.1 = 0 then ([], n + (sep l).1, (first (l.drop (sep l).1)).2.2)
  else
    if (lexR (n + (sep l).1 + (first (l.drop (sep l).1)).2.1) ((l.drop (sep l).1).drop (first (l.drop (sep l).1)).2.1)).2.2 ≠ 0 then
      ([], (lexR (n + (sep l).1 + (first (l.drop (sep l).1)).2.1) ((l.drop (sep l).1).drop (first (l.drop (sep l).1)).2.1)).2)
    else (⟨(first (l.drop (sep l).1)).1, (l.drop (sep l).1).take (first (l.drop (sep l).1)).2.1, ((n + (sep l).1 : Nat) : Int), l.take (sep l).1⟩ ::
      (lexR (n + (sep l).1 + (first (l.drop (sep l).1)).2.1) ((l.drop (sep l).1).drop (first (l.drop (sep l).1)).2.1)).1, 0, 0)
termination_by l.length
decreasing_by
  all_goals
    rename_i _ h2 h3
    have : l.drop (sep l).1 ≠ [] := h2
    have h4 : 0 < (l.drop (sep l).1).length := List.length_pos_iff.2 this
    simp only [List.length_drop] at h4 ⊢
    omega

theorem nameLen_le (l : List UInt8) : nameLen l ≤ l.length := by
  cases l with
  | nil => exact Nat.le_refl _
  | cons c r =>
    have := (List.takeWhile_sublist aln (l := r)).length_le
    rw [nameLen]
    by_cases h : ltr c = true
    · rw [if_pos h]; simp; omega
    · rw [if_neg h]; simp
theorem numLen_le (l : List UInt8) : numLen l ≤ l.length := (List.takeWhile_sublist dig (l := l)).length_le
theorem markLen_le (l : List UInt8) : markLen l ≤ l.length := by
  cases l with
  | nil => exact Nat.le_refl _
  | cons c r =>
    rw [markLen]
    by_cases h : (c :: r).take 2 ∈ twoM
    · rw [if_pos h]
      have : ((c :: r).take 2).length = 2 := by
        simp only [twoM, List.mem_cons, List.not_mem_nil, or_false] at h
        rcases h with h | h | h | h | h | h <;> rw [h] <;> rfl
      rw [List.length_take] at this
      omega
    · rw [if_neg h]
      split <;> simp
theorem lineLen_le (l : List UInt8) : lineLen l ≤ l.length := (List.takeWhile_sublist _ (l := l)).length_le
theorem closeAt_le : ∀ {l : List UInt8} {n : Nat}, closeAt l = some n → n + 2 ≤ l.length
  | [], n, h => by simp [closeAt] at h
  | [_], n, h => by simp [closeAt] at h
  | a :: b :: r, n, h => by
    unfold closeAt at h
    split at h
    · obtain rfl : 0 = n := by simpa using h
      simp
    · cases hc : closeAt (b :: r) with
      | none => rw [hc] at h; simp at h
      | some m =>
        rw [hc] at h
        obtain rfl : m + 1 = n := by simpa using h
        have := closeAt_le hc
        simp at this ⊢
        omega
theorem sep_le : ∀ (l : List UInt8), (sep l).1 ≤ l.length
  | [] => by rw [sep]; exact Nat.le_refl _
  | c :: r => by
    rw [sep]
    split
    · have := sep_le r; simp; omega
    · split
      · have h1 := sep_le (r.drop (lineLen r))
        have h2 := lineLen_le r
        simp only [List.length_drop] at h1
        simp
        omega
      · split
        · split
          · simp
          · rename_i n hn
            have h1 := sep_le (r.drop (n + 3))
            have h2 := closeAt_le hn
            simp only [List.length_drop] at h1 h2
            simp
            omega
        · simp
termination_by l => l.length
decreasing_by all_goals (simp only [List.length_cons, List.length_drop]; omega)
theorem first_cases (l : List UInt8) : (0 < (first l).2.1 ∧ (first l).2.2 = 0 ∧ (first l).2.1 ≤ l.length ∧ 0 < (first l).1 ∧ (first l).1 < 5) ∨ ((first l).2.1 = 0 ∧ ((first l).2.2 = 2 ∨ (first l).2.2 = 31 ∨ (first l).2.2 = 30) ∧ (first l).1 = 0) := by
  have h1 := nameLen_le l
  have h2 := numLen_le l
  have h3 := markLen_le l
  unfold first
  split
  · split
    · right; simp
    · split
      · left; exact ⟨by assumption, rfl, h1, by simp, by simp⟩
      · left; exact ⟨by assumption, rfl, h1, by simp, by simp⟩
  · split
    · split
      · right; simp
      · left; exact ⟨by assumption, rfl, h2, by simp, by simp⟩
    · split
      · left; exact ⟨by assumption, rfl, h3, by simp, by simp⟩
      · right; simp
end Go.Proofs.YtfjmhnnjgjcmeaaGreatDoor.X
/-
  For the laws of lex: which bytes a name has, how long a name is, how long a number is. Condition: the text has at most 2 to the 62 bytes.
-/
namespace Go.Proofs.YtfjmhnnjgjcmeaaGreatDoor.X
open Go.RowKit

/-- A text's bytes. -/
abbrev tl (s : ByteArray) : List UInt8 := s.data.toList
theorem tl_length (s : ByteArray) : (tl s).length = s.size := by simp [tl]
theorem dig_iff (c : UInt8) : dig c = decide (48 ≤ (c.toNat : Int) ∧ (c.toNat : Int) ≤ 57) := by
  rw [Bool.eq_iff_iff]; simp [dig, UInt8.le_iff_toNat_le]; omega
theorem ltr_iff (c : UInt8) : ltr c = decide ((97 ≤ (c.toNat : Int) ∧ (c.toNat : Int) ≤ 122) ∨ (65 ≤ (c.toNat : Int) ∧ (c.toNat : Int) ≤ 90) ∨ (c.toNat : Int) = 95) := by
  rw [Bool.eq_iff_iff]; simp [ltr, UInt8.le_iff_toNat_le, ← UInt8.toNat_inj]; omega
theorem byte_bd (c : UInt8) : 0 ≤ (c.toNat : Int) ∧ (c.toNat : Int) < 256 := by have := c.toNat_lt; omega

theorem ret_bool {a b : Bool} (h : a = b) : Ending.returned (.bool a) = Ending.returned (.bool b) := by rw [h]
theorem ret_int {a b : Int} (h : a = b) : Ending.returned (.int .i64 a) = Ending.returned (.int .i64 b) := by rw [h]

set_option maxHeartbeats 1000000 in
theorem inName_any (c : UInt8) (f : Bool) (w : World) : Calls Tryz.prog 116 #[.int .u8 (c.toNat : Int), .bool f] w fun e w' => e = .returned (.bool (if dig c = true then !f else ltr c)) ∧ w = w' := by
  obtain ⟨v, hv⟩ : ∃ v, Hid ((if dig c = true then !f else ltr c) = v) := ⟨_, Lib.hid rfl⟩
  rw [hv.out]
  have h1 := dig_iff c
  have h2 := ltr_iff c
  have Hv : Hid ((if decide (48 ≤ (c.toNat : Int) ∧ (c.toNat : Int) ≤ 57) = true then !f else decide ((97 ≤ (c.toNat : Int) ∧ (c.toNat : Int) ≤ 122) ∨ (65 ≤ (c.toNat : Int) ∧ (c.toNat : Int) ≤ 90) ∨ (c.toNat : Int) = 95)) = v) := by rw [← h1, ← h2]; exact hv
  have hb := byte_bd c
  clear h1 h2 hv
  generalize (c.toNat : Int) = x at Hv hb ⊢
  by_cases h95 : x = 95
  · subst h95
    obtain rfl : true = v := by rw [← Hv.out]; simp
    go_enter Tryz.func116, Tryz.ntmps116
    go_wp2_with fail
    go_ret
    exact ⟨rfl, rfl⟩
  · have q : (x == 95) = false := by simp [h95]
    cases f
    all_goals
      go_enter Tryz.func116, Tryz.ntmps116
      go_wp2_with fail
      all_goals
        go_ret
        refine ⟨ret_bool ?_, rfl⟩
        rw [← Hv.out]
        first
        | (rw [if_pos (by simp; omega)]; simp; done)
        | (rw [if_neg (by simp; omega)]; simp; omega)
theorem dig_true (c : UInt8) (h : dig c = true) : 48 ≤ (c.toNat : Int) ∧ (c.toNat : Int) ≤ 57 := by rw [dig_iff] at h; simpa using h
theorem dig_false (c : UInt8) (h : dig c = false) : (c.toNat : Int) < 48 ∨ 57 < (c.toNat : Int) := by rw [dig_iff] at h; simp at h; omega

/-- How far a run of such bytes goes. -/
theorem run_next {p : UInt8 → Bool} {l : List UInt8} {k : Nat} {c : UInt8} (h : k ≤ (l.takeWhile p).length) (hc : l[k]? = some c) : (p c = true → k + 1 ≤ (l.takeWhile p).length) ∧ (p c = false → k = (l.takeWhile p).length) := by
  induction l generalizing k with
  | nil => simp at hc
  | cons x l ih =>
    cases k with
    | zero =>
      obtain rfl : x = c := by simpa using hc
      constructor
      · intro h2; rw [List.takeWhile_cons_of_pos h2]; simp
      · intro h2; rw [List.takeWhile_cons_of_neg (by simp [h2])]; rfl
    | succ k =>
      cases hx : p x with
      | false => rw [List.takeWhile_cons_of_neg (by simp [hx])] at h; simp at h
      | true =>
        rw [List.takeWhile_cons_of_pos hx] at h ⊢
        simp only [List.length_cons] at h ⊢
        have := ih (k := k) (by omega) (by simpa using hc)
        constructor
        · intro h2; have := this.1 h2; omega
        · intro h2; have := this.2 h2; omega
theorem name_next {l : List UInt8} {k : Nat} {c : UInt8} (h : k ≤ nameLen l) (hc : l[k]? = some c) : ((if dig c = true then !(decide (k = 0)) else ltr c) = true → k + 1 ≤ nameLen l) ∧ ((if dig c = true then !(decide (k = 0)) else ltr c) = false → k = nameLen l) := by
  cases l with
  | nil => simp at hc
  | cons x l =>
    rw [nameLen] at h ⊢
    cases k with
    | zero =>
      obtain rfl : x = c := by simpa using hc
      cases hd : dig x with
      | true =>
        have : ltr x = false := by
          rw [dig_iff] at hd
          rw [ltr_iff]
          simp at hd ⊢
          omega
        simp [this]
      | false => cases hl : ltr x <;> simp
    | succ k =>
      by_cases hx : ltr x = true
      · rw [if_pos hx] at h ⊢
        have := run_next (p := aln) (k := k) (c := c) (l := l) (by omega) (by simpa using hc)
        have e : aln c = (if dig c = true then !(decide (k + 1 = 0)) else ltr c) := by unfold aln; cases dig c <;> simp
        rw [← e]
        constructor
        · intro h2; have := this.1 h2; omega
        · intro h2; have := this.2 h2; omega
      · rw [if_neg hx] at h
        omega
theorem tl_get (s : ByteArray) {k : Nat} (h : k < s.size) : (tl s)[k]? = some s[k] := by
  rw [List.getElem?_eq_getElem (by rw [tl_length]; exact h)]
  rfl

set_option maxHeartbeats 1000000 in
theorem nameLength_any (s : ByteArray) (w : World) (hs : s.size ≤ maxLen) : Calls Tryz.prog 99 #[.string s] w fun e w' => e = .returned (.int .i64 (nameLen (tl s) : Nat)) ∧ w = w' := by
  have hle := nameLen_le (tl s)
  rw [tl_length] at hle
  unfold maxLen at hs
  go_enter Tryz.func99, Tryz.ntmps99
  go_wp2_with fail
  go_loop [3] (fun c => ∃ k : Nat, c = .int .i64 k ∧ k ≤ nameLen (tl s)) (fun c => s.size - (intOf c).toNat)
  case atStart => exact ⟨0, rfl, Nat.zero_le _⟩
  case round =>
    obtain ⟨k, rfl, hk⟩ := hrel
    by_cases hlt : k < s.size
    · have hn := name_next hk (tl_get s hlt)
      have Hn := Lib.hid hn; clear hn
      obtain ⟨f, hf⟩ : ∃ f, Hid (decide (k = 0) = f) := ⟨_, Lib.hid rfl⟩
      have h0 : ((k : Int) == 0) = f := by rw [← hf.out]; rw [Bool.eq_iff_iff]; simp
      rw [hf.out] at Hn
      obtain ⟨v, hv⟩ : ∃ v, Hid ((if dig s[k] = true then !f else ltr s[k]) = v) := ⟨_, Lib.hid rfl⟩
      rw [hv.out] at Hn
      cases v
      · have hfin : Hid (k = nameLen (tl s)) := Lib.hid (Hn.out.2 rfl)
        clear Hn
        go_wp2_with (go_at_call 116; refine (inName_any s[k] f _).mono ?_; rw [hv.out]; rintro e w' ⟨rfl, rfl⟩)
        go_ret
        exact ⟨ret_int (by rw [← hfin.out]), rfl⟩
      · have hnx : Hid (k + 1 ≤ nameLen (tl s)) := Lib.hid (Hn.out.1 rfl)
        clear Hn
        go_wp2_with (go_at_call 116; refine (inName_any s[k] f _).mono ?_; rw [hv.out]; rintro e w' ⟨rfl, rfl⟩)
        exact ⟨⟨k + 1, by go_num, hnx.out⟩, by simp [intOf]; omega⟩
    · obtain rfl : k = nameLen (tl s) := by omega
      go_wp2_with fail
      go_ret
      exact ⟨rfl, rfl⟩

set_option maxHeartbeats 1000000 in
theorem numberLength_any (s : ByteArray) (w : World) (hs : s.size ≤ maxLen) : Calls Tryz.prog 101 #[.string s] w fun e w' => e = .returned (.int .i64 (numLen (tl s) : Nat)) ∧ w = w' := by
  have hle := numLen_le (tl s)
  rw [tl_length] at hle
  unfold maxLen at hs
  go_enter Tryz.func101, Tryz.ntmps101
  go_wp2_with fail
  go_loop [3] (fun c => ∃ k : Nat, c = .int .i64 k ∧ k ≤ numLen (tl s)) (fun c => s.size - (intOf c).toNat)
  case atStart => exact ⟨0, rfl, Nat.zero_le _⟩
  case round =>
    obtain ⟨k, rfl, hk⟩ := hrel
    by_cases hlt : k < s.size
    · have hn := run_next hk (tl_get s hlt)
      have Hn := Lib.hid hn; clear hn
      cases hd : dig s[k] with
      | false =>
        have h1 := dig_false _ hd
        have hfin := Hn.out.2 hd
        have Hfin := Lib.hid hfin; clear hfin
        by_cases h2 : 48 ≤ (s[k].toNat : Int)
        · have h3 : 57 < (s[k].toNat : Int) := by omega
          go_wp2_with fail
          go_ret
          exact ⟨ret_int (by rw [show numLen (tl s) = k from Hfin.out.symm]), rfl⟩
        · have h3 : (s[k].toNat : Int) < 48 := by omega
          go_wp2_with fail
          go_ret
          exact ⟨ret_int (by rw [show numLen (tl s) = k from Hfin.out.symm]), rfl⟩
      | true =>
        obtain ⟨h1, h2⟩ := dig_true _ hd
        go_wp2_with fail
        exact ⟨⟨k + 1, by go_num, Hn.out.1 hd⟩, by simp [intOf]; omega⟩
    · obtain rfl : k = numLen (tl s) := by omega
      go_wp2_with fail
      go_ret
      exact ⟨rfl, rfl⟩
end Go.Proofs.YtfjmhnnjgjcmeaaGreatDoor.X
/-
  For the laws of lex: a builder of the call's own: a text is written behind what it holds. Condition: at most 2 to the 47 bytes in all.
-/
namespace Go.Proofs.YtfjmhnnjgjcmeaaGreatDoor.X
open Go.RowKit Go.Shelf

theorem sizeBuilder : (Tryz.prog.info? 102).map (·.size) = some 2 := by kernel_rfl
theorem liesBuilder : liesAt Tryz.prog Tryz.prog.depth 102 (2 / Tryz.prog.cellsOf 102) 0 102 1 = true := by kernel_rfl
theorem infoByte : (Tryz.prog.info? 5).map (fun i => (i.zero, i.size, i.bytes)) = some (some (.int .u8 0), 1, 1) := by kernel_rfl

set_option maxHeartbeats 1000000 in
set_option maxRecDepth 100000 in
theorem copyCheck_used (b : Nat) (w : World) (h0 : w.cell? ⟨b, 0, none⟩ = some (.pointer (some ⟨b, 0, none⟩))) :
    Calls Tryz.prog 79 #[.pointer (some ⟨b, 0, none⟩)] w fun e w' => e = .returned (.tuple #[]) ∧ w' = w := by
  obtain ⟨j, hj, _⟩ := Option.map_eq_some_iff.1 sizeBuilder
  go_enter Tryz.func79, Tryz.ntmps79
  go_wp2
  rw [Lib.run_neq_ptr_same _ _ Tryz.underlying99 hj]
  go_wp2
  go_end0
  exact ⟨rfl, rfl⟩
set_option maxHeartbeats 1000000 in
set_option maxRecDepth 100000 in
theorem copyCheck_fresh (b : Nat) (w : World) (h0 : w.cell? ⟨b, 0, none⟩ = some (.pointer none)) (hsh : w.shape? b = some (102, 2)) (hfz : w.frozen? ⟨b, 0, none⟩ = false) :
    Calls Tryz.prog 79 #[.pointer (some ⟨b, 0, none⟩)] w fun e w' => e = .returned (.tuple #[]) ∧ w' = w.setCell ⟨b, 0, none⟩ (.pointer (some ⟨b, 0, none⟩)) := by
  obtain ⟨j, hj, hjs⟩ := Option.map_eq_some_iff.1 sizeBuilder
  go_enter Tryz.func79, Tryz.ntmps79
  go_wp2
  rw [Lib.run_to_unsafe _ ⟨b, 0, none⟩ Tryz.underlying99 Tryz.underlying145 hj (by rw [hjs]; decide) hsh (Nat.zero_lt_succ 1)]
  simp only [Result.andThen]
  rw [Oper.upon_value]
  go_wp2
  rw [run_callFunc_extern Tryz.func94 (by kernel_rfl) (by kernel_rfl) (by kernel_rfl) (e := Extern.AbiNoEscape.same) (by kernel_rfl)]
  rw [Lib.run_noEscape]
  simp only [Result.andThen]
  rw [Oper.upon_value]
  go_wp2
  rw [Lib.run_from_unsafe _ ⟨b, 0, none⟩ Tryz.underlying145 Tryz.underlying99 hj hsh liesBuilder]
  simp only [Result.andThen]
  rw [Oper.upon_value]
  go_wp2
  go_end0
  exact ⟨rfl, rfl⟩
theorem copyCheck_any (B b : Nat) (bs : List Value) (w : World) (h : Lib.IsBuilder 102 5 B b bs w) :
    Calls Tryz.prog 79 #[.pointer (some ⟨b, 0, none⟩)] w fun e w' => e = .returned (.tuple #[]) ∧ (Lib.BuilderAt 102 5 B b (.pointer (some ⟨b, 0, none⟩)) bs w' ∧ Below B w w') := by
  rcases h with h | h
  · refine (copyCheck_fresh b w h.cell0 h.shape h.frozen0).mono ?_
    rintro e w' ⟨rfl, rfl⟩
    exact ⟨rfl, h.used _, (Below.refl B w).setCell (p := ⟨b, 0, none⟩) h.1 _⟩
  · refine (copyCheck_used b w h.cell0).mono ?_
    rintro e w' ⟨rfl, rfl⟩
    exact ⟨rfl, h, Below.refl B _⟩

theorem own_slice {W : World} {base e size n : Nat} {v : Value} {xs : List Value} (h : W.ownsRow base e size v n xs) : ∃ ao n' cap, v = .slice ao n' cap := by
  rcases h.2 with ⟨hv, _⟩ | ⟨g, cap, cur, hv, _⟩
  · exact ⟨_, _, _, hv⟩
  · exact ⟨_, _, _, hv⟩

set_option maxHeartbeats 1000000 in
set_option maxRecDepth 100000 in
theorem WriteString_any (B b : Nat) (bs : List Value) (s : ByteArray) (w : World) (h : Lib.IsBuilder 102 5 B b bs w) (hlen : bs.length + s.size ≤ 140737488355328) (hBw : B ≤ w.heap.size) :
    Calls Tryz.prog 62 #[.pointer (some ⟨b, 0, none⟩), .string s] w fun e w' => e = .returned (.tuple #[.int .i64 s.size, .nilIface]) ∧ (Lib.BuilderAt 102 5 B b (.pointer (some ⟨b, 0, none⟩)) (bs ++ Lib.strCells s) w' ∧ Below B w w') := by
  obtain ⟨i0, hi, hz0, hz1, hz2⟩ := info_parts infoByte
  go_enter Tryz.func62, Tryz.ntmps62
  go_wp2_with (go_at_call 79; refine (copyCheck_any B b bs _ h).mono ?_)
  rintro e w1 ⟨rfl, h1, hb1⟩
  obtain ⟨hB, v, hbk, hown, hne⟩ := h1
  have c0 : w1.cell? ⟨b, 0, none⟩ = some (.pointer (some ⟨b, 0, none⟩)) := by rw [Lib.cell_of_heap hbk]; rfl
  have c1 : w1.cell? ⟨b, 1, none⟩ = some v := by rw [Lib.cell_of_heap hbk]; rfl
  have hs1 := hb1.size
  go_wp2_with (at_builtin; refine Lib.wpList_append_own_string _ rfl _ _ 100 9 rfl B 5 i0 Tryz.underlying100 Tryz.underlying9 hi hz0 hz1 hz2 _ _ _ rfl hown s rfl (by unfold maxLen; omega) (by omega) (by omega) ?_; intro v' w2 hown' hgrow _; have hlt : b < w1.heap.size := (Array.getElem?_eq_some_iff.1 hbk).1; have hb2 : w2.heap[b]? = some (.cells #[.pointer (some ⟨b, 0, none⟩), v] 102 (0, 0)) := (hgrow.block b hlt (fun e => hne e.symm)).trans hbk; have d0 : w2.cell? ⟨b, 0, none⟩ = some (.pointer (some ⟨b, 0, none⟩)) := (by rw [Lib.cell_of_heap hb2]; rfl); have d1 : w2.cell? ⟨b, 1, none⟩ = some v := (by rw [Lib.cell_of_heap hb2]; rfl); have f1 : w2.frozen? ⟨b, 1, none⟩ = false := Lib.frozen_of_heap hb2 1; obtain ⟨ao, n', cap, rfl⟩ := own_slice hown')
  go_ret2
  refine ⟨rfl, ?_, ?_⟩
  · exact Lib.BuilderAt.put (T := 102) (e := 5) hB hb2 (bs' := bs ++ Lib.strCells s) (by simpa [Lib.strCells_length] using hown') (by decide)
  · exact (hb1.grown hgrow (by omega) (fun k hk => (hown.lt k hk).1)).setCell (p := ⟨b, 1, none⟩) hB _
end Go.Proofs.YtfjmhnnjgjcmeaaGreatDoor.X
/-
  For the laws of lex: which words are kept; how long a mark is. Condition: the text has at most 2 to the 62 bytes.
-/
namespace Go.Proofs.YtfjmhnnjgjcmeaaGreatDoor.X
open Go.RowKit Go.Shelf

theorem is_word {s : ByteArray} {l : List UInt8} (h : (s.toList == l) = true) : tl s = l := by rw [beq_iff_eq, Lib.toList_data] at h; exact h
theorem no_word {s : ByteArray} {l : List UInt8} (h : (s.toList == l) = false) : tl s ≠ l := by rw [beq_eq_false_iff_ne, Lib.toList_data] at h; exact h
theorem word_true {s : ByteArray} {l : List UInt8} (h : tl s = l) : (s.toList == l) = true := by rw [beq_iff_eq, Lib.toList_data]; exact h
theorem word_false {s : ByteArray} {l : List UInt8} (h : tl s ≠ l) : (s.toList == l) = false := by rw [beq_eq_false_iff_ne, Lib.toList_data]; exact h
theorem kept_yes {s : ByteArray} {l : List UInt8} (h : (s.toList == l) = true) (hk : decide (l ∈ keptL) = true) : decide (tl s ∈ keptL) = true := by rw [is_word h]; exact hk

set_option maxHeartbeats 4000000 in
theorem Kept_any (s : ByteArray) (w : World) : Calls Tryz.prog 100 #[.string s] w fun e w' => e = .returned (.bool (decide (tl s ∈ keptL))) ∧ w = w' := by
  obtain ⟨v, hv⟩ : ∃ v, Hid (decide (tl s ∈ keptL) = v) := ⟨_, Lib.hid rfl⟩
  rw [hv.out]
  go_enter Tryz.func100, Tryz.ntmps100
  go_wp2_with fail
  all_goals
    first
    | (have : True = False := by simp_all
       exact absurd trivial (this ▸ id))
    | (go_ret
       refine ⟨ret_bool ?_, rfl⟩
       rw [← hv.out]
       first
       | (symm
          refine kept_yes (by assumption) (by decide))
       | (symm
          rw [decide_eq_false_iff_not]
          intro hk
          simp only [keptL, List.mem_cons, List.not_mem_nil, or_false] at hk
          rcases hk with hk | hk | hk | hk | hk | hk | hk | hk | hk | hk | hk | hk | hk | hk | hk | hk
          all_goals exact no_word (by assumption) hk))

theorem byte_back (c : UInt8) : ((c.toNat : Int)).toNat.toUInt8 = c := by simp
theorem index_mem (l : List UInt8) (c : UInt8) : 0 ≤ Lib.indexByte l c ↔ c ∈ l := by
  constructor
  · intro h
    obtain ⟨o, ho⟩ := Int.eq_ofNat_of_zero_le h
    exact List.mem_of_getElem? (Lib.indexByte_some ho).1
  · intro h
    have hg := Lib.indexByte_ge l c
    rcases Int.lt_or_le (Lib.indexByte l c) 0 with h1 | h1
    · exfalso
      obtain ⟨k, hk⟩ := List.getElem?_of_mem h
      exact Lib.indexByte_none (show Lib.indexByte l c = -1 by omega) k hk
    · exact h1
theorem toList_ne {s : ByteArray} (h : 0 < s.size) : s.toList.isEmpty = false ∧ ¬ s.toList = [] := by
  have : s.toList ≠ [] := by
    rw [Lib.toList_data]
    intro e
    have h2 := tl_length s
    rw [show tl s = [] from e] at h2
    simp at h2
    omega
  exact ⟨by simpa using this, this⟩
theorem markLen_two {l : List UInt8} (h : l.take 2 ∈ twoM) : markLen l = 2 := by
  cases l with
  | nil => simp [twoM] at h
  | cons c r => rw [markLen, if_pos h]
theorem markLen_one {l : List UInt8} {c : UInt8} (h : ¬ l.take 2 ∈ twoM) (hc : l[0]? = some c) : markLen l = if c ∈ oneM then 1 else 0 := by
  cases l with
  | nil => simp at hc
  | cons x r =>
    obtain rfl : x = c := by simpa using hc
    rw [markLen, if_neg h]
theorem take_two {s : ByteArray} : (s.extract 0 2).toList = (tl s).take 2 := by rw [Lib.toList_data, Lib.extract_data]; simp

theorem mark_index (c : UInt8) (q : Int) (w : World) (hq : Lib.indexByte oneM c = q) : Calls Tryz.prog 96 #[.string ⟨#[43, 45, 42, 47, 37, 60, 62, 61, 33, 40, 41, 123, 125, 59, 44, 46]⟩, .int .u8 (c.toNat : Int)] w fun e w' => e = .returned (.int .i64 q) ∧ w = w' := by
  refine (Tryz.strings_IndexByte ⟨#[43, 45, 42, 47, 37, 60, 62, 61, 33, 40, 41, 123, 125, 59, 44, 46]⟩ (c.toNat : Int) w).mono ?_
  rw [byte_back]
  rintro e w' ⟨rfl, rfl⟩
  exact ⟨ret_int hq, rfl⟩

set_option maxHeartbeats 4000000 in
theorem markLength_any (s : ByteArray) (w : World) (hs : s.size ≤ maxLen) : Calls Tryz.prog 103 #[.string s] w fun e w' => e = .returned (.int .i64 (markLen (tl s) : Nat)) ∧ w = w' := by
  unfold maxLen at hs
  by_cases h0 : 0 < s.size
  · obtain ⟨n1, n2⟩ := toList_ne h0
    have hc0 := tl_get s h0
    by_cases hm : (tl s).take 2 ∈ twoM
    · have hl : 2 ≤ s.size := by
        have h3 : ((tl s).take 2).length = 2 := by
          have h := hm
          simp only [twoM, List.mem_cons, List.not_mem_nil, or_false] at h
          rcases h with h | h | h | h | h | h <;> rw [h] <;> rfl
        rw [List.length_take, tl_length] at h3
        omega
      rw [markLen_two hm]
      rw [← take_two] at hm
      simp only [twoM, List.mem_cons, List.not_mem_nil, or_false] at hm
      clear n1 n2 hc0
      rcases hm with e | e | e | e | e | e
      all_goals
        go_enter Tryz.func103, Tryz.ntmps103
        go_wp2_with fail
        go_ret
        exact ⟨rfl, rfl⟩
    · have hk := markLen_one hm hc0
      rw [hk]
      have hi := index_mem oneM s[0]
      have Hi := Lib.hid hi
      rw [← take_two] at hm
      simp only [twoM, List.mem_cons, List.not_mem_nil, or_false, not_or] at hm
      obtain ⟨m1, m2, m3, m4, m5, m6⟩ := hm
      have e1 := beq_eq_false_iff_ne.2 m1
      have e2 := beq_eq_false_iff_ne.2 m2
      have e3 := beq_eq_false_iff_ne.2 m3
      have e4 := beq_eq_false_iff_ne.2 m4
      have e5 := beq_eq_false_iff_ne.2 m5
      have e6 := beq_eq_false_iff_ne.2 m6
      clear m1 m2 m3 m4 m5 m6 hk hc0 hi
      by_cases hin : s[0] ∈ oneM
      · rw [if_pos hin]
        have hd0 : 0 ≤ Lib.indexByte oneM s[0] := Hi.out.2 hin
        obtain ⟨q, hq⟩ : ∃ q, Hid (Lib.indexByte oneM s[0] = q) := ⟨_, Lib.hid rfl⟩
        rw [hq.out] at hd0
        have hd : decide (0 ≤ q) = true := decide_eq_true hd0
        by_cases h2 : 2 ≤ s.size
        all_goals
          go_enter Tryz.func103, Tryz.ntmps103
          go_wp2_with (go_at_call 96; refine (mark_index s[0] q _ hq.out).mono ?_; rintro e w' ⟨rfl, rfl⟩)
          go_ret
          exact ⟨rfl, rfl⟩
      · rw [if_neg hin]
        have hd0 : Lib.indexByte oneM s[0] < 0 := Int.not_le.1 (fun h => hin (Hi.out.1 h))
        obtain ⟨q, hq⟩ : ∃ q, Hid (Lib.indexByte oneM s[0] = q) := ⟨_, Lib.hid rfl⟩
        rw [hq.out] at hd0
        have hd : decide (0 ≤ q) = false := decide_eq_false (by omega)
        by_cases h2 : 2 ≤ s.size
        all_goals
          go_enter Tryz.func103, Tryz.ntmps103
          go_wp2_with (go_at_call 96; refine (mark_index s[0] q _ hq.out).mono ?_; rintro e w' ⟨rfl, rfl⟩)
          go_ret
          exact ⟨rfl, rfl⟩
  · have hz : s.size = 0 := by omega
    have hl : tl s = [] := List.eq_nil_of_length_eq_zero (by rw [tl_length]; exact hz)
    have hk : markLen (tl s) = 0 := by rw [hl]; rfl
    rw [hk]
    have e1 : s.toList = [] := by rw [Lib.toList_data]; exact hl
    have e2 : s.toList.isEmpty = true := by rw [e1]; rfl
    have hd : decide ((2 : Int) ≤ (s.size : Int)) = false := by simp; omega
    clear hk hl hz
    go_enter Tryz.func103, Tryz.ntmps103
    go_wp2_with fail
    go_ret
    exact ⟨rfl, rfl⟩
end Go.Proofs.YtfjmhnnjgjcmeaaGreatDoor.X
/-
  For the laws of lex: what stands between tokens. Condition: the text has at most 2 to the 31 bytes; the library's own variable is a number.
-/
namespace Go.Proofs.YtfjmhnnjgjcmeaaGreatDoor.X
open Go.RowKit Go.Shelf

/-- What the world holds of the library's own variables. -/
structure LexW (W : World) : Prop where
  max : ∃ m, W.cell? ⟨0, 0, none⟩ = some (.int .i64 m)
  rng : ∃ te pe, W.cell? ⟨2, 0, none⟩ = some (.iface te pe)
  size : 4 ≤ W.heap.size
theorem LexW.below {W W' : World} {B : Nat} (h : LexW W) (hb : Below B W W') (hB : 4 ≤ B) : LexW W' := by
  obtain ⟨⟨m, h1⟩, ⟨te, pe, h2⟩, h3⟩ := h
  refine ⟨⟨m, (hb.cell (p := ⟨0, 0, none⟩) (by show 0 < B; omega)).trans h1⟩, ⟨te, pe, (hb.cell (p := ⟨2, 0, none⟩) (by show 2 < B; omega)).trans h2⟩, by have := hb.size; omega⟩

theorem close_index : ∀ l : List UInt8, Lib.index l [42, 47] = (match closeAt l with | none => -1 | some n => (n : Int))
  | [] => by simp [Lib.index, closeAt]
  | [a] => by
    have h : ([42, 47] : List UInt8).isPrefixOf [a] = false := by simp [List.isPrefixOf]
    simp [Lib.index, closeAt, h]
  | a :: b :: r => by
    have ih := close_index (b :: r)
    rw [Lib.index, closeAt]
    by_cases h : a = 42 ∧ b = 47
    · obtain ⟨rfl, rfl⟩ := h
      simp [List.isPrefixOf]
    · have hp : ([42, 47] : List UInt8).isPrefixOf (a :: b :: r) = false := by
        simp [List.isPrefixOf]
        intro h1 h2
        exact h ⟨h1.symm, h2.symm⟩
      rw [hp, if_neg h, ih]
      cases hc : closeAt (b :: r) with
      | none => simp
      | some n =>
        have : ((n : Int) == -1) = false := by rw [beq_eq_false_iff_ne]; omega
        simp [this]
theorem line_index : ∀ l : List UInt8, (if Lib.indexByte l 10 < 0 then (l.length : Int) else Lib.indexByte l 10) = lineLen l
  | [] => by simp [Lib.indexByte, lineLen]
  | c :: r => by
    have ih := line_index r
    have hg := Lib.indexByte_ge r 10
    unfold lineLen at ih ⊢
    rw [Lib.indexByte]
    by_cases h : c = 10
    · subst h; simp
    · have hb : (c != 10) = true := by simp [h]
      rw [List.takeWhile_cons_of_pos (p := fun c : UInt8 => c != 10) hb]
      have hc : (c == 10) = false := by simp [h]
      simp only [hc, Bool.false_eq_true, if_false, List.length_cons]
      generalize Lib.indexByte r 10 = q at ih hg ⊢
      by_cases h1 : q = -1
      · subst h1
        simp at ih ⊢
        omega
      · have h2 : (q == -1) = false := by simp [h1]
        rw [if_neg (by omega)] at ih
        simp only [h2, Bool.false_eq_true, if_false]
        rw [if_neg (by omega)]
        omega
/-- The state of the loop over what stands between tokens. -/
def SepAt (l : List UInt8) (k : Nat) : Prop := k ≤ l.length ∧ sep l = ((sep (l.drop k)).1 + k, (sep (l.drop k)).2)
theorem SepAt.start (l : List UInt8) : SepAt l 0 := ⟨Nat.zero_le _, by simp⟩
theorem SepAt.next {l : List UInt8} {k n : Nat} (h : SepAt l k) (hn : k + n ≤ l.length) (hs : sep (l.drop k) = ((sep ((l.drop k).drop n)).1 + n, (sep ((l.drop k).drop n)).2)) : SepAt l (k + n) := by
  obtain ⟨h1, h2⟩ := h
  refine ⟨hn, ?_⟩
  rw [h2, hs, List.drop_drop]
  simp only [Prod.mk.injEq, and_true]
  omega
theorem SepAt.done {l : List UInt8} {k : Nat} {b : Bool} (h : SepAt l k) (hs : sep (l.drop k) = (0, b)) : sep l = (k, b) := by
  rw [h.2, hs]
  simp
theorem sep_blank {c : UInt8} {r : List UInt8} (h : blank c = true) : sep (c :: r) = ((sep r).1 + 1, (sep r).2) := by rw [sep, if_pos h]
theorem slash_blank {c : UInt8} (h : c = 47) : blank c = false := by subst h; decide
theorem sep_line {c : UInt8} {r : List UInt8} (h : c = 47 ∧ r.head? = some 47) : sep (c :: r) = ((sep (r.drop (lineLen r))).1 + (lineLen r + 1), (sep (r.drop (lineLen r))).2) := by
  rw [sep, if_neg (by rw [slash_blank h.1]; simp), if_pos h]
theorem sep_note {c : UInt8} {r : List UInt8} (h : c = 47 ∧ r.head? = some 42) : sep (c :: r) = (match closeAt (r.drop 1) with
      | none => (0, false)
      | some n => ((sep (r.drop (n + 3))).1 + (n + 4), (sep (r.drop (n + 3))).2)) := by
  rw [sep, if_neg (by rw [slash_blank h.1]; simp), if_neg (by rw [h.2]; simp), if_pos h]
  all_goals (cases closeAt (r.drop 1) <;> rfl)
theorem sep_stop {c : UInt8} {r : List UInt8} (h1 : blank c = false) (h2 : ¬ (c = 47 ∧ r.head? = some 47)) (h3 : ¬ (c = 47 ∧ r.head? = some 42)) : sep (c :: r) = (0, true) := by
  rw [sep, if_neg (by rw [h1]; simp), if_neg h2, if_neg h3]
theorem blank_index (c : UInt8) : 0 ≤ Lib.indexByte [32, 9, 10, 13] c ↔ blank c = true := by
  rw [index_mem]
  simp [blank, or_assoc]
theorem prefix_two (a b c : UInt8) (r : List UInt8) : Lib.hasPrefix (c :: r) [a, b] = decide (c = a ∧ r.head? = some b) := by
  rw [Bool.eq_iff_iff]
  cases r with
  | nil => simp [Lib.hasPrefix, List.isPrefixOf]
  | cons d r =>
    simp only [Lib.hasPrefix, List.isPrefixOf, Bool.and_true, Bool.and_eq_true, beq_iff_eq, List.head?_cons, Option.some.injEq, decide_eq_true_eq]
    exact ⟨fun h => ⟨h.1.symm, h.2.symm⟩, fun h => ⟨h.1.symm, h.2.symm⟩⟩

theorem sep_index (c : UInt8) (q : Int) (w : World) (hq : Lib.indexByte [32, 9, 10, 13] c = q) : Calls Tryz.prog 96 #[.string ⟨#[32, 9, 10, 13]⟩, .int .u8 (c.toNat : Int)] w fun e w' => e = .returned (.int .i64 q) ∧ w = w' := by
  refine (Tryz.strings_IndexByte ⟨#[32, 9, 10, 13]⟩ (c.toNat : Int) w).mono ?_
  rw [byte_back]
  rintro e w' ⟨rfl, rfl⟩
  exact ⟨ret_int hq, rfl⟩
theorem newline_index (r : ByteArray) (q : Int) (w : World) (hq : Lib.indexByte (tl r) 10 = q) : Calls Tryz.prog 96 #[.string r, .int .u8 10] w fun e w' => e = .returned (.int .i64 q) ∧ w = w' := by
  refine (Tryz.strings_IndexByte r 10 w).mono ?_
  rintro e w' ⟨rfl, rfl⟩
  exact ⟨ret_int hq, rfl⟩
theorem prefix_is (r : ByteArray) (p : ByteArray) (v : Bool) (w : World) (hv : Lib.hasPrefix (tl r) (tl p) = v) : Calls Tryz.prog 97 #[.string r, .string p] w fun e w' => e = .returned (.bool v) ∧ w = w' := by
  refine (Tryz.strings_HasPrefix r p w).mono ?_
  rintro e w' ⟨rfl, rfl⟩
  exact ⟨ret_bool hv, rfl⟩
theorem index_is (r : ByteArray) (q : Int) (w : World) (hW : LexW w) (hr : r.size < 4294967281) (hq : Lib.index (tl r) [42, 47] = q) : Calls Tryz.prog 98 #[.string r, .string ⟨#[42, 47]⟩] w fun e w' => e = .returned (.int .i64 q) ∧ w = w' := by
  obtain ⟨m, hm⟩ := hW.max
  refine (Tryz.strings_Index r ⟨#[42, 47]⟩ m w hr hm).mono ?_
  rintro e w' ⟨rfl, rfl⟩
  exact ⟨ret_int hq, rfl⟩
def SepGives (w : World) (l : List UInt8) (e : Ending) (w' : World) : Prop := e = .returned (.tuple #[.int .i64 ((sep l).1 : Nat), .int .i64 (if (sep l).2 = true then 0 else 32)]) ∧ w = w'

set_option maxRecDepth 100000 in
set_option maxHeartbeats 8000000 in
theorem separators_any (s : ByteArray) (w : World) (hW : LexW w) (hs : s.size ≤ 2000000000) : Calls Tryz.prog 82 #[.string s] w (SepGives w (tl s)) := by
  have HW := Lib.hid hW; clear hW
  go_enter Tryz.func82, Tryz.ntmps82
  go_wp2_with fail
  go_step3
  go_wp2_with fail
  go_step3
  go_wp2_with fail
  go_loop [4] (fun c => ∃ k : Nat, c = .int .i64 k ∧ k ≤ s.size ∧ Hid (SepAt (tl s) k)) (fun c => s.size - (intOf c).toNat)
  case atStart => exact ⟨0, rfl, Nat.zero_le _, Lib.hid (SepAt.start _)⟩
  case round =>
    obtain ⟨k, rfl, hk, hst⟩ := hrel
    by_cases hlt : k < s.size
    · have hkd : decide (k < s.size) = true := decide_eq_true hlt
      have hex : 0 < (s.extract k s.size).size := by rw [ByteArray.size_extract]; omega
      go_wp2_with fail
      have hrl : tl (s.extract k s.size) = (tl s).drop k := Lib.extract_to_end s k
      have hrs : (s.extract k s.size).size = s.size - k := by rw [ByteArray.size_extract]; omega
      have hr0 : (tl (s.extract k s.size))[0]? = some (s.extract k s.size)[0] := tl_get _ hex
      obtain ⟨c, hc⟩ : ∃ c, Hid ((s.extract k s.size)[0] = c) := ⟨_, Lib.hid rfl⟩
      rw [hc.out] at hr0
      simp only [hc.out]
      clear hc
      generalize s.extract k s.size = r at hex hrl hrs hr0 ⊢
      obtain ⟨l', hl'⟩ : ∃ l', Hid (tl r = c :: l') := by
        cases h : tl r with
        | nil => rw [h] at hr0; simp at hr0
        | cons x l' =>
          rw [h] at hr0
          obtain rfl : x = c := by simpa using hr0
          exact ⟨l', Lib.hid rfl⟩
      have hdk : Hid ((tl s).drop k = c :: l') := Lib.hid (hrl.symm.trans hl'.out)
      have hll : l'.length + 1 = s.size - k := by
        have h1 := congrArg List.length hl'.out
        rw [tl_length] at h1
        simp at h1
        omega
      have Hrs := Lib.hid hrs
      have hrs2 : (r.size : Int) = (s.size : Int) - k := by omega
      have Hll := Lib.hid hll
      clear hr0 hrl hrs hll
      obtain ⟨q, hq⟩ : ∃ q, Hid (Lib.indexByte [32, 9, 10, 13] c = q) := ⟨_, Lib.hid rfl⟩
      have hbi := blank_index c
      rw [hq.out] at hbi
      have Hbi := Lib.hid hbi; clear hbi
      refine (sep_index c q _ hq.out).mono ?_
      rintro e w' ⟨rfl, rfl⟩
      cases hbl : blank c with
      | true =>
        have hq0 : 0 ≤ q := Hbi.out.2 hbl
        have hqd : decide (0 ≤ q) = true := decide_eq_true hq0
        have hnx : Hid (SepAt (tl s) (k + 1)) := Lib.hid (hst.out.next (n := 1) (by rw [tl_length]; omega) (by rw [hdk.out, sep_blank hbl]; simp))
        clear hrs2
        go_wp2_with fail
        exact ⟨⟨k + 1, by go_num, by omega, hnx⟩, by simp [intOf]; omega⟩
      | false =>
        have hq0 : q < 0 := Int.not_le.1 (fun h => by have := Hbi.out.1 h; rw [hbl] at this; cases this)
        have hqd : decide (0 ≤ q) = false := decide_eq_false (by omega)
        by_cases hline : c = 47 ∧ l'.head? = some 47
        · have hp : Hid (Lib.hasPrefix (tl r) (tl ⟨#[47, 47]⟩) = true) := Lib.hid (by rw [hl'.out, show tl ⟨#[47, 47]⟩ = [47, 47] from rfl, prefix_two]; exact decide_eq_true hline)
          obtain ⟨n, hn⟩ : ∃ n, Hid (Lib.indexByte (tl r) 10 = n) := ⟨_, Lib.hid rfl⟩
          have hll2 := line_index (tl r)
          rw [hn.out, tl_length] at hll2
          have hlc : lineLen (tl r) = lineLen l' + 1 := by
            rw [hl'.out]
            unfold lineLen
            rw [List.takeWhile_cons_of_pos (p := fun c : UInt8 => c != 10) (by rw [hline.1]; rfl)]
            simp
          have hle := lineLen_le l'
          rw [hlc] at hll2
          have hnx : Hid (SepAt (tl s) (k + (lineLen l' + 1))) := Lib.hid (hst.out.next (n := lineLen l' + 1) (by rw [tl_length]; have := Hll.out; omega) (by rw [hdk.out, sep_line hline]; simp))
          have hln : lineLen l' + 1 ≤ s.size - k := by have := Hll.out; omega
          have Hlc := Lib.hid hlc; clear hlc hline
          have hm1 : 1 ≤ lineLen l' + 1 := by omega
          have hrb : r.size ≤ 2000000000 := by omega
          by_cases hn0 : n < 0
          · rw [if_pos hn0] at hll2
            have hnd : decide (n < 0) = true := decide_eq_true hn0
            have hsum : (r.size : Int) = ((lineLen l' + 1 : Nat) : Int) := hll2
            generalize lineLen l' + 1 = m at *
            have Hsum := Lib.hid hsum
            clear hll2 hsum hrs2
            go_wp2_with (first | (go_at_call 97; refine (prefix_is r ⟨#[47, 47]⟩ true _ hp.out).mono ?_; rintro e w' ⟨rfl, rfl⟩) | (go_at_call 96; refine (newline_index r n _ hn.out).mono ?_; rintro e w' ⟨rfl, rfl⟩))
            exact ⟨⟨k + m, by rw [Hsum.out]; go_num, by omega, hnx⟩, by have := Hsum.out; simp [intOf]; omega⟩
          · rw [if_neg hn0] at hll2
            have hnd : decide (n < 0) = false := decide_eq_false hn0
            obtain rfl : n = ((lineLen l' + 1 : Nat) : Int) := hll2
            generalize lineLen l' + 1 = m at *
            clear hrs2
            go_wp2_with (first | (go_at_call 97; refine (prefix_is r ⟨#[47, 47]⟩ true _ hp.out).mono ?_; rintro e w' ⟨rfl, rfl⟩) | (go_at_call 96; refine (newline_index r _ _ hn.out).mono ?_; rintro e w' ⟨rfl, rfl⟩))
            exact ⟨⟨k + m, by go_num, by omega, hnx⟩, by simp [intOf]; omega⟩
        · have hp : Hid (Lib.hasPrefix (tl r) (tl ⟨#[47, 47]⟩) = false) := Lib.hid (by rw [hl'.out, show tl ⟨#[47, 47]⟩ = [47, 47] from rfl, prefix_two]; exact decide_eq_false hline)
          by_cases hnote : c = 47 ∧ l'.head? = some 42
          · have hp2 : Hid (Lib.hasPrefix (tl r) (tl ⟨#[47, 42]⟩) = true) := Lib.hid (by rw [hl'.out, show tl ⟨#[47, 42]⟩ = [47, 42] from rfl, prefix_two]; exact decide_eq_true hnote)
            have hl1 : 1 ≤ l'.length := by
              cases l' with
              | nil => simp at hnote
              | cons x l' => simp
            have hr2 : (2 : Int) ≤ (r.size : Int) := by have := Hll.out; omega
            have hr2' : 2 ≤ r.size := by omega
            have hrb : r.size ≤ 2000000000 := by omega
            have hcut : Hid (tl (r.extract 2 r.size) = l'.drop 1) := Lib.hid (by rw [show tl (r.extract 2 r.size) = (tl r).drop 2 from Lib.extract_to_end r 2, hl'.out]; rfl)
            have hcs : (r.extract 2 r.size).size < 4294967281 := by rw [ByteArray.size_extract]; omega
            have Hcs := Lib.hid hcs; clear hcs
            obtain ⟨m, hm⟩ : ∃ m, Hid (Lib.index (tl (r.extract 2 r.size)) [42, 47] = m) := ⟨_, Lib.hid rfl⟩
            have hci := close_index (l'.drop 1)
            rw [← hcut.out, hm.out] at hci
            have hst2 := sep_note hnote
            rw [← hdk.out] at hst2
            have Hst2 := Lib.hid hst2; clear hst2 hline hrs2
            cases hcl : closeAt (l'.drop 1) with
            | none =>
              have hcl2 := hcl
              rw [← hcut.out] at hcl
              rw [hcl] at hci
              have hfin : Hid (sep (tl s) = (k, false)) := Lib.hid (hst.out.done (by rw [Hst2.out, hcl2]))
              have hci' : m = -1 := hci
              have hm0 : m < 0 := by omega
              have hmd : decide (m < 0) = true := decide_eq_true hm0
              clear hci hcl hcl2 hci'
              go_wp2_with (first | (go_at_call 97; first | (refine (prefix_is r ⟨#[47, 47]⟩ false _ hp.out).mono ?_; rintro e w' ⟨rfl, rfl⟩) | (refine (prefix_is r ⟨#[47, 42]⟩ true _ hp2.out).mono ?_; rintro e w' ⟨rfl, rfl⟩)) | (go_at_call 98; refine (index_is _ m _ HW.out Hcs.out hm.out).mono ?_; rintro e w' ⟨rfl, rfl⟩))
              go_ret2
              exact ⟨by rw [hfin.out]; rfl, rfl⟩
            | some n =>
              have hcl2 := hcl
              have hle := closeAt_le hcl
              rw [← hcut.out] at hcl
              rw [hcl] at hci
              obtain rfl : m = (n : Int) := hci
              rw [List.length_drop] at hle
              have hmd : decide ((n : Int) < 0) = false := by simp
              have hnb : k + (n + 4) ≤ s.size := by have := Hll.out; omega
              have hnx : Hid (SepAt (tl s) (k + (n + 4))) := Lib.hid (hst.out.next (n := n + 4) (by rw [tl_length]; omega) (by rw [Hst2.out, hcl2, hdk.out]; rfl))
              clear hcl hcl2
              go_wp2_with (first | (go_at_call 97; first | (refine (prefix_is r ⟨#[47, 47]⟩ false _ hp.out).mono ?_; rintro e w' ⟨rfl, rfl⟩) | (refine (prefix_is r ⟨#[47, 42]⟩ true _ hp2.out).mono ?_; rintro e w' ⟨rfl, rfl⟩)) | (go_at_call 98; refine (index_is _ _ _ HW.out Hcs.out hm.out).mono ?_; rintro e w' ⟨rfl, rfl⟩))
              exact ⟨⟨k + (n + 4), by go_num, by omega, hnx⟩, by simp [intOf]; omega⟩
          · have hp2 : Hid (Lib.hasPrefix (tl r) (tl ⟨#[47, 42]⟩) = false) := Lib.hid (by rw [hl'.out, show tl ⟨#[47, 42]⟩ = [47, 42] from rfl, prefix_two]; exact decide_eq_false hnote)
            have hfin : Hid (sep (tl s) = (k, true)) := Lib.hid (hst.out.done (by rw [hdk.out, sep_stop hbl hline hnote]))
            clear hrs2
            go_wp2_with (go_at_call 97; first | (refine (prefix_is r ⟨#[47, 47]⟩ false _ hp.out).mono ?_; rintro e w' ⟨rfl, rfl⟩) | (refine (prefix_is r ⟨#[47, 42]⟩ false _ hp2.out).mono ?_; rintro e w' ⟨rfl, rfl⟩))
            go_ret2
            exact ⟨by rw [hfin.out]; rfl, rfl⟩
    · obtain rfl : k = s.size := by omega
      have hfin := hst.out.done (b := true) (by rw [List.drop_eq_nil_of_le (by rw [tl_length]; exact Nat.le_refl _)]; rw [sep])
      have Hfin := Lib.hid hfin; clear hfin
      go_wp2_with fail
      go_ret2
      exact ⟨by rw [Hfin.out]; rfl, rfl⟩
end Go.Proofs.YtfjmhnnjgjcmeaaGreatDoor.X
/-
  For the laws of lex: the token that begins a text. Condition: the text has at least one byte and at most 2 to the 31; the library's own variables are as they are laid.
-/
namespace Go.Proofs.YtfjmhnnjgjcmeaaGreatDoor.X
open Go.RowKit Go.Shelf

def valF (n : Nat) (l : List UInt8) : Nat := l.foldl (fun n c => 10 * n + (c.toNat - 48)) n
theorem valF_ge (l : List UInt8) : ∀ n, n ≤ valF n l := by
  induction l with
  | nil => intro n; exact Nat.le_refl _
  | cons c l ih => intro n; have := ih (10 * n + (c.toNat - 48)); unfold valF at this ⊢; rw [List.foldl_cons]; omega
theorem dig_nat {c : UInt8} (h : dig c = true) : 48 ≤ c.toNat ∧ c.toNat ≤ 57 := by
  have := dig_true c h
  omega
theorem parseM (l : List UInt8) : ∀ (a : Nat), (∀ c ∈ l, dig c = true) → a ≤ 4294967295 →
    (valF a l ≤ 4294967295 → Lib.parseUintM 4294967295 a l = .ok (valF a l)) ∧ (4294967295 < valF a l → Lib.parseUintM 4294967295 a l = .range) := by
  induction l with
  | nil => intro a _ ha; exact ⟨fun _ => rfl, fun h => by simp [valF] at h; omega⟩
  | cons c l ih =>
    intro a hd ha
    have hc := dig_nat (hd c (by simp))
    have e : valF a (c :: l) = valF (a * 10 + (c.toNat - 48)) l := by simp [valF, Nat.mul_comm]
    rw [e, Lib.parseUintM, if_pos hc, if_neg (by omega)]
    by_cases hb : 4294967295 < a * 10 + (c.toNat - 48)
    · rw [if_pos hb]
      have := valF_ge l (a * 10 + (c.toNat - 48))
      exact ⟨fun h => by omega, fun _ => rfl⟩
    · rw [if_neg hb]
      exact ih _ (fun x hx => hd x (by simp [hx])) (by omega)
theorem parse_digits (l : List UInt8) (hne : l ≠ []) (hd : ∀ c ∈ l, dig c = true) :
    (valOf l ≤ 2147483647 → Lib.parseIntB 32 l = .ok (valOf l : Int)) ∧ (2147483647 < valOf l → Lib.parseIntB 32 l = .range) := by
  cases l with
  | nil => exact absurd rfl hne
  | cons c r =>
    have hc := dig_nat (hd c (by simp))
    have hv : valOf (c :: r) = valF 0 (c :: r) := rfl
    obtain ⟨p1, p2⟩ := parseM (c :: r) 0 hd (by omega)
    have hu : Lib.parseUintB 32 (c :: r) = Lib.parseUintM 4294967295 0 (c :: r) := by unfold Lib.parseUintB; rw [if_neg (by simp)]
    constructor
    · intro h
      unfold Lib.parseIntB
      simp only
      rw [if_neg (by omega), hu, p1 (by omega)]
      simp only
      rw [if_neg (by omega), if_neg (by omega), if_neg (by omega), ← hv]
    · intro h
      unfold Lib.parseIntB
      simp only
      rw [if_neg (by omega), hu]
      by_cases hb : 4294967295 < valF 0 (c :: r)
      · rw [p2 hb]
      · rw [p1 (by omega)]
        simp only
        rw [if_pos (by omega)]

theorem num_ok (d : ByteArray) (hs : d.size ≤ 9223372036854775806) (hne : tl d ≠ []) (hd : ∀ c ∈ tl d, dig c = true) (hv : valOf (tl d) ≤ 2147483647) (w : World) :
    Calls Tryz.prog 102 #[.string d, .int .i64 10, .int .i64 32] w fun e w' => e = .returned (.tuple #[.int .i64 (valOf (tl d) : Nat), .nilIface]) ∧ Below w.heap.size w w' := by
  refine (Tryz.strconv_ParseInt_10_at32_ok d hs _ ((parse_digits _ hne hd).1 hv) w).mono ?_
  rintro e w' ⟨rfl, hw⟩
  refine ⟨rfl, ?_⟩
  rcases hw with rfl | ⟨t, rfl⟩
  · exact Below.refl _ _
  · exact Joins.below_bytesWorld _ _ _ _ (Nat.le_refl _)
theorem num_range (d : ByteArray) (hs : d.size ≤ 281474976710656) (hne : tl d ≠ []) (hd : ∀ c ∈ tl d, dig c = true) (hv : 2147483647 < valOf (tl d)) (w : World) (hW : LexW w) :
    Calls Tryz.prog 102 #[.string d, .int .i64 10, .int .i64 32] w fun e w' => (∃ (N : Nat) (x : Int), e = .returned (.tuple #[.int .i64 x, .iface 176 (.pointer (some ⟨N, 0, none⟩))])) ∧ Below w.heap.size w w' := by
  obtain ⟨te, pe, h3⟩ := hW.rng
  refine (Tryz.strconv_ParseInt_10_at32_range d hs ((parse_digits _ hne hd).2 hv) _ w h3 (.inr ⟨_, _, rfl⟩)).mono ?_
  rintro e w' ⟨N, rfl, -, -, hb⟩
  exact ⟨⟨N, _, rfl⟩, hb⟩

theorem take_ext (s : ByteArray) (n : Nat) : tl (s.extract 0 n) = (tl s).take n := by
  show (s.extract 0 n).data.toList = _
  rw [Lib.extract_data]
  simp
def FirstGives (w : World) (l : List UInt8) (e : Ending) (w' : World) : Prop := e = .returned (.tuple #[.int .i64 (first l).1, .int .i64 ((first l).2.1 : Nat), .int .i64 (first l).2.2]) ∧ Below w.heap.size w w'

set_option maxRecDepth 100000 in
set_option maxHeartbeats 8000000 in
theorem first_any (s : ByteArray) (w : World) (hW : LexW w) (h0 : 0 < s.size) (hs : s.size ≤ 2000000000) : Calls Tryz.prog 83 #[.string s] w (FirstGives w (tl s)) := by
  have HW := Lib.hid hW; clear hW
  have hn1 := nameLen_le (tl s)
  have hn2 := numLen_le (tl s)
  have hn3 := markLen_le (tl s)
  rw [tl_length] at hn1 hn2 hn3
  have hmx : Hid (s.size ≤ maxLen) := Lib.hid (by unfold maxLen; omega)
  obtain ⟨F, hF⟩ : ∃ F, Hid (first (tl s) = F) := ⟨_, Lib.hid rfl⟩
  unfold FirstGives
  rw [hF.out]
  by_cases c1 : 0 < nameLen (tl s)
  · by_cases c2 : 20 < nameLen (tl s)
    · have hf : Hid (F = (0, 0, 2)) := Lib.hid (by rw [← hF.out, first, if_pos c1, if_pos c2])
      have d1 : decide (0 < nameLen (tl s)) = true := decide_eq_true c1
      have d2 : decide ((20 : Int) < (nameLen (tl s) : Int)) = true := by simp; omega
      go_enter Tryz.func83, Tryz.ntmps83
      go_wp2_with (go_at_call 99; refine (nameLength_any s _ hmx.out).mono ?_; rintro e w' ⟨rfl, rfl⟩)
      go_ret3
      exact ⟨by rw [hf.out]; rfl, Below.refl _ _⟩
    · have d1 : decide (0 < nameLen (tl s)) = true := decide_eq_true c1
      have d2 : decide ((20 : Int) < (nameLen (tl s) : Int)) = false := by simp; omega
      by_cases c3 : (tl s).take (nameLen (tl s)) ∈ keptL
      · have hf : Hid (F = (3, nameLen (tl s), 0)) := Lib.hid (by rw [← hF.out, first, if_pos c1, if_neg c2, if_pos c3])
        have hk : Hid (decide (tl (s.extract 0 (nameLen (tl s))) ∈ keptL) = true) := Lib.hid (by rw [take_ext]; exact decide_eq_true c3)
        clear c3
        go_enter Tryz.func83, Tryz.ntmps83
        go_wp2_with (first | (go_at_call 99; refine (nameLength_any s _ hmx.out).mono ?_; rintro e w' ⟨rfl, rfl⟩) | (go_at_call 100; refine (Kept_any _ _).mono ?_; rw [hk.out]; rintro e w' ⟨rfl, rfl⟩))
        go_ret3
        exact ⟨by rw [hf.out]; rfl, Below.refl _ _⟩
      · have hf : Hid (F = (1, nameLen (tl s), 0)) := Lib.hid (by rw [← hF.out, first, if_pos c1, if_neg c2, if_neg c3])
        have hk : Hid (decide (tl (s.extract 0 (nameLen (tl s))) ∈ keptL) = false) := Lib.hid (by rw [take_ext]; exact decide_eq_false c3)
        clear c3
        go_enter Tryz.func83, Tryz.ntmps83
        go_wp2_with (first | (go_at_call 99; refine (nameLength_any s _ hmx.out).mono ?_; rintro e w' ⟨rfl, rfl⟩) | (go_at_call 100; refine (Kept_any _ _).mono ?_; rw [hk.out]; rintro e w' ⟨rfl, rfl⟩))
        go_ret3
        exact ⟨by rw [hf.out]; rfl, Below.refl _ _⟩
  · have d1 : decide (0 < nameLen (tl s)) = false := decide_eq_false c1
    by_cases c2 : 0 < numLen (tl s)
    · have d2 : decide (0 < numLen (tl s)) = true := decide_eq_true c2
      have hds : Hid (tl (s.extract 0 (numLen (tl s))) = (tl s).take (numLen (tl s))) := Lib.hid (take_ext s _)
      have hdig : ∀ c ∈ (tl s).take (numLen (tl s)), dig c = true := by
        intro c hc
        have : (tl s).take (numLen (tl s)) = (tl s).takeWhile dig := by
          unfold numLen
          exact (List.prefix_iff_eq_take.1 (List.takeWhile_prefix dig)).symm
        rw [this] at hc
        exact List.all_takeWhile (p := dig) (l := tl s) |> fun h => (List.all_eq_true.1 h) c hc
      have hne : (tl s).take (numLen (tl s)) ≠ [] := by
        intro e
        have := congrArg List.length e
        rw [List.length_take, tl_length, List.length_nil] at this
        omega
      have hlen : ((tl s).take (numLen (tl s))).length = numLen (tl s) := by rw [List.length_take, tl_length]; omega
      have hhead : ((tl s).take (numLen (tl s))).head? = some s[0] := by
        rw [List.head?_take, if_neg (by omega), List.head?_eq_getElem?]
        exact tl_get s h0
      have hbad : Hid (badNum ((tl s).take (numLen (tl s))) = (decide (2147483647 < valOf ((tl s).take (numLen (tl s)))) || (decide (1 < numLen (tl s)) && s[0] == 48))) := by
        refine Lib.hid ?_
        unfold badNum
        rw [hlen, hhead]
        rfl
      have hsd : Hid ((s.extract 0 (numLen (tl s))).size ≤ 2000000000) := Lib.hid (by rw [ByteArray.size_extract]; omega)
      have hfst : Hid (first (tl s) = if badNum ((tl s).take (numLen (tl s))) = true then (0, 0, 31) else (2, numLen (tl s), 0)) := Lib.hid (by rw [first, if_neg c1, if_pos c2])
      have hb48 := byte_bd s[0]
      obtain ⟨z, hz⟩ : ∃ z : Bool, Hid ((s[0] == 48) = z) := ⟨_, Lib.hid rfl⟩
      have dz : ((s[0].toNat : Int) == 48) = z := by
        rw [← hz.out, Bool.eq_iff_iff, beq_iff_eq, beq_iff_eq, ← UInt8.toNat_inj]
        show _ ↔ s[0].toNat = 48
        omega
      rw [hz.out] at hbad
      rw [← hds.out] at hdig hne hbad
      have Hdig := Lib.hid hdig
      have Hne := Lib.hid hne
      clear hdig hne hlen hhead hz
      by_cases c3 : 2147483647 < valOf (tl (s.extract 0 (numLen (tl s))))
      · have hf : Hid (F = (0, 0, 31)) := Lib.hid (by rw [← hF.out, hfst.out, ← hds.out, hbad.out, decide_eq_true c3]; rfl)
        clear dz
        go_enter Tryz.func83, Tryz.ntmps83
        go_wp2_with (first | (go_at_call 99; refine (nameLength_any s _ hmx.out).mono ?_; rintro e w' ⟨rfl, rfl⟩) | (go_at_call 101; refine (numberLength_any s _ hmx.out).mono ?_; rintro e w' ⟨rfl, rfl⟩))
        refine (num_range _ (by have := hsd.out; omega) Hne.out Hdig.out c3 _ HW.out).mono ?_
        rintro e w1 ⟨⟨N, x, rfl⟩, b1⟩
        go_wp2_with fail
        go_ret3
        exact ⟨by rw [hf.out]; rfl, b1⟩
      · by_cases c4 : 1 < numLen (tl s) ∧ z = true
        · obtain ⟨c4, rfl⟩ := c4
          have hf : Hid (F = (0, 0, 31)) := Lib.hid (by rw [← hF.out, hfst.out, ← hds.out, hbad.out, decide_eq_false c3, decide_eq_true c4]; rfl)
          have d4 : decide ((1 : Int) < (numLen (tl s) : Int)) = true := by simp; omega
          go_enter Tryz.func83, Tryz.ntmps83
          go_wp2_with (first | (go_at_call 99; refine (nameLength_any s _ hmx.out).mono ?_; rintro e w' ⟨rfl, rfl⟩) | (go_at_call 101; refine (numberLength_any s _ hmx.out).mono ?_; rintro e w' ⟨rfl, rfl⟩))
          refine (num_ok _ (by have := hsd.out; omega) Hne.out Hdig.out (by omega) _).mono ?_
          rintro e w1 ⟨rfl, b1⟩
          go_wp2_with fail
          go_ret3
          exact ⟨by rw [hf.out]; rfl, b1⟩
        · have hf : Hid (F = (2, numLen (tl s), 0)) := Lib.hid (by
            rw [← hF.out, hfst.out, ← hds.out, hbad.out, decide_eq_false c3]
            have : (decide (1 < numLen (tl s)) && z) = false := by
              cases z with
              | true => rw [decide_eq_false (fun h => c4 ⟨h, rfl⟩)]; rfl
              | false => simp
            rw [this]
            rfl)
          have hc5 : (decide ((1 : Int) < (numLen (tl s) : Int)) = false) ∨ (decide ((1 : Int) < (numLen (tl s) : Int)) = true ∧ z = false) := by
            by_cases h : 1 < numLen (tl s)
            · right
              refine ⟨by simp; omega, ?_⟩
              cases z with
              | true => exact absurd ⟨h, rfl⟩ c4
              | false => rfl
            · left; simp; omega
          clear c4
          rcases hc5 with d4 | ⟨d4, rfl⟩
          all_goals
            go_enter Tryz.func83, Tryz.ntmps83
            go_wp2_with (first | (go_at_call 99; refine (nameLength_any s _ hmx.out).mono ?_; rintro e w' ⟨rfl, rfl⟩) | (go_at_call 101; refine (numberLength_any s _ hmx.out).mono ?_; rintro e w' ⟨rfl, rfl⟩))
            refine (num_ok _ (by have := hsd.out; omega) Hne.out Hdig.out (by omega) _).mono ?_
            rintro e w1 ⟨rfl, b1⟩
            go_wp2_with fail
            go_ret3
            exact ⟨by rw [hf.out]; rfl, b1⟩
    · have d2 : decide (0 < numLen (tl s)) = false := decide_eq_false c2
      by_cases c3 : 0 < markLen (tl s)
      · have hf : Hid (F = (4, markLen (tl s), 0)) := Lib.hid (by rw [← hF.out, first, if_neg c1, if_neg c2, if_pos c3])
        have d3 : decide (0 < markLen (tl s)) = true := decide_eq_true c3
        go_enter Tryz.func83, Tryz.ntmps83
        go_wp2_with (first | (go_at_call 99; refine (nameLength_any s _ hmx.out).mono ?_; rintro e w' ⟨rfl, rfl⟩) | (go_at_call 101; refine (numberLength_any s _ hmx.out).mono ?_; rintro e w' ⟨rfl, rfl⟩) | (go_at_call 103; refine (markLength_any s _ hmx.out).mono ?_; rintro e w' ⟨rfl, rfl⟩))
        go_ret3
        exact ⟨by rw [hf.out]; rfl, Below.refl _ _⟩
      · have hf : Hid (F = (0, 0, 30)) := Lib.hid (by rw [← hF.out, first, if_neg c1, if_neg c2, if_neg c3])
        have d3 : decide (0 < markLen (tl s)) = false := decide_eq_false c3
        go_enter Tryz.func83, Tryz.ntmps83
        go_wp2_with (first | (go_at_call 99; refine (nameLength_any s _ hmx.out).mono ?_; rintro e w' ⟨rfl, rfl⟩) | (go_at_call 101; refine (numberLength_any s _ hmx.out).mono ?_; rintro e w' ⟨rfl, rfl⟩) | (go_at_call 103; refine (markLength_any s _ hmx.out).mono ?_; rintro e w' ⟨rfl, rfl⟩))
        go_ret3
        exact ⟨by rw [hf.out]; rfl, Below.refl _ _⟩
end Go.Proofs.YtfjmhnnjgjcmeaaGreatDoor.X
/-
  A region that draws its order and whose last operation, one for which all others must be done, turns what the others read. No condition; of any program.
-/
namespace Go.Proofs.YtfjmhnnjgjcmeaaGreatDoor.X

section
variable {P : Program} {ops : Array Oper} {Q : Exit → Act → World → Prop} {md : Region.Mode} {S : World → Prop} {z : Nat}

/-- Does operation z wait for i? -/
def waits (md : Region.Mode) (ops : Array Oper) (z i : Nat) : Bool := ((ops[z]?).map fun o => o.after.any fun e => Region.binds md e && e.on == i).getD false

/-- Whatever order is picked from here on, and S holds behind every operation but z. -/
def wpAnyE (P : Program) (md : Region.Mode) (ops : Array Oper) (Q : Exit → Act → World → Prop) (S : World → Prop) (z : Nat) : Nat → Array Bool → Act → World → Prop
  | 0, listed, a, w => Region.ready md ops listed = [] ∧ Q .normal a w
  | fuel + 1, listed, a, w =>
    (Region.ready md ops listed = [] → Q .normal a w) ∧
    ∀ i ∈ Region.ready md ops listed, wpOp P ops Q i (fun a' w' => (i ≠ z → S w') ∧ wpAnyE P md ops Q S z fuel (listed.setIfInBounds i true) a' w') a w

theorem wpAny_of_E : ∀ (fuel : Nat) (listed : Array Bool) (a : Act) (w : World), wpAnyE P md ops Q S z fuel listed a w → wpAny P md ops Q fuel listed a w
  | 0, _, _, _, h => h
  | fuel + 1, _, _, _, h => ⟨h.1, fun i hi => wpOp_mono (fun a' w' h' => wpAny_of_E fuel _ a' w' h'.2) (h.2 i hi)⟩

/-- While i is to come z can't come up. -/
theorem not_yet {i : Nat} {listed : Array Bool} (hw : waits md ops z i = true) (hi : listed.getD i true = false) : z ∉ Region.ready md ops listed := by
  intro hz
  obtain ⟨_, o, ho, hall⟩ := mem_ready.1 hz
  unfold waits at hw
  rw [ho] at hw
  simp only [Option.map_some, Option.getD_some, Array.any_eq_true] at hw
  obtain ⟨j, hj, he⟩ := hw
  rw [Bool.and_eq_true, beq_iff_eq] at he
  have h1 := hall _ (Array.getElem_mem hj) he.1
  rw [he.2] at h1
  rcases Nat.lt_or_ge i listed.size with h' | h'
  · simp [h'] at hi h1
    rw [hi] at h1; cases h1
  · simp [Array.getElem?_eq_none h'] at h1

theorem wpAnyE_first {i : Nat} {oi : Oper} {v : Value} (hi : ops[i]? = some oi) (hsel : ∀ (j : Nat) (o : Oper) cs b, ops[j]? = some o → o.op ≠ .select cs b)
    (hQ : ∀ c a w, Q (.panic c) (a.put oi.dst v) w → Q (.panic c) a w) (hw : waits md ops z i = true) (hiz : i ≠ z) :
    ∀ (fuel : Nat) (listed : Array Bool) (a : Act) (w : World),
      (∀ j oj, ops[j]? = some oj → j ≠ i → listed.getD j true = false → (∀ e ∈ oj.after, Region.binds md e = true → e.on ≠ i) → oi.apart ops oj = true) →
      i ∈ Region.ready md ops listed → YieldsIf P ops S oi v a → S w →
      wpAnyE P md ops Q S z fuel (listed.setIfInBounds i true) (a.put oi.dst v) w → wpAnyE P md ops Q S z (fuel + 1) listed a w := by
  intro fuel
  induction fuel with
  | zero =>
    intro listed a w _ hr hy hS H
    refine ⟨fun h => (by rw [h] at hr; cases hr), fun j hj => ?_⟩
    by_cases hji : j = i
    · subst hji; exact hy.wpOp hi hS ⟨fun _ => hS, H⟩
    · have := ready_mono hj hji
      rw [H.1] at this
      cases this
  | succ fuel ih =>
    intro listed a w hfree hr hy hS H
    refine ⟨fun h => (by rw [h] at hr; cases hr), fun j hj => ?_⟩
    by_cases hji : j = i
    · subst hji; exact hy.wpOp hi hS ⟨fun _ => hS, H⟩
    · have h1 := H.2 j (ready_mono hj hji)
      have hjz : j ≠ z := fun e => by subst e; exact not_yet hw (mem_ready.1 hr).1 hj
      obtain ⟨hjun, oj, hoj, hall⟩ := mem_ready.1 hj
      have hnot : ∀ e ∈ oj.after, Region.binds md e = true → e.on ≠ i := fun e he hb heq => by
        have h1 := hall e he hb
        have h0 := (mem_ready.1 hr).1
        rw [heq] at h1
        rcases Nat.lt_or_ge i listed.size with h' | h'
        · simp [h'] at h0 h1; rw [h0] at h1; cases h1
        · simp [Array.getElem?_eq_none h'] at h1
      have h2 := wpOp_putIf hoj (hfree j oj hoj hji hjun hnot) (fun cs b => hsel i oi cs b hi) (fun cs b => hsel j oj cs b hoj) hQ hy h1
      have hfree' : ∀ k ok, ops[k]? = some ok → k ≠ i → (listed.setIfInBounds j true).getD k true = false →
          (∀ e ∈ ok.after, Region.binds md e = true → e.on ≠ i) → oi.apart ops ok = true := fun k ok hk hki hun hno => by
        refine hfree k ok hk hki ?_ hno
        by_cases hjk : j = k
        · subst hjk; exact hjun
        · rw [getD_set_ne true hjk] at hun; exact hun
      refine wpOp_mono (fun a' w' h3 => ⟨h3.2.1, ih (listed.setIfInBounds j true) a' w' hfree' (ready_mono hr (Ne.symm hji)) h3.1 (h3.2.1 hjz) ?_⟩) h2
      rw [Array.setIfInBounds_comm _ _ hji]
      exact h3.2.2
theorem wpAnyE_take {i : Nat} {oi : Oper} {v : Value} {fuel : Nat} {listed : Array Bool} {a : Act} {w : World} (hi : ops[i]? = some oi)
    (hs : Region.noSelect ops = true) (hf : Region.free md ops listed i = true) (hr : (Region.ready md ops listed).contains i = true) (hz : (waits md ops z i && !(i == z)) = true)
    (hQ : ∀ c a w, Q (.panic c) (a.put oi.dst v) w → Q (.panic c) a w) (hy : YieldsIf P ops S oi v a) (hS : S w)
    (h : wpAnyE P md ops Q S z fuel (listed.setIfInBounds i true) (a.put oi.dst v) w) : wpAnyE P md ops Q S z (fuel + 1) listed a w := by
  rw [Bool.and_eq_true] at hz
  exact wpAnyE_first hi (Region.noSelect_spec hs) hQ hz.1 (by simpa using hz.2) fuel listed a w (Region.free_spec hi hf) (by simpa using hr) hy hS h
/-- One alone may come up. -/
theorem wpAnyE_one {i : Nat} {o : Oper} {fuel : Nat} {listed : Array Bool} {a : Act} {w : World} (hr : Region.ready md ops listed = [i]) (ho : ops[i]? = some o)
    (h : ∀ K' : Act → World → Prop, Shut (∀ a w, (i ≠ z → S w) → wpAnyE P md ops Q S z fuel (listed.setIfInBounds i true) a w → K' a w) → if Region.wanted o (yielded ops a.tmps) = true then Oper.wp P o a w K' Q else K' (a.put o.dst undef) w) :
    wpAnyE P md ops Q S z (fuel + 1) listed a w := by
  refine ⟨fun h0 => (by rw [h0] at hr; cases hr), fun j hj => ?_⟩
  rw [hr] at hj
  obtain rfl : j = i := by simpa using hj
  exact wpOp_step ho (fun K' hK => h K' (fun a w hS hW => hK a w ⟨hS, hW⟩))
theorem wpAnyE_done {listed : Array Bool} {a : Act} {w : World} (hr : Region.ready md ops listed = []) (h : Q .normal a w) : ∀ fuel, wpAnyE P md ops Q S z fuel listed a w
  | 0 => ⟨hr, h⟩
  | _ + 1 => ⟨fun _ => h, by rw [hr]; simp⟩
theorem wp_region_E {id : Nat} {a : Act} {w : World} (hm : P.follows .mixedOrders = true)
    (h : wpAnyE P .any ops Q S z ops.size (Array.replicate ops.size false) a w.drew) : (Code.region id ops true).wp P Q a w :=
  wp_region_any hm (wpAny_of_E _ _ _ _ h)
end
end Go.Proofs.YtfjmhnnjgjcmeaaGreatDoor.X
/-
  For the laws of lex: a slice that reads as tokens; the closure that lays one token more. Condition: at most 2 to the 31 bytes, and as many tokens.
-/
namespace Go.Proofs.YtfjmhnnjgjcmeaaGreatDoor.X
open Go.RowKit Go.Shelf
set_option linter.unusedSimpArgs false

abbrev bs (l : List UInt8) : ByteArray := ⟨l.toArray⟩
theorem tl_bs (l : List UInt8) : tl (bs l) = l := by simp [tl]
theorem bs_tl (s : ByteArray) : bs (tl s) = s := by cases s; simp [tl, bs]
theorem bs_size (l : List UInt8) : (bs l).size = l.length := by rw [← tl_length, tl_bs]
theorem ext_bs (s : ByteArray) (a b : Nat) : s.extract a b = bs (((tl s).drop a).take (b - a)) := by
  rw [← bs_tl (s.extract a b)]
  show bs (s.extract a b).data.toList = _
  rw [Lib.extract_data]
def Tk.row (t : Tk) : List Value := [.int .i64 t.kind, .string (bs t.text), .int .i64 t.at_, .string (bs t.lead)]
/-- The cells of t lie at o on. -/
def Tk.lies (W : World) (b o : Nat) (t : Tk) : Prop :=
  W.cell? ⟨b, o, none⟩ = some (.int .i64 t.kind) ∧ W.cell? ⟨b, o + 1, none⟩ = some (.string (bs t.text)) ∧ W.cell? ⟨b, o + 2, none⟩ = some (.int .i64 t.at_) ∧ W.cell? ⟨b, o + 3, none⟩ = some (.string (bs t.lead))
/-- The value v is a slice that reads as the tokens T. -/
def Toks (W : World) (v : Value) (T : List Tk) : Prop :=
  ∃ (a : Option Addr) (cap : Nat), v = .slice a T.length cap ∧ T.length ≤ cap ∧ cap ≤ maxLen ∧ ∀ k (t : Tk), T[k]? = some t → ∃ b off, a = some ⟨b, off, none⟩ ∧ b < W.heap.size ∧ t.lies W b (off + k * 4)
theorem Tk.lies.below {W W' : World} {B b o : Nat} {t : Tk} (hh : t.lies W b o) (hb : Below B W W') (hl : b < B) : t.lies W' b o :=
  ⟨(hb.cell (p := ⟨b, o, none⟩) hl).trans hh.1, (hb.cell (p := ⟨b, o + 1, none⟩) hl).trans hh.2.1, (hb.cell (p := ⟨b, o + 2, none⟩) hl).trans hh.2.2.1, (hb.cell (p := ⟨b, o + 3, none⟩) hl).trans hh.2.2.2⟩
theorem Toks.below {W W' : World} {v : Value} {T : List Tk} (h : Toks W v T) (hb : Below W.heap.size W W') : Toks W' v T := by
  obtain ⟨a, cap, rfl, hc, hm, hx⟩ := h
  refine ⟨a, cap, rfl, hc, hm, fun k t hk => ?_⟩
  obtain ⟨b, off, rfl, hl, hat⟩ := hx k t hk
  exact ⟨b, off, rfl, by have := hb.size; omega, hat.below hb hl⟩
theorem toks_nil (W : World) : Toks W (.slice none 0 0) [] := ⟨none, 0, rfl, Nat.le_refl _, Nat.zero_le _, by simp⟩
theorem rows_length (T : List Tk) : (T.flatMap Tk.row).length = T.length * 4 := by
  induction T with
  | nil => rfl
  | cons h T ih => rw [List.flatMap_cons, List.length_append, ih]; simp [Tk.row]; omega
theorem rows_get {T : List Tk} {k : Nat} {t : Tk} (hk : T[k]? = some t) (j : Nat) (hj : j < 4) : (T.flatMap Tk.row)[k * 4 + j]? = t.row[j]? := by
  induction T generalizing k with
  | nil => simp at hk
  | cons g T ih =>
    rw [List.flatMap_cons]
    cases k with
    | zero =>
      obtain rfl : g = t := by simpa using hk
      rw [List.getElem?_append_left (by simp [Tk.row]; omega)]
      simp
    | succ k =>
      rw [List.getElem?_append_right (by simp [Tk.row]; omega)]
      rw [← ih (by simpa using hk)]
      congr 1
      simp [Tk.row]
      omega
theorem own_toks {W : World} {base n : Nat} {v : Value} {T : List Tk} (h : W.ownsRow base 70 4 v n (T.flatMap Tk.row)) : Toks W v T := by
  have hl := h.1
  rw [rows_length] at hl
  obtain rfl : n = T.length := by omega
  rcases h.2 with ⟨rfl, h0⟩ | ⟨g, cap, cur, rfl, _, hg, h1, h2, h3, h4⟩
  · obtain rfl : T = [] := List.eq_nil_of_length_eq_zero h0
    exact toks_nil W
  · refine ⟨_, cap, rfl, h1, h2, fun k t hk => ⟨g, 0, rfl, (Array.getElem?_eq_some_iff.1 hg).1, ?_⟩⟩
    have hc : ∀ j, j < 4 → W.cell? ⟨g, 0 + k * 4 + j, none⟩ = t.row[j]? := by
      intro j hj
      have hkl := (List.getElem?_eq_some_iff.1 hk).1
      rw [← rows_get hk j hj, ← h4, List.getElem?_take_of_lt (by omega)]
      simp [World.cell?, hg]
    exact ⟨hc 0 (by omega), hc 1 (by omega), hc 2 (by omega), hc 3 (by omega)⟩
theorem add_flat (b off j : Nat) : (⟨b, off, none⟩ : Addr).add j = ⟨b, off + j, none⟩ := by
  by_cases h0 : j = 0 <;> simp [Addr.add, h0]
theorem tok_new (W : World) (k : Int) (x : ByteArray) (p : Int) (y : ByteArray) (t : TypeId) : ∀ j u, ([.int .i64 k, .string x, .int .i64 p, .string y] : List Value)[j]? = some u → (W.alloc (.cells #[.int .i64 k, .string x, .int .i64 p, .string y] t)).cell? ((⟨W.heap.size, 0, none⟩ : Addr).add j) = some u := by
  intro j u hj
  rw [add_flat, Nat.zero_add]
  simp only [World.cell?, World.alloc_heap_new]
  simpa using hj
theorem tok_one (k : Int) (x : ByteArray) (p : Int) (y : ByteArray) : ∀ u ∈ ([.int .i64 k, .string x, .int .i64 p, .string y] : List Value), u.oneCell' = true := by
  intro u hu
  simp at hu
  rcases hu with rfl | rfl | rfl | rfl <;> rfl
theorem infoTok : (Tryz.prog.info? 70).map (fun i => (i.zero, i.size, i.bytes)) = some (some (.agg #[.int .i64 0, .string ⟨#[]⟩, .int .i64 0, .string ⟨#[]⟩]), 4, 48) := by kernel_rfl
theorem hneq {W : World} {base e size n : Nat} {v : Value} {xs : List Value} (h : W.ownsRow base e size v n xs) (q : Nat) (hq : q < base) : some q ≠ v.ownBlock := fun e => by
  have := (h.lt q e.symm).1
  omega
theorem below_draws {B : Nat} {a w : World} (h : Below B a w) (q : Nat) : Below B a (w.drewN q) := ⟨h.os, h.tape, h.output, h.size, h.block⟩

theorem kept_drew {W w2 : World} {o : Obj} {B : Nat} {t : TypeId} {v : Value} {row : Option Nat} (h : Boxed W B t v) (hg : (W.alloc o).drew.grownBy w2 row) (hne : some B ≠ row) : Boxed w2 B t v :=
  Boxed.kept (W := (W.alloc o).drew) (h.alloc o) hg hne
/-- The boxes of Lex: the text, the tokens, where the token's lead begins, where it stands. -/
structure LexB (W : World) (B : Nat) (s : ByteArray) (T : List Tk) (lead at_ : Int) : Prop where
  text : Boxed W B 9 (.string s)
  toks : ∃ v, Boxed W (B + 1) 65 v ∧ W.ownsRow (B + 4) 70 4 v T.length (T.flatMap Tk.row)
  lead : Boxed W (B + 2) 3 (.int .i64 lead)
  at_ : Boxed W (B + 3) 3 (.int .i64 at_)
  size : B + 4 ≤ W.heap.size
/-- The token of the text s with the lead from a on, at p, of n bytes. -/
def tokAt (s : ByteArray) (kind : Int) (a p n : Nat) : Tk := ⟨kind, ((tl s).drop p).take n, (p : Int), ((tl s).drop a).take (p - a)⟩
theorem tokAt_row (s : ByteArray) (kind : Int) (a p n : Nat) : (tokAt s kind a p n).row = [.int .i64 kind, .string (s.extract p (p + n)), .int .i64 (p : Int), .string (s.extract a p)] := by
  unfold tokAt Tk.row
  rw [ext_bs s p (p + n), ext_bs s a p]
  simp

def Adds (W : World) (B : Nat) (s : ByteArray) (T : List Tk) (q : Int) (e : Ending) (W' : World) : Prop := (∃ v, e = .returned v) ∧ LexB W' B s T q q ∧ Below B W W'
set_option maxRecDepth 100000 in
set_option maxHeartbeats 8000000 in
theorem add_any (W : World) (B : Nat) (s : ByteArray) (T : List Tk) (kind : Int) (a p n : Nat) (hW : LexB W B s T a p) (hap : a ≤ p) (hpn : p + n ≤ s.size) (hs : s.size ≤ 2000000000) (hT : T.length ≤ 2000000000) :
    Calls Tryz.prog 81 #[.int .i64 kind, .int .i64 n, .pointer (some ⟨B + 1, 0, none⟩), .pointer (some ⟨B, 0, none⟩), .pointer (some ⟨B + 3, 0, none⟩), .pointer (some ⟨B + 2, 0, none⟩)] W (Adds W B s (T ++ [tokAt s kind a p n]) (p + n : Nat)) := by
  obtain ⟨i0, hi0, hz0, hz1, hz2⟩ := info_parts infoTok
  obtain ⟨h1, ⟨v, h2, hown⟩, h3, h4, hsz⟩ := hW
  have c1 := h1.cell
  have c2 := h2.cell
  have c3 := h3.cell
  have c4 := h4.cell
  have hadd : IntKind.i64.wrap ((p : Int) + n) = (p : Int) + n := IntWalk.i64_in _ (by omega)
  have q1 : (0 : Int) ≤ (p : Int) := by omega
  have q2 : (p : Int) ≤ (p : Int) + n := by omega
  have q3 : (p : Int) + n ≤ (s.size : Int) := by omega
  have q4 : (0 : Int) ≤ (a : Int) := by omega
  have q5 : (a : Int) ≤ (p : Int) := by omega
  have q6 : (p : Int) ≤ (s.size : Int) := by omega
  go_enter Tryz.func81, Tryz.ntmps81
  go_wp2_with fail
  refine wp_region_E (S := fun W' => W'.cell? ⟨B, 0, none⟩ = some (.string s) ∧ W'.cell? ⟨B + 1, 0, none⟩ = some v ∧ W'.cell? ⟨B + 2, 0, none⟩ = some (.int .i64 a) ∧ W'.cell? ⟨B + 3, 0, none⟩ = some (.int .i64 p)) (z := 16) (by kernel_rfl) ?_
  have hS : W.drew.cell? ⟨B, 0, none⟩ = some (.string s) ∧ W.drew.cell? ⟨B + 1, 0, none⟩ = some v ∧ W.drew.cell? ⟨B + 2, 0, none⟩ = some (.int .i64 a) ∧ W.drew.cell? ⟨B + 3, 0, none⟩ = some (.int .i64 p) := ⟨c1, c2, c3, c4⟩
  refine wpAnyE_take (i := 0) (v := ?_) rfl (by kernel_rfl) (by kernel_rfl) (by kernel_rfl) (by kernel_rfl) (fun _ _ _ h => h) (Or.inl ⟨by rfl, ?_⟩) hS ?_
  rotate_left
  · intro w hSw
    obtain ⟨x1, x2, x3, x4⟩ := hSw
    go_simp
    try with_reducible rfl
  try simp only [Act.put, List.setIfInBounds_toArray, List.set_cons_zero, List.set_cons_succ]
  refine wpAnyE_take (i := 1) (v := ?_) rfl (by kernel_rfl) (by kernel_rfl) (by kernel_rfl) (by kernel_rfl) (fun _ _ _ h => h) (Or.inl ⟨by rfl, ?_⟩) hS ?_
  rotate_left
  · intro w hSw
    obtain ⟨x1, x2, x3, x4⟩ := hSw
    go_simp
    try with_reducible rfl
  try simp only [Act.put, List.setIfInBounds_toArray, List.set_cons_zero, List.set_cons_succ]
  refine wpAnyE_take (i := 2) (v := ?_) rfl (by kernel_rfl) (by kernel_rfl) (by kernel_rfl) (by kernel_rfl) (fun _ _ _ h => h) (Or.inl ⟨by rfl, ?_⟩) hS ?_
  rotate_left
  · intro w hSw
    obtain ⟨x1, x2, x3, x4⟩ := hSw
    go_simp
    try with_reducible rfl
  try simp only [Act.put, List.setIfInBounds_toArray, List.set_cons_zero, List.set_cons_succ]
  refine wpAnyE_take (i := 3) (v := ?_) rfl (by kernel_rfl) (by kernel_rfl) (by kernel_rfl) (by kernel_rfl) (fun _ _ _ h => h) (Or.inl ⟨by rfl, ?_⟩) hS ?_
  rotate_left
  · intro w hSw
    obtain ⟨x1, x2, x3, x4⟩ := hSw
    go_simp
    try with_reducible rfl
  try simp only [Act.put, List.setIfInBounds_toArray, List.set_cons_zero, List.set_cons_succ]
  refine wpAnyE_take (i := 4) (v := ?_) rfl (by kernel_rfl) (by kernel_rfl) (by kernel_rfl) (by kernel_rfl) (fun _ _ _ h => h) (Or.inl ⟨by rfl, ?_⟩) hS ?_
  rotate_left
  · intro w hSw
    obtain ⟨x1, x2, x3, x4⟩ := hSw
    go_simp
    try with_reducible rfl
  try simp only [Act.put, List.setIfInBounds_toArray, List.set_cons_zero, List.set_cons_succ]
  refine wpAnyE_take (i := 5) (v := ?_) rfl (by kernel_rfl) (by kernel_rfl) (by kernel_rfl) (by kernel_rfl) (fun _ _ _ h => h) (Or.inl ⟨by rfl, ?_⟩) hS ?_
  rotate_left
  · intro w hSw
    obtain ⟨x1, x2, x3, x4⟩ := hSw
    go_simp
    try with_reducible rfl
  try simp only [Act.put, List.setIfInBounds_toArray, List.set_cons_zero, List.set_cons_succ]
  refine wpAnyE_take (i := 6) (v := ?_) rfl (by kernel_rfl) (by kernel_rfl) (by kernel_rfl) (by kernel_rfl) (fun _ _ _ h => h) (Or.inl ⟨by rfl, ?_⟩) hS ?_
  rotate_left
  · intro w hSw
    obtain ⟨x1, x2, x3, x4⟩ := hSw
    go_simp
    try with_reducible rfl
  try simp only [Act.put, List.setIfInBounds_toArray, List.set_cons_zero, List.set_cons_succ]
  refine wpAnyE_take (i := 7) (v := ?_) rfl (by kernel_rfl) (by kernel_rfl) (by kernel_rfl) (by kernel_rfl) (fun _ _ _ h => h) (Or.inl ⟨by rfl, ?_⟩) hS ?_
  rotate_left
  · intro w hSw
    obtain ⟨x1, x2, x3, x4⟩ := hSw
    go_simp
    try with_reducible rfl
  try simp only [Act.put, List.setIfInBounds_toArray, List.set_cons_zero, List.set_cons_succ]
  refine wpAnyE_take (i := 8) (v := ?_) rfl (by kernel_rfl) (by kernel_rfl) (by kernel_rfl) (by kernel_rfl) (fun _ _ _ h => h) (Or.inl ⟨by rfl, ?_⟩) hS ?_
  rotate_left
  · intro w hSw
    obtain ⟨x1, x2, x3, x4⟩ := hSw
    go_simp
    try with_reducible rfl
  try simp only [Act.put, List.setIfInBounds_toArray, List.set_cons_zero, List.set_cons_succ]
  refine wpAnyE_take (i := 9) (v := ?_) rfl (by kernel_rfl) (by kernel_rfl) (by kernel_rfl) (by kernel_rfl) (fun _ _ _ h => h) (Or.inl ⟨by rfl, ?_⟩) hS ?_
  rotate_left
  · intro w hSw
    obtain ⟨x1, x2, x3, x4⟩ := hSw
    go_simp
    try with_reducible rfl
  try simp only [Act.put, List.setIfInBounds_toArray, List.set_cons_zero, List.set_cons_succ]
  refine wpAnyE_take (i := 10) (v := ?_) rfl (by kernel_rfl) (by kernel_rfl) (by kernel_rfl) (by kernel_rfl) (fun _ _ _ h => h) (Or.inl ⟨by rfl, ?_⟩) hS ?_
  rotate_left
  · intro w hSw
    obtain ⟨x1, x2, x3, x4⟩ := hSw
    go_simp
    try with_reducible rfl
  try simp only [Act.put, List.setIfInBounds_toArray, List.set_cons_zero, List.set_cons_succ]
  refine wpAnyE_take (i := 11) (v := ?_) rfl (by kernel_rfl) (by kernel_rfl) (by kernel_rfl) (by kernel_rfl) (fun _ _ _ h => h) (Or.inl ⟨by rfl, ?_⟩) hS ?_
  rotate_left
  · intro w hSw
    obtain ⟨x1, x2, x3, x4⟩ := hSw
    go_simp
    try with_reducible rfl
  try simp only [Act.put, List.setIfInBounds_toArray, List.set_cons_zero, List.set_cons_succ]
  refine wpAnyE_take (i := 12) (v := ?_) rfl (by kernel_rfl) (by kernel_rfl) (by kernel_rfl) (by kernel_rfl) (fun _ _ _ h => h) (Or.inl ⟨by rfl, ?_⟩) hS ?_
  rotate_left
  · intro w hSw
    obtain ⟨x1, x2, x3, x4⟩ := hSw
    go_simp
    try with_reducible rfl
  try simp only [Act.put, List.setIfInBounds_toArray, List.set_cons_zero, List.set_cons_succ]
  refine wpAnyE_take (i := 13) (v := ?_) rfl (by kernel_rfl) (by kernel_rfl) (by kernel_rfl) (by kernel_rfl) (fun _ _ _ h => h) (Or.inl ⟨by rfl, ?_⟩) hS ?_
  rotate_left
  · intro w hSw
    obtain ⟨x1, x2, x3, x4⟩ := hSw
    go_simp
    try with_reducible rfl
  try simp only [Act.put, List.setIfInBounds_toArray, List.set_cons_zero, List.set_cons_succ]
  refine wpAnyE_one (i := 14) (by kernel_rfl) rfl (fun K hK => ?_)
  go_simp
  refine hK.out _ _ (fun _ => ⟨(h1.alloc _).cell, (h2.alloc _).cell, (h3.alloc _).cell, (h4.alloc _).cell⟩) ?_
  clear hK K
  refine wpAnyE_one (i := 15) (by kernel_rfl) rfl (fun K hK => ?_)
  refine step_append_lies _ (by rfl) _ _ _ (by rfl) (B + 4) 70 i0 _ 4 48 Tryz.underlying65 hi0 hz0 hz1 hz2 rfl (by decide) _ T.length _ (by rfl) (hown.alloc _) ⟨W.heap.size, 0, none⟩ 1 1 [.int .i64 kind, .string (s.extract p ((p : Int) + n).toNat), .int .i64 (p : Int), .string (s.extract a p)] (by rfl) rfl (fun j u hj => tok_new W kind _ _ _ 70 j u hj) (tok_one _ _ _ _) (by omega) (by unfold maxLen; omega) (by omega) (by simp; omega) (W.heap.size + 1) (by simp) ?_
  intro g cap' w2 hown' hgrow _ _
  have b1 := kept_drew h1 hgrow (hneq hown _ (by omega))
  have b2 := kept_drew h2 hgrow (hneq hown _ (by omega))
  have b3 := kept_drew h3 hgrow (hneq hown _ (by omega))
  have b4 := kept_drew h4 hgrow (hneq hown _ (by omega))
  have hbel : Below B W w2 := (below_draws (((Below.refl B W).alloc (by omega) _)) 1).grown hgrow (by show B ≤ (W.alloc _).heap.size; simp; omega) (fun j ej => by have := (hown.lt j ej).1; omega)
  refine hK.out _ _ (fun _ => ⟨b1.cell, b2.cell, b3.cell, b4.cell⟩) ?_
  clear hK K
  have f2 := b2.frozen
  have e2 := b2.cell
  refine wpAnyE_one (i := 16) (by kernel_rfl) rfl (fun K hK => ?_)
  go_simp
  refine hK.out _ _ (fun h => absurd rfl h) ?_
  clear hK K
  refine wpAnyE_done (by kernel_rfl) ?_ _
  have e3 := b3.cell
  have f3 := b3.frozen
  have e4 := b4.cell
  have f4 := b4.frozen
  clear hS c1 c2 c3 c4 hadd
  go_wp2_with fail
  go_end0
  have hpn2 : ((p : Int) + n) = ((p + n : Nat) : Int) := by omega
  rw [hpn2]
  refine ⟨⟨_, rfl⟩, ⟨?_, ⟨.slice (some ⟨g, 0, none⟩) (T.length + 1) cap', ?_, ?_⟩, ?_, ?_, ?_⟩, ?_⟩
  · exact ((b1.other (by omega) _).other (by omega) _).other (by omega) _
  · exact ((b2.set _).other (by omega) _).other (by omega) _
  · have ho := ownsRow_setCell_below (ownsRow_setCell_below (ownsRow_setCell_below hown' (a := ⟨B + 1, 0, none⟩) (by show B + 1 < B + 4; omega) (.slice (some ⟨g, 0, none⟩) (T.length + 1) cap')) (a := ⟨B + 3, 0, none⟩) (by show B + 3 < B + 4; omega) (.int .i64 ((p + n : Nat) : Int))) (a := ⟨B + 2, 0, none⟩) (by show B + 2 < B + 4; omega) (.int .i64 ((p + n : Nat) : Int))
    rw [List.flatMap_append, List.flatMap_singleton, tokAt_row, List.length_append]
    exact ho
  · exact ((b3.other (by omega) _).other (by omega) _).set _
  · exact ((b4.other (by omega) _).set _).other (by omega) _
  · have := hbel.size
    simp
    omega
  · exact ((hbel.setCell (p := ⟨B + 1, 0, none⟩) (by show B ≤ B + 1; omega) _).setCell (p := ⟨B + 3, 0, none⟩) (by show B ≤ B + 3; omega) _).setCell (p := ⟨B + 2, 0, none⟩) (by show B ≤ B + 2; omega) _
end Go.Proofs.YtfjmhnnjgjcmeaaGreatDoor.X
/-
  For the laws of lex: the tokens of a text. Condition: at most 1,048,576 bytes; the library's own variables are as they are laid.
-/
namespace Go.Proofs.YtfjmhnnjgjcmeaaGreatDoor.X
open Go.RowKit Go.Shelf

/-- What comes of tokens that are there already. -/
def cont (T : List Tk) (q : List Tk × Nat × Int) : List Tk × Nat × Int := if q.2.2 ≠ 0 then ([], q.2) else (T ++ q.1, 0, 0)
theorem lexR_zero (n : Nat) (l : List UInt8) : (lexR n l).2.2 = 0 → (lexR n l).2.1 = 0 := by
  rw [lexR]
  split
  · simp
  · split
    · simp
    · split
      · intro h
        rcases first_cases (l.drop (sep l).1) with h1 | h1
        · rename_i h2; omega
        · simp only at h; omega
      · split
        · rename_i h; intro h2; exact absurd h2 h
        · simp
theorem lexR_err (n : Nat) (l : List UInt8) : (lexR n l).2.2 ≠ 0 → (lexR n l).1 = [] := by
  rw [lexR]
  split
  · simp
  · split
    · simp
    · split
      · simp
      · split
        · simp
        · simp
def LexAt (l : List UInt8) (k : Nat) (T : List Tk) : Prop := k ≤ l.length ∧ T.length ≤ k ∧ lexR 0 l = cont T (lexR k (l.drop k))
theorem LexAt.start (l : List UInt8) : LexAt l 0 [] := by
  refine ⟨Nat.zero_le _, Nat.le_refl _, ?_⟩
  unfold cont
  rw [List.drop_zero, List.nil_append]
  have h1 := lexR_zero 0 l
  have h2 := lexR_err 0 l
  generalize lexR 0 l = q at *
  obtain ⟨T, p, e⟩ := q
  by_cases h : e = 0
  · subst h
    have := h1 rfl
    simp only at this
    subst this
    simp
  · have := h2 h
    simp only at this
    subst this
    rw [if_pos h]
theorem LexAt.sep_err {l : List UInt8} {k : Nat} {T : List Tk} (h : LexAt l k T) (hs : (sep (l.drop k)).2 = false) : lexR 0 l = ([], k + (sep (l.drop k)).1, 32) := by
  rw [h.2.2, lexR, if_pos hs]
  rfl
theorem LexAt.first_err {l : List UInt8} {k : Nat} {T : List Tk} (h : LexAt l k T) (hs : (sep (l.drop k)).2 = true) (hne : (l.drop k).drop (sep (l.drop k)).1 ≠ []) (hf : (first ((l.drop k).drop (sep (l.drop k)).1)).2.2 ≠ 0) :
    lexR 0 l = ([], k + (sep (l.drop k)).1, (first ((l.drop k).drop (sep (l.drop k)).1)).2.2) := by
  rcases first_cases ((l.drop k).drop (sep (l.drop k)).1) with h1 | h1
  · exact absurd h1.2.1 hf
  · rw [h.2.2, lexR, if_neg (by rw [hs]; simp), if_neg hne, if_pos h1.1]
    unfold cont
    rw [if_pos hf]
theorem LexAt.last {s : ByteArray} {k : Nat} {T : List Tk} (h : LexAt (tl s) k T) (hs : (sep ((tl s).drop k)).2 = true) (hnil : ((tl s).drop k).drop (sep ((tl s).drop k)).1 = []) :
    lexR 0 (tl s) = (T ++ [tokAt s 5 k (k + (sep ((tl s).drop k)).1) 0], 0, 0) := by
  rw [h.2.2, lexR, if_neg (by rw [hs]; simp), if_pos hnil]
  unfold cont tokAt
  simp
theorem LexAt.next {s : ByteArray} {k : Nat} {T : List Tk} (h : LexAt (tl s) k T) (hs : (sep ((tl s).drop k)).2 = true) (hne : ((tl s).drop k).drop (sep ((tl s).drop k)).1 ≠ []) (hf : (first (((tl s).drop k).drop (sep ((tl s).drop k)).1)).2.2 = 0) :
    LexAt (tl s) (k + (sep ((tl s).drop k)).1 + (first (((tl s).drop k).drop (sep ((tl s).drop k)).1)).2.1) (T ++ [tokAt s (first (((tl s).drop k).drop (sep ((tl s).drop k)).1)).1 k (k + (sep ((tl s).drop k)).1) (first (((tl s).drop k).drop (sep ((tl s).drop k)).1)).2.1]) := by
  have hsl := sep_le ((tl s).drop k)
  rcases first_cases (((tl s).drop k).drop (sep ((tl s).drop k)).1) with h1 | h1
  · obtain ⟨p1, p2, p3, -, -⟩ := h1
    rw [List.length_drop, List.length_drop] at p3
    rw [List.length_drop] at hsl
    obtain ⟨hk, hT, hx⟩ := h
    refine ⟨by omega, by rw [List.length_append, List.length_singleton]; omega, ?_⟩
    rw [hx, lexR, if_neg (by rw [hs]; simp), if_neg hne, if_neg (by omega)]
    have e1 : (((tl s).drop k).drop (sep ((tl s).drop k)).1).drop (first (((tl s).drop k).drop (sep ((tl s).drop k)).1)).2.1 = (tl s).drop (k + (sep ((tl s).drop k)).1 + (first (((tl s).drop k).drop (sep ((tl s).drop k)).1)).2.1) := by rw [List.drop_drop, List.drop_drop]; congr 1; omega
    rw [e1]
    have e2 : ((tl s).drop k).drop (sep ((tl s).drop k)).1 = (tl s).drop (k + (sep ((tl s).drop k)).1) := by rw [List.drop_drop]
    generalize lexR (k + (sep ((tl s).drop k)).1 + (first (((tl s).drop k).drop (sep ((tl s).drop k)).1)).2.1) ((tl s).drop (k + (sep ((tl s).drop k)).1 + (first (((tl s).drop k).drop (sep ((tl s).drop k)).1)).2.1)) = q
    unfold cont tokAt
    by_cases hq : q.2.2 ≠ 0
    · rw [if_pos hq, if_pos hq, if_pos (by exact hq)]
    · rw [if_neg hq, if_neg (by simp), if_neg hq]
      rw [e2]
      simp
  · omega

def LexGives (w : World) (s : ByteArray) (e : Ending) (w' : World) : Prop :=
  (∃ v, e = .returned (.tuple #[v, .int .i64 ((lexR 0 (tl s)).2.1 : Nat), .int .i64 (lexR 0 (tl s)).2.2]) ∧ Toks w' v (lexR 0 (tl s)).1) ∧ Below w.heap.size w w'
theorem lexB_new (w : World) (s : ByteArray) : LexB ((((w.alloc (.cells #[.string s] 9)).alloc (.cells #[.slice none 0 0] 65)).alloc (.cells #[.int .i64 0] 3)).alloc (.cells #[.int .i64 0] 3)) w.heap.size s [] (0 : Nat) (0 : Nat) ∧
    Below w.heap.size w ((((w.alloc (.cells #[.string s] 9)).alloc (.cells #[.slice none 0 0] 65)).alloc (.cells #[.int .i64 0] 3)).alloc (.cells #[.int .i64 0] 3)) := by
  have b1 := Boxed.new w 9 (.string s)
  have b2 := Boxed.new (w.alloc (.cells #[.string s] 9)) 65 (.slice none 0 0)
  have b3 := Boxed.new ((w.alloc (.cells #[.string s] 9)).alloc (.cells #[.slice none 0 0] 65)) 3 (.int .i64 0)
  have b4 := Boxed.new (((w.alloc (.cells #[.string s] 9)).alloc (.cells #[.slice none 0 0] 65)).alloc (.cells #[.int .i64 0] 3)) 3 (.int .i64 0)
  simp only [World.size_alloc] at b2 b3 b4
  refine ⟨⟨((b1.alloc _).alloc _).alloc _, ⟨_, (b2.alloc _).alloc _, World.ownsRow_nil _ _ _ _⟩, b3.alloc _, b4, by simp⟩, ?_⟩
  exact ((((Below.refl _ w).alloc (by simp) _).alloc (by simp) _).alloc (by simp; omega) _).alloc (by simp; omega) _

theorem LexB.setAt {W : World} {B : Nat} {s : ByteArray} {T : List Tk} {a p : Int} (h : LexB W B s T a p) (q : Int) : LexB (W.setCell ⟨B + 3, 0, none⟩ (.int .i64 q)) B s T a q := by
  obtain ⟨h1, ⟨v, h2, hown⟩, h3, h4, hsz⟩ := h
  exact ⟨h1.other (by omega) _, ⟨v, h2.other (by omega) _, ownsRow_setCell_below hown (a := ⟨B + 3, 0, none⟩) (by show B + 3 < B + 4; omega) _⟩, h3.other (by omega) _, h4.set _, by simp; omega⟩
theorem boxed_below {W W' : World} {B : Nat} {t : TypeId} {v : Value} (h : Boxed W B t v) (hb : Below W.heap.size W W') : Boxed W' B t v := (hb.block _ h.lt).trans h
theorem own_below {W W' : World} {base e size n : Nat} {v : Value} {xs : List Value} (h : W.ownsRow base e size v n xs) (hb : Below W.heap.size W W') : W'.ownsRow base e size v n xs := by
  refine ⟨h.1, ?_⟩
  rcases h.2 with h0 | ⟨g, cap, cur, e1, h1, hg, h2, h3, h4, h5⟩
  · exact .inl h0
  · exact .inr ⟨g, cap, cur, e1, h1, (hb.block _ (Array.getElem?_eq_some_iff.1 hg).1).trans hg, h2, h3, h4, h5⟩
theorem LexB.below {W W' : World} {B : Nat} {s : ByteArray} {T : List Tk} {a p : Int} (h : LexB W B s T a p) (hb : Below W.heap.size W W') : LexB W' B s T a p := by
  obtain ⟨h1, ⟨v, h2, hown⟩, h3, h4, hsz⟩ := h
  exact ⟨boxed_below h1 hb, ⟨v, boxed_below h2 hb, own_below hown hb⟩, boxed_below h3 hb, boxed_below h4 hb, Nat.le_trans hsz hb.size⟩
theorem ext_tl (s : ByteArray) (k : Nat) : tl (s.extract k s.size) = (tl s).drop k := Lib.extract_to_end s k

set_option maxRecDepth 100000 in
set_option maxHeartbeats 16000000 in
theorem Lex_any (s : ByteArray) (w : World) (hW : LexW w) (hs : s.size ≤ 1048576) : Calls Tryz.prog 66 #[.string s] w (LexGives w s) := by
  have HW := Lib.hid hW; clear hW
  have hd : decide ((1048576 : Int) < (s.size : Int)) = false := by simp; omega
  obtain ⟨hB0, hbel⟩ := lexB_new w s
  have HB0 := Lib.hid hB0; clear hB0
  have Hbel := Lib.hid hbel; clear hbel
  go_enter Tryz.func66, Tryz.ntmps66
  go_wp2_with fail
  go_loopw [9] (fun _ wr => ∃ (k : Nat) (T : List Tk), Hid (LexB wr w.heap.size s T k k) ∧ k ≤ s.size ∧ Hid (LexAt (tl s) k T) ∧ Below w.heap.size w wr) (fun _ wr => s.size - (intOf ((wr.cell? ⟨w.heap.size + 3, 0, none⟩).getD undef)).toNat)
  case atStart => exact ⟨0, [], HB0, Nat.zero_le _, Lib.hid (LexAt.start _), Hbel.out⟩
  case round =>
    obtain ⟨k, T, hL, hk, hat, hB⟩ := hrel
    have hW4 := HW.out.size
    have c1 := hL.out.text.cell
    have c4 := hL.out.at_.cell
    have f4 := hL.out.at_.frozen
    have hcut : Hid (tl (s.extract k s.size) = (tl s).drop k) := Lib.hid (ext_tl s k)
    have hWr : Hid (LexW wr) := Lib.hid (HW.out.below hB hW4)
    have hsl := sep_le ((tl s).drop k)
    rw [List.length_drop, tl_length] at hsl
    obtain ⟨p, hp⟩ : ∃ p, Hid ((sep ((tl s).drop k)).1 = p) := ⟨_, Lib.hid rfl⟩
    rw [hp.out] at hsl
    have hkp : (k : Int) + p ≤ 1048576 := by omega
    have hszb : (s.extract k s.size).size ≤ 2000000000 := by rw [ByteArray.size_extract]; omega
    have Hszb := Lib.hid hszb; clear hszb
    obtain ⟨b, hb⟩ : ∃ b, Hid ((sep ((tl s).drop k)).2 = b) := ⟨_, Lib.hid rfl⟩
    go_wp2_with fail
    refine (separators_any _ _ hWr.out Hszb.out).mono ?_
    unfold SepGives
    rw [hcut.out, hp.out, hb.out]
    rintro e w' ⟨rfl, rfl⟩
    have hL2 : Hid (LexB (wr.setCell ⟨w.heap.size + 3, 0, none⟩ (.int .i64 (k + p : Nat))) w.heap.size s T k (k + p : Nat)) := Lib.hid (hL.out.setAt _)
    have hB2 : Hid (Below w.heap.size w (wr.setCell ⟨w.heap.size + 3, 0, none⟩ (.int .i64 (k + p : Nat)))) := Lib.hid (hB.setCell (p := ⟨w.heap.size + 3, 0, none⟩) (by show w.heap.size ≤ w.heap.size + 3; omega) _)
    have hsum : ((k : Int) + (p : Int)) = ((k + p : Nat) : Int) := by omega
    have Hsum := Lib.hid hsum; clear hsum
    cases b with
    | false =>
      have hfin : Hid (lexR 0 (tl s) = ([], k + p, 32)) := Lib.hid (by have := hat.out.sep_err hb.out; rwa [hp.out] at this)
      go_wp2_with fail
      go_quiet (fail)
      go_wp2_with fail
      go_ret3
      refine ⟨⟨.slice none 0 0, ?_, ?_⟩, ?_⟩
      · rw [hfin.out]
        show Ending.returned (.tuple #[.slice none 0 0, .int .i64 ((k : Int) + p), .int .i64 32]) = _
        rw [Hsum.out]
      · rw [hfin.out]; exact toks_nil _
      · have h3 := hB2.out
        rw [← Hsum.out] at h3
        exact below_draws h3 nq
    | true =>
      have hdk := List.drop_drop (i := p) (j := k) (l := tl s)
      by_cases hend : k + p = s.size
      · have hnil : ((tl s).drop k).drop p = [] := by rw [hdk]; exact List.drop_of_length_le (by rw [tl_length]; omega)
        have hfin : Hid (lexR 0 (tl s) = (T ++ [tokAt s 5 k (k + p) 0], 0, 0)) := Lib.hid (by have := hat.out.last hb.out (by rw [hp.out]; exact hnil); rwa [hp.out] at this)
        have hd2 : ((k : Int) + (p : Int) == (s.size : Int)) = true := by rw [beq_iff_eq]; omega
        have hTl := hat.out.2.1
        clear hnil hdk
        have Hend := Lib.hid hend; clear hend
        go_wp2_with fail
        simp only [Hsum.out]
        refine (add_any _ w.heap.size s T 5 k (k + p) 0 hL2.out (by omega) (by omega) (by omega) (by omega)).mono ?_
        rintro e w3 ⟨⟨r, rfl⟩, hL3, hb3⟩
        have hB3 : Hid (Below w.heap.size w w3) := Lib.hid (hB2.out.trans hb3)
        obtain ⟨-, ⟨v, h2, hown⟩, -, -, -⟩ := hL3
        have c2 := h2.cell
        have htk := own_toks hown
        have Htk := Lib.hid htk; clear htk hown hb3
        go_wp2_with fail
        go_ret3
        refine ⟨⟨v, ?_, ?_⟩, hB3.out⟩
        · rw [hfin.out]; rfl
        · rw [hfin.out]; exact Htk.out
      · have hne : (tl s).drop (k + p) ≠ [] := by
          intro e
          have := congrArg List.length e
          rw [List.length_drop, tl_length, List.length_nil] at this
          omega
        have hd2 : ((k : Int) + (p : Int) == (s.size : Int)) = false := by rw [beq_eq_false_iff_ne]; omega
        have hTl := hat.out.2.1
        have hcut2 : Hid (tl (s.extract (k + p) s.size) = (tl s).drop (k + p)) := Lib.hid (ext_tl s (k + p))
        have hex0 : 0 < (s.extract (k + p) s.size).size := by rw [ByteArray.size_extract]; omega
        have hex1 : (s.extract (k + p) s.size).size ≤ 2000000000 := by rw [ByteArray.size_extract]; omega
        have Hex0 := Lib.hid hex0; clear hex0
        have Hex1 := Lib.hid hex1; clear hex1
        have hW2 : Hid (LexW (wr.setCell ⟨w.heap.size + 3, 0, none⟩ (.int .i64 (k + p : Nat)))) := Lib.hid (HW.out.below hB2.out hW4)
        have hq1 : (0 : Int) ≤ (k : Int) + p := by omega
        have hq2 : (k : Int) + p ≤ (s.size : Int) := by omega
        have hne2 : ((tl s).drop k).drop (sep ((tl s).drop k)).1 ≠ [] := by rw [hp.out, hdk]; exact hne
        have Hne2 := Lib.hid hne2
        have Hdk := Lib.hid hdk
        have hfc := first_cases ((tl s).drop (k + p))
        obtain ⟨F, hF⟩ : ∃ F, Hid (first ((tl s).drop (k + p)) = F) := ⟨_, Lib.hid rfl⟩
        obtain ⟨kind, n, err⟩ := F
        rw [hF.out] at hfc
        rw [List.length_drop, tl_length] at hfc
        dsimp only at hfc
        clear hne hne2 hdk
        go_wp2_with fail
        simp only [Hsum.out]
        refine (first_any (s.extract (k + p) s.size) _ hW2.out Hex0.out Hex1.out).mono ?_
        unfold FirstGives
        rw [hcut2.out, hF.out]
        rintro e w3 ⟨rfl, hb3⟩
        have hL3 : Hid (LexB w3 w.heap.size s T k (k + p : Nat)) := Lib.hid (hL2.out.below hb3)
        have hB3 : Hid (Below w.heap.size w w3) := Lib.hid (hB2.out.trans (hb3.mono hB2.out.size))
        have g4 := hL3.out.at_.cell
        clear hb3 c1 c4 f4
        rcases hfc with ⟨n0, rfl, n1, n2, n3⟩ | ⟨rfl, he, rfl⟩
        · have hnx : Hid (LexAt (tl s) (k + p + n) (T ++ [tokAt s kind k (k + p) n])) := Lib.hid (by
            have := hat.out.next hb.out Hne2.out (by rw [hp.out, Hdk.out, hF.out])
            rw [hp.out, Hdk.out, hF.out] at this
            exact this)
          go_wp2_with fail
          refine (add_any _ w.heap.size s T kind k (k + p) n hL3.out (by omega) (by omega) (by omega) (by omega)).mono ?_
          rintro e w4 ⟨⟨r, rfl⟩, hL4, hb4⟩
          have hB4 := hB3.out.trans hb4
          have g5 := hL4.at_.cell
          have HL4 := Lib.hid hL4
          clear hb4 g4 hL4
          go_wp2_with fail
          refine ⟨⟨k + p + n, _, HL4, by omega, hnx, hB4⟩, ?_⟩
          rw [hL.out.at_.cell, g5]
          simp [intOf]
          omega
        · have hfin : Hid (lexR 0 (tl s) = ([], k + p, err)) := Lib.hid (by
            have := hat.out.first_err hb.out Hne2.out (by rw [hp.out, Hdk.out, hF.out]; dsimp only; omega)
            rwa [hp.out, Hdk.out, hF.out] at this)
          have hed : (err != 0) = true := by rw [bne_iff_ne]; omega
          go_wp2_with fail
          go_quiet (fail)
          go_wp2_with fail
          go_ret3
          refine ⟨⟨.slice none 0 0, ?_, ?_⟩, below_draws hB3.out nq⟩
          · rw [hfin.out]; rfl
          · rw [hfin.out]; exact toks_nil _
end Go.Proofs.YtfjmhnnjgjcmeaaGreatDoor.X
