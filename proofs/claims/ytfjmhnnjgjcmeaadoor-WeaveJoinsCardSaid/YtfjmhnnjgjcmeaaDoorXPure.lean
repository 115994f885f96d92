/-
  For the laws of lex: which tokens a text has; facts on lists of bytes alone, no program.
-/
import Derived.Lib.IndexMore
import Derived.Lib.IndexBytes
namespace Go.Proofs.YtfjmhnnjgjcmeaaDoor.X

def dig (c : UInt8) : Bool := 48 ≤ c && c ≤ 57
def ltr (c : UInt8) : Bool := (97 ≤ c && c ≤ 122) || (65 ≤ c && c ≤ 90) || c == 95
def aln (c : UInt8) : Bool := dig c || ltr c
def nameLen : List UInt8 → Nat
  | [] => 0
  | c :: r => if ltr c = true then (r.takeWhile aln).length + 1 else 0
def numLen (l : List UInt8) : Nat := (l.takeWhile dig).length
def twoM : List (List UInt8) := [[61, 61], [33, 61], [60, 61], [62, 61], [38, 38], [124, 124]]
def oneM : List UInt8 := [43, 45, 42, 47, 37, 60, 62, 61, 33, 40, 41, 123, 125, 59, 44, 46]
def markLen : List UInt8 → Nat
  | [] => 0
  | c :: r => if (c :: r).take 2 ∈ twoM then 2 else if c ∈ oneM then 1 else 0
def blank (c : UInt8) : Bool := c == 32 || c == 9 || c == 10 || c == 13
/-- How long a line is, without its end. -/
def lineLen (l : List UInt8) : Nat := (l.takeWhile (fun c => c != 10)).length
/-- Where a note ends. -/
def closeAt : List UInt8 → Option Nat
  | [] => none
  | [_] => none
  | a :: b :: r => if a = 42 ∧ b = 47 then some 0 else (closeAt (b :: r)).map (· + 1)
/-- What stands between tokens: how long it is, and whether its notes end. -/
def sep : List UInt8 → Nat × Bool
  | [] => (0, true)
  | c :: r =>
    if blank c = true then ((sep r).1 + 1, (sep r).2)
    else if c = 47 ∧ r.head? = some 47 then ((sep (r.drop (lineLen r))).1 + (lineLen r + 1), (sep (r.drop (lineLen r))).2)
    else if c = 47 ∧ r.head? = some 42 then
      match closeAt (r.drop 1) with
      | none => (0, false)
      | some n => ((sep (r.drop (n + 3))).1 + (n + 4), (sep (r.drop (n + 3))).2)
    else (0, true)
termination_by l => l.length
decreasing_by all_goals (simp only [List.length_cons, List.length_drop]; omega)
def keptL : List (List UInt8) := [[99, 108, 97, 115, 115], [101, 120, 116, 101, 110, 100, 115], [115, 116, 97, 116, 105, 99], [118, 111, 105, 100], [105, 110, 116], [98, 111, 111, 108, 101, 97, 110], [105, 102], [101, 108, 115, 101],
  [119, 104, 105, 108, 101], [114, 101, 116, 117, 114, 110], [112, 114, 105, 110, 116], [116, 114, 117, 101], [102, 97, 108, 115, 101], [110, 117, 108, 108], [116, 104, 105, 115], [110, 101, 119]]
/-- A number's value. -/
def valOf (l : List UInt8) : Nat := l.foldl (fun n c => 10 * n + (c.toNat - 48)) 0
def badNum (l : List UInt8) : Bool := decide (2147483647 < valOf l) || (decide (1 < l.length) && l.head? == some 48)
/-- The token that begins here: its kind, its length, or an error. -/
def first (l : List UInt8) : Int × Nat × Int :=
  if 0 < nameLen l then (if 20 < nameLen l then (0, 0, 2) else if l.take (nameLen l) ∈ keptL then (3, nameLen l, 0) else (1, nameLen l, 0))
  else if 0 < numLen l then (if badNum (l.take (numLen l)) = true then (0, 0, 31) else (2, numLen l, 0))
  else if 0 < markLen l then (4, markLen l, 0)
  else (0, 0, 30)
structure Tk where
  kind : Int
  text : List UInt8
  at_ : Int
  lead : List UInt8
/-- The tokens of what is left at a place, or where there is none, and why. -/
def lexR (n : Nat) (l : List UInt8) : List Tk × Nat × Int :=
  if (sep l).2 = false then ([], n + (sep l).1, 32)
  else if l.drop (sep l).1 = [] then ([⟨5, [], ((n + (sep l).1 : Nat) : Int), l.take (sep l).1⟩], 0, 0)
  else if (first (l.drop (sep l).1)).2.1 = 0 then ([], n + (sep l).1, (first (l.drop (sep l).1)).2.2)
  else
    if (lexR (n + (sep l).1 + (first (l.drop (sep l).1)).2.1) ((l.drop (sep l).1).drop (first (l.drop (sep l).1)).2.1)).2.2 ≠ 0 then
      ([], (lexR (n + (sep l).1 + (first (l.drop (sep l).1)).2.1) ((l.drop (sep l).1).drop (first (l.drop (sep l).1)).2.1)).2)
    else (⟨(first (l.drop (sep l).1)).1, (l.drop (sep l).1).take (first (l.drop (sep l).1)).2.1, ((n + (sep l).1 : Nat) : Int), l.take (sep l).1⟩ ::
      (lexR (n + (sep l).1 + (first (l.drop (sep l).1)).2.1) ((l.drop (sep l).1).drop (first (l.drop (sep l).1)).2.1)).1, 0, 0)
termination_by l.length
decreasing_by
  all_goals
    rename_i _ h2 h3
    have : l.drop (sep l).1 ≠ [] := h2
    have h4 : 0 < (l.drop (sep l).1).length := List.length_pos_iff.2 this
    simp only [List.length_drop] at h4 ⊢
    omega

theorem nameLen_le (l : List UInt8) : nameLen l ≤ l.length := by
  cases l with
  | nil => exact Nat.le_refl _
  | cons c r =>
    have := (List.takeWhile_sublist aln (l := r)).length_le
    rw [nameLen]
    by_cases h : ltr c = true
    · rw [if_pos h]; simp; omega
    · rw [if_neg h]; simp
theorem numLen_le (l : List UInt8) : numLen l ≤ l.length := (List.takeWhile_sublist dig (l := l)).length_le
theorem markLen_le (l : List UInt8) : markLen l ≤ l.length := by
  cases l with
  | nil => exact Nat.le_refl _
  | cons c r =>
    rw [markLen]
    by_cases h : (c :: r).take 2 ∈ twoM
    · rw [if_pos h]
      have : ((c :: r).take 2).length = 2 := by
        simp only [twoM, List.mem_cons, List.not_mem_nil, or_false] at h
        rcases h with h | h | h | h | h | h <;> rw [h] <;> rfl
      rw [List.length_take] at this
      omega
    · rw [if_neg h]
      split <;> simp
theorem lineLen_le (l : List UInt8) : lineLen l ≤ l.length := (List.takeWhile_sublist _ (l := l)).length_le
theorem closeAt_le : ∀ {l : List UInt8} {n : Nat}, closeAt l = some n → n + 2 ≤ l.length
  | [], n, h => by simp [closeAt] at h
  | [_], n, h => by simp [closeAt] at h
  | a :: b :: r, n, h => by
    unfold closeAt at h
    split at h
    · obtain rfl : 0 = n := by simpa using h
      simp
    · cases hc : closeAt (b :: r) with
      | none => rw [hc] at h; simp at h
      | some m =>
        rw [hc] at h
        obtain rfl : m + 1 = n := by simpa using h
        have := closeAt_le hc
        simp at this ⊢
        omega
theorem sep_le : ∀ (l : List UInt8), (sep l).1 ≤ l.length
  | [] => by rw [sep]; exact Nat.le_refl _
  | c :: r => by
    rw [sep]
    split
    · have := sep_le r; simp; omega
    · split
      · have h1 := sep_le (r.drop (lineLen r))
        have h2 := lineLen_le r
        simp only [List.length_drop] at h1
        simp
        omega
      · split
        · split
          · simp
          · rename_i n hn
            have h1 := sep_le (r.drop (n + 3))
            have h2 := closeAt_le hn
            simp only [List.length_drop] at h1 h2
            simp
            omega
        · simp
termination_by l => l.length
decreasing_by all_goals (simp only [List.length_cons, List.length_drop]; omega)
theorem first_cases (l : List UInt8) : (0 < (first l).2.1 ∧ (first l).2.2 = 0 ∧ (first l).2.1 ≤ l.length ∧ 0 < (first l).1 ∧ (first l).1 < 5) ∨ ((first l).2.1 = 0 ∧ ((first l).2.2 = 2 ∨ (first l).2.2 = 31 ∨ (first l).2.2 = 30) ∧ (first l).1 = 0) := by
  have h1 := nameLen_le l
  have h2 := numLen_le l
  have h3 := markLen_le l
  unfold first
  split
  · split
    · right; simp
    · split
      · left; exact ⟨by assumption, rfl, h1, by simp, by simp⟩
      · left; exact ⟨by assumption, rfl, h1, by simp, by simp⟩
  · split
    · split
      · right; simp
      · left; exact ⟨by assumption, rfl, h2, by simp, by simp⟩
    · split
      · left; exact ⟨by assumption, rfl, h3, by simp, by simp⟩
      · right; simp
end Go.Proofs.YtfjmhnnjgjcmeaaDoor.X
