/-
  For the laws of archive: how a file is read from a text's beginning; no program. No condition.
-/
import Derived.Test.YtpnfjiglphogoadDoorShow
import Derived.Test.YtpnfjiglphogoadDoorRefpath
import Derived.Test.YtpnfjiglphogoadDoorRefs
import Derived.Lib.SplitLaws
import Derived.Lib.Split
import Derived.Lib.IndexBytes
import Derived.Lib.AtoiAll
namespace Go.Proofs.YtpnfjiglphogoadDoor
open Go.RowKit Go.Shelf
set_option linter.unusedSimpArgs false

/-- A text, parted at the first byte c. -/
def sepAt (c : UInt8) : By → Option (By × By)
  | [] => none
  | x :: l => if x = c then some ([], l) else match sepAt c l with
    | none => none
    | some (a, b) => some (x :: a, b)
theorem sepAt_none {c : UInt8} : ∀ {l : By}, c ∉ l → sepAt c l = none
  | [], _ => rfl
  | x :: l, h => by
    rw [sepAt, if_neg (fun e => h (by simp [e])), sepAt_none (fun e => h (by simp [e]))]
theorem sepAt_some {c : UInt8} : ∀ {a : By} (b : By), c ∉ a → sepAt c (a ++ c :: b) = some (a, b)
  | [], b, _ => by rw [List.nil_append, sepAt, if_pos rfl]
  | x :: a, b, h => by
    rw [List.cons_append, sepAt, if_neg (fun e => h (by simp [e])), sepAt_some b (fun e => h (by simp [e]))]
theorem sepAt_cases (c : UInt8) : ∀ l : By, (c ∉ l ∧ sepAt c l = none) ∨ ∃ a b, l = a ++ c :: b ∧ c ∉ a ∧ sepAt c l = some (a, b)
  | [] => .inl ⟨by simp, rfl⟩
  | x :: l => by
    by_cases e : x = c
    · exact .inr ⟨[], l, by simp [e], by simp, by rw [sepAt, if_pos e]⟩
    · rcases sepAt_cases c l with ⟨h1, h2⟩ | ⟨a, b, h1, h2, h3⟩
      · exact .inl ⟨by simp [h1]; exact fun h => e h.symm, by rw [sepAt, if_neg e, h2]⟩
      · exact .inr ⟨x :: a, b, by simp [h1], by simp [h2]; exact fun h => e h.symm, by rw [sepAt, if_neg e, h3]⟩
theorem index_no {c : UInt8} : ∀ {l : By}, c ∉ l → Lib.indexByte l c = -1
  | [], _ => rfl
  | x :: l, h => by
    have h1 : ¬ x = c := fun e => h (by simp [e])
    have h2 := index_no (c := c) (l := l) (fun e => h (by simp [e]))
    simp [Lib.indexByte, h1, h2]
theorem index_at {c : UInt8} : ∀ {a : By} (b : By), c ∉ a → Lib.indexByte (a ++ c :: b) c = a.length
  | [], b, _ => by simp [Lib.indexByte]
  | x :: a, b, h => by
    have h1 : ¬ x = c := fun e => h (by simp [e])
    have h2 := index_at (c := c) (a := a) b (fun e => h (by simp [e]))
    have h3 : ¬ ((a.length : Int) = -1) := by omega
    simp [Lib.indexByte, h1, h2, h3]
/-- The first line, and what follows it. -/
def lineL (s : By) : By × By := match sepAt 10 s with
  | none => ([], s)
  | some (a, b) => (a ++ [10], b)
/-- How many bytes the first line has. -/
def headN (s : By) : Nat := (lineL s).1.length
theorem index_head (s : By) : Lib.indexByte s 10 + 1 = (headN s : Nat) := by
  unfold headN lineL
  rcases sepAt_cases 10 s with ⟨h1, h2⟩ | ⟨a, b, h1, h2, h3⟩
  · rw [h2, index_no h1]; rfl
  · rw [h3]
    conv => lhs; rw [h1]
    rw [index_at b h2]; simp
theorem line_take (s : By) : lineL s = (s.take (headN s), s.drop (headN s)) := by
  unfold headN
  unfold lineL
  rcases sepAt_cases 10 s with ⟨h1, h2⟩ | ⟨a, b, h1, h2, h3⟩
  · rw [h2]; simp
  · rw [h3, h1, show a ++ 10 :: b = (a ++ [10]) ++ b by simp]
    simp only
    rw [List.take_left, List.drop_left]
theorem headN_le (s : By) : headN s ≤ s.length := by
  have := congrArg (fun p : By × By => p.1.length) (line_take s)
  simp only [List.length_take] at this
  unfold headN at this ⊢
  omega
theorem headN_at {a : By} (b : By) (h : (10 : UInt8) ∉ a) : headN (a ++ 10 :: b) = a.length + 1 := by
  unfold headN lineL
  rw [sepAt_some b h]; simp
/-- Where the first k lines end, each of which has its newline. -/
def bodyN (s : By) : Nat → Option Nat
  | 0 => some 0
  | k + 1 => match bodyN s k with
    | none => none
    | some at_ => if headN (s.drop at_) = 0 then none else some (at_ + headN (s.drop at_))
theorem bodyN_le (s : By) : ∀ k {n : Nat}, bodyN s k = some n → n ≤ s.length
  | 0, n, h => by obtain rfl := Option.some.inj h; exact Nat.zero_le _
  | k + 1, n, h => by
    rw [bodyN] at h
    cases hb : bodyN s k with
    | none => rw [hb] at h; cases h
    | some m =>
      rw [hb] at h
      simp only at h
      split at h
      · cases h
      · obtain rfl := Option.some.inj h
        have h1 := bodyN_le s k hb
        have h2 := headN_le (s.drop m)
        rw [List.length_drop] at h2
        omega
theorem bodyN_none (s : By) {k : Nat} (h : bodyN s k = none) : ∀ d, bodyN s (k + d) = none
  | 0 => h
  | d + 1 => by rw [← Nat.add_assoc, bodyN, bodyN_none s h d]
/-- Behind lines there is a newline. -/
theorem headN_last {s : By} (h : headN s ≠ 0) : (s.take (headN s)).getLast? = some 10 := by
  have e := line_take s
  have h1 : s.take (headN s) = (lineL s).1 := by rw [e]
  rw [h1]
  unfold headN at h
  unfold lineL at h ⊢
  rcases sepAt_cases 10 s with ⟨-, h2⟩ | ⟨a, b, -, -, h3⟩
  · rw [h2] at h; simp at h
  · rw [h3]; simp
theorem bodyN_last (s : By) : ∀ k {n : Nat}, bodyN s k = some n → s.take n = [] ∨ (s.take n).getLast? = some 10
  | 0, n, h => by obtain rfl := Option.some.inj h; exact .inl rfl
  | k + 1, n, h => by
    rw [bodyN] at h
    cases hb : bodyN s k with
    | none => rw [hb] at h; cases h
    | some m =>
      rw [hb] at h
      simp only at h
      split at h
      · cases h
      · rename_i hz
        obtain rfl := Option.some.inj h
        refine .inr ?_
        rw [List.take_add, List.getLast?_append, headN_last hz]
        rfl
def word4 : By := [102, 105, 108, 101]
/-- The three words of a line. -/
def three (l : By) : Option (By × By × By) := match sepAt 32 l with
  | none => none
  | some (x, t) => match sepAt 32 t with
    | none => none
    | some (y, z) => match sepAt 32 z with
      | none => some (x, y, z)
      | some _ => none
def numOf (z : By) : By := Lib.trimSuffix (Lib.trimSuffix z [33, 10]) [10]
/-- The file with which a text begins, and what follows it. -/
def nextL (s : By) : Option (Fl × By) :=
  match three (lineL s).1 with
  | none => none
  | some (x, y, z) =>
    if (x == word4) = false ∨ pathOk y = false then none else
    match Lib.atoiAll (numOf z) with
    | .ok v => match bodyN (lineL s).2 v.toNat with
      | none => none
      | some n =>
        if Lib.hasSuffix z [33, 10] = true ∧ (lineL s).2.take n = [] then none else
        let f : Fl := ⟨y, if Lib.hasSuffix z [33, 10] then ((lineL s).2.take n).dropLast else (lineL s).2.take n⟩
        if headL f = (lineL s).1 then some (f, (lineL s).2.drop n) else none
    | _ => none
end Go.Proofs.YtpnfjiglphogoadDoor
