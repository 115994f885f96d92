/-
  For the laws of marker: how long marks are to be, and how parts are printed; bytes alone, no program. No condition.
-/
import Derived.RowKit
namespace Go.Proofs.YtbekbllffphfeaaDoor.K

abbrev By := List UInt8
/-- The four bytes of marks. -/
def isMark (c : UInt8) : Bool := c == 60 || c == 124 || c == 61 || c == 62
/-- How many bytes c a line begins with. -/
def lead (c : UInt8) (l : By) : Nat := (l.takeWhile (· == c)).length
theorem lead_cons (c : UInt8) (l : By) : lead c (c :: l) = lead c l + 1 := by simp [lead]
theorem lead_other {c d : UInt8} (l : By) (h : ¬ d = c) : lead c (d :: l) = 0 := by
  unfold lead
  rw [List.takeWhile_cons, if_neg (by simpa using h)]; rfl
theorem lead_le (c : UInt8) (l : By) : lead c l ≤ l.length := (List.takeWhile_prefix _).length_le
/-- How long the run of marks' bytes is that a line begins with. -/
def runL : By → Nat
  | [] => 0
  | c :: l => if isMark c then lead c (c :: l) else 0
theorem runL_le (l : By) : runL l ≤ l.length := by
  cases l with
  | nil => exact Nat.le_refl _
  | cons c l =>
    rw [runL]
    split
    · exact lead_le _ _
    · exact Nat.zero_le _
/-- The run goes on at k. -/
theorem lead_step {c : UInt8} {l : By} {k : Nat} (h : k ≤ lead c l) : k < lead c l ↔ l[k]? = some c := by
  induction l generalizing k with
  | nil => simp [lead]
  | cons d l ih =>
    by_cases e : d = c
    · subst e
      rw [lead_cons] at h ⊢
      cases k with
      | zero => simp
      | succ k => rw [List.getElem?_cons_succ, ← ih (by omega)]; omega
    · rw [lead_other l e] at h ⊢
      obtain rfl : k = 0 := by omega
      simp [e]
/-- How long marks are to be, for lines. -/
def lenL (n : Nat) (ls : List By) : Nat := ls.foldl (fun n l => max n (runL l + 1)) n
theorem lenL_cons (n : Nat) (l : By) (ls : List By) : lenL n (l :: ls) = lenL (max n (runL l + 1)) ls := rfl
theorem lenL_append (n : Nat) (a b : List By) : lenL n (a ++ b) = lenL (lenL n a) b := List.foldl_append
theorem lenL_ge (ls : List By) : ∀ n, n ≤ lenL n ls ∧ ∀ l ∈ ls, runL l < lenL n ls := by
  induction ls with
  | nil => exact fun n => ⟨Nat.le_refl _, fun l h => by cases h⟩
  | cons x ls ih =>
    intro n
    obtain ⟨h1, h2⟩ := ih (max n (runL x + 1))
    rw [lenL_cons]
    refine ⟨by omega, fun l hl => ?_⟩
    rcases List.mem_cons.1 hl with rfl | hl
    · omega
    · exact h2 l hl
/-- A mark's line. -/
def mk (c : UInt8) (n : Nat) (cut : Bool) (word : By) : By := List.replicate n c ++ (if cut then [33] else []) ++ (if word = [] then [] else 32 :: word) ++ [10]
/-- A text with a newline at its end, unless it is empty. -/
def whole (t : By) : By := if t = [] ∨ t.getLast? = some 10 then t else t ++ [10]
def cutOf (t : By) : Bool := decide (whole t ≠ t)
/-- A part: its three texts, and whether it is a clash. -/
structure Pt where
  clash : Bool
  o : By
  a : By
  b : By
deriving DecidableEq
def oursW : By := [111, 117, 114, 115]
def baseW : By := [98, 97, 115, 101]
def theirsW : By := [116, 104, 101, 105, 114, 115]
/-- A clash, printed. -/
def clashL (p : Pt) (n : Nat) (old : Bool) : By :=
  mk 60 n false oursW ++ whole p.a ++ (if old then mk 124 n (cutOf p.a) baseW ++ whole p.o ++ mk 61 n (cutOf p.o) [] else mk 61 n (cutOf p.a) []) ++ whole p.b ++ mk 62 n (cutOf p.b) theirsW
end Go.Proofs.YtbekbllffphfeaaDoor.K
