/-
  For the laws of hunk: the hunks that a match leaves, as plain lists. No condition.
-/
import Derived.Test.YthligkdncddmpaaHx
namespace Go.Proofs.Ythligkdncddmpaa
open Go.RowKit

/-- One hunk, if anything lies between. -/
def gap (a b i k : Int) : List Hk := if a < i ∨ b < k then [⟨a, i - a, b, k - b⟩] else []
/-- The hunks ahead of each of some places, and where it goes on. -/
def upSt (s : List Hk × Int × Int) (p : Int × Int) : List Hk × Int × Int := (s.1 ++ gap s.2.1 s.2.2 p.1 p.2, p.1 + 1, p.2 + 1)
def upAll (ps : List (Int × Int)) : List Hk × Int × Int := ps.foldl upSt ([], 0, 0)
theorem upAll_snoc (ps : List (Int × Int)) (p : Int × Int) : upAll (ps ++ [p]) = upSt (upAll ps) p := by simp [upAll]
/-- The places of a match from i on. -/
def preP : Nat → List Int → List (Int × Int)
  | _, [] => []
  | i, x :: M => if 0 ≤ x then ((i : Int), x) :: preP (i + 1) M else preP (i + 1) M
def pairs (M : List Int) (n : Int) : List (Int × Int) := preP 0 M ++ [((M.length : Int), n)]
theorem preP_snoc (M : List Int) (x : Int) (i : Nat) : preP i (M ++ [x]) = preP i M ++ if 0 ≤ x then [(((i + M.length : Nat) : Int), x)] else [] := by
  induction M generalizing i with
  | nil => simp [preP]
  | cons y M ih =>
    simp only [List.cons_append, preP, ih]
    have e : i + 1 + M.length = i + (y :: M).length := by simp; omega
    rw [e]
    split <;> simp
theorem preP_len (M : List Int) (i : Nat) : (preP i M).length ≤ M.length := by
  induction M generalizing i with
  | nil => simp [preP]
  | cons y M ih => have := ih (i + 1); unfold preP; split <;> simp <;> omega
theorem preP_take {M : List Int} {k : Nat} {x : Int} (h : M[k]? = some x) : preP 0 (M.take (k + 1)) = preP 0 (M.take k) ++ if 0 ≤ x then [((k : Int), x)] else [] := by
  rw [take_more h, preP_snoc]
  have hk : k < M.length := (List.getElem?_eq_some_iff.1 h).1
  rw [List.length_take, Nat.min_eq_left (by omega), Nat.zero_add]
/-- The hunks from the places a and b on. -/
def from_ : Int → Int → List (Int × Int) → List Hk
  | _, _, [] => []
  | a, b, (i, k) :: ps => gap a b i k ++ from_ (i + 1) (k + 1) ps
theorem upAll_from (ps : List (Int × Int)) : ∀ s : List Hk × Int × Int, (ps.foldl upSt s).1 = s.1 ++ from_ s.2.1 s.2.2 ps := by
  induction ps with
  | nil => intro s; simp [from_]
  | cons p ps ih => intro s; obtain ⟨i, k⟩ := p; rw [List.foldl_cons, ih]; simp [upSt, from_]
/-- The hunks that a match leaves. -/
def ofL (M : List Int) (n : Int) : List Hk := (upAll (pairs M n)).1
theorem ofL_from (M : List Int) (n : Int) : ofL M n = from_ 0 0 (pairs M n) := by
  unfold ofL upAll; rw [upAll_from]; simp
theorem upAll_len (ps : List (Int × Int)) : (upAll ps).1.length ≤ ps.length := by
  have : ∀ (ps : List (Int × Int)) (s : List Hk × Int × Int), (ps.foldl upSt s).1.length ≤ s.1.length + ps.length := by
    intro ps
    induction ps with
    | nil => intro s; simp
    | cons p ps ih =>
      intro s
      rw [List.foldl_cons]
      have h1 := ih (upSt s p)
      have h2 : (upSt s p).1.length ≤ s.1.length + 1 := by
        unfold upSt gap
        rw [List.length_append]
        split <;> simp
      rw [List.length_cons]
      omega
  have h := this ps ([], 0, 0)
  unfold upAll
  rw [List.length_nil] at h
  omega
theorem isMatch_nonneg {n : Int} : ∀ {M : List Int} {q : Int}, isMatch n q M → 0 ≤ n
  | [], _, h => h
  | _ :: _, _, h => isMatch_nonneg h.2.2.2
/-- Where the next place is that is told. -/
def nxt (n : Int) : Nat → List Int → Nat × Int
  | i, [] => (i, n)
  | i, x :: M => if 0 ≤ x then (i, x) else nxt n (i + 1) M
theorem nxt_le (n : Int) (M : List Int) (i : Nat) : i ≤ (nxt n i M).1 ∧ (nxt n i M).1 ≤ i + M.length := by
  induction M generalizing i with
  | nil => simp [nxt]
  | cons x M ih => have := ih (i + 1); unfold nxt; split <;> simp <;> omega
/-- The pairs of what is left. -/
def restP (n : Int) (i : Nat) (M : List Int) : List (Int × Int) := preP i M ++ [(((i + M.length : Nat) : Int), n)]
theorem restP_hit (n : Int) (i : Nat) (x : Int) (M : List Int) (hx : 0 ≤ x) : restP n i (x :: M) = ((i : Int), x) :: restP n (i + 1) M := by
  unfold restP
  rw [preP, if_pos hx, show i + (x :: M).length = i + 1 + M.length from by simp; omega]
  rfl
theorem restP_miss (n : Int) (i : Nat) (x : Int) (M : List Int) (hx : x < 0) : restP n i (x :: M) = restP n (i + 1) M := by
  unfold restP
  rw [preP, if_neg (by omega), show i + (x :: M).length = i + 1 + M.length from by simp; omega]
theorem restP_zero (n : Int) (M : List Int) : restP n 0 M = pairs M n := by simp [restP, pairs]
theorem from_same {a b : Int} (ps : List (Int × Int)) : from_ a b ((a, b) :: ps) = from_ (a + 1) (b + 1) ps := by simp [from_, gap]
theorem from_gap {a b i k : Int} (ps : List (Int × Int)) (h : a < i ∨ b < k) : from_ a b ((i, k) :: ps) = ⟨a, i - a, b, k - b⟩ :: from_ i k ((i, k) :: ps) := by simp [from_, gap, h]
end Go.Proofs.Ythligkdncddmpaa
