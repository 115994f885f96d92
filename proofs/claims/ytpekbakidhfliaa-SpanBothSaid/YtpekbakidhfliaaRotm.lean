/-
  For the laws of span: two stretches that lie side by side exchanged, place by place; functions of places alone, no program.
-/
import Derived.Test.YtpekbakidhfliaaSwap
import Derived.Sort.Lot0
namespace Go.Proofs.Ytpekbakidhfliaa
open Go.Sort

/-- The stretches of n places from a and from b on exchanged. -/
def sw (D : Nat → Nat) (a b n : Nat) (x : Nat) : Nat := if a ≤ x ∧ x < a + n then D (x - a + b) else if b ≤ x ∧ x < b + n then D (x - b + a) else D x
/-- The stretch from p to m, and that from m to r, the other way about. -/
def rot (D : Nat → Nat) (p m r : Nat) (x : Nat) : Nat := if p ≤ x ∧ x < p + (r - m) then D (x - p + m) else if p + (r - m) ≤ x ∧ x < r then D (x - (r - m)) else D x
theorem swpR_get (d : Array Nat) (a b n : Nat) (hab : a + n ≤ b) (hb : b + n ≤ d.size) (x : Nat) : (swpR d a b n)[x]! = sw (fun x => d[x]!) a b n x := by
  induction n generalizing x with
  | zero =>
    unfold sw swpR
    rw [if_neg (by omega), if_neg (by omega)]
  | succ n ih =>
    have h1 : a + n < (swpR d a b n).size := by rw [swpR_size]; omega
    have h2 : b + n < (swpR d a b n).size := by rw [swpR_size]; omega
    rw [swpR, swp_get _ h1 h2, ih (by omega) (by omega), ih (by omega) (by omega), ih (by omega) (by omega)]
    unfold sw
    repeat' split
    all_goals first | rfl | (exfalso; omega) | (congr 1; omega)
theorem swpR_perm (d : Array Nat) (a b n lo hi : Nat) (hab : a + n ≤ b) (h1 : lo ≤ a) (h2 : b + n ≤ hi) (h3 : hi ≤ d.size) : PermIn lo hi d (swpR d a b n) := by
  induction n with
  | zero => exact permIn_refl d lo hi
  | succ n ih =>
    exact permIn_trans _ _ _ lo hi (ih (by omega) (by omega)) (swp_permIn _ lo hi (a + n) (b + n) (by omega) (by omega) (by omega) (by omega) (by rw [swpR_size]; exact h3))
theorem rot_left (D : Nat → Nat) (m i j x : Nat) (him : i ≤ m) (hji : j < i) : rot (sw D (m - i) m j) (m - (i - j)) m (m + j) x = rot D (m - i) m (m + j) x := by
  unfold rot sw
  repeat' split
  all_goals first | rfl | (exfalso; omega) | (congr 1; omega)
theorem rot_right (D : Nat → Nat) (m i j x : Nat) (him : i ≤ m) (hij : i < j) : rot (sw D (m - i) (m + j - i) i) (m - i) m (m + (j - i)) x = rot D (m - i) m (m + j) x := by
  unfold rot sw
  repeat' split
  all_goals first | rfl | (exfalso; omega) | (congr 1; omega)
theorem rot_last (D : Nat → Nat) (m i x : Nat) (him : i ≤ m) : sw D (m - i) m i x = rot D (m - i) m (m + i) x := by
  unfold rot sw
  repeat' split
  all_goals first | rfl | (exfalso; omega) | (congr 1; omega)
theorem rot_none (D : Nat → Nat) (a m x : Nat) : rot D a m m x = D x := by
  unfold rot
  rw [if_neg (by omega)]
  split
  · congr 1; omega
  · rfl
theorem rot_none2 (D : Nat → Nat) (m b x : Nat) : rot D m m b x = D x := by
  unfold rot
  split
  · congr 1; omega
  · rw [if_neg (by omega)]
theorem rot_up (D : Nat → Nat) (a m k x : Nat) (hm : m = a + 1) (h : a ≤ k) : (if x = k + 1 then rot D a m (k + 1) k else if x = k then rot D a m (k + 1) (k + 1) else rot D a m (k + 1) x) = rot D a m (k + 2) x := by
  unfold rot
  repeat' split
  all_goals first | rfl | (exfalso; omega) | (congr 1; omega)
theorem rot_down (D : Nat → Nat) (k m b x : Nat) (hb : b = m + 1) (h : 0 < k) (hk : k ≤ m) : (if x = k - 1 then rot D k m b k else if x = k then rot D k m b (k - 1) else rot D k m b x) = rot D (k - 1) m b x := by
  unfold rot
  repeat' split
  all_goals first | rfl | (exfalso; omega) | (congr 1; omega)
end Go.Proofs.Ytpekbakidhfliaa
