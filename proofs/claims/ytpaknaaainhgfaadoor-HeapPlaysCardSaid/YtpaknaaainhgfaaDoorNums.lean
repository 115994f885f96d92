/-
  For the laws of arith: of decimal digits: their value, and what ParseInt makes of a number's text. No condition; no model in this text.
-/
import Derived.Lib.ParseIntB
import Derived.Lib.ItoaNum
namespace Go.Proofs.YtpaknaaainhgfaaDoor
open Go

def digF (a : Nat) (c : UInt8) : Nat := a * 10 + (c.toNat - 48)
def valA (a : Nat) (l : List UInt8) : Nat := l.foldl digF a
def val (l : List UInt8) : Nat := valA 0 l
def Dig (c : UInt8) : Prop := 48 ≤ c.toNat ∧ c.toNat ≤ 57
theorem valA_append (a : Nat) (l r : List UInt8) : valA a (l ++ r) = valA (valA a l) r := List.foldl_append
theorem valA_cons (a : Nat) (c : UInt8) (r : List UInt8) : valA a (c :: r) = valA (digF a c) r := by unfold valA; rw [List.foldl_cons]
theorem val_snoc (l : List UInt8) (c : UInt8) : val (l ++ [c]) = val l * 10 + (c.toNat - 48) := by unfold val; rw [valA_append]; rfl
theorem valA_ge (l : List UInt8) : ∀ (a : Nat), a ≤ valA a l := by
  induction l with
  | nil => intro a; exact Nat.le_refl _
  | cons c r ih =>
    intro a
    rw [valA_cons]
    have := ih (digF a c)
    have h : a ≤ digF a c := by unfold digF; omega
    omega
theorem valA_lt : ∀ (l : List UInt8) (a : Nat), (∀ c ∈ l, Dig c) → valA a l < (a + 1) * 10 ^ l.length
  | [], a, _ => by simp [valA]
  | c :: r, a, h => by
    rw [valA_cons]
    have h1 := valA_lt r (digF a c) (fun d hd => h d (List.mem_cons_of_mem _ hd))
    have hc := h c List.mem_cons_self
    have h2 : digF a c + 1 ≤ (a + 1) * 10 := by unfold digF; unfold Dig at hc; omega
    have h3 := Nat.mul_le_mul_right (10 ^ r.length) h2
    rw [List.length_cons, Nat.pow_succ, Nat.mul_comm (10 ^ r.length) 10, ← Nat.mul_assoc]
    omega
theorem val_lt (l : List UInt8) (h : ∀ c ∈ l, Dig c) : val l < 10 ^ l.length := by
  have := valA_lt l 0 h
  simpa [val] using this
theorem dig_of {k : Nat} (h : k < 10) : (UInt8.ofNat (48 + k)).toNat = 48 + k := by simp; omega
theorem dec_dig (u : Nat) : ∀ c ∈ Lib.decDigits u, Dig c := by
  induction u using Nat.strongRecOn with
  | _ u ih =>
    intro c hc
    by_cases h : u < 10
    · rw [Lib.decDigits_one h] at hc
      obtain rfl := List.mem_singleton.1 hc
      unfold Dig
      rw [dig_of h]; omega
    · rw [Lib.decDigits, dif_neg h] at hc
      rcases List.mem_append.1 hc with hc | hc
      · exact ih (u / 10) (by omega) c hc
      · obtain rfl := List.mem_singleton.1 hc
        unfold Dig
        rw [dig_of (by omega)]; omega
theorem dec_val (u : Nat) : val (Lib.decDigits u) = u := by
  induction u using Nat.strongRecOn with
  | _ u ih =>
    by_cases h : u < 10
    · rw [Lib.decDigits_one h]
      show 0 * 10 + ((UInt8.ofNat (48 + u)).toNat - 48) = u
      rw [dig_of h]; omega
    · rw [Lib.decDigits, dif_neg h, val_snoc, ih (u / 10) (by omega), dig_of (by omega)]
      omega
theorem dec_ne (u : Nat) : Lib.decDigits u ≠ [] := by
  intro h
  have := Lib.decDigits_length u
  have hp := Lib.nDigits_pos u
  rw [h] at this
  simp at this
  omega
theorem parseU (M : Nat) (hM : M < 1844674407370955162) : ∀ (l : List UInt8) (a : Nat), (∀ c ∈ l, Dig c) → valA a l ≤ M → Lib.parseUintM M a l = .ok (valA a l)
  | [], a, _, _ => rfl
  | c :: r, a, hd, hl => by
    rw [valA_cons] at hl ⊢
    have hc := hd c List.mem_cons_self
    have h1 := valA_ge r (digF a c)
    have h2 : digF a c = a * 10 + (c.toNat - 48) := rfl
    rw [Lib.parseUintM, if_pos (show 48 ≤ c.toNat ∧ c.toNat ≤ 57 from hc), if_neg (by omega), if_neg (by omega), ← h2]
    exact parseU M hM r (digF a c) (fun d h => hd d (List.mem_cons_of_mem _ h)) hl
theorem parseDec (n : Nat) (hn : n ≤ 2147483648) : Lib.parseUintB 32 (Lib.decDigits n) = .ok n := by
  unfold Lib.parseUintB
  rw [if_neg (dec_ne n), parseU _ (by decide) _ _ (dec_dig n) (by have := dec_val n; unfold val at this; rw [this]; omega)]
  have := dec_val n
  unfold val at this
  rw [this]
theorem parse_itoa (v : Int) (h1 : -2147483648 ≤ v) (h2 : v ≤ 2147483647) : Lib.parseIntB 32 (Lib.itoa v) = .ok v := by
  unfold Lib.itoa
  by_cases h : v < 0
  · rw [if_pos h]
    have hp := parseDec v.natAbs (by omega)
    simp only [Lib.parseIntB]
    rw [if_pos (Or.inr (by decide)), hp]
    simp only []
    rw [if_neg (fun hh => hh.1 (by decide)), if_neg (by omega), if_pos (by decide)]
    congr 1
    omega
  · rw [if_neg h]
    have hp := parseDec v.toNat (by omega)
    have hd := dec_dig v.toNat
    cases hl : Lib.decDigits v.toNat with
    | nil => exact absurd hl (dec_ne _)
    | cons c r =>
      rw [hl] at hp hd
      have hc := hd c List.mem_cons_self
      unfold Dig at hc
      simp only [Lib.parseIntB]
      rw [if_neg (by omega), hp]
      simp only []
      rw [if_neg (by omega), if_neg (by omega), if_neg (by omega)]
      congr 1
      omega
theorem parse_range (l : List UInt8) (v : Int) (h : Lib.parseIntB 32 l = .ok v) : -2147483648 ≤ v ∧ v ≤ 2147483647 := by
  cases l with
  | nil => cases h
  | cons c r =>
    simp only [Lib.parseIntB] at h
    cases hu : Lib.parseUintB 32 (if c.toNat = 43 ∨ c.toNat = 45 then r else c :: r)
    case ok u =>
      rw [hu] at h
      simp only [] at h
      by_cases h1 : c.toNat = 45
      · rw [if_neg (fun hh => hh.1 h1)] at h
        by_cases h2 : 2 ^ (32 - 1) < u
        · rw [if_pos ⟨h1, h2⟩] at h; cases h
        · rw [if_neg (fun hh => h2 hh.2), if_pos h1] at h
          obtain rfl := Lib.NumEnd.ok.inj h
          omega
      · by_cases h2 : 2 ^ (32 - 1) ≤ u
        · rw [if_pos ⟨h1, h2⟩] at h; cases h
        · rw [if_neg (fun hh => h2 hh.2), if_neg (fun hh => h1 hh.1), if_neg h1] at h
          obtain rfl := Lib.NumEnd.ok.inj h
          omega
    all_goals
      rw [hu] at h
      cases h
theorem itoa_len (v : Int) (h1 : -2147483648 ≤ v) (h2 : v ≤ 2147483647) : (Lib.itoa v).length ≤ 11 := by
  have hh : ∀ (k u : Nat), u < 10 ^ (k + 1) → Lib.nDigits u ≤ k + 1 := by
    intro k
    induction k with
    | zero => intro u h; rw [Lib.nDigits_small (by simpa using h)]; omega
    | succ k ih =>
      intro u h
      by_cases h1 : u < 10
      · rw [Lib.nDigits_small h1]; omega
      · rw [Lib.nDigits_big h1]
        have := ih (u / 10) (by rw [Nat.pow_succ] at h; omega)
        omega
  unfold Lib.itoa
  split
  · have := hh 9 v.natAbs (by omega)
    rw [List.length_cons, Lib.decDigits_length]; omega
  · have := hh 9 v.toNat (by omega)
    rw [Lib.decDigits_length]; omega
end Go.Proofs.YtpaknaaainhgfaaDoor
