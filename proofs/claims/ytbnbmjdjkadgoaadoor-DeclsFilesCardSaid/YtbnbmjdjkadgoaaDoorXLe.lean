/-
  For the laws of decls: the tokens of a text that is at hand, by fuel. No program. No condition.
-/
import Derived.Test.YtbnbmjdjkadgoaaDoorXPa
namespace Go.Proofs.YtbnbmjdjkadgoaaDoor.X
set_option linter.unusedVariables false

def sepF : Nat → List UInt8 → Nat × Bool
  | 0, _ => (0, true)
  | _ + 1, [] => (0, true)
  | f + 1, c :: r =>
    if blank c = true then ((sepF f r).1 + 1, (sepF f r).2)
    else if c = 47 ∧ r.head? = some 47 then ((sepF f (r.drop (lineLen r))).1 + (lineLen r + 1), (sepF f (r.drop (lineLen r))).2)
    else if c = 47 ∧ r.head? = some 42 then
      match closeAt (r.drop 1) with
      | none => (0, false)
      | some n => ((sepF f (r.drop (n + 3))).1 + (n + 4), (sepF f (r.drop (n + 3))).2)
    else (0, true)
theorem sepF_eq : ∀ (f : Nat) (l : List UInt8), l.length ≤ f → sepF f l = sep l
  | 0, l, h => by
    obtain rfl : l = [] := List.eq_nil_of_length_eq_zero (by omega)
    rw [sep, sepF]
  | f + 1, [], _ => by rw [sep, sepF]
  | f + 1, c :: r, h => by
    rw [List.length_cons] at h
    rw [sep, sepF, sepF_eq f r (by omega), sepF_eq f (r.drop (lineLen r)) (by rw [List.length_drop]; omega)]
    split
    · rfl
    split
    · rfl
    split
    · cases hc : closeAt (r.drop 1) with
      | none => rfl
      | some n =>
        simp only
        rw [sepF_eq f (r.drop (n + 3)) (by rw [List.length_drop]; omega)]
    · rfl
def lexF : Nat → Nat → List UInt8 → List Tk × Nat × Int
  | 0, _, _ => ([], 0, 0)
  | f + 1, n, l =>
    if (sepF f l).2 = false then ([], n + (sepF f l).1, 32)
    else if l.drop (sepF f l).1 = [] then ([⟨5, [], ((n + (sepF f l).1 : Nat) : Int), l.take (sepF f l).1⟩], 0, 0)
    else if (first (l.drop (sepF f l).1)).2.1 = 0 then ([], n + (sepF f l).1, (first (l.drop (sepF f l).1)).2.2)
    else
      if (lexF f (n + (sepF f l).1 + (first (l.drop (sepF f l).1)).2.1) ((l.drop (sepF f l).1).drop (first (l.drop (sepF f l).1)).2.1)).2.2 ≠ 0 then
        ([], (lexF f (n + (sepF f l).1 + (first (l.drop (sepF f l).1)).2.1) ((l.drop (sepF f l).1).drop (first (l.drop (sepF f l).1)).2.1)).2)
      else (⟨(first (l.drop (sepF f l).1)).1, (l.drop (sepF f l).1).take (first (l.drop (sepF f l).1)).2.1, ((n + (sepF f l).1 : Nat) : Int), l.take (sepF f l).1⟩ ::
        (lexF f (n + (sepF f l).1 + (first (l.drop (sepF f l).1)).2.1) ((l.drop (sepF f l).1).drop (first (l.drop (sepF f l).1)).2.1)).1, 0, 0)
theorem lexF_eq : ∀ (f n : Nat) (l : List UInt8), l.length < f → lexF f n l = lexR n l
  | f + 1, n, l, h => by
    rw [lexR, lexF, sepF_eq f l (by omega)]
    by_cases h1 : (sep l).2 = false
    · rw [if_pos h1, if_pos h1]
    rw [if_neg h1, if_neg h1]
    by_cases h2 : l.drop (sep l).1 = []
    · rw [if_pos h2, if_pos h2]
    rw [if_neg h2, if_neg h2]
    by_cases h3 : (first (l.drop (sep l).1)).2.1 = 0
    · rw [if_pos h3, if_pos h3]
    rw [if_neg h3, if_neg h3]
    have h4 : 0 < (l.drop (sep l).1).length := List.length_pos_iff.2 h2
    rw [lexF_eq f _ _ (by rw [List.length_drop] at h4; rw [List.length_drop, List.length_drop]; omega)]
def fileE (f : Nat) (l : List UInt8) : List Nd × Int × Int :=
  if (lexF f 0 l).2.2 ≠ 0 then ([], (lexF f 0 l).2.2, (lexF f 0 l).2.1)
  else fileQ (lexF f 0 l).1 (filLF (fuelT (lexF f 0 l).1) (lexF f 0 l).1 0 [])
theorem fileE_eq {f : Nat} {l : List UInt8} (h : l.length < f) : fileE f l = fileR l := by unfold fileE fileR; rw [lexF_eq f 0 l h]
end Go.Proofs.YtbnbmjdjkadgoaaDoor.X
