/-
  What an argument holds: a text. No condition.
-/
import Derived.Test.YtbnbmjdjkadgoaaArg
namespace Go.Proofs.Ytbnbmjdjkadgoaa
open Go.ChangeShapes Go.WideShapes Go.ChangeAt Go.RowKit Go.Deep
open Go.ChangeMaps (open_string)
set_option linter.unusedVariables false

section
variable {H : Type} {enc : TypeId × Value → H} {W : World} {sp : Nat → Bool} {r : Reach} {b0 : Nat} {v : Value} {d : DataW H} {p : List MemPlace}
set_option maxRecDepth 100000 in
theorem string_of_arg (hv : Value.okWide Try.prog W r b0 9 v) (h : DataW.Trod enc Try.prog W 0 sp true 9 v d p) : ∃ x : ByteArray, v = .string x ∧ x.size ≤ maxLen := by
  obtain ⟨a, rfl, -, -, w⟩ := open_string Try.underlying9 hv h
  exact ⟨a, rfl, w⟩
end
end Go.Proofs.Ytbnbmjdjkadgoaa
