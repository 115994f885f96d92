/-
  For the laws of weave: the lines of a text, by its bytes; no program. No condition.
-/
import Derived.Test.YtbekbllffphfeaaDoorSA
import Derived.Test.YtbekbllffphfeaaDoorWB
import Derived.Test.YtbekbllffphfeaaDoorPA
import Derived.Deep.QuietTactic
import Derived.BigQuiet
import Derived.Test.YtbekbllffphfeaaDoorDA
import Derived.Test.YtbekbllffphfeaaDoorLA
import Derived.Deep.AppendLies
import Derived.Deep.RegionHeldLaw
import Derived.Deep.CutRange
import Derived.StillTailTactics
import Derived.RegionTactic
import Derived.ChangeAlike
namespace Go.Proofs.YtbekbllffphfeaaDoor.S
open Go.RowKit
set_option linter.unusedSimpArgs false
set_option linter.unusedVariables false

end Go.Proofs.YtbekbllffphfeaaDoor.S
/-
  For the laws of weave: rows of lines and their texts; the numbers that texts have. No condition.
-/
namespace Go.Proofs.YtbekbllffphfeaaDoor
set_option linter.unusedSimpArgs false
set_option linter.unusedVariables false
namespace L
end L

end Go.Proofs.YtbekbllffphfeaaDoor
/-
  For the laws of weave: turned about; what the parts of lines are. Condition: at most 2,000 units a row.
-/
namespace Go.Proofs.YtbekbllffphfeaaDoor
set_option linter.unusedSimpArgs false
set_option linter.unusedVariables false

end Go.Proofs.YtbekbllffphfeaaDoor
/-
  For the laws of weave: the document's own lines and joined texts. Condition: texts of at most 5,000,000 bytes.
-/
namespace Go.Proofs.YtbekbllffphfeaaDoor
open Go.RowKit Go.Shelf
set_option linter.unusedSimpArgs false
set_option linter.unusedVariables false
namespace S
end S
end Go.Proofs.YtbekbllffphfeaaDoor
/-
  For the laws of weave: the document's own parts of rows of units. Condition: at most 2,000 units of at most 2,000 bytes each.
-/
namespace Go.Proofs.YtbekbllffphfeaaDoor
open Go.RowKit Go.Shelf
set_option linter.unusedSimpArgs false
set_option linter.unusedVariables false

theorem own_form {W : World} {base e size n : Nat} {v : Value} {xs : List Value} (h : W.ownsRow base e size v n xs) : ∃ a c, v = .slice a n c := by
  rcases h.2 with ⟨rfl, h0⟩ | ⟨g, cap, cur, rfl, _⟩
  · exact ⟨none, 0, by rw [h0]⟩
  · exact ⟨_, _, rfl⟩
end Go.Proofs.YtbekbllffphfeaaDoor
/-
  For the laws of weave: the document's own units of a text. Condition: at most 1,000,000 bytes.
-/
namespace Go.Proofs.YtbekbllffphfeaaDoor
open Go.RowKit Go.Shelf
set_option linter.unusedSimpArgs false
set_option linter.unusedVariables false
end Go.Proofs.YtbekbllffphfeaaDoor
