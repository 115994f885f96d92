/-
  For the laws of weave: texts put one behind the other. Condition: at most 2^47 bytes together.
-/
import Derived.Test.YtfjmhnnjgjcmeaaDoorWd
import Derived.Test.YtfjmhnnjgjcmeaaDoorPt
namespace Go.Proofs.YtfjmhnnjgjcmeaaDoor
open Go.RowKit Go.Shelf
set_option linter.unusedSimpArgs false
set_option linter.unusedVariables false

def joinT (xs : TL) : By := (xs.map tl).flatten
theorem join_flat (xs : TL) : Lib.join (xs.map (·.data.toList)) [] = joinT xs := by
  cases xs with
  | nil => rfl
  | cons x r =>
    rw [List.map_cons, Lib.join_cons]
    unfold Lib.joinTail joinT
    rw [List.map_cons, List.flatten_cons]
    congr 1
    rw [List.map_map]
    rfl
set_option maxHeartbeats 1000000 in
theorem Join24_any (v : Value) (xs : TL) (n1 m : Nat) (w : World) (h : SetV n1 m w v xs) (hlen : (joinT xs).length ≤ 140737488355328) (hN : xs.length ≤ 140737488355328) :
    Calls Tryd.prog 24 #[v] w fun e w' => e = .returned (.string (bs (joinT xs))) ∧ Below w.heap.size w w' := by
  obtain ⟨a, cap, rfl, hc, hm, h | ⟨b, off, rfl, hlt, -, hx⟩⟩ := h
  · subst h
    go_enter Tryd.func24, Tryd.ntmps24
    go_wp2_with (go_at_call 29; refine (Tryd.strings_Join_none _ _ _ _).mono ?_; rintro e w' ⟨rfl, rfl⟩)
    go_ret
    exact ⟨rfl, Below.refl _ _⟩
  · go_enter Tryd.func24, Tryd.ntmps24
    go_wp2_with (go_at_call 29; refine (Tryd.strings_Join b off cap xs _ _ hx hlt hN hc (by rw [show (ByteArray.mk #[]).data.toList = [] from rfl, join_flat]; exact hlen)).mono ?_; rintro e w' ⟨rfl, hb⟩)
    go_ret
    refine ⟨?_, hb⟩
    show Ending.returned (.string ⟨(Lib.join (xs.map (·.data.toList)) []).toArray⟩) = _
    rw [join_flat]
end Go.Proofs.YtfjmhnnjgjcmeaaDoor
