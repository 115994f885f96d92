/-
  For the laws on the parser: expressions. Condition: the tokens are a text's.
-/
import Derived.Test.YtbnbmjdjkadgoaaDoorXRi
namespace Go.Proofs.YtbnbmjdjkadgoaaDoor.X
open Go.RowKit Go.Shelf
set_option linter.unusedSimpArgs false
set_option linter.unusedVariables false

/-- The rules of expressions do what the document says. -/
theorem ex_spec (v : Value) (T : List Tk) (hT : GoodT T) (f : Nat) : ExSpec v T f := by
  induction f using Nat.strongRecOn with
  | ind f ih =>
  cases f with
  | zero =>
    refine ⟨fun a d r w hr => ?_, fun a d r w hr => ?_, fun a d l r w hr => ?_⟩
    · unfold primF at hr; cases hr
    · unfold unaryF at hr; cases hr
    · unfold levelF at hr; cases hr
  | succ f =>
    have ih' : ∀ f', f' ≤ f → ExSpec v T f' := fun f' h => ih f' (by omega)
    refine ⟨fun a d r w hr ha hd h => primary_any v T hT f ih' a d r w hr ha hd h, fun a d r w hr ha hd h => unary_any v T hT f ih' a d r w hr ha hd h, fun a d l r w hr h1 h7 ha hd h => ?_⟩
    rcases Nat.lt_or_ge 6 l with h6 | h6
    · exact level_last v T hT f (ih' f (Nat.le_refl _)) a d l r w hr h6 h7 ha hd h
    · exact level_more v T hT f ih' a d l r w hr h1 h6 ha hd h
theorem expr_all (v : Value) (T : List Tk) (hT : GoodT T) (f : Nat) : ExprC v T f := expression_any v T hT f (ex_spec v T hT f)
/-- The contracts of the rules of statements, with fuel f. -/
structure StSpec (v : Value) (T : List Tk) (f : Nat) : Prop where
  st : ∀ (a d : Nat) (r : PR Nd) (w : World), stF f T a d = some r → a < T.length → d ≤ 70 → Toks w v T → Calls Tryd.prog 65 #[v, .int .i64 (a : Nat), .int .i64 (d : Nat)] w fun e w' => NodeIs r w.heap.size e w' ∧ Below w.heap.size w w'
  grd : ∀ (a d : Nat) (r : PR Nd) (w : World), grdF f T a d = some r → a + 1 < T.length → d ≤ 62 → Toks w v T → Calls Tryd.prog 73 #[v, .int .i64 (a : Nat), .int .i64 (d : Nat)] w fun e w' => NodeIs r w.heap.size e w' ∧ Below w.heap.size w w'
  blk : ∀ (a d : Nat) (r : PR Nd) (w : World), blkF f T a d = some r → a < T.length → d ≤ 62 → Toks w v T → Calls Tryd.prog 57 #[v, .int .i64 (a : Nat), .int .i64 (d : Nat)] w fun e w' => NodeIs r w.heap.size e w' ∧ Below w.heap.size w w'
end Go.Proofs.YtbnbmjdjkadgoaaDoor.X
