/-
  For the laws of arith: the table of operators, and what each of them makes of two numbers. No condition.
-/
import Derived.WalkKit
import Derived.WalkSpells
import Derived.WalkLawsBesides
import Derived.Lib.Hide
import Derived.Maps.Own
import Derived.Maps.OwnSet
import Derived.Maps.OwnOps
import Derived.ProofKit
import Derived.Test.YtpaknaaainhgfaaDoorProg
namespace Go.Proofs.YtpaknaaainhgfaaDoor
open Go.RowKit Go.Maps Go.WideMaps

/-- A store into a literal of a map, at the operation. -/
theorem wpList_insert_own {H : Type} {P : Program} (w : World) {ops : Array Oper} {rest : List Oper} {o : Oper} {a : Act} {Q : Exit → Act → World → Prop}
    (hg : o.guard = none) (m x v : Operand) (t : TypeId) (hop : o.op = Op.insert t m x v)
    (k e : TypeId) (K : Keyed P k) (ht : P.underlying t = some (.map k e)) (R : Value → Option (DataW H × List MemPlace)) (b n : Nat) (D : DataW H)
    (hm : a.eval m = .map (some b)) (hown : w.ownsMap P k R b n D) (hn : n < maxLen) (key val : Value) (kl : Lit) (hx : a.eval x = key) (hv : a.eval v = val) (hkey : keyOf P k key = some kl)
    (d : DataW H) (ps : List MemPlace) (hval : R val = some (d, ps))
    (hK : ∀ w', w'.ownsMap P k R b (n + 1) (D.put kl d) → w.grownBy w' (some b) → wpList P ops Q rest (a.put o.dst undef) w') :
    wpList P ops Q (o :: rest) a w := by
  refine wpList_plain hg fun K' hK' => ?_
  obtain ⟨w', hrun, r1, r2⟩ := hown.update K ht hn hkey hval
  unfold Oper.wp
  simp [execOp, hop, hm, hx, hv, hrun, Result.andThen]
  exact hK' _ _ (hK w' r1 r2)

/-- How a function among a map's elements reads: as its number. -/
def fnR : Value → Option (DataW Unit × List MemPlace)
  | .nilFunc => some (.lit (.int .i64 (-1)), [])
  | .func (.func n) ⟨[]⟩ ⟨[]⟩ => some (.lit (.int .i64 n), [])
  | _ => some (.nil, [])

/-- The table. -/
def tabD : DataW Unit := (((((DataW.map []).put (.string [43]) (.lit (.int .i64 47))).put (.string [45]) (.lit (.int .i64 48))).put (.string [42]) (.lit (.int .i64 49))).put (.string [47]) (.lit (.int .i64 50))).put (.string [37]) (.lit (.int .i64 51))

set_option maxRecDepth 100000 in
set_option maxHeartbeats 1000000 in
theorem ops_any (w : World) : Calls Tryd.prog 40 #[] w fun e w' => ∃ b, e = .returned (.map (some b)) ∧ w'.ownsMap Tryd.prog 9 fnR b 5 tabD ∧ Below w.heap.size w w' := by
  have hmm := @run_makeMap Tryd.prog
  have K := Maps.string_keyed Tryd.underlying9
  have h0 := World.ownsMap_made w Tryd.prog 9 fnR
  have k0 : keyOf Tryd.prog 9 (.string ⟨#[43]⟩) = some (.string [43]) := keyOf_string_mk (s := ⟨#[43]⟩) Tryd.underlying9 (by unfold maxLen; decide)
  have r0 : fnR (.func (.func 47) #[] #[]) = some (.lit (.int .i64 47), []) := rfl
  have m0 : 0 < maxLen := by unfold maxLen; decide
  have k1 : keyOf Tryd.prog 9 (.string ⟨#[45]⟩) = some (.string [45]) := keyOf_string_mk (s := ⟨#[45]⟩) Tryd.underlying9 (by unfold maxLen; decide)
  have r1 : fnR (.func (.func 48) #[] #[]) = some (.lit (.int .i64 48), []) := rfl
  have m1 : 1 < maxLen := by unfold maxLen; decide
  have k2 : keyOf Tryd.prog 9 (.string ⟨#[42]⟩) = some (.string [42]) := keyOf_string_mk (s := ⟨#[42]⟩) Tryd.underlying9 (by unfold maxLen; decide)
  have r2 : fnR (.func (.func 49) #[] #[]) = some (.lit (.int .i64 49), []) := rfl
  have m2 : 2 < maxLen := by unfold maxLen; decide
  have k3 : keyOf Tryd.prog 9 (.string ⟨#[47]⟩) = some (.string [47]) := keyOf_string_mk (s := ⟨#[47]⟩) Tryd.underlying9 (by unfold maxLen; decide)
  have r3 : fnR (.func (.func 50) #[] #[]) = some (.lit (.int .i64 50), []) := rfl
  have m3 : 3 < maxLen := by unfold maxLen; decide
  have k4 : keyOf Tryd.prog 9 (.string ⟨#[37]⟩) = some (.string [37]) := keyOf_string_mk (s := ⟨#[37]⟩) Tryd.underlying9 (by unfold maxLen; decide)
  have r4 : fnR (.func (.func 51) #[] #[]) = some (.lit (.int .i64 51), []) := rfl
  have m4 : 4 < maxLen := by unfold maxLen; decide
  go_enter Tryd.func40, Tryd.ntmps40
  go_wp2_with (first | (refine wpList_insert_own _ rfl _ _ _ 74 rfl 9 _ K Tryd.underlying74 fnR w.heap.size 0 _ rfl h0 m0 _ _ (.string [43]) rfl rfl k0 (.lit (.int .i64 47)) [] r0 ?_; intro w1 h1 g1) | (refine wpList_insert_own _ rfl _ _ _ 74 rfl 9 _ K Tryd.underlying74 fnR w.heap.size 1 _ rfl h1 m1 _ _ (.string [45]) rfl rfl k1 (.lit (.int .i64 48)) [] r1 ?_; intro w2 h2 g2) | (refine wpList_insert_own _ rfl _ _ _ 74 rfl 9 _ K Tryd.underlying74 fnR w.heap.size 2 _ rfl h2 m2 _ _ (.string [42]) rfl rfl k2 (.lit (.int .i64 49)) [] r2 ?_; intro w3 h3 g3) | (refine wpList_insert_own _ rfl _ _ _ 74 rfl 9 _ K Tryd.underlying74 fnR w.heap.size 3 _ rfl h3 m3 _ _ (.string [47]) rfl rfl k3 (.lit (.int .i64 50)) [] r3 ?_; intro w4 h4 g4) | (refine wpList_insert_own _ rfl _ _ _ 74 rfl 9 _ K Tryd.underlying74 fnR w.heap.size 4 _ rfl h4 m4 _ _ (.string [37]) rfl rfl k4 (.lit (.int .i64 51)) [] r4 ?_; intro w5 h5 g5))
  go_ret
  refine ⟨_, rfl, h5, ?_⟩
  have hr : ∀ k, some w.heap.size = some k → w.heap.size ≤ k := fun k e => by cases e; exact Nat.le_refl _
  have b0 : Below w.heap.size w (w.alloc (.map #[] 0)) := (Below.refl _ w).alloc (Nat.le_refl _) _
  have b1 := b0.grown g1 b0.size hr
  have b2 := b1.grown g2 b1.size hr
  have b3 := b2.grown g3 b2.size hr
  have b4 := b3.grown g4 b3.size hr
  exact b4.grown g5 b4.size hr
end Go.Proofs.YtpaknaaainhgfaaDoor
