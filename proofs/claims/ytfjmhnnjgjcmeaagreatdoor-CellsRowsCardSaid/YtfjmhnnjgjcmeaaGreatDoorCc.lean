/-
  For the laws of cells: what comes of three texts, of which each may not be there: the document's. Condition: texts of at most 600 bytes.
-/
import Derived.Test.YtfjmhnnjgjcmeaaGreatDoorWD
namespace Go.Proofs.YtfjmhnnjgjcmeaaGreatDoor
open Go.RowKit Go.Shelf
set_option linter.unusedSimpArgs false
set_option linter.unusedVariables false

/-- A text that may not be there. -/
def nz (s : ByteArray) (t : Bool) : ByteArray := if t then s else ⟨#[]⟩
theorem nz_le {s : ByteArray} {t : Bool} {n : Nat} (h : s.size ≤ n) : (nz s t).size ≤ n := by
  unfold nz
  split
  · exact h
  · exact Nat.zero_le _
def threeB (y z : ByteArray) (p q r d1 d2 d3 : Bool) (T : By × Bool) : ByteArray × Bool × Int :=
  if (q == r) && d1 then (y, q, 0) else if (q == p) && d2 then (z, r, 0) else if (r == p) && d3 then (y, q, 0) else if !q || !r then (⟨#[]⟩, false, 3) else if T.2 then (bs T.1, true, 0) else (⟨#[]⟩, false, 1)
def threeP (o a b : ByteArray) (p q r : Bool) : ByteArray × Bool × Int :=
  threeB (nz a q) (nz b r) p q r (decide (nz a q = nz b r)) (decide (nz a q = nz o p)) (decide (nz b r = nz o p)) (textP (nz o p) (nz a q) (nz b r))
set_option maxRecDepth 100000 in
set_option maxHeartbeats 16000000 in
theorem RefThree_any (o a b : ByteArray) (p q r : Bool) (w : World) (h1 : o.size ≤ 600) (h2 : a.size ≤ 600) (h3 : b.size ≤ 600) : Calls Tryz.prog 30 #[.string o, .string a, .string b, .bool p, .bool q, .bool r] w fun e w' => e = .returned (.tuple #[.string (threeP o a b p q r).1, .bool (threeP o a b p q r).2.1, .int .i64 (threeP o a b p q r).2.2]) ∧ Below w.heap.size w w' := by
  have CT := Lib.hid (RefText_any (nz o p) (nz a q) (nz b r) w (nz_le h1) (nz_le h2) (nz_le h3))
  obtain ⟨R, hR⟩ : ∃ R, Hid (threeP o a b p q r = R) := ⟨_, Lib.hid rfl⟩
  have hR2 : Hid (R = threeB (nz a q) (nz b r) p q r (decide (nz a q = nz b r)) (decide (nz a q = nz o p)) (decide (nz b r = nz o p)) (textP (nz o p) (nz a q) (nz b r))) := Lib.hid hR.out.symm
  rw [hR.out]
  have e1 : ((nz a q).toList == (nz b r).toList) = decide (nz a q = nz b r) := eqB _ _
  have e2 : ((nz a q).toList == (nz o p).toList) = decide (nz a q = nz o p) := eqB _ _
  have e3 : ((nz b r).toList == (nz o p).toList) = decide (nz b r = nz o p) := eqB _ _
  obtain ⟨⟨T, tb⟩, hT⟩ : ∃ T, Hid (textP (nz o p) (nz a q) (nz b r) = T) := ⟨_, Lib.hid rfl⟩
  rw [hT.out] at CT hR2
  dsimp only at CT
  generalize decide (nz a q = nz b r) = d1 at e1 hR2
  generalize decide (nz a q = nz o p) = d2 at e2 hR2
  generalize decide (nz b r = nz o p) = d3 at e3 hR2
  clear h1 h2 h3 hR hT
  cases p <;> cases q <;> cases r <;> simp only [nz, if_true, if_false, Bool.false_eq_true, reduceIte] at e1 e2 e3 CT hR2 <;> cases d1 <;> cases d2 <;> cases d3
  all_goals
    first
    | exact absurd ((yes _).symm.trans e1) (by decide)
    | exact absurd ((yes _).symm.trans e2) (by decide)
    | exact absurd ((yes _).symm.trans e3) (by decide)
    | (go_enter Tryz.func30, Tryz.ntmps30
       go_wp2_with fail
       go_ret3
       exact ⟨by rw [hR2.out]; rfl, Below.refl _ _⟩)
    | (cases tb <;>
       (go_enter Tryz.func30, Tryz.ntmps30
        go_wp2_with fail
        refine CT.out.mono ?_
        rintro e w2 ⟨rfl, b2⟩
        have B2 := Lib.hid b2
        clear b2
        go_wp2_with fail
        go_ret3
        exact ⟨by rw [hR2.out]; rfl, B2.out⟩))
end Go.Proofs.YtfjmhnnjgjcmeaaGreatDoor
