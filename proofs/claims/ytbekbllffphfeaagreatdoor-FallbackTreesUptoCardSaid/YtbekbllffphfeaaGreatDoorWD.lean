/-
  For the laws of weave: the document's own Lines, Tokens and Text. Condition: texts of at most 600 bytes.
-/
import Derived.Test.YtbekbllffphfeaaGreatDoorWC
import Derived.Test.YtbekbllffphfeaaGreatDoorWB
import Derived.Test.YtbekbllffphfeaaGreatDoorPA
namespace Go.Proofs.YtbekbllffphfeaaGreatDoor
open Go.RowKit Go.Shelf
set_option linter.unusedSimpArgs false
set_option linter.unusedVariables false

set_option maxRecDepth 100000 in
theorem RefLines_any (o a b : ByteArray) (w : World) (h1 : o.size ≤ 2599) (h2 : a.size ≤ 2599) (h3 : b.size ≤ 2599) : Calls Tryz.prog 18 #[.string o, .string a, .string b] w (Gives2 w (linesP o a b)) := by
  have C1 := Lib.hid (fun W => S.RefSplit_any o (by omega) W)
  have C2 := Lib.hid (fun W => S.RefSplit_any a (by omega) W)
  have C3 := Lib.hid (fun W => S.RefSplit_any b (by omega) W)
  have C4 := Lib.hid (fun v1 v2 v3 W (g1 : L.Vals W v1 ((S.lns o).map .string)) (g2 : L.Vals W v2 ((S.lns a).map .string)) (g3 : L.Vals W v3 ((S.lns b).map .string)) => RefParts08_any v1 v2 v3 (S.lns o) (S.lns a) (S.lns b) W g1 g2 g3 (Nat.le_trans (S.lns_len o) (by omega)) (Nat.le_trans (S.lns_len a) (by omega)) (Nat.le_trans (S.lns_len b) (by omega)) (fun s hs => Nat.le_trans (lns_small o s hs) (by omega)) (fun s hs => Nat.le_trans (lns_small a s hs) (by omega)) (fun s hs => Nat.le_trans (lns_small b s hs) (by omega)))
  have hR : Hid (linesP o a b = wovenP (S.lns o) (S.lns a) (S.lns b)) := Lib.hid rfl
  rw [hR.out]
  obtain ⟨R, hR2⟩ : ∃ R, Hid (wovenP (S.lns o) (S.lns a) (S.lns b) = R) := ⟨_, Lib.hid rfl⟩
  rw [hR2.out] at C4 ⊢
  obtain ⟨x1, hx1⟩ : ∃ x, Hid ((S.lns o).map Value.string = x) := ⟨_, Lib.hid rfl⟩
  obtain ⟨x2, hx2⟩ : ∃ x, Hid ((S.lns a).map Value.string = x) := ⟨_, Lib.hid rfl⟩
  obtain ⟨x3, hx3⟩ : ∃ x, Hid ((S.lns b).map Value.string = x) := ⟨_, Lib.hid rfl⟩
  rw [hx1.out] at C1 C4
  rw [hx2.out] at C2 C4
  rw [hx3.out] at C3 C4
  unfold Gives2
  go_enter Tryz.func18, Tryz.ntmps18
  go_wp2_with fail
  refine (C1.out _).mono ?_
  rintro e w1 ⟨v1, rfl, g1, b1⟩
  have G1 := Lib.hid g1
  have B1 := Lib.hid b1
  obtain ⟨a1, c1, rfl, -⟩ := g1
  clear b1
  go_wp2_with fail
  refine (C2.out _).mono ?_
  rintro e w2 ⟨v2, rfl, g2, b2⟩
  have G12 := Lib.hid (G1.out.below b2)
  have G2 := Lib.hid g2
  have B2 := Lib.hid (B1.out.trans (b2.mono B1.out.size))
  obtain ⟨a2, c2, rfl, -⟩ := g2
  clear b2
  go_wp2_with fail
  refine (C3.out _).mono ?_
  rintro e w3 ⟨v3, rfl, g3, b3⟩
  have G13 := Lib.hid (G12.out.below b3)
  have G23 := Lib.hid (G2.out.below b3)
  have G3 := Lib.hid g3
  have B3 := Lib.hid (B2.out.trans (b3.mono B2.out.size))
  obtain ⟨a3, c3, rfl, -⟩ := g3
  clear b3
  go_wp2_with fail
  refine (C4.out _ _ _ _ G13.out G23.out G3.out).mono ?_
  rintro e w4 ⟨v4, rfl, g4, b4⟩
  have G4 := Lib.hid g4
  have B4 := Lib.hid (B3.out.trans (b4.mono B3.out.size))
  obtain ⟨a4, c4, rfl, -⟩ := g4
  clear b4
  go_wp2_with fail
  go_ret
  exact ⟨_, rfl, G4.out, B4.out⟩
end Go.Proofs.YtbekbllffphfeaaGreatDoor
/-
  For the laws of weave: WeaveParts returns true. Condition: the lexer's world.
-/
namespace Go.Proofs.YtbekbllffphfeaaGreatDoor
open Go.RowKit Go.Shelf
set_option linter.unusedSimpArgs false
set_option linter.unusedVariables false

end Go.Proofs.YtbekbllffphfeaaGreatDoor
