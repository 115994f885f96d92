/-
  For the laws of cells: what comes of three texts, of which each may not be there, by the program. Condition: texts of at most 600 bytes.
-/
import Derived.Test.YtfjmhnnjgjcmeaaGreatDoorCe
import Derived.BigQuiet
import Derived.Handy
namespace Go.Proofs.YtfjmhnnjgjcmeaaGreatDoor
open Go.RowKit Go.Shelf
set_option linter.unusedSimpArgs false
set_option linter.unusedVariables false

set_option maxRecDepth 100000 in
set_option maxHeartbeats 2000000 in
theorem side1_any (B : Nat) (s : ByteArray) (t : Bool) (w : World) (h1 : w.cell? ⟨B, 1, none⟩ = some (.string s)) (h2 : w.cell? ⟨B, 4, none⟩ = some (.bool t)) : Calls Tryz.prog 53 #[.int .i64 1, .pointer (some ⟨B, 0, none⟩)] w fun e w' => e = .returned (.tuple #[.string s, .bool t, .int .i64 0]) ∧ Below w.heap.size w w' := by
  go_enter Tryz.func53, Tryz.ntmps53
  go_wp2_with fail
  go_quiet (fail)
  go_wp2_with fail
  go_ret3
  exact ⟨rfl, below_draws (Below.refl _ _) _⟩
set_option maxRecDepth 100000 in
set_option maxHeartbeats 2000000 in
theorem side2_any (B : Nat) (s : ByteArray) (t : Bool) (w : World) (h1 : w.cell? ⟨B, 2, none⟩ = some (.string s)) (h2 : w.cell? ⟨B, 5, none⟩ = some (.bool t)) : Calls Tryz.prog 53 #[.int .i64 2, .pointer (some ⟨B, 0, none⟩)] w fun e w' => e = .returned (.tuple #[.string s, .bool t, .int .i64 0]) ∧ Below w.heap.size w w' := by
  go_enter Tryz.func53, Tryz.ntmps53
  go_wp2_with fail
  go_quiet (fail)
  go_wp2_with fail
  go_ret3
  exact ⟨rfl, below_draws (Below.refl _ _) _⟩
theorem idx0 (k0 k1 k2 o a b : ByteArray) : ∀ W, (Instr.index 83 (.agg #[.string k0, .string o, .string k1, .string a, .string k2, .string b]) (.int .i64 0)).run Tryz.prog W = .ok (.agg #[.string k0, .string o]) W := fun W => by kernel_rfl
theorem idx1 (k0 k1 k2 o a b : ByteArray) : ∀ W, (Instr.index 83 (.agg #[.string k0, .string o, .string k1, .string a, .string k2, .string b]) (.int .i64 1)).run Tryz.prog W = .ok (.agg #[.string k1, .string a]) W := fun W => by kernel_rfl
theorem idx2 (k0 k1 k2 o a b : ByteArray) : ∀ W, (Instr.index 83 (.agg #[.string k0, .string o, .string k1, .string a, .string k2, .string b]) (.int .i64 2)).run Tryz.prog W = .ok (.agg #[.string k2, .string b]) W := fun W => by kernel_rfl
/-- A segment, as a value. -/
def segV (s : ByteArray × ByteArray) : Value := .agg #[.string s.1, .string s.2]
theorem calls_gen {P : Program} {f : Nat} {args : Array Value} {W0 : World} {Q : Ending → World → Prop} (R : World → Prop) (h : R W0) (k : ∀ W, R W → Calls P f args W Q) : Calls P f args W0 Q := k _ h
theorem row_new {b : Nat} {W : World} {t : TypeId} {vs : Array Value} (h : b = W.heap.size) : RowAt (W.alloc (.cells vs t)) b t vs := by rw [h]; exact RowAt.new W t vs
/-- What comes, by what is alike. -/
def threeD (y z : ByteArray) (q r d1 d2 d3 : Bool) (T : By × Bool) : ByteArray × Bool × Int :=
  if d1 then (y, q, 0) else if d2 then (z, r, 0) else if d3 then (y, q, 0) else if !q || !r then (⟨#[]⟩, false, 3) else if T.2 then (bs T.1, true, 0) else (⟨#[]⟩, false, 1)
theorem threeD_of (o a b : ByteArray) (p q r : Bool) : threeP o a b p q r = threeD (nz a q) (nz b r) q r (decide (nz a q = nz b r ∧ q = r)) (decide (nz a q = nz o p ∧ q = p)) (decide (nz b r = nz o p ∧ r = p)) (textP (nz o p) (nz a q) (nz b r)) := by
  have h : ∀ (s t : ByteArray) (x y : Bool), decide (s = t ∧ x = y) = ((x == y) && decide (s = t)) := fun s t x y => by
    rw [Bool.eq_iff_iff, Bool.and_eq_true, decide_eq_true_iff, decide_eq_true_iff, beq_iff_eq]
    exact And.comm
  rw [h, h, h]
  rfl
set_option maxRecDepth 100000 in
set_option maxHeartbeats 16000000 in
theorem Three000 (k0 k1 k2 o a b : ByteArray) (w : World) (hW : X.LexW w) (hs : 4 ≤ w.heap.size) (h1 : o.size ≤ 600) (h2 : a.size ≤ 600) (h3 : b.size ≤ 600) : Calls Tryz.prog 29 #[segV (k0, o), segV (k1, a), segV (k2, b), .agg #[.bool false, .bool false, .bool false]] w fun e w' => e = .returned (.tuple #[.string (threeP o a b false false false).1, .bool (threeP o a b false false false).2.1, .int .i64 (threeP o a b false false false).2.2]) ∧ Below w.heap.size w w' := by
  have X0 := idx0 k0 k1 k2 o a b
  have X1 := idx1 k0 k1 k2 o a b
  have X2 := idx2 k0 k1 k2 o a b
  have Z : (⟨#[]⟩ : ByteArray).size ≤ 600 := Nat.zero_le _
  have m6 : 600 ≤ maxLen := by unfold maxLen; omega
  have A12 := fun W => alike12_any (⟨#[]⟩ : ByteArray) (⟨#[]⟩ : ByteArray) (⟨#[]⟩ : ByteArray) false false false W (Nat.le_trans Z m6) (Nat.le_trans Z m6) (Nat.le_trans Z m6)
  have A10 := fun W => alike10_any (⟨#[]⟩ : ByteArray) (⟨#[]⟩ : ByteArray) (⟨#[]⟩ : ByteArray) false false false W (Nat.le_trans Z m6) (Nat.le_trans Z m6) (Nat.le_trans Z m6)
  have A20 := fun W => alike20_any (⟨#[]⟩ : ByteArray) (⟨#[]⟩ : ByteArray) (⟨#[]⟩ : ByteArray) false false false W (Nat.le_trans Z m6) (Nat.le_trans Z m6) (Nat.le_trans Z m6)
  have AT := fun W (hW : X.LexW W) (hs : 4 ≤ W.heap.size) => Text_any (⟨#[]⟩ : ByteArray) (⟨#[]⟩ : ByteArray) (⟨#[]⟩ : ByteArray) W hW hs Z Z Z
  have HW := Lib.hid hW
  obtain ⟨R, hR0⟩ : ∃ R, Hid (threeP o a b false false false = R) := ⟨_, Lib.hid rfl⟩
  obtain ⟨⟨Tt, tb⟩, hT⟩ : ∃ T, textP (⟨#[]⟩ : ByteArray) (⟨#[]⟩ : ByteArray) (⟨#[]⟩ : ByteArray) = T := ⟨_, rfl⟩
  obtain ⟨d1, hd1⟩ : ∃ d, decide ((⟨#[]⟩ : ByteArray) = (⟨#[]⟩ : ByteArray) ∧ false = false) = d := ⟨_, rfl⟩
  obtain ⟨d2, hd2⟩ : ∃ d, decide ((⟨#[]⟩ : ByteArray) = (⟨#[]⟩ : ByteArray) ∧ false = false) = d := ⟨_, rfl⟩
  obtain ⟨d3, hd3⟩ : ∃ d, decide ((⟨#[]⟩ : ByteArray) = (⟨#[]⟩ : ByteArray) ∧ false = false) = d := ⟨_, rfl⟩
  have hR : R = threeD ((⟨#[]⟩ : ByteArray)) ((⟨#[]⟩ : ByteArray)) false false d1 d2 d3 (Tt, tb) := by
    rw [← hR0.out, ← hd1, ← hd2, ← hd3, ← hT]
    exact threeD_of o a b false false false
  rw [hR0.out]
  rw [hT] at AT
  rw [hd1] at A12
  rw [hd2] at A10
  rw [hd3] at A20
  dsimp only at AT
  have hR := Lib.hid hR
  have AT := Lib.hid AT
  clear h1 h2 h3 m6 Z hW hT hR0 hd1 hd2 hd3
  unfold segV
  unfold verV at A12 A10 A20
  have A12 := Lib.hid A12
  have A10 := Lib.hid A10
  have A20 := Lib.hid A20
  go_enter Tryz.func29, Tryz.ntmps29
  go_wp2_with fail
  refine wp_loop_rounds 4 ?_
  repeat any_goals (rw [rounds_succ]; go_wp2_with fail)
  refine calls_gen (fun W => RowAt W (w.heap.size + 1 + 1 + 1 + 1) 85 #[.string (⟨#[]⟩ : ByteArray), .string (⟨#[]⟩ : ByteArray), .string (⟨#[]⟩ : ByteArray), .bool false, .bool false, .bool false] ∧ RowAt W (w.heap.size + 1 + 1 + 1) 44 #[.bool false, .bool false, .bool false] ∧ Below w.heap.size w W) ?_ ?_
  · refine ⟨?_, ?_, ?_⟩
    · refine RowAt.alloc (RowAt.alloc (RowAt.alloc (row_new ?_) _) _) _
      simp
    · refine RowAt.alloc (RowAt.alloc (RowAt.alloc (RowAt.alloc (row_new ?_) _) _) _) _
      simp
    repeat (first | exact Below.refl _ _ | refine Below.alloc ?_ (by first | (simp; done) | (simp; omega)) _)
  rintro W1 ⟨R1, R2, B1⟩
  refine (A12.out W1).mono ?_
  rintro e w2 ⟨rfl, b2⟩
  have Q1 := Lib.hid (R1.later b2)
  have Q2 := Lib.hid (R2.later b2)
  have B2 : Hid (Below w.heap.size w w2) := Lib.hid (B1.trans (b2.mono B1.size))
  clear R1 R2 B1 b2 A12
  cases d1 with
  | true =>
    go_wp2_with fail
    refine (side1_any (w.heap.size + 1 + 1 + 1 + 1) ((⟨#[]⟩ : ByteArray)) false w2 (Q1.out.cell rfl) (Q1.out.cell rfl)).mono ?_
    rintro e w3 ⟨rfl, b3⟩
    have B3 : Hid (Below w.heap.size w w3) := Lib.hid (B2.out.trans (b3.mono B2.out.size))
    clear b3
    go_wp2_with fail
    go_ret3
    exact ⟨by rw [hR.out]; rfl, B3.out⟩
  | false =>
    have c0 : w2.cell? ⟨w.heap.size + 1 + 1 + 1 + 1, 0, none⟩ = some (.string (⟨#[]⟩ : ByteArray)) := Q1.out.cell rfl
    have c1 : w2.cell? ⟨w.heap.size + 1 + 1 + 1 + 1, 1, none⟩ = some (.string (⟨#[]⟩ : ByteArray)) := Q1.out.cell rfl
    have c2 : w2.cell? ⟨w.heap.size + 1 + 1 + 1 + 1, 2, none⟩ = some (.string (⟨#[]⟩ : ByteArray)) := Q1.out.cell rfl
    have c3 : w2.cell? ⟨w.heap.size + 1 + 1 + 1 + 1, 3, none⟩ = some (.bool false) := Q1.out.cell rfl
    have c4 : w2.cell? ⟨w.heap.size + 1 + 1 + 1 + 1, 4, none⟩ = some (.bool false) := Q1.out.cell rfl
    have c5 : w2.cell? ⟨w.heap.size + 1 + 1 + 1 + 1, 5, none⟩ = some (.bool false) := Q1.out.cell rfl
    go_wp2_with fail
    clear c0 c1 c2 c3 c4 c5
    refine (A10.out w2).mono ?_
    rintro e w3 ⟨rfl, b3⟩
    have P1 := Lib.hid (Q1.out.later b3)
    have P2 := Lib.hid (Q2.out.later b3)
    have B3 : Hid (Below w.heap.size w w3) := Lib.hid (B2.out.trans (b3.mono B2.out.size))
    clear Q1 Q2 B2 b3 A10
    cases d2 with
    | true =>
      go_wp2_with fail
      refine (side2_any (w.heap.size + 1 + 1 + 1 + 1) ((⟨#[]⟩ : ByteArray)) false w3 (P1.out.cell rfl) (P1.out.cell rfl)).mono ?_
      rintro e w4 ⟨rfl, b4⟩
      have B4 : Hid (Below w.heap.size w w4) := Lib.hid (B3.out.trans (b4.mono B3.out.size))
      clear b4
      go_wp2_with fail
      go_ret3
      exact ⟨by rw [hR.out]; rfl, B4.out⟩
    | false =>
      have c0 : w3.cell? ⟨w.heap.size + 1 + 1 + 1 + 1, 0, none⟩ = some (.string (⟨#[]⟩ : ByteArray)) := P1.out.cell rfl
      have c1 : w3.cell? ⟨w.heap.size + 1 + 1 + 1 + 1, 1, none⟩ = some (.string (⟨#[]⟩ : ByteArray)) := P1.out.cell rfl
      have c2 : w3.cell? ⟨w.heap.size + 1 + 1 + 1 + 1, 2, none⟩ = some (.string (⟨#[]⟩ : ByteArray)) := P1.out.cell rfl
      have c3 : w3.cell? ⟨w.heap.size + 1 + 1 + 1 + 1, 3, none⟩ = some (.bool false) := P1.out.cell rfl
      have c4 : w3.cell? ⟨w.heap.size + 1 + 1 + 1 + 1, 4, none⟩ = some (.bool false) := P1.out.cell rfl
      have c5 : w3.cell? ⟨w.heap.size + 1 + 1 + 1 + 1, 5, none⟩ = some (.bool false) := P1.out.cell rfl
      go_wp2_with fail
      clear c0 c1 c2 c3 c4 c5
      refine (A20.out w3).mono ?_
      rintro e w4 ⟨rfl, b4⟩
      have Q1 := Lib.hid (P1.out.later b4)
      have Q2 := Lib.hid (P2.out.later b4)
      have B4 : Hid (Below w.heap.size w w4) := Lib.hid (B3.out.trans (b4.mono B3.out.size))
      clear P1 P2 B3 b4 A20
      cases d3 with
      | true =>
        go_wp2_with fail
        refine (side1_any (w.heap.size + 1 + 1 + 1 + 1) ((⟨#[]⟩ : ByteArray)) false w4 (Q1.out.cell rfl) (Q1.out.cell rfl)).mono ?_
        rintro e w5 ⟨rfl, b5⟩
        have B5 : Hid (Below w.heap.size w w5) := Lib.hid (B4.out.trans (b5.mono B4.out.size))
        clear b5
        go_wp2_with fail
        go_ret3
        exact ⟨by rw [hR.out]; rfl, B5.out⟩
      | false =>
        have c0 : w4.cell? ⟨w.heap.size + 1 + 1 + 1 + 1, 0, none⟩ = some (.string (⟨#[]⟩ : ByteArray)) := Q1.out.cell rfl
        have c1 : w4.cell? ⟨w.heap.size + 1 + 1 + 1 + 1, 1, none⟩ = some (.string (⟨#[]⟩ : ByteArray)) := Q1.out.cell rfl
        have c2 : w4.cell? ⟨w.heap.size + 1 + 1 + 1 + 1, 2, none⟩ = some (.string (⟨#[]⟩ : ByteArray)) := Q1.out.cell rfl
        have c3 : w4.cell? ⟨w.heap.size + 1 + 1 + 1 + 1, 3, none⟩ = some (.bool false) := Q1.out.cell rfl
        have c4 : w4.cell? ⟨w.heap.size + 1 + 1 + 1 + 1, 4, none⟩ = some (.bool false) := Q1.out.cell rfl
        have c5 : w4.cell? ⟨w.heap.size + 1 + 1 + 1 + 1, 5, none⟩ = some (.bool false) := Q1.out.cell rfl
        have g1 : w4.cell? ⟨w.heap.size + 1 + 1 + 1, 1, none⟩ = some (.bool false) := Q2.out.cell rfl
        have g2 : w4.cell? ⟨w.heap.size + 1 + 1 + 1, 2, none⟩ = some (.bool false) := Q2.out.cell rfl
        go_wp2_with fail
        go_ret3
        exact ⟨by rw [hR.out]; rfl, B4.out⟩
set_option maxRecDepth 100000 in
set_option maxHeartbeats 16000000 in
theorem Three100 (k0 k1 k2 o a b : ByteArray) (w : World) (hW : X.LexW w) (hs : 4 ≤ w.heap.size) (h1 : o.size ≤ 600) (h2 : a.size ≤ 600) (h3 : b.size ≤ 600) : Calls Tryz.prog 29 #[segV (k0, o), segV (k1, a), segV (k2, b), .agg #[.bool true, .bool false, .bool false]] w fun e w' => e = .returned (.tuple #[.string (threeP o a b true false false).1, .bool (threeP o a b true false false).2.1, .int .i64 (threeP o a b true false false).2.2]) ∧ Below w.heap.size w w' := by
  have X0 := idx0 k0 k1 k2 o a b
  have X1 := idx1 k0 k1 k2 o a b
  have X2 := idx2 k0 k1 k2 o a b
  have Z : (⟨#[]⟩ : ByteArray).size ≤ 600 := Nat.zero_le _
  have m6 : 600 ≤ maxLen := by unfold maxLen; omega
  have A12 := fun W => alike12_any o (⟨#[]⟩ : ByteArray) (⟨#[]⟩ : ByteArray) true false false W (Nat.le_trans h1 m6) (Nat.le_trans Z m6) (Nat.le_trans Z m6)
  have A10 := fun W => alike10_any o (⟨#[]⟩ : ByteArray) (⟨#[]⟩ : ByteArray) true false false W (Nat.le_trans h1 m6) (Nat.le_trans Z m6) (Nat.le_trans Z m6)
  have A20 := fun W => alike20_any o (⟨#[]⟩ : ByteArray) (⟨#[]⟩ : ByteArray) true false false W (Nat.le_trans h1 m6) (Nat.le_trans Z m6) (Nat.le_trans Z m6)
  have AT := fun W (hW : X.LexW W) (hs : 4 ≤ W.heap.size) => Text_any o (⟨#[]⟩ : ByteArray) (⟨#[]⟩ : ByteArray) W hW hs h1 Z Z
  have HW := Lib.hid hW
  obtain ⟨R, hR0⟩ : ∃ R, Hid (threeP o a b true false false = R) := ⟨_, Lib.hid rfl⟩
  obtain ⟨⟨Tt, tb⟩, hT⟩ : ∃ T, textP o (⟨#[]⟩ : ByteArray) (⟨#[]⟩ : ByteArray) = T := ⟨_, rfl⟩
  obtain ⟨d1, hd1⟩ : ∃ d, decide ((⟨#[]⟩ : ByteArray) = (⟨#[]⟩ : ByteArray) ∧ false = false) = d := ⟨_, rfl⟩
  obtain ⟨d2, hd2⟩ : ∃ d, decide ((⟨#[]⟩ : ByteArray) = o ∧ false = true) = d := ⟨_, rfl⟩
  obtain ⟨d3, hd3⟩ : ∃ d, decide ((⟨#[]⟩ : ByteArray) = o ∧ false = true) = d := ⟨_, rfl⟩
  have hR : R = threeD ((⟨#[]⟩ : ByteArray)) ((⟨#[]⟩ : ByteArray)) false false d1 d2 d3 (Tt, tb) := by
    rw [← hR0.out, ← hd1, ← hd2, ← hd3, ← hT]
    exact threeD_of o a b true false false
  rw [hR0.out]
  rw [hT] at AT
  rw [hd1] at A12
  rw [hd2] at A10
  rw [hd3] at A20
  dsimp only at AT
  have hR := Lib.hid hR
  have AT := Lib.hid AT
  clear h1 h2 h3 m6 Z hW hT hR0 hd1 hd2 hd3
  unfold segV
  unfold verV at A12 A10 A20
  have A12 := Lib.hid A12
  have A10 := Lib.hid A10
  have A20 := Lib.hid A20
  go_enter Tryz.func29, Tryz.ntmps29
  go_wp2_with fail
  refine wp_loop_rounds 4 ?_
  repeat any_goals (rw [rounds_succ]; go_wp2_with fail)
  refine calls_gen (fun W => RowAt W (w.heap.size + 1 + 1 + 1 + 1) 85 #[.string o, .string (⟨#[]⟩ : ByteArray), .string (⟨#[]⟩ : ByteArray), .bool true, .bool false, .bool false] ∧ RowAt W (w.heap.size + 1 + 1 + 1) 44 #[.bool true, .bool false, .bool false] ∧ Below w.heap.size w W) ?_ ?_
  · refine ⟨?_, ?_, ?_⟩
    · refine RowAt.alloc (RowAt.alloc (RowAt.alloc (row_new ?_) _) _) _
      simp
    · refine RowAt.alloc (RowAt.alloc (RowAt.alloc (RowAt.alloc (row_new ?_) _) _) _) _
      simp
    repeat (first | exact Below.refl _ _ | refine Below.alloc ?_ (by first | (simp; done) | (simp; omega)) _)
  rintro W1 ⟨R1, R2, B1⟩
  refine (A12.out W1).mono ?_
  rintro e w2 ⟨rfl, b2⟩
  have Q1 := Lib.hid (R1.later b2)
  have Q2 := Lib.hid (R2.later b2)
  have B2 : Hid (Below w.heap.size w w2) := Lib.hid (B1.trans (b2.mono B1.size))
  clear R1 R2 B1 b2 A12
  cases d1 with
  | true =>
    go_wp2_with fail
    refine (side1_any (w.heap.size + 1 + 1 + 1 + 1) ((⟨#[]⟩ : ByteArray)) false w2 (Q1.out.cell rfl) (Q1.out.cell rfl)).mono ?_
    rintro e w3 ⟨rfl, b3⟩
    have B3 : Hid (Below w.heap.size w w3) := Lib.hid (B2.out.trans (b3.mono B2.out.size))
    clear b3
    go_wp2_with fail
    go_ret3
    exact ⟨by rw [hR.out]; rfl, B3.out⟩
  | false =>
    have c0 : w2.cell? ⟨w.heap.size + 1 + 1 + 1 + 1, 0, none⟩ = some (.string o) := Q1.out.cell rfl
    have c1 : w2.cell? ⟨w.heap.size + 1 + 1 + 1 + 1, 1, none⟩ = some (.string (⟨#[]⟩ : ByteArray)) := Q1.out.cell rfl
    have c2 : w2.cell? ⟨w.heap.size + 1 + 1 + 1 + 1, 2, none⟩ = some (.string (⟨#[]⟩ : ByteArray)) := Q1.out.cell rfl
    have c3 : w2.cell? ⟨w.heap.size + 1 + 1 + 1 + 1, 3, none⟩ = some (.bool true) := Q1.out.cell rfl
    have c4 : w2.cell? ⟨w.heap.size + 1 + 1 + 1 + 1, 4, none⟩ = some (.bool false) := Q1.out.cell rfl
    have c5 : w2.cell? ⟨w.heap.size + 1 + 1 + 1 + 1, 5, none⟩ = some (.bool false) := Q1.out.cell rfl
    go_wp2_with fail
    clear c0 c1 c2 c3 c4 c5
    refine (A10.out w2).mono ?_
    rintro e w3 ⟨rfl, b3⟩
    have P1 := Lib.hid (Q1.out.later b3)
    have P2 := Lib.hid (Q2.out.later b3)
    have B3 : Hid (Below w.heap.size w w3) := Lib.hid (B2.out.trans (b3.mono B2.out.size))
    clear Q1 Q2 B2 b3 A10
    cases d2 with
    | true =>
      go_wp2_with fail
      refine (side2_any (w.heap.size + 1 + 1 + 1 + 1) ((⟨#[]⟩ : ByteArray)) false w3 (P1.out.cell rfl) (P1.out.cell rfl)).mono ?_
      rintro e w4 ⟨rfl, b4⟩
      have B4 : Hid (Below w.heap.size w w4) := Lib.hid (B3.out.trans (b4.mono B3.out.size))
      clear b4
      go_wp2_with fail
      go_ret3
      exact ⟨by rw [hR.out]; rfl, B4.out⟩
    | false =>
      have c0 : w3.cell? ⟨w.heap.size + 1 + 1 + 1 + 1, 0, none⟩ = some (.string o) := P1.out.cell rfl
      have c1 : w3.cell? ⟨w.heap.size + 1 + 1 + 1 + 1, 1, none⟩ = some (.string (⟨#[]⟩ : ByteArray)) := P1.out.cell rfl
      have c2 : w3.cell? ⟨w.heap.size + 1 + 1 + 1 + 1, 2, none⟩ = some (.string (⟨#[]⟩ : ByteArray)) := P1.out.cell rfl
      have c3 : w3.cell? ⟨w.heap.size + 1 + 1 + 1 + 1, 3, none⟩ = some (.bool true) := P1.out.cell rfl
      have c4 : w3.cell? ⟨w.heap.size + 1 + 1 + 1 + 1, 4, none⟩ = some (.bool false) := P1.out.cell rfl
      have c5 : w3.cell? ⟨w.heap.size + 1 + 1 + 1 + 1, 5, none⟩ = some (.bool false) := P1.out.cell rfl
      go_wp2_with fail
      clear c0 c1 c2 c3 c4 c5
      refine (A20.out w3).mono ?_
      rintro e w4 ⟨rfl, b4⟩
      have Q1 := Lib.hid (P1.out.later b4)
      have Q2 := Lib.hid (P2.out.later b4)
      have B4 : Hid (Below w.heap.size w w4) := Lib.hid (B3.out.trans (b4.mono B3.out.size))
      clear P1 P2 B3 b4 A20
      cases d3 with
      | true =>
        go_wp2_with fail
        refine (side1_any (w.heap.size + 1 + 1 + 1 + 1) ((⟨#[]⟩ : ByteArray)) false w4 (Q1.out.cell rfl) (Q1.out.cell rfl)).mono ?_
        rintro e w5 ⟨rfl, b5⟩
        have B5 : Hid (Below w.heap.size w w5) := Lib.hid (B4.out.trans (b5.mono B4.out.size))
        clear b5
        go_wp2_with fail
        go_ret3
        exact ⟨by rw [hR.out]; rfl, B5.out⟩
      | false =>
        have c0 : w4.cell? ⟨w.heap.size + 1 + 1 + 1 + 1, 0, none⟩ = some (.string o) := Q1.out.cell rfl
        have c1 : w4.cell? ⟨w.heap.size + 1 + 1 + 1 + 1, 1, none⟩ = some (.string (⟨#[]⟩ : ByteArray)) := Q1.out.cell rfl
        have c2 : w4.cell? ⟨w.heap.size + 1 + 1 + 1 + 1, 2, none⟩ = some (.string (⟨#[]⟩ : ByteArray)) := Q1.out.cell rfl
        have c3 : w4.cell? ⟨w.heap.size + 1 + 1 + 1 + 1, 3, none⟩ = some (.bool true) := Q1.out.cell rfl
        have c4 : w4.cell? ⟨w.heap.size + 1 + 1 + 1 + 1, 4, none⟩ = some (.bool false) := Q1.out.cell rfl
        have c5 : w4.cell? ⟨w.heap.size + 1 + 1 + 1 + 1, 5, none⟩ = some (.bool false) := Q1.out.cell rfl
        have g1 : w4.cell? ⟨w.heap.size + 1 + 1 + 1, 1, none⟩ = some (.bool false) := Q2.out.cell rfl
        have g2 : w4.cell? ⟨w.heap.size + 1 + 1 + 1, 2, none⟩ = some (.bool false) := Q2.out.cell rfl
        go_wp2_with fail
        go_ret3
        exact ⟨by rw [hR.out]; rfl, B4.out⟩
set_option maxRecDepth 100000 in
set_option maxHeartbeats 16000000 in
theorem Three010 (k0 k1 k2 o a b : ByteArray) (w : World) (hW : X.LexW w) (hs : 4 ≤ w.heap.size) (h1 : o.size ≤ 600) (h2 : a.size ≤ 600) (h3 : b.size ≤ 600) : Calls Tryz.prog 29 #[segV (k0, o), segV (k1, a), segV (k2, b), .agg #[.bool false, .bool true, .bool false]] w fun e w' => e = .returned (.tuple #[.string (threeP o a b false true false).1, .bool (threeP o a b false true false).2.1, .int .i64 (threeP o a b false true false).2.2]) ∧ Below w.heap.size w w' := by
  have X0 := idx0 k0 k1 k2 o a b
  have X1 := idx1 k0 k1 k2 o a b
  have X2 := idx2 k0 k1 k2 o a b
  have Z : (⟨#[]⟩ : ByteArray).size ≤ 600 := Nat.zero_le _
  have m6 : 600 ≤ maxLen := by unfold maxLen; omega
  have A12 := fun W => alike12_any (⟨#[]⟩ : ByteArray) a (⟨#[]⟩ : ByteArray) false true false W (Nat.le_trans Z m6) (Nat.le_trans h2 m6) (Nat.le_trans Z m6)
  have A10 := fun W => alike10_any (⟨#[]⟩ : ByteArray) a (⟨#[]⟩ : ByteArray) false true false W (Nat.le_trans Z m6) (Nat.le_trans h2 m6) (Nat.le_trans Z m6)
  have A20 := fun W => alike20_any (⟨#[]⟩ : ByteArray) a (⟨#[]⟩ : ByteArray) false true false W (Nat.le_trans Z m6) (Nat.le_trans h2 m6) (Nat.le_trans Z m6)
  have AT := fun W (hW : X.LexW W) (hs : 4 ≤ W.heap.size) => Text_any (⟨#[]⟩ : ByteArray) a (⟨#[]⟩ : ByteArray) W hW hs Z h2 Z
  have HW := Lib.hid hW
  obtain ⟨R, hR0⟩ : ∃ R, Hid (threeP o a b false true false = R) := ⟨_, Lib.hid rfl⟩
  obtain ⟨⟨Tt, tb⟩, hT⟩ : ∃ T, textP (⟨#[]⟩ : ByteArray) a (⟨#[]⟩ : ByteArray) = T := ⟨_, rfl⟩
  obtain ⟨d1, hd1⟩ : ∃ d, decide (a = (⟨#[]⟩ : ByteArray) ∧ true = false) = d := ⟨_, rfl⟩
  obtain ⟨d2, hd2⟩ : ∃ d, decide (a = (⟨#[]⟩ : ByteArray) ∧ true = false) = d := ⟨_, rfl⟩
  obtain ⟨d3, hd3⟩ : ∃ d, decide ((⟨#[]⟩ : ByteArray) = (⟨#[]⟩ : ByteArray) ∧ false = false) = d := ⟨_, rfl⟩
  have hR : R = threeD (a) ((⟨#[]⟩ : ByteArray)) true false d1 d2 d3 (Tt, tb) := by
    rw [← hR0.out, ← hd1, ← hd2, ← hd3, ← hT]
    exact threeD_of o a b false true false
  rw [hR0.out]
  rw [hT] at AT
  rw [hd1] at A12
  rw [hd2] at A10
  rw [hd3] at A20
  dsimp only at AT
  have hR := Lib.hid hR
  have AT := Lib.hid AT
  clear h1 h2 h3 m6 Z hW hT hR0 hd1 hd2 hd3
  unfold segV
  unfold verV at A12 A10 A20
  have A12 := Lib.hid A12
  have A10 := Lib.hid A10
  have A20 := Lib.hid A20
  go_enter Tryz.func29, Tryz.ntmps29
  go_wp2_with fail
  refine wp_loop_rounds 4 ?_
  repeat any_goals (rw [rounds_succ]; go_wp2_with fail)
  refine calls_gen (fun W => RowAt W (w.heap.size + 1 + 1 + 1 + 1) 85 #[.string (⟨#[]⟩ : ByteArray), .string a, .string (⟨#[]⟩ : ByteArray), .bool false, .bool true, .bool false] ∧ RowAt W (w.heap.size + 1 + 1 + 1) 44 #[.bool false, .bool true, .bool false] ∧ Below w.heap.size w W) ?_ ?_
  · refine ⟨?_, ?_, ?_⟩
    · refine RowAt.alloc (RowAt.alloc (RowAt.alloc (row_new ?_) _) _) _
      simp
    · refine RowAt.alloc (RowAt.alloc (RowAt.alloc (RowAt.alloc (row_new ?_) _) _) _) _
      simp
    repeat (first | exact Below.refl _ _ | refine Below.alloc ?_ (by first | (simp; done) | (simp; omega)) _)
  rintro W1 ⟨R1, R2, B1⟩
  refine (A12.out W1).mono ?_
  rintro e w2 ⟨rfl, b2⟩
  have Q1 := Lib.hid (R1.later b2)
  have Q2 := Lib.hid (R2.later b2)
  have B2 : Hid (Below w.heap.size w w2) := Lib.hid (B1.trans (b2.mono B1.size))
  clear R1 R2 B1 b2 A12
  cases d1 with
  | true =>
    go_wp2_with fail
    refine (side1_any (w.heap.size + 1 + 1 + 1 + 1) (a) true w2 (Q1.out.cell rfl) (Q1.out.cell rfl)).mono ?_
    rintro e w3 ⟨rfl, b3⟩
    have B3 : Hid (Below w.heap.size w w3) := Lib.hid (B2.out.trans (b3.mono B2.out.size))
    clear b3
    go_wp2_with fail
    go_ret3
    exact ⟨by rw [hR.out]; rfl, B3.out⟩
  | false =>
    have c0 : w2.cell? ⟨w.heap.size + 1 + 1 + 1 + 1, 0, none⟩ = some (.string (⟨#[]⟩ : ByteArray)) := Q1.out.cell rfl
    have c1 : w2.cell? ⟨w.heap.size + 1 + 1 + 1 + 1, 1, none⟩ = some (.string a) := Q1.out.cell rfl
    have c2 : w2.cell? ⟨w.heap.size + 1 + 1 + 1 + 1, 2, none⟩ = some (.string (⟨#[]⟩ : ByteArray)) := Q1.out.cell rfl
    have c3 : w2.cell? ⟨w.heap.size + 1 + 1 + 1 + 1, 3, none⟩ = some (.bool false) := Q1.out.cell rfl
    have c4 : w2.cell? ⟨w.heap.size + 1 + 1 + 1 + 1, 4, none⟩ = some (.bool true) := Q1.out.cell rfl
    have c5 : w2.cell? ⟨w.heap.size + 1 + 1 + 1 + 1, 5, none⟩ = some (.bool false) := Q1.out.cell rfl
    go_wp2_with fail
    clear c0 c1 c2 c3 c4 c5
    refine (A10.out w2).mono ?_
    rintro e w3 ⟨rfl, b3⟩
    have P1 := Lib.hid (Q1.out.later b3)
    have P2 := Lib.hid (Q2.out.later b3)
    have B3 : Hid (Below w.heap.size w w3) := Lib.hid (B2.out.trans (b3.mono B2.out.size))
    clear Q1 Q2 B2 b3 A10
    cases d2 with
    | true =>
      go_wp2_with fail
      refine (side2_any (w.heap.size + 1 + 1 + 1 + 1) ((⟨#[]⟩ : ByteArray)) false w3 (P1.out.cell rfl) (P1.out.cell rfl)).mono ?_
      rintro e w4 ⟨rfl, b4⟩
      have B4 : Hid (Below w.heap.size w w4) := Lib.hid (B3.out.trans (b4.mono B3.out.size))
      clear b4
      go_wp2_with fail
      go_ret3
      exact ⟨by rw [hR.out]; rfl, B4.out⟩
    | false =>
      have c0 : w3.cell? ⟨w.heap.size + 1 + 1 + 1 + 1, 0, none⟩ = some (.string (⟨#[]⟩ : ByteArray)) := P1.out.cell rfl
      have c1 : w3.cell? ⟨w.heap.size + 1 + 1 + 1 + 1, 1, none⟩ = some (.string a) := P1.out.cell rfl
      have c2 : w3.cell? ⟨w.heap.size + 1 + 1 + 1 + 1, 2, none⟩ = some (.string (⟨#[]⟩ : ByteArray)) := P1.out.cell rfl
      have c3 : w3.cell? ⟨w.heap.size + 1 + 1 + 1 + 1, 3, none⟩ = some (.bool false) := P1.out.cell rfl
      have c4 : w3.cell? ⟨w.heap.size + 1 + 1 + 1 + 1, 4, none⟩ = some (.bool true) := P1.out.cell rfl
      have c5 : w3.cell? ⟨w.heap.size + 1 + 1 + 1 + 1, 5, none⟩ = some (.bool false) := P1.out.cell rfl
      go_wp2_with fail
      clear c0 c1 c2 c3 c4 c5
      refine (A20.out w3).mono ?_
      rintro e w4 ⟨rfl, b4⟩
      have Q1 := Lib.hid (P1.out.later b4)
      have Q2 := Lib.hid (P2.out.later b4)
      have B4 : Hid (Below w.heap.size w w4) := Lib.hid (B3.out.trans (b4.mono B3.out.size))
      clear P1 P2 B3 b4 A20
      cases d3 with
      | true =>
        go_wp2_with fail
        refine (side1_any (w.heap.size + 1 + 1 + 1 + 1) (a) true w4 (Q1.out.cell rfl) (Q1.out.cell rfl)).mono ?_
        rintro e w5 ⟨rfl, b5⟩
        have B5 : Hid (Below w.heap.size w w5) := Lib.hid (B4.out.trans (b5.mono B4.out.size))
        clear b5
        go_wp2_with fail
        go_ret3
        exact ⟨by rw [hR.out]; rfl, B5.out⟩
      | false =>
        have c0 : w4.cell? ⟨w.heap.size + 1 + 1 + 1 + 1, 0, none⟩ = some (.string (⟨#[]⟩ : ByteArray)) := Q1.out.cell rfl
        have c1 : w4.cell? ⟨w.heap.size + 1 + 1 + 1 + 1, 1, none⟩ = some (.string a) := Q1.out.cell rfl
        have c2 : w4.cell? ⟨w.heap.size + 1 + 1 + 1 + 1, 2, none⟩ = some (.string (⟨#[]⟩ : ByteArray)) := Q1.out.cell rfl
        have c3 : w4.cell? ⟨w.heap.size + 1 + 1 + 1 + 1, 3, none⟩ = some (.bool false) := Q1.out.cell rfl
        have c4 : w4.cell? ⟨w.heap.size + 1 + 1 + 1 + 1, 4, none⟩ = some (.bool true) := Q1.out.cell rfl
        have c5 : w4.cell? ⟨w.heap.size + 1 + 1 + 1 + 1, 5, none⟩ = some (.bool false) := Q1.out.cell rfl
        have g1 : w4.cell? ⟨w.heap.size + 1 + 1 + 1, 1, none⟩ = some (.bool true) := Q2.out.cell rfl
        have g2 : w4.cell? ⟨w.heap.size + 1 + 1 + 1, 2, none⟩ = some (.bool false) := Q2.out.cell rfl
        go_wp2_with fail
        go_ret3
        exact ⟨by rw [hR.out]; rfl, B4.out⟩
set_option maxRecDepth 100000 in
set_option maxHeartbeats 16000000 in
theorem Three110 (k0 k1 k2 o a b : ByteArray) (w : World) (hW : X.LexW w) (hs : 4 ≤ w.heap.size) (h1 : o.size ≤ 600) (h2 : a.size ≤ 600) (h3 : b.size ≤ 600) : Calls Tryz.prog 29 #[segV (k0, o), segV (k1, a), segV (k2, b), .agg #[.bool true, .bool true, .bool false]] w fun e w' => e = .returned (.tuple #[.string (threeP o a b true true false).1, .bool (threeP o a b true true false).2.1, .int .i64 (threeP o a b true true false).2.2]) ∧ Below w.heap.size w w' := by
  have X0 := idx0 k0 k1 k2 o a b
  have X1 := idx1 k0 k1 k2 o a b
  have X2 := idx2 k0 k1 k2 o a b
  have Z : (⟨#[]⟩ : ByteArray).size ≤ 600 := Nat.zero_le _
  have m6 : 600 ≤ maxLen := by unfold maxLen; omega
  have A12 := fun W => alike12_any o a (⟨#[]⟩ : ByteArray) true true false W (Nat.le_trans h1 m6) (Nat.le_trans h2 m6) (Nat.le_trans Z m6)
  have A10 := fun W => alike10_any o a (⟨#[]⟩ : ByteArray) true true false W (Nat.le_trans h1 m6) (Nat.le_trans h2 m6) (Nat.le_trans Z m6)
  have A20 := fun W => alike20_any o a (⟨#[]⟩ : ByteArray) true true false W (Nat.le_trans h1 m6) (Nat.le_trans h2 m6) (Nat.le_trans Z m6)
  have AT := fun W (hW : X.LexW W) (hs : 4 ≤ W.heap.size) => Text_any o a (⟨#[]⟩ : ByteArray) W hW hs h1 h2 Z
  have HW := Lib.hid hW
  obtain ⟨R, hR0⟩ : ∃ R, Hid (threeP o a b true true false = R) := ⟨_, Lib.hid rfl⟩
  obtain ⟨⟨Tt, tb⟩, hT⟩ : ∃ T, textP o a (⟨#[]⟩ : ByteArray) = T := ⟨_, rfl⟩
  obtain ⟨d1, hd1⟩ : ∃ d, decide (a = (⟨#[]⟩ : ByteArray) ∧ true = false) = d := ⟨_, rfl⟩
  obtain ⟨d2, hd2⟩ : ∃ d, decide (a = o ∧ true = true) = d := ⟨_, rfl⟩
  obtain ⟨d3, hd3⟩ : ∃ d, decide ((⟨#[]⟩ : ByteArray) = o ∧ false = true) = d := ⟨_, rfl⟩
  have hR : R = threeD (a) ((⟨#[]⟩ : ByteArray)) true false d1 d2 d3 (Tt, tb) := by
    rw [← hR0.out, ← hd1, ← hd2, ← hd3, ← hT]
    exact threeD_of o a b true true false
  rw [hR0.out]
  rw [hT] at AT
  rw [hd1] at A12
  rw [hd2] at A10
  rw [hd3] at A20
  dsimp only at AT
  have hR := Lib.hid hR
  have AT := Lib.hid AT
  clear h1 h2 h3 m6 Z hW hT hR0 hd1 hd2 hd3
  unfold segV
  unfold verV at A12 A10 A20
  have A12 := Lib.hid A12
  have A10 := Lib.hid A10
  have A20 := Lib.hid A20
  go_enter Tryz.func29, Tryz.ntmps29
  go_wp2_with fail
  refine wp_loop_rounds 4 ?_
  repeat any_goals (rw [rounds_succ]; go_wp2_with fail)
  refine calls_gen (fun W => RowAt W (w.heap.size + 1 + 1 + 1 + 1) 85 #[.string o, .string a, .string (⟨#[]⟩ : ByteArray), .bool true, .bool true, .bool false] ∧ RowAt W (w.heap.size + 1 + 1 + 1) 44 #[.bool true, .bool true, .bool false] ∧ Below w.heap.size w W) ?_ ?_
  · refine ⟨?_, ?_, ?_⟩
    · refine RowAt.alloc (RowAt.alloc (RowAt.alloc (row_new ?_) _) _) _
      simp
    · refine RowAt.alloc (RowAt.alloc (RowAt.alloc (RowAt.alloc (row_new ?_) _) _) _) _
      simp
    repeat (first | exact Below.refl _ _ | refine Below.alloc ?_ (by first | (simp; done) | (simp; omega)) _)
  rintro W1 ⟨R1, R2, B1⟩
  refine (A12.out W1).mono ?_
  rintro e w2 ⟨rfl, b2⟩
  have Q1 := Lib.hid (R1.later b2)
  have Q2 := Lib.hid (R2.later b2)
  have B2 : Hid (Below w.heap.size w w2) := Lib.hid (B1.trans (b2.mono B1.size))
  clear R1 R2 B1 b2 A12
  cases d1 with
  | true =>
    go_wp2_with fail
    refine (side1_any (w.heap.size + 1 + 1 + 1 + 1) (a) true w2 (Q1.out.cell rfl) (Q1.out.cell rfl)).mono ?_
    rintro e w3 ⟨rfl, b3⟩
    have B3 : Hid (Below w.heap.size w w3) := Lib.hid (B2.out.trans (b3.mono B2.out.size))
    clear b3
    go_wp2_with fail
    go_ret3
    exact ⟨by rw [hR.out]; rfl, B3.out⟩
  | false =>
    have c0 : w2.cell? ⟨w.heap.size + 1 + 1 + 1 + 1, 0, none⟩ = some (.string o) := Q1.out.cell rfl
    have c1 : w2.cell? ⟨w.heap.size + 1 + 1 + 1 + 1, 1, none⟩ = some (.string a) := Q1.out.cell rfl
    have c2 : w2.cell? ⟨w.heap.size + 1 + 1 + 1 + 1, 2, none⟩ = some (.string (⟨#[]⟩ : ByteArray)) := Q1.out.cell rfl
    have c3 : w2.cell? ⟨w.heap.size + 1 + 1 + 1 + 1, 3, none⟩ = some (.bool true) := Q1.out.cell rfl
    have c4 : w2.cell? ⟨w.heap.size + 1 + 1 + 1 + 1, 4, none⟩ = some (.bool true) := Q1.out.cell rfl
    have c5 : w2.cell? ⟨w.heap.size + 1 + 1 + 1 + 1, 5, none⟩ = some (.bool false) := Q1.out.cell rfl
    go_wp2_with fail
    clear c0 c1 c2 c3 c4 c5
    refine (A10.out w2).mono ?_
    rintro e w3 ⟨rfl, b3⟩
    have P1 := Lib.hid (Q1.out.later b3)
    have P2 := Lib.hid (Q2.out.later b3)
    have B3 : Hid (Below w.heap.size w w3) := Lib.hid (B2.out.trans (b3.mono B2.out.size))
    clear Q1 Q2 B2 b3 A10
    cases d2 with
    | true =>
      go_wp2_with fail
      refine (side2_any (w.heap.size + 1 + 1 + 1 + 1) ((⟨#[]⟩ : ByteArray)) false w3 (P1.out.cell rfl) (P1.out.cell rfl)).mono ?_
      rintro e w4 ⟨rfl, b4⟩
      have B4 : Hid (Below w.heap.size w w4) := Lib.hid (B3.out.trans (b4.mono B3.out.size))
      clear b4
      go_wp2_with fail
      go_ret3
      exact ⟨by rw [hR.out]; rfl, B4.out⟩
    | false =>
      have c0 : w3.cell? ⟨w.heap.size + 1 + 1 + 1 + 1, 0, none⟩ = some (.string o) := P1.out.cell rfl
      have c1 : w3.cell? ⟨w.heap.size + 1 + 1 + 1 + 1, 1, none⟩ = some (.string a) := P1.out.cell rfl
      have c2 : w3.cell? ⟨w.heap.size + 1 + 1 + 1 + 1, 2, none⟩ = some (.string (⟨#[]⟩ : ByteArray)) := P1.out.cell rfl
      have c3 : w3.cell? ⟨w.heap.size + 1 + 1 + 1 + 1, 3, none⟩ = some (.bool true) := P1.out.cell rfl
      have c4 : w3.cell? ⟨w.heap.size + 1 + 1 + 1 + 1, 4, none⟩ = some (.bool true) := P1.out.cell rfl
      have c5 : w3.cell? ⟨w.heap.size + 1 + 1 + 1 + 1, 5, none⟩ = some (.bool false) := P1.out.cell rfl
      go_wp2_with fail
      clear c0 c1 c2 c3 c4 c5
      refine (A20.out w3).mono ?_
      rintro e w4 ⟨rfl, b4⟩
      have Q1 := Lib.hid (P1.out.later b4)
      have Q2 := Lib.hid (P2.out.later b4)
      have B4 : Hid (Below w.heap.size w w4) := Lib.hid (B3.out.trans (b4.mono B3.out.size))
      clear P1 P2 B3 b4 A20
      cases d3 with
      | true =>
        go_wp2_with fail
        refine (side1_any (w.heap.size + 1 + 1 + 1 + 1) (a) true w4 (Q1.out.cell rfl) (Q1.out.cell rfl)).mono ?_
        rintro e w5 ⟨rfl, b5⟩
        have B5 : Hid (Below w.heap.size w w5) := Lib.hid (B4.out.trans (b5.mono B4.out.size))
        clear b5
        go_wp2_with fail
        go_ret3
        exact ⟨by rw [hR.out]; rfl, B5.out⟩
      | false =>
        have c0 : w4.cell? ⟨w.heap.size + 1 + 1 + 1 + 1, 0, none⟩ = some (.string o) := Q1.out.cell rfl
        have c1 : w4.cell? ⟨w.heap.size + 1 + 1 + 1 + 1, 1, none⟩ = some (.string a) := Q1.out.cell rfl
        have c2 : w4.cell? ⟨w.heap.size + 1 + 1 + 1 + 1, 2, none⟩ = some (.string (⟨#[]⟩ : ByteArray)) := Q1.out.cell rfl
        have c3 : w4.cell? ⟨w.heap.size + 1 + 1 + 1 + 1, 3, none⟩ = some (.bool true) := Q1.out.cell rfl
        have c4 : w4.cell? ⟨w.heap.size + 1 + 1 + 1 + 1, 4, none⟩ = some (.bool true) := Q1.out.cell rfl
        have c5 : w4.cell? ⟨w.heap.size + 1 + 1 + 1 + 1, 5, none⟩ = some (.bool false) := Q1.out.cell rfl
        have g1 : w4.cell? ⟨w.heap.size + 1 + 1 + 1, 1, none⟩ = some (.bool true) := Q2.out.cell rfl
        have g2 : w4.cell? ⟨w.heap.size + 1 + 1 + 1, 2, none⟩ = some (.bool false) := Q2.out.cell rfl
        go_wp2_with fail
        go_ret3
        exact ⟨by rw [hR.out]; rfl, B4.out⟩
set_option maxRecDepth 100000 in
set_option maxHeartbeats 16000000 in
theorem Three001 (k0 k1 k2 o a b : ByteArray) (w : World) (hW : X.LexW w) (hs : 4 ≤ w.heap.size) (h1 : o.size ≤ 600) (h2 : a.size ≤ 600) (h3 : b.size ≤ 600) : Calls Tryz.prog 29 #[segV (k0, o), segV (k1, a), segV (k2, b), .agg #[.bool false, .bool false, .bool true]] w fun e w' => e = .returned (.tuple #[.string (threeP o a b false false true).1, .bool (threeP o a b false false true).2.1, .int .i64 (threeP o a b false false true).2.2]) ∧ Below w.heap.size w w' := by
  have X0 := idx0 k0 k1 k2 o a b
  have X1 := idx1 k0 k1 k2 o a b
  have X2 := idx2 k0 k1 k2 o a b
  have Z : (⟨#[]⟩ : ByteArray).size ≤ 600 := Nat.zero_le _
  have m6 : 600 ≤ maxLen := by unfold maxLen; omega
  have A12 := fun W => alike12_any (⟨#[]⟩ : ByteArray) (⟨#[]⟩ : ByteArray) b false false true W (Nat.le_trans Z m6) (Nat.le_trans Z m6) (Nat.le_trans h3 m6)
  have A10 := fun W => alike10_any (⟨#[]⟩ : ByteArray) (⟨#[]⟩ : ByteArray) b false false true W (Nat.le_trans Z m6) (Nat.le_trans Z m6) (Nat.le_trans h3 m6)
  have A20 := fun W => alike20_any (⟨#[]⟩ : ByteArray) (⟨#[]⟩ : ByteArray) b false false true W (Nat.le_trans Z m6) (Nat.le_trans Z m6) (Nat.le_trans h3 m6)
  have AT := fun W (hW : X.LexW W) (hs : 4 ≤ W.heap.size) => Text_any (⟨#[]⟩ : ByteArray) (⟨#[]⟩ : ByteArray) b W hW hs Z Z h3
  have HW := Lib.hid hW
  obtain ⟨R, hR0⟩ : ∃ R, Hid (threeP o a b false false true = R) := ⟨_, Lib.hid rfl⟩
  obtain ⟨⟨Tt, tb⟩, hT⟩ : ∃ T, textP (⟨#[]⟩ : ByteArray) (⟨#[]⟩ : ByteArray) b = T := ⟨_, rfl⟩
  obtain ⟨d1, hd1⟩ : ∃ d, decide ((⟨#[]⟩ : ByteArray) = b ∧ false = true) = d := ⟨_, rfl⟩
  obtain ⟨d2, hd2⟩ : ∃ d, decide ((⟨#[]⟩ : ByteArray) = (⟨#[]⟩ : ByteArray) ∧ false = false) = d := ⟨_, rfl⟩
  obtain ⟨d3, hd3⟩ : ∃ d, decide (b = (⟨#[]⟩ : ByteArray) ∧ true = false) = d := ⟨_, rfl⟩
  have hR : R = threeD ((⟨#[]⟩ : ByteArray)) (b) false true d1 d2 d3 (Tt, tb) := by
    rw [← hR0.out, ← hd1, ← hd2, ← hd3, ← hT]
    exact threeD_of o a b false false true
  rw [hR0.out]
  rw [hT] at AT
  rw [hd1] at A12
  rw [hd2] at A10
  rw [hd3] at A20
  dsimp only at AT
  have hR := Lib.hid hR
  have AT := Lib.hid AT
  clear h1 h2 h3 m6 Z hW hT hR0 hd1 hd2 hd3
  unfold segV
  unfold verV at A12 A10 A20
  have A12 := Lib.hid A12
  have A10 := Lib.hid A10
  have A20 := Lib.hid A20
  go_enter Tryz.func29, Tryz.ntmps29
  go_wp2_with fail
  refine wp_loop_rounds 4 ?_
  repeat any_goals (rw [rounds_succ]; go_wp2_with fail)
  refine calls_gen (fun W => RowAt W (w.heap.size + 1 + 1 + 1 + 1) 85 #[.string (⟨#[]⟩ : ByteArray), .string (⟨#[]⟩ : ByteArray), .string b, .bool false, .bool false, .bool true] ∧ RowAt W (w.heap.size + 1 + 1 + 1) 44 #[.bool false, .bool false, .bool true] ∧ Below w.heap.size w W) ?_ ?_
  · refine ⟨?_, ?_, ?_⟩
    · refine RowAt.alloc (RowAt.alloc (RowAt.alloc (row_new ?_) _) _) _
      simp
    · refine RowAt.alloc (RowAt.alloc (RowAt.alloc (RowAt.alloc (row_new ?_) _) _) _) _
      simp
    repeat (first | exact Below.refl _ _ | refine Below.alloc ?_ (by first | (simp; done) | (simp; omega)) _)
  rintro W1 ⟨R1, R2, B1⟩
  refine (A12.out W1).mono ?_
  rintro e w2 ⟨rfl, b2⟩
  have Q1 := Lib.hid (R1.later b2)
  have Q2 := Lib.hid (R2.later b2)
  have B2 : Hid (Below w.heap.size w w2) := Lib.hid (B1.trans (b2.mono B1.size))
  clear R1 R2 B1 b2 A12
  cases d1 with
  | true =>
    go_wp2_with fail
    refine (side1_any (w.heap.size + 1 + 1 + 1 + 1) ((⟨#[]⟩ : ByteArray)) false w2 (Q1.out.cell rfl) (Q1.out.cell rfl)).mono ?_
    rintro e w3 ⟨rfl, b3⟩
    have B3 : Hid (Below w.heap.size w w3) := Lib.hid (B2.out.trans (b3.mono B2.out.size))
    clear b3
    go_wp2_with fail
    go_ret3
    exact ⟨by rw [hR.out]; rfl, B3.out⟩
  | false =>
    have c0 : w2.cell? ⟨w.heap.size + 1 + 1 + 1 + 1, 0, none⟩ = some (.string (⟨#[]⟩ : ByteArray)) := Q1.out.cell rfl
    have c1 : w2.cell? ⟨w.heap.size + 1 + 1 + 1 + 1, 1, none⟩ = some (.string (⟨#[]⟩ : ByteArray)) := Q1.out.cell rfl
    have c2 : w2.cell? ⟨w.heap.size + 1 + 1 + 1 + 1, 2, none⟩ = some (.string b) := Q1.out.cell rfl
    have c3 : w2.cell? ⟨w.heap.size + 1 + 1 + 1 + 1, 3, none⟩ = some (.bool false) := Q1.out.cell rfl
    have c4 : w2.cell? ⟨w.heap.size + 1 + 1 + 1 + 1, 4, none⟩ = some (.bool false) := Q1.out.cell rfl
    have c5 : w2.cell? ⟨w.heap.size + 1 + 1 + 1 + 1, 5, none⟩ = some (.bool true) := Q1.out.cell rfl
    go_wp2_with fail
    clear c0 c1 c2 c3 c4 c5
    refine (A10.out w2).mono ?_
    rintro e w3 ⟨rfl, b3⟩
    have P1 := Lib.hid (Q1.out.later b3)
    have P2 := Lib.hid (Q2.out.later b3)
    have B3 : Hid (Below w.heap.size w w3) := Lib.hid (B2.out.trans (b3.mono B2.out.size))
    clear Q1 Q2 B2 b3 A10
    cases d2 with
    | true =>
      go_wp2_with fail
      refine (side2_any (w.heap.size + 1 + 1 + 1 + 1) (b) true w3 (P1.out.cell rfl) (P1.out.cell rfl)).mono ?_
      rintro e w4 ⟨rfl, b4⟩
      have B4 : Hid (Below w.heap.size w w4) := Lib.hid (B3.out.trans (b4.mono B3.out.size))
      clear b4
      go_wp2_with fail
      go_ret3
      exact ⟨by rw [hR.out]; rfl, B4.out⟩
    | false =>
      have c0 : w3.cell? ⟨w.heap.size + 1 + 1 + 1 + 1, 0, none⟩ = some (.string (⟨#[]⟩ : ByteArray)) := P1.out.cell rfl
      have c1 : w3.cell? ⟨w.heap.size + 1 + 1 + 1 + 1, 1, none⟩ = some (.string (⟨#[]⟩ : ByteArray)) := P1.out.cell rfl
      have c2 : w3.cell? ⟨w.heap.size + 1 + 1 + 1 + 1, 2, none⟩ = some (.string b) := P1.out.cell rfl
      have c3 : w3.cell? ⟨w.heap.size + 1 + 1 + 1 + 1, 3, none⟩ = some (.bool false) := P1.out.cell rfl
      have c4 : w3.cell? ⟨w.heap.size + 1 + 1 + 1 + 1, 4, none⟩ = some (.bool false) := P1.out.cell rfl
      have c5 : w3.cell? ⟨w.heap.size + 1 + 1 + 1 + 1, 5, none⟩ = some (.bool true) := P1.out.cell rfl
      go_wp2_with fail
      clear c0 c1 c2 c3 c4 c5
      refine (A20.out w3).mono ?_
      rintro e w4 ⟨rfl, b4⟩
      have Q1 := Lib.hid (P1.out.later b4)
      have Q2 := Lib.hid (P2.out.later b4)
      have B4 : Hid (Below w.heap.size w w4) := Lib.hid (B3.out.trans (b4.mono B3.out.size))
      clear P1 P2 B3 b4 A20
      cases d3 with
      | true =>
        go_wp2_with fail
        refine (side1_any (w.heap.size + 1 + 1 + 1 + 1) ((⟨#[]⟩ : ByteArray)) false w4 (Q1.out.cell rfl) (Q1.out.cell rfl)).mono ?_
        rintro e w5 ⟨rfl, b5⟩
        have B5 : Hid (Below w.heap.size w w5) := Lib.hid (B4.out.trans (b5.mono B4.out.size))
        clear b5
        go_wp2_with fail
        go_ret3
        exact ⟨by rw [hR.out]; rfl, B5.out⟩
      | false =>
        have c0 : w4.cell? ⟨w.heap.size + 1 + 1 + 1 + 1, 0, none⟩ = some (.string (⟨#[]⟩ : ByteArray)) := Q1.out.cell rfl
        have c1 : w4.cell? ⟨w.heap.size + 1 + 1 + 1 + 1, 1, none⟩ = some (.string (⟨#[]⟩ : ByteArray)) := Q1.out.cell rfl
        have c2 : w4.cell? ⟨w.heap.size + 1 + 1 + 1 + 1, 2, none⟩ = some (.string b) := Q1.out.cell rfl
        have c3 : w4.cell? ⟨w.heap.size + 1 + 1 + 1 + 1, 3, none⟩ = some (.bool false) := Q1.out.cell rfl
        have c4 : w4.cell? ⟨w.heap.size + 1 + 1 + 1 + 1, 4, none⟩ = some (.bool false) := Q1.out.cell rfl
        have c5 : w4.cell? ⟨w.heap.size + 1 + 1 + 1 + 1, 5, none⟩ = some (.bool true) := Q1.out.cell rfl
        have g1 : w4.cell? ⟨w.heap.size + 1 + 1 + 1, 1, none⟩ = some (.bool false) := Q2.out.cell rfl
        have g2 : w4.cell? ⟨w.heap.size + 1 + 1 + 1, 2, none⟩ = some (.bool true) := Q2.out.cell rfl
        go_wp2_with fail
        go_ret3
        exact ⟨by rw [hR.out]; rfl, B4.out⟩
set_option maxRecDepth 100000 in
set_option maxHeartbeats 16000000 in
theorem Three101 (k0 k1 k2 o a b : ByteArray) (w : World) (hW : X.LexW w) (hs : 4 ≤ w.heap.size) (h1 : o.size ≤ 600) (h2 : a.size ≤ 600) (h3 : b.size ≤ 600) : Calls Tryz.prog 29 #[segV (k0, o), segV (k1, a), segV (k2, b), .agg #[.bool true, .bool false, .bool true]] w fun e w' => e = .returned (.tuple #[.string (threeP o a b true false true).1, .bool (threeP o a b true false true).2.1, .int .i64 (threeP o a b true false true).2.2]) ∧ Below w.heap.size w w' := by
  have X0 := idx0 k0 k1 k2 o a b
  have X1 := idx1 k0 k1 k2 o a b
  have X2 := idx2 k0 k1 k2 o a b
  have Z : (⟨#[]⟩ : ByteArray).size ≤ 600 := Nat.zero_le _
  have m6 : 600 ≤ maxLen := by unfold maxLen; omega
  have A12 := fun W => alike12_any o (⟨#[]⟩ : ByteArray) b true false true W (Nat.le_trans h1 m6) (Nat.le_trans Z m6) (Nat.le_trans h3 m6)
  have A10 := fun W => alike10_any o (⟨#[]⟩ : ByteArray) b true false true W (Nat.le_trans h1 m6) (Nat.le_trans Z m6) (Nat.le_trans h3 m6)
  have A20 := fun W => alike20_any o (⟨#[]⟩ : ByteArray) b true false true W (Nat.le_trans h1 m6) (Nat.le_trans Z m6) (Nat.le_trans h3 m6)
  have AT := fun W (hW : X.LexW W) (hs : 4 ≤ W.heap.size) => Text_any o (⟨#[]⟩ : ByteArray) b W hW hs h1 Z h3
  have HW := Lib.hid hW
  obtain ⟨R, hR0⟩ : ∃ R, Hid (threeP o a b true false true = R) := ⟨_, Lib.hid rfl⟩
  obtain ⟨⟨Tt, tb⟩, hT⟩ : ∃ T, textP o (⟨#[]⟩ : ByteArray) b = T := ⟨_, rfl⟩
  obtain ⟨d1, hd1⟩ : ∃ d, decide ((⟨#[]⟩ : ByteArray) = b ∧ false = true) = d := ⟨_, rfl⟩
  obtain ⟨d2, hd2⟩ : ∃ d, decide ((⟨#[]⟩ : ByteArray) = o ∧ false = true) = d := ⟨_, rfl⟩
  obtain ⟨d3, hd3⟩ : ∃ d, decide (b = o ∧ true = true) = d := ⟨_, rfl⟩
  have hR : R = threeD ((⟨#[]⟩ : ByteArray)) (b) false true d1 d2 d3 (Tt, tb) := by
    rw [← hR0.out, ← hd1, ← hd2, ← hd3, ← hT]
    exact threeD_of o a b true false true
  rw [hR0.out]
  rw [hT] at AT
  rw [hd1] at A12
  rw [hd2] at A10
  rw [hd3] at A20
  dsimp only at AT
  have hR := Lib.hid hR
  have AT := Lib.hid AT
  clear h1 h2 h3 m6 Z hW hT hR0 hd1 hd2 hd3
  unfold segV
  unfold verV at A12 A10 A20
  have A12 := Lib.hid A12
  have A10 := Lib.hid A10
  have A20 := Lib.hid A20
  go_enter Tryz.func29, Tryz.ntmps29
  go_wp2_with fail
  refine wp_loop_rounds 4 ?_
  repeat any_goals (rw [rounds_succ]; go_wp2_with fail)
  refine calls_gen (fun W => RowAt W (w.heap.size + 1 + 1 + 1 + 1) 85 #[.string o, .string (⟨#[]⟩ : ByteArray), .string b, .bool true, .bool false, .bool true] ∧ RowAt W (w.heap.size + 1 + 1 + 1) 44 #[.bool true, .bool false, .bool true] ∧ Below w.heap.size w W) ?_ ?_
  · refine ⟨?_, ?_, ?_⟩
    · refine RowAt.alloc (RowAt.alloc (RowAt.alloc (row_new ?_) _) _) _
      simp
    · refine RowAt.alloc (RowAt.alloc (RowAt.alloc (RowAt.alloc (row_new ?_) _) _) _) _
      simp
    repeat (first | exact Below.refl _ _ | refine Below.alloc ?_ (by first | (simp; done) | (simp; omega)) _)
  rintro W1 ⟨R1, R2, B1⟩
  refine (A12.out W1).mono ?_
  rintro e w2 ⟨rfl, b2⟩
  have Q1 := Lib.hid (R1.later b2)
  have Q2 := Lib.hid (R2.later b2)
  have B2 : Hid (Below w.heap.size w w2) := Lib.hid (B1.trans (b2.mono B1.size))
  clear R1 R2 B1 b2 A12
  cases d1 with
  | true =>
    go_wp2_with fail
    refine (side1_any (w.heap.size + 1 + 1 + 1 + 1) ((⟨#[]⟩ : ByteArray)) false w2 (Q1.out.cell rfl) (Q1.out.cell rfl)).mono ?_
    rintro e w3 ⟨rfl, b3⟩
    have B3 : Hid (Below w.heap.size w w3) := Lib.hid (B2.out.trans (b3.mono B2.out.size))
    clear b3
    go_wp2_with fail
    go_ret3
    exact ⟨by rw [hR.out]; rfl, B3.out⟩
  | false =>
    have c0 : w2.cell? ⟨w.heap.size + 1 + 1 + 1 + 1, 0, none⟩ = some (.string o) := Q1.out.cell rfl
    have c1 : w2.cell? ⟨w.heap.size + 1 + 1 + 1 + 1, 1, none⟩ = some (.string (⟨#[]⟩ : ByteArray)) := Q1.out.cell rfl
    have c2 : w2.cell? ⟨w.heap.size + 1 + 1 + 1 + 1, 2, none⟩ = some (.string b) := Q1.out.cell rfl
    have c3 : w2.cell? ⟨w.heap.size + 1 + 1 + 1 + 1, 3, none⟩ = some (.bool true) := Q1.out.cell rfl
    have c4 : w2.cell? ⟨w.heap.size + 1 + 1 + 1 + 1, 4, none⟩ = some (.bool false) := Q1.out.cell rfl
    have c5 : w2.cell? ⟨w.heap.size + 1 + 1 + 1 + 1, 5, none⟩ = some (.bool true) := Q1.out.cell rfl
    go_wp2_with fail
    clear c0 c1 c2 c3 c4 c5
    refine (A10.out w2).mono ?_
    rintro e w3 ⟨rfl, b3⟩
    have P1 := Lib.hid (Q1.out.later b3)
    have P2 := Lib.hid (Q2.out.later b3)
    have B3 : Hid (Below w.heap.size w w3) := Lib.hid (B2.out.trans (b3.mono B2.out.size))
    clear Q1 Q2 B2 b3 A10
    cases d2 with
    | true =>
      go_wp2_with fail
      refine (side2_any (w.heap.size + 1 + 1 + 1 + 1) (b) true w3 (P1.out.cell rfl) (P1.out.cell rfl)).mono ?_
      rintro e w4 ⟨rfl, b4⟩
      have B4 : Hid (Below w.heap.size w w4) := Lib.hid (B3.out.trans (b4.mono B3.out.size))
      clear b4
      go_wp2_with fail
      go_ret3
      exact ⟨by rw [hR.out]; rfl, B4.out⟩
    | false =>
      have c0 : w3.cell? ⟨w.heap.size + 1 + 1 + 1 + 1, 0, none⟩ = some (.string o) := P1.out.cell rfl
      have c1 : w3.cell? ⟨w.heap.size + 1 + 1 + 1 + 1, 1, none⟩ = some (.string (⟨#[]⟩ : ByteArray)) := P1.out.cell rfl
      have c2 : w3.cell? ⟨w.heap.size + 1 + 1 + 1 + 1, 2, none⟩ = some (.string b) := P1.out.cell rfl
      have c3 : w3.cell? ⟨w.heap.size + 1 + 1 + 1 + 1, 3, none⟩ = some (.bool true) := P1.out.cell rfl
      have c4 : w3.cell? ⟨w.heap.size + 1 + 1 + 1 + 1, 4, none⟩ = some (.bool false) := P1.out.cell rfl
      have c5 : w3.cell? ⟨w.heap.size + 1 + 1 + 1 + 1, 5, none⟩ = some (.bool true) := P1.out.cell rfl
      go_wp2_with fail
      clear c0 c1 c2 c3 c4 c5
      refine (A20.out w3).mono ?_
      rintro e w4 ⟨rfl, b4⟩
      have Q1 := Lib.hid (P1.out.later b4)
      have Q2 := Lib.hid (P2.out.later b4)
      have B4 : Hid (Below w.heap.size w w4) := Lib.hid (B3.out.trans (b4.mono B3.out.size))
      clear P1 P2 B3 b4 A20
      cases d3 with
      | true =>
        go_wp2_with fail
        refine (side1_any (w.heap.size + 1 + 1 + 1 + 1) ((⟨#[]⟩ : ByteArray)) false w4 (Q1.out.cell rfl) (Q1.out.cell rfl)).mono ?_
        rintro e w5 ⟨rfl, b5⟩
        have B5 : Hid (Below w.heap.size w w5) := Lib.hid (B4.out.trans (b5.mono B4.out.size))
        clear b5
        go_wp2_with fail
        go_ret3
        exact ⟨by rw [hR.out]; rfl, B5.out⟩
      | false =>
        have c0 : w4.cell? ⟨w.heap.size + 1 + 1 + 1 + 1, 0, none⟩ = some (.string o) := Q1.out.cell rfl
        have c1 : w4.cell? ⟨w.heap.size + 1 + 1 + 1 + 1, 1, none⟩ = some (.string (⟨#[]⟩ : ByteArray)) := Q1.out.cell rfl
        have c2 : w4.cell? ⟨w.heap.size + 1 + 1 + 1 + 1, 2, none⟩ = some (.string b) := Q1.out.cell rfl
        have c3 : w4.cell? ⟨w.heap.size + 1 + 1 + 1 + 1, 3, none⟩ = some (.bool true) := Q1.out.cell rfl
        have c4 : w4.cell? ⟨w.heap.size + 1 + 1 + 1 + 1, 4, none⟩ = some (.bool false) := Q1.out.cell rfl
        have c5 : w4.cell? ⟨w.heap.size + 1 + 1 + 1 + 1, 5, none⟩ = some (.bool true) := Q1.out.cell rfl
        have g1 : w4.cell? ⟨w.heap.size + 1 + 1 + 1, 1, none⟩ = some (.bool false) := Q2.out.cell rfl
        have g2 : w4.cell? ⟨w.heap.size + 1 + 1 + 1, 2, none⟩ = some (.bool true) := Q2.out.cell rfl
        go_wp2_with fail
        go_ret3
        exact ⟨by rw [hR.out]; rfl, B4.out⟩
set_option maxRecDepth 100000 in
set_option maxHeartbeats 16000000 in
theorem Three011 (k0 k1 k2 o a b : ByteArray) (w : World) (hW : X.LexW w) (hs : 4 ≤ w.heap.size) (h1 : o.size ≤ 600) (h2 : a.size ≤ 600) (h3 : b.size ≤ 600) : Calls Tryz.prog 29 #[segV (k0, o), segV (k1, a), segV (k2, b), .agg #[.bool false, .bool true, .bool true]] w fun e w' => e = .returned (.tuple #[.string (threeP o a b false true true).1, .bool (threeP o a b false true true).2.1, .int .i64 (threeP o a b false true true).2.2]) ∧ Below w.heap.size w w' := by
  have X0 := idx0 k0 k1 k2 o a b
  have X1 := idx1 k0 k1 k2 o a b
  have X2 := idx2 k0 k1 k2 o a b
  have Z : (⟨#[]⟩ : ByteArray).size ≤ 600 := Nat.zero_le _
  have m6 : 600 ≤ maxLen := by unfold maxLen; omega
  have A12 := fun W => alike12_any (⟨#[]⟩ : ByteArray) a b false true true W (Nat.le_trans Z m6) (Nat.le_trans h2 m6) (Nat.le_trans h3 m6)
  have A10 := fun W => alike10_any (⟨#[]⟩ : ByteArray) a b false true true W (Nat.le_trans Z m6) (Nat.le_trans h2 m6) (Nat.le_trans h3 m6)
  have A20 := fun W => alike20_any (⟨#[]⟩ : ByteArray) a b false true true W (Nat.le_trans Z m6) (Nat.le_trans h2 m6) (Nat.le_trans h3 m6)
  have AT := fun W (hW : X.LexW W) (hs : 4 ≤ W.heap.size) => Text_any (⟨#[]⟩ : ByteArray) a b W hW hs Z h2 h3
  have HW := Lib.hid hW
  obtain ⟨R, hR0⟩ : ∃ R, Hid (threeP o a b false true true = R) := ⟨_, Lib.hid rfl⟩
  obtain ⟨⟨Tt, tb⟩, hT⟩ : ∃ T, textP (⟨#[]⟩ : ByteArray) a b = T := ⟨_, rfl⟩
  obtain ⟨d1, hd1⟩ : ∃ d, decide (a = b ∧ true = true) = d := ⟨_, rfl⟩
  obtain ⟨d2, hd2⟩ : ∃ d, decide (a = (⟨#[]⟩ : ByteArray) ∧ true = false) = d := ⟨_, rfl⟩
  obtain ⟨d3, hd3⟩ : ∃ d, decide (b = (⟨#[]⟩ : ByteArray) ∧ true = false) = d := ⟨_, rfl⟩
  have hR : R = threeD (a) (b) true true d1 d2 d3 (Tt, tb) := by
    rw [← hR0.out, ← hd1, ← hd2, ← hd3, ← hT]
    exact threeD_of o a b false true true
  rw [hR0.out]
  rw [hT] at AT
  rw [hd1] at A12
  rw [hd2] at A10
  rw [hd3] at A20
  dsimp only at AT
  have hR := Lib.hid hR
  have AT := Lib.hid AT
  clear h1 h2 h3 m6 Z hW hT hR0 hd1 hd2 hd3
  unfold segV
  unfold verV at A12 A10 A20
  have A12 := Lib.hid A12
  have A10 := Lib.hid A10
  have A20 := Lib.hid A20
  go_enter Tryz.func29, Tryz.ntmps29
  go_wp2_with fail
  refine wp_loop_rounds 4 ?_
  repeat any_goals (rw [rounds_succ]; go_wp2_with fail)
  refine calls_gen (fun W => RowAt W (w.heap.size + 1 + 1 + 1 + 1) 85 #[.string (⟨#[]⟩ : ByteArray), .string a, .string b, .bool false, .bool true, .bool true] ∧ RowAt W (w.heap.size + 1 + 1 + 1) 44 #[.bool false, .bool true, .bool true] ∧ Below w.heap.size w W) ?_ ?_
  · refine ⟨?_, ?_, ?_⟩
    · refine RowAt.alloc (RowAt.alloc (RowAt.alloc (row_new ?_) _) _) _
      simp
    · refine RowAt.alloc (RowAt.alloc (RowAt.alloc (RowAt.alloc (row_new ?_) _) _) _) _
      simp
    repeat (first | exact Below.refl _ _ | refine Below.alloc ?_ (by first | (simp; done) | (simp; omega)) _)
  rintro W1 ⟨R1, R2, B1⟩
  refine (A12.out W1).mono ?_
  rintro e w2 ⟨rfl, b2⟩
  have Q1 := Lib.hid (R1.later b2)
  have Q2 := Lib.hid (R2.later b2)
  have B2 : Hid (Below w.heap.size w w2) := Lib.hid (B1.trans (b2.mono B1.size))
  clear R1 R2 B1 b2 A12
  cases d1 with
  | true =>
    go_wp2_with fail
    refine (side1_any (w.heap.size + 1 + 1 + 1 + 1) (a) true w2 (Q1.out.cell rfl) (Q1.out.cell rfl)).mono ?_
    rintro e w3 ⟨rfl, b3⟩
    have B3 : Hid (Below w.heap.size w w3) := Lib.hid (B2.out.trans (b3.mono B2.out.size))
    clear b3
    go_wp2_with fail
    go_ret3
    exact ⟨by rw [hR.out]; rfl, B3.out⟩
  | false =>
    have c0 : w2.cell? ⟨w.heap.size + 1 + 1 + 1 + 1, 0, none⟩ = some (.string (⟨#[]⟩ : ByteArray)) := Q1.out.cell rfl
    have c1 : w2.cell? ⟨w.heap.size + 1 + 1 + 1 + 1, 1, none⟩ = some (.string a) := Q1.out.cell rfl
    have c2 : w2.cell? ⟨w.heap.size + 1 + 1 + 1 + 1, 2, none⟩ = some (.string b) := Q1.out.cell rfl
    have c3 : w2.cell? ⟨w.heap.size + 1 + 1 + 1 + 1, 3, none⟩ = some (.bool false) := Q1.out.cell rfl
    have c4 : w2.cell? ⟨w.heap.size + 1 + 1 + 1 + 1, 4, none⟩ = some (.bool true) := Q1.out.cell rfl
    have c5 : w2.cell? ⟨w.heap.size + 1 + 1 + 1 + 1, 5, none⟩ = some (.bool true) := Q1.out.cell rfl
    go_wp2_with fail
    clear c0 c1 c2 c3 c4 c5
    refine (A10.out w2).mono ?_
    rintro e w3 ⟨rfl, b3⟩
    have P1 := Lib.hid (Q1.out.later b3)
    have P2 := Lib.hid (Q2.out.later b3)
    have B3 : Hid (Below w.heap.size w w3) := Lib.hid (B2.out.trans (b3.mono B2.out.size))
    clear Q1 Q2 B2 b3 A10
    cases d2 with
    | true =>
      go_wp2_with fail
      refine (side2_any (w.heap.size + 1 + 1 + 1 + 1) (b) true w3 (P1.out.cell rfl) (P1.out.cell rfl)).mono ?_
      rintro e w4 ⟨rfl, b4⟩
      have B4 : Hid (Below w.heap.size w w4) := Lib.hid (B3.out.trans (b4.mono B3.out.size))
      clear b4
      go_wp2_with fail
      go_ret3
      exact ⟨by rw [hR.out]; rfl, B4.out⟩
    | false =>
      have c0 : w3.cell? ⟨w.heap.size + 1 + 1 + 1 + 1, 0, none⟩ = some (.string (⟨#[]⟩ : ByteArray)) := P1.out.cell rfl
      have c1 : w3.cell? ⟨w.heap.size + 1 + 1 + 1 + 1, 1, none⟩ = some (.string a) := P1.out.cell rfl
      have c2 : w3.cell? ⟨w.heap.size + 1 + 1 + 1 + 1, 2, none⟩ = some (.string b) := P1.out.cell rfl
      have c3 : w3.cell? ⟨w.heap.size + 1 + 1 + 1 + 1, 3, none⟩ = some (.bool false) := P1.out.cell rfl
      have c4 : w3.cell? ⟨w.heap.size + 1 + 1 + 1 + 1, 4, none⟩ = some (.bool true) := P1.out.cell rfl
      have c5 : w3.cell? ⟨w.heap.size + 1 + 1 + 1 + 1, 5, none⟩ = some (.bool true) := P1.out.cell rfl
      go_wp2_with fail
      clear c0 c1 c2 c3 c4 c5
      refine (A20.out w3).mono ?_
      rintro e w4 ⟨rfl, b4⟩
      have Q1 := Lib.hid (P1.out.later b4)
      have Q2 := Lib.hid (P2.out.later b4)
      have B4 : Hid (Below w.heap.size w w4) := Lib.hid (B3.out.trans (b4.mono B3.out.size))
      clear P1 P2 B3 b4 A20
      cases d3 with
      | true =>
        go_wp2_with fail
        refine (side1_any (w.heap.size + 1 + 1 + 1 + 1) (a) true w4 (Q1.out.cell rfl) (Q1.out.cell rfl)).mono ?_
        rintro e w5 ⟨rfl, b5⟩
        have B5 : Hid (Below w.heap.size w w5) := Lib.hid (B4.out.trans (b5.mono B4.out.size))
        clear b5
        go_wp2_with fail
        go_ret3
        exact ⟨by rw [hR.out]; rfl, B5.out⟩
      | false =>
        have c0 : w4.cell? ⟨w.heap.size + 1 + 1 + 1 + 1, 0, none⟩ = some (.string (⟨#[]⟩ : ByteArray)) := Q1.out.cell rfl
        have c1 : w4.cell? ⟨w.heap.size + 1 + 1 + 1 + 1, 1, none⟩ = some (.string a) := Q1.out.cell rfl
        have c2 : w4.cell? ⟨w.heap.size + 1 + 1 + 1 + 1, 2, none⟩ = some (.string b) := Q1.out.cell rfl
        have c3 : w4.cell? ⟨w.heap.size + 1 + 1 + 1 + 1, 3, none⟩ = some (.bool false) := Q1.out.cell rfl
        have c4 : w4.cell? ⟨w.heap.size + 1 + 1 + 1 + 1, 4, none⟩ = some (.bool true) := Q1.out.cell rfl
        have c5 : w4.cell? ⟨w.heap.size + 1 + 1 + 1 + 1, 5, none⟩ = some (.bool true) := Q1.out.cell rfl
        have g1 : w4.cell? ⟨w.heap.size + 1 + 1 + 1, 1, none⟩ = some (.bool true) := Q2.out.cell rfl
        have g2 : w4.cell? ⟨w.heap.size + 1 + 1 + 1, 2, none⟩ = some (.bool true) := Q2.out.cell rfl
        have Z := Lib.hid (AT.out w4 (HW.out.below B4.out hs) (Nat.le_trans hs B4.out.size))
        cases tb <;>
          (go_wp2_with fail
           refine Z.out.mono ?_
           rintro e w5 ⟨rfl, b5⟩
           have B5 : Hid (Below w.heap.size w w5) := Lib.hid (B4.out.trans (b5.mono B4.out.size))
           clear b5 c0 c1 c2 c3 c4 c5 g1 g2
           go_wp2_with fail
           go_ret3
           exact ⟨by rw [hR.out]; rfl, B5.out⟩)
set_option maxRecDepth 100000 in
set_option maxHeartbeats 16000000 in
theorem Three111 (k0 k1 k2 o a b : ByteArray) (w : World) (hW : X.LexW w) (hs : 4 ≤ w.heap.size) (h1 : o.size ≤ 600) (h2 : a.size ≤ 600) (h3 : b.size ≤ 600) : Calls Tryz.prog 29 #[segV (k0, o), segV (k1, a), segV (k2, b), .agg #[.bool true, .bool true, .bool true]] w fun e w' => e = .returned (.tuple #[.string (threeP o a b true true true).1, .bool (threeP o a b true true true).2.1, .int .i64 (threeP o a b true true true).2.2]) ∧ Below w.heap.size w w' := by
  have X0 := idx0 k0 k1 k2 o a b
  have X1 := idx1 k0 k1 k2 o a b
  have X2 := idx2 k0 k1 k2 o a b
  have Z : (⟨#[]⟩ : ByteArray).size ≤ 600 := Nat.zero_le _
  have m6 : 600 ≤ maxLen := by unfold maxLen; omega
  have A12 := fun W => alike12_any o a b true true true W (Nat.le_trans h1 m6) (Nat.le_trans h2 m6) (Nat.le_trans h3 m6)
  have A10 := fun W => alike10_any o a b true true true W (Nat.le_trans h1 m6) (Nat.le_trans h2 m6) (Nat.le_trans h3 m6)
  have A20 := fun W => alike20_any o a b true true true W (Nat.le_trans h1 m6) (Nat.le_trans h2 m6) (Nat.le_trans h3 m6)
  have AT := fun W (hW : X.LexW W) (hs : 4 ≤ W.heap.size) => Text_any o a b W hW hs h1 h2 h3
  have HW := Lib.hid hW
  obtain ⟨R, hR0⟩ : ∃ R, Hid (threeP o a b true true true = R) := ⟨_, Lib.hid rfl⟩
  obtain ⟨⟨Tt, tb⟩, hT⟩ : ∃ T, textP o a b = T := ⟨_, rfl⟩
  obtain ⟨d1, hd1⟩ : ∃ d, decide (a = b ∧ true = true) = d := ⟨_, rfl⟩
  obtain ⟨d2, hd2⟩ : ∃ d, decide (a = o ∧ true = true) = d := ⟨_, rfl⟩
  obtain ⟨d3, hd3⟩ : ∃ d, decide (b = o ∧ true = true) = d := ⟨_, rfl⟩
  have hR : R = threeD (a) (b) true true d1 d2 d3 (Tt, tb) := by
    rw [← hR0.out, ← hd1, ← hd2, ← hd3, ← hT]
    exact threeD_of o a b true true true
  rw [hR0.out]
  rw [hT] at AT
  rw [hd1] at A12
  rw [hd2] at A10
  rw [hd3] at A20
  dsimp only at AT
  have hR := Lib.hid hR
  have AT := Lib.hid AT
  clear h1 h2 h3 m6 Z hW hT hR0 hd1 hd2 hd3
  unfold segV
  unfold verV at A12 A10 A20
  have A12 := Lib.hid A12
  have A10 := Lib.hid A10
  have A20 := Lib.hid A20
  go_enter Tryz.func29, Tryz.ntmps29
  go_wp2_with fail
  refine wp_loop_rounds 4 ?_
  repeat any_goals (rw [rounds_succ]; go_wp2_with fail)
  refine calls_gen (fun W => RowAt W (w.heap.size + 1 + 1 + 1 + 1) 85 #[.string o, .string a, .string b, .bool true, .bool true, .bool true] ∧ RowAt W (w.heap.size + 1 + 1 + 1) 44 #[.bool true, .bool true, .bool true] ∧ Below w.heap.size w W) ?_ ?_
  · refine ⟨?_, ?_, ?_⟩
    · refine RowAt.alloc (RowAt.alloc (RowAt.alloc (row_new ?_) _) _) _
      simp
    · refine RowAt.alloc (RowAt.alloc (RowAt.alloc (RowAt.alloc (row_new ?_) _) _) _) _
      simp
    repeat (first | exact Below.refl _ _ | refine Below.alloc ?_ (by first | (simp; done) | (simp; omega)) _)
  rintro W1 ⟨R1, R2, B1⟩
  refine (A12.out W1).mono ?_
  rintro e w2 ⟨rfl, b2⟩
  have Q1 := Lib.hid (R1.later b2)
  have Q2 := Lib.hid (R2.later b2)
  have B2 : Hid (Below w.heap.size w w2) := Lib.hid (B1.trans (b2.mono B1.size))
  clear R1 R2 B1 b2 A12
  cases d1 with
  | true =>
    go_wp2_with fail
    refine (side1_any (w.heap.size + 1 + 1 + 1 + 1) (a) true w2 (Q1.out.cell rfl) (Q1.out.cell rfl)).mono ?_
    rintro e w3 ⟨rfl, b3⟩
    have B3 : Hid (Below w.heap.size w w3) := Lib.hid (B2.out.trans (b3.mono B2.out.size))
    clear b3
    go_wp2_with fail
    go_ret3
    exact ⟨by rw [hR.out]; rfl, B3.out⟩
  | false =>
    have c0 : w2.cell? ⟨w.heap.size + 1 + 1 + 1 + 1, 0, none⟩ = some (.string o) := Q1.out.cell rfl
    have c1 : w2.cell? ⟨w.heap.size + 1 + 1 + 1 + 1, 1, none⟩ = some (.string a) := Q1.out.cell rfl
    have c2 : w2.cell? ⟨w.heap.size + 1 + 1 + 1 + 1, 2, none⟩ = some (.string b) := Q1.out.cell rfl
    have c3 : w2.cell? ⟨w.heap.size + 1 + 1 + 1 + 1, 3, none⟩ = some (.bool true) := Q1.out.cell rfl
    have c4 : w2.cell? ⟨w.heap.size + 1 + 1 + 1 + 1, 4, none⟩ = some (.bool true) := Q1.out.cell rfl
    have c5 : w2.cell? ⟨w.heap.size + 1 + 1 + 1 + 1, 5, none⟩ = some (.bool true) := Q1.out.cell rfl
    go_wp2_with fail
    clear c0 c1 c2 c3 c4 c5
    refine (A10.out w2).mono ?_
    rintro e w3 ⟨rfl, b3⟩
    have P1 := Lib.hid (Q1.out.later b3)
    have P2 := Lib.hid (Q2.out.later b3)
    have B3 : Hid (Below w.heap.size w w3) := Lib.hid (B2.out.trans (b3.mono B2.out.size))
    clear Q1 Q2 B2 b3 A10
    cases d2 with
    | true =>
      go_wp2_with fail
      refine (side2_any (w.heap.size + 1 + 1 + 1 + 1) (b) true w3 (P1.out.cell rfl) (P1.out.cell rfl)).mono ?_
      rintro e w4 ⟨rfl, b4⟩
      have B4 : Hid (Below w.heap.size w w4) := Lib.hid (B3.out.trans (b4.mono B3.out.size))
      clear b4
      go_wp2_with fail
      go_ret3
      exact ⟨by rw [hR.out]; rfl, B4.out⟩
    | false =>
      have c0 : w3.cell? ⟨w.heap.size + 1 + 1 + 1 + 1, 0, none⟩ = some (.string o) := P1.out.cell rfl
      have c1 : w3.cell? ⟨w.heap.size + 1 + 1 + 1 + 1, 1, none⟩ = some (.string a) := P1.out.cell rfl
      have c2 : w3.cell? ⟨w.heap.size + 1 + 1 + 1 + 1, 2, none⟩ = some (.string b) := P1.out.cell rfl
      have c3 : w3.cell? ⟨w.heap.size + 1 + 1 + 1 + 1, 3, none⟩ = some (.bool true) := P1.out.cell rfl
      have c4 : w3.cell? ⟨w.heap.size + 1 + 1 + 1 + 1, 4, none⟩ = some (.bool true) := P1.out.cell rfl
      have c5 : w3.cell? ⟨w.heap.size + 1 + 1 + 1 + 1, 5, none⟩ = some (.bool true) := P1.out.cell rfl
      go_wp2_with fail
      clear c0 c1 c2 c3 c4 c5
      refine (A20.out w3).mono ?_
      rintro e w4 ⟨rfl, b4⟩
      have Q1 := Lib.hid (P1.out.later b4)
      have Q2 := Lib.hid (P2.out.later b4)
      have B4 : Hid (Below w.heap.size w w4) := Lib.hid (B3.out.trans (b4.mono B3.out.size))
      clear P1 P2 B3 b4 A20
      cases d3 with
      | true =>
        go_wp2_with fail
        refine (side1_any (w.heap.size + 1 + 1 + 1 + 1) (a) true w4 (Q1.out.cell rfl) (Q1.out.cell rfl)).mono ?_
        rintro e w5 ⟨rfl, b5⟩
        have B5 : Hid (Below w.heap.size w w5) := Lib.hid (B4.out.trans (b5.mono B4.out.size))
        clear b5
        go_wp2_with fail
        go_ret3
        exact ⟨by rw [hR.out]; rfl, B5.out⟩
      | false =>
        have c0 : w4.cell? ⟨w.heap.size + 1 + 1 + 1 + 1, 0, none⟩ = some (.string o) := Q1.out.cell rfl
        have c1 : w4.cell? ⟨w.heap.size + 1 + 1 + 1 + 1, 1, none⟩ = some (.string a) := Q1.out.cell rfl
        have c2 : w4.cell? ⟨w.heap.size + 1 + 1 + 1 + 1, 2, none⟩ = some (.string b) := Q1.out.cell rfl
        have c3 : w4.cell? ⟨w.heap.size + 1 + 1 + 1 + 1, 3, none⟩ = some (.bool true) := Q1.out.cell rfl
        have c4 : w4.cell? ⟨w.heap.size + 1 + 1 + 1 + 1, 4, none⟩ = some (.bool true) := Q1.out.cell rfl
        have c5 : w4.cell? ⟨w.heap.size + 1 + 1 + 1 + 1, 5, none⟩ = some (.bool true) := Q1.out.cell rfl
        have g1 : w4.cell? ⟨w.heap.size + 1 + 1 + 1, 1, none⟩ = some (.bool true) := Q2.out.cell rfl
        have g2 : w4.cell? ⟨w.heap.size + 1 + 1 + 1, 2, none⟩ = some (.bool true) := Q2.out.cell rfl
        have Z := Lib.hid (AT.out w4 (HW.out.below B4.out hs) (Nat.le_trans hs B4.out.size))
        cases tb <;>
          (go_wp2_with fail
           refine Z.out.mono ?_
           rintro e w5 ⟨rfl, b5⟩
           have B5 : Hid (Below w.heap.size w w5) := Lib.hid (B4.out.trans (b5.mono B4.out.size))
           clear b5 c0 c1 c2 c3 c4 c5 g1 g2
           go_wp2_with fail
           go_ret3
           exact ⟨by rw [hR.out]; rfl, B5.out⟩)
theorem Three_any (k0 k1 k2 o a b : ByteArray) (p q r : Bool) (w : World) (hW : X.LexW w) (hs : 4 ≤ w.heap.size) (h1 : o.size ≤ 600) (h2 : a.size ≤ 600) (h3 : b.size ≤ 600) : Calls Tryz.prog 29 #[segV (k0, o), segV (k1, a), segV (k2, b), .agg #[.bool p, .bool q, .bool r]] w fun e w' => e = .returned (.tuple #[.string (threeP o a b p q r).1, .bool (threeP o a b p q r).2.1, .int .i64 (threeP o a b p q r).2.2]) ∧ Below w.heap.size w w' := by
  cases p <;> cases q <;> cases r
  · exact Three000 k0 k1 k2 o a b w hW hs h1 h2 h3
  · exact Three001 k0 k1 k2 o a b w hW hs h1 h2 h3
  · exact Three010 k0 k1 k2 o a b w hW hs h1 h2 h3
  · exact Three011 k0 k1 k2 o a b w hW hs h1 h2 h3
  · exact Three100 k0 k1 k2 o a b w hW hs h1 h2 h3
  · exact Three101 k0 k1 k2 o a b w hW hs h1 h2 h3
  · exact Three110 k0 k1 k2 o a b w hW hs h1 h2 h3
  · exact Three111 k0 k1 k2 o a b w hW hs h1 h2 h3
end Go.Proofs.YtfjmhnnjgjcmeaaGreatDoor
