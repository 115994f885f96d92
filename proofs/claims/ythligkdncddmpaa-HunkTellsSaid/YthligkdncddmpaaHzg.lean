/-
  For the law HunkTells: it returns true for any row of numbers, any number, and any rows of texts. No condition but what can be read.
-/
import Derived.Test.YthligkdncddmpaaHzd
import Derived.Test.YthligkdncddmpaaHv
import Derived.Deep.RegionHeld3
namespace Go.Proofs.Ythligkdncddmpaa
open Go.RowKit Go.ChangeShapes Go.WideShapes Go.ChangeAt Go.Deep
set_option linter.unusedVariables false

theorem cellsOf27 : Try.prog.cellsOf 27 = 1 := by kernel_rfl
section
variable {H : Type} {enc : TypeId × Value → H} {W : World} {sp : Nat → Bool} {r : Reach} {b0 : Nat} {v : Value} {d : DataW H} {p : List MemPlace}
theorem strs_of_trod {fuel : Nat} {x : DataW H × List MemPlace} (hf : DataW.trod enc Try.prog W 0 sp true fuel 27 [v] = some x) : ∃ ss : List ByteArray, Vals W v (ss.map Value.string) ∧ ∀ s ∈ ss, s.size ≤ maxLen := by
  rcases Go.ChangeShapes.open_strings Try.underlying27 Try.underlying9 cellsOf9 hf with ⟨hcs, hx⟩ | ⟨a, len, cap, ss, hcs, _, hl, hm, hz, hx, hcell, hws⟩
  · obtain rfl : v = .slice none 0 0 := by simpa using hcs
    exact ⟨[], vals_nil W, by simp⟩
  · obtain rfl : v = .slice (some a) len cap := by simpa using hcs
    have hlz : len ≤ ss.length := by rw [hz]; split <;> omega
    have hlen : (ss.take len).length = len := by rw [List.length_take]; omega
    refine ⟨ss.take len, ⟨some a, cap, by rw [List.length_map, hlen], by rw [List.length_map]; omega, by omega, ?_⟩, fun s hs => hws s (List.mem_of_mem_take hs)⟩
    by_cases h0 : len = 0
    · left; subst h0; simp
    · right
      obtain ⟨blk, off, rfl, hblk⟩ := addr_of_cell (hcell 0 (by omega))
      refine ⟨blk, off, rfl, hblk, fun j x hj => ?_⟩
      rw [List.getElem?_map] at hj
      have hj2 : j < len := by
        by_cases e : j < len
        · exact e
        · rw [List.getElem?_eq_none (by omega)] at hj; cases hj
      have hc := hcell j (by omega)
      rw [List.getElem?_take_of_lt hj2, List.getElem?_eq_getElem (by omega)] at hj
      simp at hj
      rw [← add_flat, hc, ← hj]
      simp [List.getD_eq_getElem?_getD, List.getElem?_eq_getElem (show j < ss.length by omega)]
/-- Rows of texts: the value is a slice of values, each of which reads as texts. -/
def Strss (W : World) (v : Value) (x : List (Value × List ByteArray)) : Prop := Vals W v (x.map Prod.fst) ∧ ∀ q ∈ x, Vals W q.1 (q.2.map Value.string) ∧ ∀ s ∈ q.2, s.size ≤ maxLen
theorem strss_of_arg (hv : Value.okWide Try.prog W r b0 31 v) (h : DataW.Trod enc Try.prog W 0 sp true 31 v d p) : ∃ x : List (Value × List ByteArray), Strss W v x := by
  obtain ⟨a1, len, cap, rfl⟩ := okWide_slice Try.underlying31 hv
  obtain ⟨fuel, hf⟩ := h
  rcases open_slice1 Try.underlying31 cellsOf27 hf with ⟨hcs, hx⟩ | ⟨a, len', cap', m, n, V, D, Pl, hcs, _, hl, hm, hmm, hx, hi⟩
  · simp [Value.cells] at hcs
    obtain ⟨rfl, rfl, rfl⟩ := hcs
    exact ⟨[], vals_nil W, by simp⟩
  · simp [Value.cells] at hcs
    obtain ⟨rfl, rfl, rfl⟩ := hcs
    have hlm : len ≤ m := by rw [hmm]; split <;> omega
    obtain ⟨L, hL1, hL2⟩ := list_of len (fun i (q : Value × List ByteArray) => q.1 = V i ∧ W.cell? (a.add i) = some q.1 ∧ Vals W q.1 (q.2.map Value.string) ∧ ∀ s ∈ q.2, s.size ≤ maxLen) (fun i hil => by
      obtain ⟨hc, ht⟩ := hi i (by omega)
      obtain ⟨ss, h1, h2⟩ := strs_of_trod ht
      exact ⟨(V i, ss), rfl, hc, h1, h2⟩)
    refine ⟨L, ⟨some a, cap, by rw [List.length_map, hL1], by rw [List.length_map]; omega, by omega, ?_⟩, fun q hq => ?_⟩
    · by_cases h0 : len = 0
      · left; rw [List.eq_nil_of_length_eq_zero (show L.length = 0 by omega)]; rfl
      · right
        obtain ⟨blk, off, rfl, hblk⟩ := addr_of_cell (hi 0 (by omega)).1
        refine ⟨blk, off, rfl, hblk, fun j x hj => ?_⟩
        rw [List.getElem?_map] at hj
        cases hq : L[j]? with
        | none => rw [hq] at hj; cases hj
        | some q =>
          rw [hq] at hj
          obtain rfl : q.1 = x := by simpa using hj
          obtain ⟨-, hc, -⟩ := hL2 j q hq
          rw [← add_flat]
          exact hc
    · obtain ⟨j, hj⟩ := List.getElem?_of_mem hq
      exact (hL2 j q hj).2.2
end

set_option maxRecDepth 100000 in
set_option maxHeartbeats 16000000 in
theorem HunkTells_in (v : Value) (M : List Int) (n : Int) (bt ot kt lt : Nat) (p1 p2 : Option Addr) (k1 k2 : Nat) (a b : List ByteArray) (w : World) (hM : Ints w .i64 v M) (hlM : M.length ≤ 200) (hn : n ≤ 1000000) (hlt : 2 ≤ lt) (hkt : lt ≤ kt) (hkm : kt ≤ maxLen) (hbt : bt < w.heap.size)
    (e0 : w.cell? ⟨bt, ot, none⟩ = some (.slice p1 a.length k1)) (e1 : w.cell? ⟨bt, ot + 1, none⟩ = some (.slice p2 b.length k2))
    (h1 : Vals w (.slice p1 a.length k1) (a.map .string)) (h2 : Vals w (.slice p2 b.length k2) (b.map .string)) (hs1 : ∀ s ∈ a, s.size ≤ maxLen) (hs2 : ∀ s ∈ b, s.size ≤ maxLen) (hla : a.length ≤ 100) (hlb : b.length ≤ 100) :
    Calls Try.prog 8 #[v, .int .i64 n, .slice (some ⟨bt, ot, none⟩) lt kt] w fun e w' => e = .returned (.bool true) ∧ Below w.heap.size w w' := by
  have H1 := Lib.hid h1; clear h1
  have H2 := Lib.hid h2; clear h2
  have HM := Lib.hid hM
  obtain ⟨aM, cM, rfl, hcM, hmM, -⟩ := hM.at
  clear hM
  have S1 := Lib.hid hs1; clear hs1
  have S2 := Lib.hid hs2; clear hs2
  have E0 := Lib.hid e0; clear e0
  have E1 := Lib.hid e1; clear e1
  have d1 : decide ((200 : Int) < (M.length : Int)) = false := by simp; omega
  have d2 : decide ((1000000 : Int) < n) = false := by simp; omega
  have d3 : decide ((lt : Int) < 2) = false := by simp; omega
  have d4 : decide ((100 : Int) < (a.length : Int)) = false := by simp; omega
  have d5 : decide ((100 : Int) < (b.length : Int)) = false := by simp; omega
  have hl0 : (0 : Int) < (lt : Int) := by omega
  have hl1 : (1 : Int) < (lt : Int) := by omega
  have hl2 : 0 < lt := by omega
  have hl3 : 1 < lt := by omega
  unfold maxLen at hkm hmM
  go_enter Try.func8, Try.ntmps8
  go_wp2_with fail
  refine (hawake_any _).mono ?_
  rintro e w1 ⟨rfl, b1⟩
  have A1 := Lib.hid (H1.out.below b1)
  have B1 := Lib.hid (H2.out.below b1)
  have M1 := Lib.hid (HM.out.below b1)
  have c0 : w1.cell? ⟨bt, ot, none⟩ = some (.slice p1 a.length k1) := (b1.cell (p := ⟨bt, ot, none⟩) hbt).trans E0.out
  have c1 : w1.cell? ⟨bt, ot + 1, none⟩ = some (.slice p2 b.length k2) := (b1.cell (p := ⟨bt, ot + 1, none⟩) hbt).trans E1.out
  have hbt1 : bt < w1.heap.size := by have := b1.size; omega
  have HB1 := Lib.hid b1; clear b1 H1 H2 HM E0 E1
  go_wp2_with fail
  have C01 := Lib.hid (And.intro c0 c1)
  have M1d := Lib.hid (show Ints w1.drew .i64 (.slice aM M.length cM) M from M1.out)
  have C1d := Lib.hid (show w1.drew.cell? ⟨bt, ot, none⟩ = some (.slice p1 a.length k1) ∧ w1.drew.cell? ⟨bt, ot + 1, none⟩ = some (.slice p2 b.length k2) from C01.out)
  have A1d := Lib.hid (show Vals w1.drew (.slice p1 a.length k1) (a.map .string) from A1.out)
  have B1d := Lib.hid (show Vals w1.drew (.slice p2 b.length k2) (b.map .string) from B1.out)
  have D1d := Lib.hid (show Below w.heap.size w w1.drew from below_draws HB1.out 1)
  have hb1d := Lib.hid (show bt < w1.drew.heap.size from hbt1)
  clear A1 B1 M1 HB1 c0 c1
  go_region_held3 (fun W => W.cell? ⟨bt, ot, none⟩ = some (.slice p1 a.length k1) ∧ W.cell? ⟨bt, ot + 1, none⟩ = some (.slice p2 b.length k2))
    (first | exact C01.out | (with_reducible exact C1d.out) | (with_reducible exact C2.out) | (with_reducible exact C3.out) | (with_reducible exact C4.out) | (with_reducible exact C5.out) | (with_reducible exact C6.out) | (with_reducible exact C7.out))
    (first
      | (go_at_call 26; ((with_reducible refine (Of_any _ M n _ M1d.out (by omega) hn).mono ?_); rintro e w2 ⟨v2, rfl, hH2, b2⟩; have C2 := Lib.hid (And.intro ((b2.cell (p := ⟨bt, ot, none⟩) hb1d.out).trans C1d.out.1) ((b2.cell (p := ⟨bt, ot + 1, none⟩) hb1d.out).trans C1d.out.2)); have M2 := Lib.hid (M1d.out.below b2); have A2 := Lib.hid (A1d.out.below b2); have B2 := Lib.hid (B1d.out.below b2); have D2 := Lib.hid (D1d.out.trans (b2.mono D1d.out.size)); have hb2 := Lib.hid (Nat.lt_of_lt_of_le hb1d.out b2.size); have H2 := Lib.hid hH2; clear hH2 b2))
      | (go_at_call 27; ((with_reducible refine (RefOf_any _ M n _ M2.out (by omega) hn).mono ?_); rintro e w3 ⟨v3, rfl, hH3, b3⟩; have C3 := Lib.hid (And.intro ((b3.cell (p := ⟨bt, ot, none⟩) hb2.out).trans C2.out.1) ((b3.cell (p := ⟨bt, ot + 1, none⟩) hb2.out).trans C2.out.2)); have A3 := Lib.hid (A2.out.below b3); have B3 := Lib.hid (B2.out.below b3); have D3 := Lib.hid (D2.out.trans (b3.mono D2.out.size)); have hb3 := Lib.hid (Nat.lt_of_lt_of_le hb2.out b3.size); have H3 := Lib.hid hH3; have G3 := Lib.hid (H2.out.below b3); clear hH3 b3))
      | (go_at_call 25; ((with_reducible refine (SameH_any _ _ (hunksOf M n) _ G3.out H3.out).mono ?_); rintro e w4 ⟨rfl, b4⟩; have C4 := Lib.hid (And.intro ((b4.cell (p := ⟨bt, ot, none⟩) hb3.out).trans C3.out.1) ((b4.cell (p := ⟨bt, ot + 1, none⟩) hb3.out).trans C3.out.2)); have A4 := Lib.hid (A3.out.below b4); have B4 := Lib.hid (B3.out.below b4); have D4 := Lib.hid (D3.out.trans (b4.mono D3.out.size)); have hb4 := Lib.hid (Nat.lt_of_lt_of_le hb3.out b4.size); clear b4 H3 G3))
      | (go_at_call 28; ((with_reducible refine (HTexts_any _ _ a b _ A4.out B4.out (by omega) (by omega) S1.out S2.out).mono ?_); rintro e w5 ⟨v5, rfl, hH5, b5⟩; have C5 := Lib.hid (And.intro ((b5.cell (p := ⟨bt, ot, none⟩) hb4.out).trans C4.out.1) ((b5.cell (p := ⟨bt, ot + 1, none⟩) hb4.out).trans C4.out.2)); have A5 := Lib.hid (A4.out.below b5); have B5 := Lib.hid (B4.out.below b5); have D5 := Lib.hid (D4.out.trans (b5.mono D4.out.size)); have hb5 := Lib.hid (Nat.lt_of_lt_of_le hb4.out b5.size); have H5 := Lib.hid hH5; clear hH5 b5))
      | (go_at_call 29; ((with_reducible refine (RefHTexts_any _ _ a b _ A5.out B5.out (by omega) (by omega) S1.out S2.out).mono ?_); rintro e w6 ⟨v6, rfl, hH6, b6⟩; have C6 := Lib.hid (And.intro ((b6.cell (p := ⟨bt, ot, none⟩) hb5.out).trans C5.out.1) ((b6.cell (p := ⟨bt, ot + 1, none⟩) hb5.out).trans C5.out.2)); have D6 := Lib.hid (D5.out.trans (b6.mono D5.out.size)); have hb6 := Lib.hid (Nat.lt_of_lt_of_le hb5.out b6.size); have H6 := Lib.hid hH6; have G6 := Lib.hid (H5.out.below b6); clear hH6 b6))
      | (go_at_call 25; ((with_reducible refine (SameH_any _ _ (textHunks a b) _ G6.out H6.out).mono ?_); rintro e w7 ⟨rfl, b7⟩; have C7 := Lib.hid (And.intro ((b7.cell (p := ⟨bt, ot, none⟩) hb6.out).trans C6.out.1) ((b7.cell (p := ⟨bt, ot + 1, none⟩) hb6.out).trans C6.out.2)); have D7 := Lib.hid (D6.out.trans (b7.mono D6.out.size)); clear b7)))
  all_goals
    go_wp2_with fail
    go_ret
    exact ⟨rfl, D7.out⟩

set_option maxRecDepth 100000 in
set_option maxHeartbeats 8000000 in
theorem HunkTells_any (v0 : Value) (n : Int) (v2 : Value) (M : List Int) (x : List (Value × List ByteArray)) (w : World) (hM : Ints w .i64 v0 M) (hw : (Lit.int .i64 n).wf = true) (hx : Strss w v2 x) :
    Calls Try.prog 8 #[v0, .int .i64 n, v2] w fun e w' => e = .returned (.bool true) ∧ Below w.heap.size w w' := by
  obtain ⟨hv2, hel⟩ := hx
  obtain ⟨at_, kt, rfl, hkt, hkm, hat⟩ := hv2.at
  rw [List.length_map] at hkt ⊢
  obtain ⟨aM, cM, rfl, hcM, hmM, -⟩ := hM.at
  obtain ⟨f1, hf1⟩ : ∃ c, decide ((200 : Int) < (M.length : Int)) = c := ⟨_, rfl⟩
  cases f1
  case true =>
    clear hel hM hv2 hat
    go_enter Try.func8, Try.ntmps8
    go_wp2_with fail
    refine (hawake_any _).mono ?_
    rintro e w1 ⟨rfl, b1⟩
    go_wp2_with fail
    go_ret
    exact ⟨rfl, b1⟩
  obtain ⟨f2, hf2⟩ : ∃ c, decide ((1000000 : Int) < n) = c := ⟨_, rfl⟩
  cases f2
  case true =>
    clear hel hM hv2 hat
    go_enter Try.func8, Try.ntmps8
    go_wp2_with fail
    refine (hawake_any _).mono ?_
    rintro e w1 ⟨rfl, b1⟩
    go_wp2_with fail
    go_ret
    exact ⟨rfl, b1⟩
  obtain ⟨f3, hf3⟩ : ∃ c, decide ((x.length : Int) < 2) = c := ⟨_, rfl⟩
  cases f3
  case true =>
    clear hel hM hv2 hat
    go_enter Try.func8, Try.ntmps8
    go_wp2_with fail
    refine (hawake_any _).mono ?_
    rintro e w1 ⟨rfl, b1⟩
    go_wp2_with fail
    go_ret
    exact ⟨rfl, b1⟩
  have h2 : 2 ≤ x.length := by simp at hf3; omega
  obtain ⟨⟨q0, a⟩, hq0⟩ : ∃ q, x[0]? = some q := ⟨_, List.getElem?_eq_getElem (by omega)⟩
  obtain ⟨⟨q1, b⟩, hq1⟩ : ∃ q, x[1]? = some q := ⟨_, List.getElem?_eq_getElem (by omega)⟩
  obtain ⟨hA, sA⟩ := hel _ (List.mem_of_getElem? hq0)
  obtain ⟨hB, sB⟩ := hel _ (List.mem_of_getElem? hq1)
  obtain ⟨bt, ot, rfl, hbt, c0⟩ := hat 0 q0 (by rw [List.getElem?_map, hq0]; rfl)
  obtain ⟨bt', ot', hh, -, c1⟩ := hat 1 q1 (by rw [List.getElem?_map, hq1]; rfl)
  cases hh
  rw [Nat.add_zero] at c0
  clear hat hel hq0 hq1
  dsimp only at hA hB sA sB
  obtain ⟨p1, k1, rfl, -, -, -⟩ := hA.at
  obtain ⟨p2, k2, rfl, -, -, -⟩ := hB.at
  rw [List.length_map] at hA hB c0 c1
  unfold maxLen at hkm
  have hMl : M.length ≤ 200 := by simp at hf1; omega
  have hnl : n ≤ 1000000 := by simp at hf2; omega
  by_cases hla : a.length ≤ 100
  · by_cases hlb : b.length ≤ 100
    · exact HunkTells_in _ M n bt ot kt x.length p1 p2 k1 k2 a b w hM hMl hnl h2 hkt (by unfold maxLen; omega) hbt c0 c1 hA hB sA sB hla hlb
    · have d1 : decide ((100 : Int) < (a.length : Int)) = false := by simp; omega
      have d2 : decide ((100 : Int) < (b.length : Int)) = true := by simp; omega
      clear hA hB sA sB hM hv2
      have C0 := Lib.hid c0; clear c0
      have C1 := Lib.hid c1; clear c1
      go_enter Try.func8, Try.ntmps8
      go_wp2_with fail
      refine (hawake_any _).mono ?_
      rintro e w1 ⟨rfl, b1⟩
      have c0 : w1.cell? ⟨bt, ot, none⟩ = some (.slice p1 a.length k1) := (b1.cell (p := ⟨bt, ot, none⟩) hbt).trans C0.out
      have c1 : w1.cell? ⟨bt, ot + 1, none⟩ = some (.slice p2 b.length k2) := (b1.cell (p := ⟨bt, ot + 1, none⟩) hbt).trans C1.out
      go_wp2_with fail
      go_ret
      exact ⟨rfl, b1⟩
  · have d1 : decide ((100 : Int) < (a.length : Int)) = true := by simp; omega
    clear hA hB sA sB hM hv2
    have C0 := Lib.hid c0; clear c0
    have C1 := Lib.hid c1; clear c1
    go_enter Try.func8, Try.ntmps8
    go_wp2_with fail
    refine (hawake_any _).mono ?_
    rintro e w1 ⟨rfl, b1⟩
    have c0 : w1.cell? ⟨bt, ot, none⟩ = some (.slice p1 a.length k1) := (b1.cell (p := ⟨bt, ot, none⟩) hbt).trans C0.out
    go_wp2_with fail
    go_ret
    exact ⟨rfl, b1⟩
end Go.Proofs.Ythligkdncddmpaa
