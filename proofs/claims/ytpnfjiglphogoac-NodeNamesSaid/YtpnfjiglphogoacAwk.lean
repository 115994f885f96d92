/-
  For the laws of node: the document's example is as the document says. No condition.
-/
import Derived.Test.YtpnfjiglphogoacIsa
import Derived.Test.YtpnfjiglphogoacNal
import Derived.Test.YtpnfjiglphogoacPut
import Derived.Deep.RegionHeld3
import Derived.Deep.Cut
namespace Go.Proofs.Ytpnfjiglphogoac
open Go.RowKit Go.Shelf
set_option linter.unusedSimpArgs false
set_option linter.unusedVariables false

def nulN : Nd := .mk ⟨15, [], [], 0, 0, 0, 0, 0⟩ []
def ppN : Nd := .mk ⟨5, [], [], 0, 3, 9, -1, 0⟩ [.mk ⟨11, [], [], 0, 4, 8, 0, 0⟩ [nulN]]
theorem ex_get : getN smp [0, 0] = some smp2 := rfl
theorem ex_put : putN smp [0, 0] nulN = ppN := rfl
theorem sl_two {W : World} {b : Nat} (h : RowAt W b 3 #[.int .i64 0, .int .i64 0]) : SlI W (.slice (some ⟨b, 0, none⟩) 2 2) [0, 0] := by
  refine ⟨_, 2, rfl, Nat.le_refl _, by simp [maxLen], fun j u hj => ?_⟩
  have hj0 : j = 0 ∨ j = 1 := by have := (List.getElem?_eq_some_iff.1 hj).1; simp at this; omega
  rcases hj0 with rfl | rfl
  · obtain rfl : (0 : Int) = u := by simpa using hj
    exact ⟨b, 0, rfl, h.cell (j := 0) rfl⟩
  · obtain rfl : (0 : Int) = u := by simpa using hj
    exact ⟨b, 0, rfl, h.cell (j := 1) rfl⟩
/-- What grows from W0 on. -/
def AQ (W0 U : World) : Prop := Below W0.heap.size W0 U
theorem AQ.later {W0 A B : World} (h : AQ W0 A) (hb : Below A.heap.size A B) : AQ W0 B := Below.trans h (hb.mono h.size)
theorem AQ.drew {W0 A : World} (h : AQ W0 A) : AQ W0 A.drew := below_drew h
theorem AQ.alloc {W0 A : World} (h : AQ W0 A) (o : Obj) : AQ W0 (A.alloc o) := Below.alloc h h.size o
theorem ex_no : ¬ (smp.map plainH = ppN.map plainH) := fun h => by
  have h1 := (map_eq.1 h).2
  have h2 := (map_eq.1 ((mapL_get (f := plainH) (a := smp.kids) (b := ppN.kids) rfl).1 h1 0 smp1 (.mk ⟨11, [], [], 0, 4, 8, 0, 0⟩ [nulN]) rfl rfl)).2
  have h3 := (map_eq.1 ((mapL_get (f := plainH) (a := smp1.kids) (b := [nulN]) rfl).1 h2 0 smp2 nulN rfl rfl)).1
  exact absurd (congrArg Hd.kind h3) (by decide)
theorem ex_shift : shH 2 smp.hd = ⟨5, [], [], 0, 5, 11, -1, 2⟩ := by decide +kernel
theorem cmp_no {Q : Prop} {e : Ending} (h : CmpQ Q e) (hq : ¬ Q) : e = .returned (.bool false) := by
  obtain ⟨r, rfl, hr⟩ := h
  cases r with
  | false => rfl
  | true => exact absurd (hr.1 rfl) hq
theorem cmp_yes {Q : Prop} {e : Ending} (h : CmpQ Q e) (hq : Q) : e = .returned (.bool true) := by
  obtain ⟨r, rfl, hr⟩ := h
  rw [hr.2 hq]
set_option maxRecDepth 100000 in
set_option maxHeartbeats 16000000 in
theorem awake_any (w : World) : Calls Try.prog 6 #[] w fun e w' => e = .returned (.bool true) ∧ Below w.heap.size w w' := by
  go_enter Try.func6, Try.ntmps6
  go_wp2_with fail
  refine (sample_any _).mono ?_
  rintro e w1 ⟨⟨a1, c1, rfl, k1⟩, b1⟩
  have B1 := Lib.hid b1
  have K1 := Lib.hid k1
  have hs1 := b1.size
  clear b1 k1
  obtain ⟨W2, hW2⟩ : ∃ W2, Hid (w1.alloc (.cells (smp.hd.vals (.slice a1 1 c1)) 24) = W2) := ⟨_, Lib.hid rfl⟩
  have R2 : Hid (RowAt W2 w1.heap.size 24 (smp.hd.vals (.slice a1 1 c1))) := by rw [← hW2.out]; exact Lib.hid (RowAt.new _ _ _)
  have B2 : Hid (Below w1.heap.size w1 W2) := by rw [← hW2.out]; exact Lib.hid ((Below.refl _ _).alloc (Nat.le_refl _) _)
  have hs2 : W2.heap.size = w1.heap.size + 1 := by rw [← hW2.out]; simp
  dsimp only [smp, Nd.hd, Hd.agg]
  go_wp2_with fail
  have hW2' : w1.alloc (.cells #[.int .i64 5, .string (bs []), .string (bs []), .int .i64 0, .int .i64 3, .int .i64 9, .int .i64 (-1), .int .i64 0, .slice a1 1 c1] 24) = W2 := hW2.out
  obtain ⟨W3, hW3⟩ : ∃ W3, Hid (W2.alloc (.cells #[.int .i64 0, .int .i64 0] 3) = W3) := ⟨_, Lib.hid rfl⟩
  rw [hW2', hW3.out]
  have R3 : Hid (RowAt W3 (w1.heap.size + 1) 3 #[.int .i64 0, .int .i64 0]) := by
    rw [← hW3.out, ← hs2]; exact Lib.hid (RowAt.new _ _ _)
  have B3 : Hid (Below w1.heap.size w1 W3) := by rw [← hW3.out]; exact Lib.hid (B2.out.alloc (by omega) _)
  have S3 : Hid (RowAt W3 w1.heap.size 24 (smp.hd.vals (.slice a1 1 c1))) := by rw [← hW3.out]; exact Lib.hid (R2.out.alloc _)
  have hs3 : W3.heap.size = w1.heap.size + 2 := by rw [← hW3.out]; simp; omega
  have CG := Lib.hid (Get_any smp (.slice a1 1 c1) [0, 0] (.slice (some ⟨w1.heap.size + 1, 0, none⟩) 2 2) W3 (by decide) (K1.out.below B3.out) (sl_two R3.out) (by decide))
  refine (show Calls Try.prog 8 #[.agg #[.int .i64 5, .string (bs []), .string (bs []), .int .i64 0, .int .i64 3, .int .i64 9, .int .i64 (-1), .int .i64 0, .slice a1 1 c1], .slice (some ⟨w1.heap.size + 1, 0, none⟩) 2 2] W3 _ from CG.out).mono ?_
  rintro e w4 ⟨hget, b4⟩
  obtain ⟨kvx, rfl, kx⟩ : ∃ kv, e = .returned (.tuple #[smp2.hd.agg kv, .bool true]) ∧ KidsAt w4 smp2.kids kv := by
    rcases hget with ⟨h, -⟩ | ⟨x, kv, h, he, hk⟩
    · rw [ex_get] at h; cases h
    · rw [ex_get] at h
      obtain rfl := Option.some.inj h
      exact ⟨kv, he, hk⟩
  obtain ⟨ax, cx, rfl, -⟩ := kx.get
  have S4 := Lib.hid (S3.out.later b4)
  have B4 := Lib.hid (B3.out.trans (b4.mono (by omega)))
  have hs4 := b4.size
  clear hget b4 kx CG
  dsimp only [smp2, Nd.hd, Nd.kids, Hd.agg, List.length_nil]
  obtain ⟨W5, hW5⟩ : ∃ W5, Hid (w4.alloc (.cells #[.int .i64 13, .string (bs []), .string (bs []), .int .i64 7, .int .i64 6, .int .i64 7, .int .i64 0, .int .i64 0, .slice ax 0 cx] 24) = W5) := ⟨_, Lib.hid rfl⟩
  have B5 : Hid (Below w1.heap.size w1 W5) := by rw [← hW5.out]; exact Lib.hid (B4.out.alloc (by omega) _)
  have S5 : Hid (RowAt W5 w1.heap.size 24 (smp.hd.vals (.slice a1 1 c1))) := by rw [← hW5.out]; exact Lib.hid (S4.out.alloc _)
  have X5 : Hid (RowAt W5 w4.heap.size 24 #[.int .i64 13, .string (bs []), .string (bs []), .int .i64 7, .int .i64 6, .int .i64 7, .int .i64 0, .int .i64 0, .slice ax 0 cx]) := by rw [← hW5.out]; exact Lib.hid (RowAt.new _ _ _)
  have hs5 : W5.heap.size = w4.heap.size + 1 := by rw [← hW5.out]; simp
  obtain ⟨d0, d1, d2, d3, d4, d5, d6, d7, d8⟩ := (show Cells W5 w1.heap.size 0 ⟨5, [], [], 0, 3, 9, -1, 0⟩ (.slice a1 1 c1) from Cells.row S5.out)
  simp only [Nat.zero_add] at d1 d2 d3 d4 d5 d6 d7 d8
  have hW5' := hW5.out
  go_upto_region 3 with fail
  obtain ⟨W6, hW6⟩ : ∃ W6, Hid (W5.alloc (.cells #[.int .i64 0, .int .i64 0] 3) = W6) := ⟨_, Lib.hid rfl⟩
  have B6 : Hid (Below w1.heap.size w1 W6) := by rw [← hW6.out]; exact Lib.hid (B5.out.alloc (by omega) _)
  have hs6 : W6.heap.size = W5.heap.size + 1 := by rw [← hW6.out]; simp
  have R6 : Hid (RowAt W6 W5.heap.size 3 #[.int .i64 0, .int .i64 0]) := by rw [← hW6.out]; exact Lib.hid (RowAt.new _ _ _)
  rw [hs5] at R6
  have S6 : Hid (RowAt W6 w1.heap.size 24 (smp.hd.vals (.slice a1 1 c1))) := by rw [← hW6.out]; exact Lib.hid (S5.out.alloc _)
  have X6 : Hid (RowAt W6 w4.heap.size 24 #[.int .i64 13, .string (bs []), .string (bs []), .int .i64 7, .int .i64 6, .int .i64 7, .int .i64 0, .int .i64 0, .slice ax 0 cx]) := by rw [← hW6.out]; exact Lib.hid (X5.out.alloc _)
  have CP := Lib.hid (Put_any smp nulN (.slice a1 1 c1) (.slice none 0 0) [0, 0] (.slice (some ⟨w4.heap.size + 1, 0, none⟩) 2 2) W6 (by decide) (by decide) (K1.out.below B6.out) (KidsAt.nil _) (sl_two R6.out) (by decide))
  clear hW5'
  go_wp2_with fail
  rw [hW6.out]
  refine (show Calls Try.prog 9 #[.agg #[.int .i64 5, .string (bs []), .string (bs []), .int .i64 0, .int .i64 3, .int .i64 9, .int .i64 (-1), .int .i64 0, .slice a1 1 c1], .slice (some ⟨w4.heap.size + 1, 0, none⟩) 2 2, .agg #[.int .i64 15, .string ⟨#[]⟩, .string ⟨#[]⟩, .int .i64 0, .int .i64 0, .int .i64 0, .int .i64 0, .int .i64 0, .slice none 0 0]] W6 _ from CP.out).mono ?_
  rintro e w7 ⟨hput, b7⟩
  obtain ⟨kvp, rfl, kp⟩ : ∃ kv, e = .returned (.tuple #[ppN.hd.agg kv, .bool true]) ∧ KidsAt w7 ppN.kids kv := by
    rcases hput with ⟨h, -⟩ | ⟨h, kv, he, hk⟩
    · rw [ex_get] at h; cases h
    · rw [ex_put] at he hk
      exact ⟨kv, he, hk⟩
  obtain ⟨ap, cp, rfl, -⟩ := kp.get
  have S7 := Lib.hid (S6.out.later b7)
  have X7 := Lib.hid (X6.out.later b7)
  have B7 := Lib.hid (B6.out.trans (b7.mono (by omega)))
  have hs7 := b7.size
  have Kp := Lib.hid kp
  clear hput b7 kp CP d0 d1 d2 d3 d4 d5 d6 d7 d8
  dsimp only [ppN, Nd.hd, Nd.kids, Hd.agg, List.length_singleton]
  obtain ⟨W8, hW8⟩ : ∃ W8, Hid (w7.alloc (.cells #[.int .i64 5, .string (bs []), .string (bs []), .int .i64 0, .int .i64 3, .int .i64 9, .int .i64 (-1), .int .i64 0, .slice ap 1 cp] 24) = W8) := ⟨_, Lib.hid rfl⟩
  have B8 : Hid (Below w1.heap.size w1 W8) := by rw [← hW8.out]; exact Lib.hid (B7.out.alloc (by omega) _)
  have S8 : Hid (RowAt W8 w1.heap.size 24 (smp.hd.vals (.slice a1 1 c1))) := by rw [← hW8.out]; exact Lib.hid (S7.out.alloc _)
  have X8 : Hid (RowAt W8 w4.heap.size 24 #[.int .i64 13, .string (bs []), .string (bs []), .int .i64 7, .int .i64 6, .int .i64 7, .int .i64 0, .int .i64 0, .slice ax 0 cx]) := by rw [← hW8.out]; exact Lib.hid (X7.out.alloc _)
  have P8 : Hid (RowAt W8 w7.heap.size 24 #[.int .i64 5, .string (bs []), .string (bs []), .int .i64 0, .int .i64 3, .int .i64 9, .int .i64 (-1), .int .i64 0, .slice ap 1 cp]) := by rw [← hW8.out]; exact Lib.hid (RowAt.new _ _ _)
  have Kp8 : Hid (KidsAt W8 ppN.kids (.slice ap 1 cp)) := by rw [← hW8.out]; exact Lib.hid (Kp.out.below ((Below.refl _ _).alloc (Nat.le_refl _) _))
  have Ks8 : Hid (KidsAt W8 smp.kids (.slice a1 1 c1)) := Lib.hid (K1.out.below B8.out)
  have BB8 : Hid (Below w.heap.size w W8) := Lib.hid (B1.out.trans (B8.out.mono hs1))
  have hW8' := hW8.out
  go_upto_region 4 with fail
  clear hW8'
  have HS : Hid (∀ U, AQ W8 U → AQ W8 U ∧ U.cell? ⟨w1.heap.size, 0, none⟩ = some (.int .i64 5) ∧ U.cell? ⟨w1.heap.size, 1, none⟩ = some (.string (bs [])) ∧ U.cell? ⟨w1.heap.size, 2, none⟩ = some (.string (bs [])) ∧ U.cell? ⟨w1.heap.size, 3, none⟩ = some (.int .i64 0) ∧ U.cell? ⟨w1.heap.size, 4, none⟩ = some (.int .i64 3) ∧ U.cell? ⟨w1.heap.size, 5, none⟩ = some (.int .i64 9) ∧ U.cell? ⟨w1.heap.size, 6, none⟩ = some (.int .i64 (-1)) ∧ U.cell? ⟨w1.heap.size, 7, none⟩ = some (.int .i64 0) ∧ U.cell? ⟨w1.heap.size, 8, none⟩ = some (.slice a1 1 c1) ∧ U.cell? ⟨w4.heap.size, 3, none⟩ = some (.int .i64 7) ∧ U.cell? ⟨w7.heap.size, 0, none⟩ = some (.int .i64 5) ∧ U.cell? ⟨w7.heap.size, 1, none⟩ = some (.string (bs [])) ∧ U.cell? ⟨w7.heap.size, 2, none⟩ = some (.string (bs [])) ∧ U.cell? ⟨w7.heap.size, 3, none⟩ = some (.int .i64 0) ∧ U.cell? ⟨w7.heap.size, 4, none⟩ = some (.int .i64 3) ∧ U.cell? ⟨w7.heap.size, 5, none⟩ = some (.int .i64 9) ∧ U.cell? ⟨w7.heap.size, 6, none⟩ = some (.int .i64 (-1)) ∧ U.cell? ⟨w7.heap.size, 7, none⟩ = some (.int .i64 0) ∧ U.cell? ⟨w7.heap.size, 8, none⟩ = some (.slice ap 1 cp)) := Lib.hid (fun U hU => by
    have c1 := (show Cells U w1.heap.size 0 ⟨5, [], [], 0, 3, 9, -1, 0⟩ (.slice a1 1 c1) from Cells.row (S8.out.later hU))
    have cp := (show Cells U w7.heap.size 0 ⟨5, [], [], 0, 3, 9, -1, 0⟩ (.slice ap 1 cp) from Cells.row (P8.out.later hU))
    have cx := (X8.out.later hU).cell (j := 3) (v := .int .i64 7) rfl
    obtain ⟨d0, d1, d2, d3, d4, d5, d6, d7, d8⟩ := c1
    obtain ⟨e0, e1, e2, e3, e4, e5, e6, e7, e8⟩ := cp
    simp only [Nat.zero_add] at d1 d2 d3 d4 d5 d6 d7 d8 e1 e2 e3 e4 e5 e6 e7 e8
    exact ⟨hU, d0, d1, d2, d3, d4, d5, d6, d7, d8, cx, e0, e1, e2, e3, e4, e5, e6, e7, e8⟩)
  have C10a : Hid (∀ U, AQ W8 U → Calls Try.prog 11 #[.agg #[.int .i64 5, .string (bs []), .string (bs []), .int .i64 0, .int .i64 3, .int .i64 9, .int .i64 (-1), .int .i64 0, .slice a1 1 c1]] U fun e w' => e = .returned (.int .i64 3) ∧ Below U.heap.size U w') := Lib.hid (fun U hU => Count_any smp (.slice a1 1 c1) U (by decide) (Ks8.out.below hU))
  have C10b : Hid (∀ U, AQ W8 U → Calls Try.prog 11 #[.agg #[.int .i64 5, .string (bs []), .string (bs []), .int .i64 0, .int .i64 3, .int .i64 9, .int .i64 (-1), .int .i64 0, .slice ap 1 cp]] U fun e w' => e = .returned (.int .i64 3) ∧ Below U.heap.size U w') := Lib.hid (fun U hU => Count_any ppN (.slice ap 1 cp) U (by decide) (Kp8.out.below hU))
  have C12 : Hid (∀ U, AQ W8 U → Calls Try.prog 14 #[.agg #[.int .i64 5, .string (bs []), .string (bs []), .int .i64 0, .int .i64 3, .int .i64 9, .int .i64 (-1), .int .i64 0, .slice a1 1 c1]] U fun e w' => e = .returned (.int .i64 3) ∧ Below U.heap.size U w') := Lib.hid (fun U hU => Depth_any smp (.slice a1 1 c1) U (by decide) (Ks8.out.below hU))
  have C8a : Hid (∀ U, AQ W8 U → Calls Try.prog 19 #[.agg #[.int .i64 5, .string (bs []), .string (bs []), .int .i64 0, .int .i64 3, .int .i64 9, .int .i64 (-1), .int .i64 0, .slice a1 1 c1], .agg #[.int .i64 5, .string (bs []), .string (bs []), .int .i64 0, .int .i64 3, .int .i64 9, .int .i64 (-1), .int .i64 0, .slice ap 1 cp]] U fun e w' => e = .returned (.bool false) ∧ Below U.heap.size U w') := Lib.hid (fun U hU => (Same_any smp ppN (.slice a1 1 c1) (.slice ap 1 cp) U (by decide) (Ks8.out.below hU) (Kp8.out.below hU)).mono fun e w' h => ⟨cmp_no h.1 ex_no, h.2⟩)
  have C18 : Hid (∀ U, AQ W8 U → Calls Try.prog 20 #[.agg #[.int .i64 5, .string (bs []), .string (bs []), .int .i64 0, .int .i64 3, .int .i64 9, .int .i64 (-1), .int .i64 0, .slice a1 1 c1]] U fun e w' => (∃ kv, e = .returned (.agg #[.int .i64 5, .string (bs []), .string (bs []), .int .i64 0, .int .i64 0, .int .i64 0, .int .i64 (-1), .int .i64 (-1), kv]) ∧ KidsAt w' (mapL plainH smp.kids) kv) ∧ Below U.heap.size U w') := Lib.hid (fun U hU => (Plain_any smp (.slice a1 1 c1) U (by decide) (Ks8.out.below hU)).mono fun e w' h => by
    obtain ⟨kv, F, he, hs, -, -, hb⟩ := h
    exact ⟨⟨kv, he, hs.kids⟩, hb⟩)
  have C8b : Hid (∀ U kv, AQ W8 U → KidsAt U (mapL plainH smp.kids) kv → Calls Try.prog 19 #[.agg #[.int .i64 5, .string (bs []), .string (bs []), .int .i64 0, .int .i64 3, .int .i64 9, .int .i64 (-1), .int .i64 0, .slice a1 1 c1], .agg #[.int .i64 5, .string (bs []), .string (bs []), .int .i64 0, .int .i64 0, .int .i64 0, .int .i64 (-1), .int .i64 (-1), kv]] U fun e w' => e = .returned (.bool true) ∧ Below U.heap.size U w') := Lib.hid (fun U kv hU hk => (Same_any smp (smp.map plainH) (.slice a1 1 c1) kv U (by decide) (Ks8.out.below hU) (by rw [map_kids]; exact hk)).mono fun e w' h => ⟨cmp_yes h.1 (by rw [map_map]; rfl), h.2⟩)
  have C20 : Hid (∀ U, AQ W8 U → Calls Try.prog 17 #[.agg #[.int .i64 5, .string (bs []), .string (bs []), .int .i64 0, .int .i64 3, .int .i64 9, .int .i64 (-1), .int .i64 0, .slice a1 1 c1], .int .i64 2] U fun e w' => (∃ a c, e = .returned (.agg #[.int .i64 5, .string (bs []), .string (bs []), .int .i64 0, .int .i64 5, .int .i64 11, .int .i64 (-1), .int .i64 2, .slice a 1 c])) ∧ Below U.heap.size U w') := Lib.hid (fun U hU => (Shift_any smp (.slice a1 1 c1) 2 U (by decide) (Ks8.out.below hU)).mono fun e w' h => by
    obtain ⟨kv, F, he, hs, -, -, hb⟩ := h
    rw [ex_shift] at he
    obtain ⟨a, c, rfl, -⟩ := hs.kids.get
    exact ⟨⟨a, c, he⟩, hb⟩)
  have C15 : Hid (∀ U, AQ W8 U → Calls Try.prog 21 #[.agg #[.int .i64 5, .string (bs []), .string (bs []), .int .i64 0, .int .i64 3, .int .i64 9, .int .i64 (-1), .int .i64 0, .slice a1 1 c1], .int .i64 13] U fun e w' => (∃ a c, e = .returned (.slice a 1 c)) ∧ Below U.heap.size U w') := Lib.hid (fun U hU => (All_any smp (.slice a1 1 c1) 13 U (by decide) (Ks8.out.below hU)).mono fun e w' h => by
    obtain ⟨⟨v, he, hk⟩, hb⟩ := h
    obtain ⟨a, c, rfl, -⟩ := hk.get
    exact ⟨⟨a, c, he⟩, hb⟩)
  have C29 : Hid (∀ U, AQ W8 U → Calls Try.prog 15 #[.agg #[.int .i64 5, .string (bs []), .string (bs []), .int .i64 0, .int .i64 3, .int .i64 9, .int .i64 (-1), .int .i64 0, .slice a1 1 c1], .int .i64 6] U fun e w' => (∃ v, e = .returned v ∧ SlI w' v [0, 0]) ∧ Below U.heap.size U w') := Lib.hid (fun U hU => (At_any smp (.slice a1 1 c1) 6 U (by decide) (Ks8.out.below hU)).mono fun e w' h => by
    obtain ⟨⟨v, base, he, ho⟩, hb⟩ := h
    exact ⟨⟨v, he, sl_of_way ho⟩, hb⟩)
  have C28 : Hid (∀ U va vb, SlI U va [0, 0] → SlI U vb [0, 0] → Calls Try.prog 16 #[va, vb] U fun e w' => e = .returned (.bool true) ∧ Below U.heap.size U w') := Lib.hid (fun U va vb h1 h2 => (Ints_any va vb [0, 0] [0, 0] U h1 h2 (by decide)).mono fun e w' h => ⟨cmp_yes h.1 rfl, h.2⟩)
  have C28A : Hid (∀ (U : World) (v : Value), SlI U v [0, 0] → Calls Try.prog 16 #[v, .slice (some ⟨U.heap.size, 0, none⟩) 2 2] (U.alloc (.cells #[.int .i64 0, .int .i64 0] 3)) fun e w' => e = .returned (.bool true) ∧ Below (U.alloc (.cells #[.int .i64 0, .int .i64 0] 3)).heap.size (U.alloc (.cells #[.int .i64 0, .int .i64 0] 3)) w') := Lib.hid (fun U v h => C28.out _ v _ (h.below ((Below.refl _ _).alloc (Nat.le_refl _) _)) (sl_two (RowAt.new U 3 _)))
  have C28B : Hid (∀ (U W0 : World) (v : Value), Below (W0.alloc (.cells #[.int .i64 0, .int .i64 0] 3)).heap.size (W0.alloc (.cells #[.int .i64 0, .int .i64 0] 3)) U → SlI U v [0, 0] → Calls Try.prog 16 #[v, .slice (some ⟨W0.heap.size, 0, none⟩) 2 2] U fun e w' => e = .returned (.bool true) ∧ Below U.heap.size U w') := Lib.hid (fun U W0 v hb h => C28.out _ v _ h (sl_two ((RowAt.new W0 3 #[.int .i64 0, .int .i64 0]).later hb)))
  have C22 : Hid (∀ U, AQ W8 U → Calls Try.prog 13 #[.agg #[.int .i64 5, .string (bs []), .string (bs []), .int .i64 0, .int .i64 3, .int .i64 9, .int .i64 (-1), .int .i64 0, .slice a1 1 c1], .int .i64 0, .string ⟨#[]⟩, .string ⟨#[97]⟩] U fun e w' => (∃ a c, e = .returned (.agg #[.int .i64 5, .string ⟨#[97]⟩, .string (bs []), .int .i64 0, .int .i64 3, .int .i64 9, .int .i64 (-1), .int .i64 0, .slice a 1 c])) ∧ Below U.heap.size U w') := Lib.hid (fun U hU => (Rename_any smp (.slice a1 1 c1) 0 [] [97] U (by decide) (Ks8.out.below hU)).mono fun e w' h => by
    obtain ⟨kv, F, he, hs, -, -, hb⟩ := h
    obtain ⟨a, c, rfl, -⟩ := hs.kids.get
    exact ⟨⟨a, c, he⟩, hb⟩)
  have hf4 : ∀ (a : Option Addr) (c : Nat) (W : World), (Instr.field 24 (.agg #[.int .i64 5, .string (bs []), .string (bs []), .int .i64 0, .int .i64 5, .int .i64 11, .int .i64 (-1), .int .i64 2, .slice a 1 c]) 4).run Try.prog W = .ok (.int .i64 5) W := fun _ _ _ => rfl
  have hf1 : ∀ (a : Option Addr) (c : Nat) (W : World), (Instr.field 24 (.agg #[.int .i64 5, .string ⟨#[97]⟩, .string (bs []), .int .i64 0, .int .i64 3, .int .i64 9, .int .i64 (-1), .int .i64 0, .slice a 1 c]) 1).run Try.prog W = .ok (.string ⟨#[97]⟩) W := fun _ _ _ => rfl
  go_region_held3 (fun U => AQ W8 U ∧ U.cell? ⟨w1.heap.size, 0, none⟩ = some (.int .i64 5) ∧ U.cell? ⟨w1.heap.size, 1, none⟩ = some (.string (bs [])) ∧ U.cell? ⟨w1.heap.size, 2, none⟩ = some (.string (bs [])) ∧ U.cell? ⟨w1.heap.size, 3, none⟩ = some (.int .i64 0) ∧ U.cell? ⟨w1.heap.size, 4, none⟩ = some (.int .i64 3) ∧ U.cell? ⟨w1.heap.size, 5, none⟩ = some (.int .i64 9) ∧ U.cell? ⟨w1.heap.size, 6, none⟩ = some (.int .i64 (-1)) ∧ U.cell? ⟨w1.heap.size, 7, none⟩ = some (.int .i64 0) ∧ U.cell? ⟨w1.heap.size, 8, none⟩ = some (.slice a1 1 c1) ∧ U.cell? ⟨w4.heap.size, 3, none⟩ = some (.int .i64 7) ∧ U.cell? ⟨w7.heap.size, 0, none⟩ = some (.int .i64 5) ∧ U.cell? ⟨w7.heap.size, 1, none⟩ = some (.string (bs [])) ∧ U.cell? ⟨w7.heap.size, 2, none⟩ = some (.string (bs [])) ∧ U.cell? ⟨w7.heap.size, 3, none⟩ = some (.int .i64 0) ∧ U.cell? ⟨w7.heap.size, 4, none⟩ = some (.int .i64 3) ∧ U.cell? ⟨w7.heap.size, 5, none⟩ = some (.int .i64 9) ∧ U.cell? ⟨w7.heap.size, 6, none⟩ = some (.int .i64 (-1)) ∧ U.cell? ⟨w7.heap.size, 7, none⟩ = some (.int .i64 0) ∧ U.cell? ⟨w7.heap.size, 8, none⟩ = some (.slice ap 1 cp))
    (first | exact HS.out _ (by assumption) | exact HS.out _ (AQ.drew (AQ.drew (Below.refl _ _))) | exact HS.out _ (AQ.drew (Below.refl _ _)) | exact HS.out _ (AQ.alloc (And.left (by assumption : AQ W8 _ ∧ _)) _) | (trace_state; fail))
    (first
      | (go_at_call 11; (with_reducible refine (C10a.out _ (And.left (by assumption : AQ W8 _ ∧ _))).mono ?_); rintro e w' ⟨rfl, hb⟩; have hs' : AQ W8 w' := AQ.later (And.left (by assumption : AQ W8 _ ∧ _)) hb)
      | (go_at_call 11; (with_reducible refine (C10b.out _ (And.left (by assumption : AQ W8 _ ∧ _))).mono ?_); rintro e w' ⟨rfl, hb⟩; have hs' : AQ W8 w' := AQ.later (And.left (by assumption : AQ W8 _ ∧ _)) hb)
      | (go_at_call 14; (with_reducible refine (C12.out _ (And.left (by assumption : AQ W8 _ ∧ _))).mono ?_); rintro e w' ⟨rfl, hb⟩; have hs' : AQ W8 w' := AQ.later (And.left (by assumption : AQ W8 _ ∧ _)) hb)
      | (go_at_call 19; (with_reducible refine (C8a.out _ (And.left (by assumption : AQ W8 _ ∧ _))).mono ?_); rintro e w' ⟨rfl, hb⟩; have hs' : AQ W8 w' := AQ.later (And.left (by assumption : AQ W8 _ ∧ _)) hb)
      | (go_at_call 19; (with_reducible refine (C8b.out _ _ (And.left (by assumption : AQ W8 _ ∧ _)) (by assumption)).mono ?_); rintro e w' ⟨rfl, hb⟩; have hs' : AQ W8 w' := AQ.later (And.left (by assumption : AQ W8 _ ∧ _)) hb)
      | (go_at_call 20; (with_reducible refine (C18.out _ (And.left (by assumption : AQ W8 _ ∧ _))).mono ?_); rintro e w' ⟨⟨kq, rfl, hkq⟩, hb⟩; have hs' : AQ W8 w' := AQ.later (And.left (by assumption : AQ W8 _ ∧ _)) hb)
      | (go_at_call 17; (with_reducible refine (C20.out _ (And.left (by assumption : AQ W8 _ ∧ _))).mono ?_); rintro e w' ⟨⟨aq2, cq2, rfl⟩, hb⟩; have hs' : AQ W8 w' := AQ.later (And.left (by assumption : AQ W8 _ ∧ _)) hb)
      | (go_at_call 21; (with_reducible refine (C15.out _ (And.left (by assumption : AQ W8 _ ∧ _))).mono ?_); rintro e w' ⟨⟨aq, cq, rfl⟩, hb⟩; have hs' : AQ W8 w' := AQ.later (And.left (by assumption : AQ W8 _ ∧ _)) hb)
      | (go_at_call 15; (with_reducible refine (C29.out _ (And.left (by assumption : AQ W8 _ ∧ _))).mono ?_); rintro e w' ⟨⟨vq, rfl, hvq⟩, hb⟩; have hs' : AQ W8 w' := AQ.later (And.left (by assumption : AQ W8 _ ∧ _)) hb)
      | (go_at_call 16; (with_reducible refine (C28A.out _ _ (by assumption)).mono ?_); rintro e w' ⟨rfl, hb⟩; have hs' : AQ W8 w' := AQ.later (And.left (by assumption : AQ W8 _ ∧ _)) hb)
      | (go_at_call 16; (with_reducible refine (C28B.out _ _ _ (by assumption) (by assumption)).mono ?_); rintro e w' ⟨rfl, hb⟩; have hs' : AQ W8 w' := AQ.later (And.left (by assumption : AQ W8 _ ∧ _)) hb)
      | (go_at_call 13; (refine (C22.out _ (And.left (by assumption : AQ W8 _ ∧ _))).mono ?_); rintro e w' ⟨⟨aq3, cq3, rfl⟩, hb⟩; have hs' : AQ W8 w' := AQ.later (And.left (by assumption : AQ W8 _ ∧ _)) hb))
  all_goals
    have hend := And.left (by assumption : AQ W8 _ ∧ _)
    have Hend := Lib.hid hend
    clear hend
    go_wp2_with fail
    go_ret
    exact ⟨rfl, BB8.out.trans (Below.mono Hend.out BB8.out.size)⟩
end Go.Proofs.Ytpnfjiglphogoac
