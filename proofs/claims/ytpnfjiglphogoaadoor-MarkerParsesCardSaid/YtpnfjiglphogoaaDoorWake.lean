/-
  For the laws of marker: the document's example holds. Condition: the program's table of marks is as it is laid.
-/
import Derived.Test.YtpnfjiglphogoaaDoorParse
namespace Go.Proofs.YtpnfjiglphogoaaDoor
open Go.RowKit Go.Shelf
set_option linter.unusedSimpArgs false

def exP : Pt := ⟨true, [], [120], [121, 10]⟩
theorem ex_print : printM [exP] 7 false = [60, 60, 60, 60, 60, 60, 60, 32, 111, 117, 114, 115, 10, 120, 10, 61, 61, 61, 61, 61, 61, 61, 33, 10, 121, 10, 62, 62, 62, 62, 62, 62, 62, 32, 116, 104, 101, 105, 114, 115, 10] := by decide +kernel
theorem ex_parse : parseT (lnB ⟨#[60, 60, 60, 60, 60, 60, 60, 32, 111, 117, 114, 115, 10, 120, 10, 61, 61, 61, 61, 61, 61, 61, 33, 10, 121, 10, 62, 62, 62, 62, 62, 62, 62, 32, 116, 104, 101, 105, 114, 115, 10]⟩) 7 = some [exP] := by decide +kernel
theorem ex_show : showN [exP] = 7 := by decide +kernel
theorem ex_long : (printM [exP] 7 true).length = 54 := by decide +kernel
theorem ex_len : lenL 7 (allL [⟨#[97, 10, 61, 61, 61, 61, 61, 61, 61, 61, 10]⟩]) = 9 := by decide +kernel
theorem ex_ok : ∀ p ∈ [exP], okH p := by
  intro p hp
  obtain rfl : p = exP := by simpa using hp
  exact ⟨by decide, by decide, by decide⟩
theorem strz_one {W : World} {b : Nat} {t : TypeId} {x : ByteArray} (h : RowAt W b t #[.string x]) : Strz W (.slice (some ⟨b, 0, none⟩) 1 1) [x] := by
  refine ⟨_, 1, rfl, Nat.le_refl _, by simp [maxLen], .inr ⟨b, 0, rfl, h.lt, fun j u hj => ?_⟩⟩
  have hj0 : j = 0 := by have := (List.getElem?_eq_some_iff.1 hj).1; simp at this; omega
  subst hj0
  obtain rfl : x = u := by simpa using hj
  exact h.cell (j := 0) rfl
set_option maxRecDepth 100000 in
set_option maxHeartbeats 16000000 in
theorem awake_any (w : World) (hW : MkW w) : Calls Tryd.prog 6 #[] w fun e w' => e = .returned (.bool true) ∧ Below w.heap.size w w' := by
  have HW := Lib.hid hW
  have hW1 := hW.size
  clear hW
  obtain ⟨W1, hW1'⟩ : ∃ W1, Hid (w.alloc (.cells #[.bool true, .string ⟨#[]⟩, .string ⟨#[120]⟩, .string ⟨#[121, 10]⟩] 29) = W1) := ⟨_, Lib.hid rfl⟩
  have B1 : Hid (Below w.heap.size w W1) := by rw [← hW1'.out]; exact Lib.hid ((Below.refl _ w).alloc (Nat.le_refl _) _)
  have R1 : Hid (RowAt W1 w.heap.size 29 #[.bool exP.clash, .string (bs exP.o), .string (bs exP.a), .string (bs exP.b)]) := by rw [← hW1'.out]; exact Lib.hid (RowAt.new w 29 _)
  have V1 := Lib.hid (prts_one R1.out)
  have hs1 := B1.out.size
  go_enter Tryd.func6, Tryd.ntmps6
  go_wp2_with fail
  rw [hW1'.out]
  refine (Print_any _ [exP] 7 7 rfl (by omega) false (by decide) (fun p hp => (ex_ok p hp).okS) _ (HW.out.below B1.out hW1) V1.out).mono ?_
  rw [ex_print]
  rintro e w2 ⟨rfl, b2⟩
  have B2 := Lib.hid (B1.out.trans (b2.mono hs1))
  have V2 := Lib.hid (V1.out.below b2)
  have hs2 := B2.out.size
  clear b2
  go_wp2_with fail
  refine (Parse_any _ (by decide) 7 _ (HW.out.below B2.out hW1)).mono ?_
  rw [ex_parse]
  rintro e w3 ⟨⟨v3, rfl, p3⟩, b3⟩
  have B3 := Lib.hid (B2.out.trans (b3.mono hs2))
  have V3 := Lib.hid (V2.out.below b3)
  have P3 := Lib.hid p3
  have hs3 := B3.out.size
  clear b3 p3
  go_wp2_with fail
  refine (Show_any _ [exP] true (by decide) ex_ok _ (HW.out.below B3.out hW1) V3.out).mono ?_
  rw [ex_show]
  rintro e w4 ⟨rfl, b4⟩
  have B4 := Lib.hid (B3.out.trans (b4.mono hs3))
  have V4 := Lib.hid (V3.out.below b4)
  have P4 := Lib.hid (P3.out.below b4)
  have hs4 := B4.out.size
  clear b4
  have hlen : (printM [exP] 7 true).length = 54 := ex_long
  obtain ⟨T, hT⟩ : ∃ T, Hid (printM [exP] 7 true = T) := ⟨_, Lib.hid rfl⟩
  rw [hT.out] at hlen
  rw [hT.out]
  have hl : T.length ≤ 54 := by omega
  have hl2 : 54 ≤ T.length := by omega
  have hd : decide ((T.length : Int) > 41) = true := decide_eq_true (by omega)
  clear hlen
  go_wp2_with fail
  refine (Same_eq _ _ [exP] _ P4.out V4.out).mono ?_
  rintro e w5 ⟨rfl, b5⟩
  have B5 := Lib.hid (B4.out.trans (b5.mono hs4))
  have hs5 := B5.out.size
  clear b5
  obtain ⟨W6, hW6⟩ : ∃ W6, Hid (w5.alloc (.cells #[.string ⟨#[97, 10, 61, 61, 61, 61, 61, 61, 61, 61, 10]⟩] 9) = W6) := ⟨_, Lib.hid rfl⟩
  have B6 : Hid (Below w5.heap.size w5 W6) := by rw [← hW6.out]; exact Lib.hid ((Below.refl _ w5).alloc (Nat.le_refl _) _)
  have R6 : Hid (RowAt W6 w5.heap.size 9 #[.string ⟨#[97, 10, 61, 61, 61, 61, 61, 61, 61, 61, 10]⟩]) := by rw [← hW6.out]; exact Lib.hid (RowAt.new w5 9 _)
  go_wp2_with fail
  rw [hW6.out]
  refine (Length_any _ _ (by decide) _ (strz_one R6.out)).mono ?_
  rw [ex_len]
  rintro e w7 ⟨rfl, b7⟩
  have B7 := Lib.hid ((B5.out.trans (B6.out.mono hs5)).trans (b7.mono (Nat.le_trans hs5 B6.out.size)))
  clear b7
  go_wp2_with fail
  go_ret
  exact ⟨rfl, B7.out⟩
end Go.Proofs.YtpnfjiglphogoaaDoor
