/-
  For the laws of token: what must stand between two tokens, by the program's own table. Condition: at most 1,000,000 bytes; the library's own variables and the table are as they are laid.
-/
import Derived.Test.YtamhlobjolnlhaaDoorKind
namespace Go.Proofs.YtamhlobjolnlhaaDoor
open Go.RowKit Go.Shelf

def pairsL : List (List UInt8 × List UInt8) := [([61], [61]), ([61], [61, 61]), ([33], [61]), ([33], [61, 61]), ([60], [61]), ([60], [61, 61]), ([62], [61]), ([62], [61, 61]), ([47], [47]), ([47], [42])]
theorem pairs_len : pairsL.length = 10 := rfl
/-- The world holds the table, and what Lex asks of it. -/
structure TokW (W : World) : Prop where
  lex : LexW W
  pairs : ∀ (k : Nat) (x y : List UInt8), pairsL[k]? = some (x, y) → W.cell? ⟨0, k * 2, none⟩ = some (.string (bs x)) ∧ W.cell? ⟨0, k * 2 + 1, none⟩ = some (.string (bs y))
theorem TokW.below {W W' : World} {B : Nat} (h : TokW W) (hb : Below B W W') (hB : 4 ≤ B) : TokW W' :=
  ⟨h.lex.below hb hB, fun k x y hk => ⟨(hb.cell (p := ⟨0, k * 2, none⟩) (by show 0 < B; omega)).trans (h.pairs k x y hk).1, (hb.cell (p := ⟨0, k * 2 + 1, none⟩) (by show 0 < B; omega)).trans (h.pairs k x y hk).2⟩⟩
def gapIn (x y : Int) (a b : List UInt8) : Bool :=
  if x = 0 ∨ y = 0 then false else if x = 4 ∧ y = 4 then decide ((a, b) ∈ pairsL) else if x = 4 ∨ y = 4 then false else (x != 2) || (y == 2)
def gapOf (a b : List UInt8) : Bool := gapIn (kindOf a) (kindOf b) a b
set_option maxRecDepth 100000 in
set_option maxHeartbeats 8000000 in
theorem Gap_any (a b : ByteArray) (w : World) (hW : TokW w) (ha : a.size ≤ 1000000) (hb : b.size ≤ 1000000) : Calls Tryd.prog 24 #[.string a, .string b] w fun e w' => e = .returned (.bool (gapOf (tl a) (tl b))) ∧ Below w.heap.size w w' := by
  have HW := Lib.hid hW; clear hW
  have hW4 := HW.out.lex.size
  obtain ⟨r, hr⟩ : ∃ r, Hid (gapIn (kindOf (tl a)) (kindOf (tl b)) (tl a) (tl b) = r) := ⟨_, Lib.hid rfl⟩
  unfold gapOf
  rw [hr.out]
  go_enter Tryd.func24, Tryd.ntmps24
  go_wp2_with fail
  refine (Kind_any a _ HW.out.lex (by omega)).mono ?_
  rintro e w1 ⟨rfl, b1⟩
  have HW1 := Lib.hid (HW.out.below b1 hW4)
  go_wp2_with fail
  refine (Kind_any b _ HW1.out.lex (by omega)).mono ?_
  rintro e w2 ⟨rfl, b2⟩
  have B2 := b1.trans (b2.mono b1.size)
  have HW2 := Lib.hid (HW.out.below B2 hW4)
  clear b1 b2 HW1
  generalize kindOf (tl a) = x at *
  generalize kindOf (tl b) = y at *
  by_cases x0 : x = 0
  · obtain rfl : r = false := by rw [← hr.out]; simp [gapIn, x0]
    subst x0
    clear hr
    go_wp2_with fail
    go_ret
    exact ⟨rfl, B2⟩
  by_cases y0 : y = 0
  · obtain rfl : r = false := by rw [← hr.out]; simp [gapIn, y0]
    subst y0
    have dx : (x == 0) = false := by simpa using x0
    clear hr x0
    go_wp2_with fail
    go_ret
    exact ⟨rfl, B2⟩
  have dx : (x == 0) = false := by simpa using x0
  have dy : (y == 0) = false := by simpa using y0
  by_cases x4 : x = 4
  · by_cases y4 : y = 4
    · have hr2 : decide ((tl a, tl b) ∈ pairsL) = r := by rw [← hr.out]; simp [gapIn, x4, y4]
      have Hr2 := Lib.hid hr2
      subst x4 y4
      clear hr hr2 x0 y0 dx dy
      go_wp2_with fail
      go_loop [26] (fun c => ∃ k : Nat, c = .int .i64 k ∧ k ≤ 10 ∧ Hid (∀ j x, j < k → pairsL[j]? = some x → x ≠ (tl a, tl b))) (fun c => 10 - (intOf c).toNat)
      case atStart => exact ⟨0, rfl, by omega, Lib.hid (fun j x h => by omega)⟩
      case round =>
        obtain ⟨k, rfl, hk, hno⟩ := hrel
        by_cases hlt : k < 10
        · obtain ⟨⟨x, y⟩, hx⟩ : ∃ x, pairsL[k]? = some x := ⟨_, List.getElem?_eq_getElem (by rw [pairs_len]; exact hlt)⟩
          obtain ⟨c0, c1⟩ := HW2.out.pairs k x y hx
          have f := bs_beq a x
          have g := bs_beq b y
          have step : (x, y) ≠ (tl a, tl b) → Hid (∀ j z, j < k + 1 → pairsL[j]? = some z → z ≠ (tl a, tl b)) := fun h => Lib.hid (fun j z hj hz => by
            rcases Nat.lt_or_ge j k with h' | h'
            · exact hno.out j z h' hz
            · obtain rfl : j = k := by omega
              rw [hx] at hz
              exact Option.some.inj hz ▸ h)
          have Step := Lib.hid step
          have Hx := Lib.hid hx
          clear step hx
          by_cases e1 : x = tl a
          · rw [decide_eq_true e1] at f
            by_cases e2 : y = tl b
            · rw [decide_eq_true e2] at g
              obtain rfl : r = true := by rw [← Hr2.out, decide_eq_true_iff, ← e1, ← e2]; exact List.mem_of_getElem? Hx.out
              clear Step e1 e2
              go_wp2_with fail
              go_ret
              exact ⟨rfl, B2⟩
            · rw [decide_eq_false e2] at g
              have hn := Step.out (fun h => e2 (congrArg Prod.snd h))
              clear Step e1 e2
              go_wp2_with fail
              exact ⟨⟨k + 1, by go_num, by omega, hn⟩, by simp [intOf]; omega⟩
          · rw [decide_eq_false e1] at f
            have hn := Step.out (fun h => e1 (congrArg Prod.fst h))
            clear Step e1
            go_wp2_with fail
            exact ⟨⟨k + 1, by go_num, by omega, hn⟩, by simp [intOf]; omega⟩
        · obtain rfl : k = 10 := by omega
          obtain rfl : r = false := by
            rw [← Hr2.out, decide_eq_false_iff_not]
            intro hm
            obtain ⟨j, hj⟩ := List.mem_iff_getElem?.1 hm
            exact hno.out j _ (by have := (List.getElem?_eq_some_iff.1 hj).1; rw [pairs_len] at this; exact this) hj rfl
          clear hno
          go_wp2_with fail
          go_ret
          exact ⟨rfl, B2⟩
    · obtain rfl : r = false := by rw [← hr.out]; simp [gapIn, x4, y4]
      have dy4 : (y == 4) = false := by simpa using y4
      subst x4
      clear hr y4 y0 x0 dx
      go_wp2_with fail
      go_ret
      exact ⟨rfl, B2⟩
  · have dx4 : (x == 4) = false := by simpa using x4
    by_cases y4 : y = 4
    · obtain rfl : r = false := by rw [← hr.out]; simp [gapIn, x4, y4]
      subst y4
      clear hr x4 x0 y0 dy
      go_wp2_with fail
      go_ret
      exact ⟨rfl, B2⟩
    · have dy4 : (y == 4) = false := by simpa using y4
      have hr2 : ((x != 2) || (y == 2)) = r := by rw [← hr.out]; simp [gapIn, x4, y4, x0, y0]
      clear hr x4 y4 x0 y0
      by_cases x2 : x = 2
      · subst x2
        have hr3 : (y == 2) = r := by rw [← hr2]; rfl
        clear hr2
        subst hr3
        go_wp2_with fail
        go_ret
        exact ⟨rfl, B2⟩
      · have dx2 : (x != 2) = true := by simpa using x2
        obtain rfl : r = true := by rw [← hr2, dx2]; rfl
        clear hr2 x2
        go_wp2_with fail
        go_ret
        exact ⟨rfl, B2⟩
end Go.Proofs.YtamhlobjolnlhaaDoor
