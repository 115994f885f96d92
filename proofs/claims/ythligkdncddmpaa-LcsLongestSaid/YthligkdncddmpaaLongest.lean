/-
  For the law LcsLongest: it returns true for any three rows of numbers. No condition but what can be read.
-/
import Derived.Test.YthligkdncddmpaaTurned
namespace Go.Proofs.Ythligkdncddmpaa
open Go.RowKit

/-- What is left of the first i things, in memory. -/
def Left (W : World) (base : Nat) (v : Value) (i : Nat) (A : List Int) : Prop := ∃ L : List Int, L.Sublist (A.take i) ∧ W.ownsRow base 3 1 v L.length (L.map (Value.int .i64))
theorem owns_below {W W' : World} {base base' : Nat} {e : TypeId} {size : Nat} {v : Value} {n : Nat} {xs : List Value} (h : W.ownsRow base e size v n xs) (hb : Below base' W W') (hs : W.heap.size ≤ base') : W'.ownsRow base e size v n xs :=
  owns_same h fun k e => hb.block k (by have := (h.lt k e).2; omega)

set_option maxRecDepth 100000 in
set_option maxHeartbeats 8000000 in
theorem LcsLongest_any (v1 v2 v3 : Value) (A B C : List Int) (w : World) (h1 : Ints w .i64 v1 A) (h2 : Ints w .i64 v2 B) (h3 : Ints w .i64 v3 C) :
    Calls Try.prog 7 #[v1, v2, v3] w fun e w' => e = .returned (.bool true) ∧ Below w.heap.size w w' := by
  obtain ⟨aA, cA, rfl, hcA, hmA, atA⟩ := h1.at
  obtain ⟨aB, cB, rfl, hcB, hmB, atB⟩ := h2.at
  obtain ⟨aC, cC, rfl, hcC, hmC, atC⟩ := h3.at
  have AtA := Lib.hid atA; clear atA
  have AtC := Lib.hid atC; clear atC
  have HA := Lib.hid h1; clear h1
  have HB := Lib.hid h2; clear h2
  clear hcA hmA hcB hmB hcC hmC h3 atB
  by_cases hs : 200 < A.length ∨ 200 < B.length ∨ 100 < C.length
  · by_cases hq1 : 200 < A.length
    case' neg => by_cases hq2 : 200 < B.length
    all_goals
      first
      | have hd1 : decide ((200 : Int) < (A.length : Int)) = true := by simp; omega
      | (have hd1 : decide ((200 : Int) < (A.length : Int)) = false := by simp; omega
         have hd2 : decide ((200 : Int) < (B.length : Int)) = true := by simp; omega)
      | (have hd1 : decide ((200 : Int) < (A.length : Int)) = false := by simp; omega
         have hd2 : decide ((200 : Int) < (B.length : Int)) = false := by simp; omega
         have hd3 : decide ((100 : Int) < (C.length : Int)) = true := by simp; omega)
      clear hs
      go_enter Try.func7, Try.ntmps7
      go_wp2_with fail
      refine (awake_any _).mono ?_
      rintro e w1 ⟨rfl, b1⟩
      go_wp2_with fail
      go_ret
      exact ⟨rfl, b1⟩
  · have hlA : A.length ≤ 200 := by omega
    have hlB : B.length ≤ 200 := by omega
    have hlC : C.length ≤ 100 := by omega
    have hd1 : decide ((200 : Int) < (A.length : Int)) = false := by simp; omega
    have hd2 : decide ((200 : Int) < (B.length : Int)) = false := by simp; omega
    have hd3 : decide ((100 : Int) < (C.length : Int)) = false := by simp; omega
    obtain ⟨i0, hi0, hz0, hz1, hz2⟩ := info3
    clear hs
    go_enter Try.func7, Try.ntmps7
    go_wp2_with fail
    refine (awake_any _).mono ?_
    rintro e w1 ⟨rfl, b1⟩
    go_wp2_with fail
    go_loopw [8, 9] (fun p c wr => ∃ i : Nat, i ≤ A.length ∧ c = .int .i64 i ∧ Left wr w.heap.size p i A ∧ Below w.heap.size w wr) (fun _ c _ => A.length - (intOf c).toNat)
    case atStart => exact ⟨0, Nat.zero_le _, rfl, ⟨[], List.nil_sublist _, World.ownsRow_nil _ _ _ _⟩, b1⟩
    case round =>
      clear b1
      obtain ⟨i, hi, rfl, hL, hB⟩ := hrel
      by_cases hlt : i < A.length
      · obtain ⟨y, hy⟩ : ∃ y, Hid (A[i]? = some y) := ⟨A[i], Lib.hid (List.getElem?_eq_getElem hlt)⟩
        obtain ⟨bA, oA, rfl, lA, eA⟩ := AtA.out i y hy.out
        have HL := Lib.hid hL; clear hL
        have HBel := Lib.hid hB; clear hB
        obtain ⟨wo, rfl⟩ : ∃ wo : World, wo = wr := ⟨_, rfl⟩
        go_wp2_with fail
        go_loop [10, 11] (fun g c => ∃ (t : Bool) (k : Nat), k ≤ C.length ∧ g = .bool t ∧ c = .int .i64 k) (fun _ c => C.length - (intOf c).toNat)
        case atStart => exact ⟨false, 0, Nat.zero_le _, rfl, rfl⟩
        case round =>
          obtain ⟨t, k, hk, rfl, rfl⟩ := hrel
          by_cases hlk : k < C.length
          · obtain ⟨z, hz⟩ : ∃ z, Hid (C[k]? = some z) := ⟨C[k], Lib.hid (List.getElem?_eq_getElem hlk)⟩
            obtain ⟨bC, oC, rfl, lC, eC⟩ := AtC.out k z hz.out
            have cc : wo.cell? ⟨bC, oC + k, none⟩ = some (.int .i64 z) := (HBel.out.cell (p := ⟨bC, oC + k, none⟩) lC).trans eC
            clear eC
            cases t
            all_goals
              go_wp2_with fail
              go_round
              case rel => exact ⟨_, k + 1, by omega, rfl, by go_num⟩
              case measure => simp [intOf]; omega
          · obtain rfl : k = C.length := by omega
            have ca : wo.cell? ⟨bA, oA + i, none⟩ = some (.int .i64 y) := (HBel.out.cell (p := ⟨bA, oA + i, none⟩) lA).trans eA
            clear hlk hk
            cases t
            · obtain ⟨L, hsub, hown⟩ := HL.out
              have hLl : L.length ≤ 200 := by have := hsub.length_le; have h2 : (A.take i).length ≤ A.length := List.length_take_le' _ _; omega
              have Hsub := Lib.hid hsub; clear hsub
              have hbs := HBel.out.size
              go_wp2_with (at_builtin; refine wpList_append_own _ rfl _ _ 22 rfl w.heap.size 3 i0 (.int .i64 0) 1 8 Try.underlying22 hi0 hz0 hz1 hz2 rfl (by decide) _ _ _ rfl (hown.alloc _) ⟨wo.heap.size, 0, none⟩ 1 1 [.int .i64 y] rfl rfl (cell_one_new _ _ _) (by simp [Value.oneCell']) (by unfold maxLen; omega) (by omega) (by simp; omega) ?_; intro v' w2 hown' hgrow _)
              have HNew : Left w2 w.heap.size v' (i + 1) A := ⟨L ++ [y], by rw [take_succ_get hy.out]; exact Hsub.out.append (List.Sublist.refl _), by simpa using hown'⟩
              refine ⟨⟨i + 1, by omega, by go_num, HNew, (HBel.out.alloc hbs _).grown hgrow (by simp; omega) (fun k hk => (hown.lt k hk).1)⟩, by simp [intOf]; omega⟩
            · have HNew : Left wo w.heap.size u8 (i + 1) A := by
                obtain ⟨L, hsub, hown⟩ := HL.out
                exact ⟨L, by rw [take_succ_get hy.out]; exact hsub.trans (List.sublist_append_left _ _), hown⟩
              have HN := Lib.hid HNew; clear HNew
              go_wp2_with fail
              refine ⟨⟨i + 1, by omega, by go_num, HN.out, HBel.out⟩, by simp [intOf]; omega⟩
      · obtain rfl : i = A.length := by omega
        obtain ⟨L, hsub, hown⟩ := hL
        rw [List.take_length] at hsub
        have HI := Lib.hid (own_ints hown)
        have hLl := hsub.length_le
        obtain ⟨pl, cl, hform⟩ : ∃ p c, u8 = .slice p L.length c := by
          obtain ⟨a, c, e, _⟩ := HI.out
          exact ⟨a, c, e⟩
        subst hform
        have HA1 := Lib.hid (HA.out.below hB)
        have HB1 := Lib.hid (HB.out.below hB)
        have k1 : lc L A = L.length := lc_sub hsub
        have k2 : lc L B ≤ lc A B := lc_mono_left hsub B
        have k3 : lc A B + L.length ≤ lc L B + A.length := lc_left hsub B
        have k4 : lc A B ≤ A.length := lc_le_left A B
        have k5 : lc A B ≤ B.length := lc_le_right A B
        have HB0 := Lib.hid hB
        clear hown hsub hB
        obtain ⟨w2, rfl⟩ : ∃ w2 : World, w2 = wr := ⟨_, rfl⟩
        go_wp2_with fail
        refine (Length_any _ _ A B _ HA1.out HB1.out (by omega) (by omega)).mono ?_
        rw [lenOf_small (by omega) (by omega)]
        rintro e w3 ⟨rfl, b3⟩
        have J3 := Lib.hid (HI.out.below b3)
        have HB3 := Lib.hid (HB1.out.below b3)
        go_wp2_with fail
        refine (Length_any _ _ L B _ J3.out HB3.out (by omega) (by omega)).mono ?_
        rw [lenOf_small (by omega) (by omega)]
        rintro e w4 ⟨rfl, b4⟩
        have b24 := b3.trans (b4.mono b3.size)
        have J4 := Lib.hid (HI.out.below b24)
        have HA4 := Lib.hid (HA1.out.below b24)
        clear b3 b4 J3 HB3
        go_wp2_with fail
        refine (Length_any _ _ L A _ J4.out HA4.out (by omega) (by omega)).mono ?_
        rw [lenOf_small (by omega) (by omega), k1]
        rintro e w5 ⟨rfl, b5⟩
        have hfin := HB0.out.trans ((b24.trans (b5.mono b24.size)).mono HB0.out.size)
        clear b24 b5 J4 HA4 HA1 HB1 HI HB0 k1
        generalize lc L B = m at k2 k3
        generalize lc A B = n at k2 k3 k4 k5
        have t1 : decide (m ≤ n) = true := by simpa using k2
        have t2 : decide ((n : Int) - (m : Int) ≤ (A.length : Int) - (L.length : Int)) = true := by simp; omega
        go_wp2_with fail
        all_goals
          go_ret
          exact ⟨by congr 2, hfin⟩
end Go.Proofs.Ythligkdncddmpaa
