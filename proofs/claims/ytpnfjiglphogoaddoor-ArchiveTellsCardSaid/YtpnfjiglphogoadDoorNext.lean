/-
  For the laws of archive: the next file of a text, by the program. Condition: at most 100,000 bytes; the listed variables hold what the program's text lays.
-/
import Derived.Test.YtpnfjiglphogoadDoorBody
namespace Go.Proofs.YtpnfjiglphogoadDoor
open Go.RowKit Go.Shelf
set_option linter.unusedSimpArgs false

/-- Behind next. -/
def NextIs (g : Nat) (s : By) (w : World) (e : Ending) (w' : World) : Prop :=
  (match nextL s with
  | some (f, r) => e = .returned (.tuple #[.agg #[.string (bs f.path), .string (bs f.text)], .bool true]) ∧ RowAt w' g 40 #[.string (bs r)]
  | none => e = .returned (.tuple #[.agg #[.string ⟨#[]⟩, .string ⟨#[]⟩], .bool false]) ∧ RowAt w' g 40 #[.string (bs s)]) ∧ Below g w w' ∧ ∀ q, q < w.heap.size → q ≠ g → w'.heap[q]? = w.heap[q]?
theorem NextIs.bad {g C : Nat} {s : By} {w W : World} {e : Ending} {a b : Value} (h : nextL s = none) (he : e = .returned (.tuple #[.agg #[.string ⟨#[]⟩, .string ⟨#[]⟩], .bool false])) (hr : RowAt w g 40 #[.string (bs s)]) (hb : Below w.heap.size w W) (hC : w.heap.size ≤ C) :
    NextIs g s w e ((W.setCell ⟨C, 0, none⟩ a).setCell ⟨C, 1, none⟩ b) := by
  have hb2 := (hb.setCell (p := ⟨C, 0, none⟩) hC a).setCell (p := ⟨C, 1, none⟩) hC b
  have hg := hr.lt
  refine ⟨?_, hb2.mono (by omega), fun q hq _ => hb2.block q hq⟩
  rw [h]
  exact ⟨he, hr.later hb2⟩
theorem NextIs.good {g C : Nat} {s r : By} {f : Fl} {w W : World} {e : Ending} {a b : Value} (h : nextL s = some (f, r)) (he : e = .returned (.tuple #[.agg #[.string (bs f.path), .string (bs f.text)], .bool true])) (hr : RowAt w g 40 #[.string (bs s)]) (hb : Below w.heap.size w W) (hC : w.heap.size ≤ C) :
    NextIs g s w e (((W.setCell ⟨g, 0, none⟩ (.string (bs r))).setCell ⟨C, 0, none⟩ a).setCell ⟨C, 1, none⟩ b) := by
  have hg := hr.lt
  have hb2 := ((hb.mono (show g ≤ w.heap.size by omega)).setCell (p := ⟨g, 0, none⟩) (Nat.le_refl g) (.string (bs r))).setCell (p := ⟨C, 0, none⟩) (by show g ≤ C; omega) a
  refine ⟨?_, hb2.setCell (p := ⟨C, 1, none⟩) (by show g ≤ C; omega) b, fun q hq hqg => ?_⟩
  · rw [h]
    exact ⟨he, (((hr.later hb).set 0 (.string (bs r))).other (by omega) 0 a).other (by omega) 1 b⟩
  · rw [Below.heap_setCell _ _ _ _ (by simp; omega), Below.heap_setCell _ _ _ _ (by simp; omega), Below.heap_setCell _ _ _ _ (by simpa using hqg)]
    exact hb.block q hq
theorem trim_le (a b : By) : (Lib.trimSuffix a b).length ≤ a.length := by
  unfold Lib.trimSuffix
  split
  · rw [List.length_take]; omega
  · exact Nat.le_refl _
set_option maxRecDepth 100000 in
set_option maxHeartbeats 16000000 in
theorem next_any (g : Nat) (s : By) (hs : s.length ≤ 100000) (w : World) (hW : AW w) (hr : RowAt w g 40 #[.string (bs s)]) : Calls Tryd.prog 18 #[.pointer (some ⟨g, 0, none⟩)] w (NextIs g s w) := by
  have HW := Lib.hid hW
  have HR := Lib.hid hr
  have hg := hr.lt
  have c0 := hr.cell (j := 0) rfl
  clear hW hr
  obtain ⟨W1, hW1⟩ : ∃ W1, Hid (w.alloc (.cells #[.string ⟨#[]⟩, .string ⟨#[]⟩] 34) = W1) := ⟨_, Lib.hid rfl⟩
  have B1 : Hid (Below w.heap.size w W1) := by rw [← hW1.out]; exact Lib.hid ((Below.refl _ w).alloc (Nat.le_refl _) _)
  have R1 : Hid (RowAt W1 w.heap.size 34 #[.string ⟨#[]⟩, .string ⟨#[]⟩]) := by rw [← hW1.out]; exact Lib.hid (RowAt.new w 34 _)
  obtain ⟨h, hh⟩ : ∃ h, Hid ((lineL s).1 = h) := ⟨_, Lib.hid rfl⟩
  obtain ⟨r, hrr⟩ : ∃ r, Hid ((lineL s).2 = r) := ⟨_, Lib.hid rfl⟩
  have hhl : h.length ≤ 100000 := by rw [← hh.out, line_take]; have := headN_le s; simp; omega
  have hrl : r.length ≤ 100000 := by rw [← hrr.out, line_take]; simp; omega
  obtain ⟨mx, hmx⟩ := HW.out.max
  have Hmx : Hid (∀ W, Below w.heap.size w W → W.cell? ⟨3, 0, none⟩ = some (.int .i64 mx)) := Lib.hid fun W hb => (hb.cell (p := ⟨3, 0, none⟩) (World.block_lt_of_cell? w _ hmx)).trans hmx
  clear hmx
  go_enter Tryd.func18, Tryd.ntmps18
  go_wp2_with fail
  rw [hW1.out]
  refine (line_any s (by omega) _).mono ?_
  rw [hh.out, hrr.out]
  rintro e w2 ⟨rfl, b2⟩
  have B2 := Lib.hid (B1.out.trans (b2.mono B1.out.size))
  have R2 := Lib.hid (R1.out.later b2)
  have hs2 := B2.out.size
  clear b2
  go_wp2_with fail
  refine (Tryd.strings_Split (bs h) sp mx _ (by rw [bs_size]; omega) (Hmx.out _ B2.out) (by decide)).mono ?_
  rcases split3 (bs h) with ⟨x, y, z, k1, k2, k3, k4⟩ | ⟨k1, k2⟩
  · rw [tl_bs] at k1
    have hnx : Hid (nextL s = if (x == word4) = false ∨ pathOk y = false then none else
        match Lib.atoiAll (numOf z) with
        | .ok v => match bodyN r v.toNat with
          | none => none
          | some n =>
            if Lib.hasSuffix z [33, 10] = true ∧ r.take n = [] then none else
            if headL ⟨y, if Lib.hasSuffix z [33, 10] then (r.take n).dropLast else r.take n⟩ = h then some (⟨y, if Lib.hasSuffix z [33, 10] then (r.take n).dropLast else r.take n⟩, r.drop n) else none
        | _ => none) := Lib.hid (by unfold nextL; rw [hh.out, hrr.out, k1]; rfl)
    have hzl : z.length ≤ 100000 := by
      have h1 := congrArg List.length k4
      rw [tl_bs] at h1
      simp at h1; omega
    have hyl : y.length ≤ 100000 := by
      have h1 := congrArg List.length k4
      rw [tl_bs] at h1
      simp at h1; omega
    rw [k2, k3]
    rintro e w3 ⟨rfl, hw3⟩
    have B3 : Hid (Below w.heap.size w w3) := by rw [hw3]; exact Lib.hid (B2.out.alloc hs2 _)
    have R3 : Hid (RowAt w3 w.heap.size 34 #[.string ⟨#[]⟩, .string ⟨#[]⟩]) := by rw [hw3]; exact Lib.hid (R2.out.alloc _)
    have V3 : Hid (RowAt w3 w2.heap.size 9 #[.string (bs x), .string (bs y), .string (bs z)]) := by rw [hw3]; exact Lib.hid (RowAt.new w2 9 _)
    have v0 := V3.out.cell (j := 0) rfl
    have v1 := V3.out.cell (j := 1) rfl
    have v2 := V3.out.cell (j := 2) rfl
    have hs3 := B3.out.size
    clear hw3 k1 k2 k3 k4
    cases hx : (x == word4) with
    | false =>
      have hx2 : (x == [102, 105, 108, 101]) = false := hx
      have hno : Hid (nextL s = none) := Lib.hid (by rw [hnx.out, if_pos (.inl hx)])
      have d0 := R3.out.cell (j := 0) rfl
      have d1 := R3.out.cell (j := 1) rfl
      have f0 := R3.out.frozen 0
      have f1 := R3.out.frozen 1
      clear hx
      go_wp2_with fail
      refine bodyPost_ret (results_cell_row_tmp rfl _ _ w.heap.size 34 #[.string ⟨#[]⟩, .string ⟨#[]⟩] (0, 0) _ rfl ((R3.out.set 0 _).set 1 _) Tryd.underlying34 rfl rfl) rfl ?_
      exact NextIs.bad hno.out rfl HR.out B3.out (Nat.le_refl _)
    | true =>
      have hx2 : (x == [102, 105, 108, 101]) = true := hx
      cases hp : pathOk y with
      | false =>
        have hno : Hid (nextL s = none) := Lib.hid (by rw [hnx.out, if_pos (.inr hp)])
        have Hp := Lib.hid hp
        have d0 := R3.out.cell (j := 0) rfl
        have d1 := R3.out.cell (j := 1) rfl
        have f0 := R3.out.frozen 0
        have f1 := R3.out.frozen 1
        clear hx hp
        go_wp2_with fail
        refine (Path_any (bs y) _ (by rw [bs_size]; unfold maxLen; omega)).mono ?_
        rw [tl_bs, Hp.out]
        rintro e w4 ⟨rfl, rfl⟩
        go_wp2_with fail
        refine bodyPost_ret (results_cell_row_tmp rfl _ _ w.heap.size 34 #[.string ⟨#[]⟩, .string ⟨#[]⟩] (0, 0) _ rfl ((R3.out.set 0 _).set 1 _) Tryd.underlying34 rfl rfl) rfl ?_
        exact NextIs.bad hno.out rfl HR.out B3.out (Nat.le_refl _)
      | true =>
        have hnx2 := hnx.out
        rw [if_neg (by rw [hx, hp]; simp)] at hnx2
        have Hnx2 := Lib.hid hnx2
        have Hp := Lib.hid hp
        clear hx hp hnx2
        obtain ⟨z1, hz1⟩ : ∃ z1, Hid (Lib.trimSuffix z [33, 10] = z1) := ⟨_, Lib.hid rfl⟩
        obtain ⟨num, hnum⟩ : ∃ num, Hid (Lib.trimSuffix z1 [10] = num) := ⟨_, Lib.hid rfl⟩
        obtain ⟨ct, hct⟩ : ∃ ct, Hid (Lib.hasSuffix z [33, 10] = ct) := ⟨_, Lib.hid rfl⟩
        have hnn : Hid (numOf z = num) := Lib.hid (by unfold numOf; rw [hz1.out, hnum.out])
        have hz1l : z1.length ≤ 100000 := by rw [← hz1.out]; have := trim_le z [33, 10]; omega
        have hnl : num.length ≤ 100000 := by rw [← hnum.out]; have := trim_le z1 [10]; omega
        go_wp2_with fail
        refine (Path_any (bs y) _ (by rw [bs_size]; unfold maxLen; omega)).mono ?_
        rw [tl_bs, Hp.out]
        rintro e w4 ⟨rfl, rfl⟩
        go_wp2_with fail
        refine (Tryd.strings_CutSuffix (bs z) _ _ (by rw [bs_size]; omega)).mono ?_
        rw [show Lib.trimSuffix (bs z).data.toList (⟨#[33, 10]⟩ : ByteArray).data.toList = z1 from hz1.out, show Lib.hasSuffix (bs z).data.toList (⟨#[33, 10]⟩ : ByteArray).data.toList = ct from hct.out]
        rintro e w5 ⟨rfl, rfl⟩
        go_wp2_with fail
        refine (Tryd.strings_TrimSuffix (bs z1) _ _ (by rw [bs_size]; omega)).mono ?_
        rw [show Lib.trimSuffix (bs z1).data.toList (⟨#[10]⟩ : ByteArray).data.toList = num from hnum.out]
        rintro e w6 ⟨rfl, rfl⟩
        go_wp2_with fail
        obtain ⟨tp, pp, tp', pp', e1, e2⟩ := (HW.out.below B3.out).err
        have E1 := Lib.hid e1
        have E2 := Lib.hid e2
        clear e1 e2
        cases hA : Lib.atoiAll num with
        | «syntax» =>
          have hno : Hid (nextL s = none) := Lib.hid (by rw [Hnx2.out, hnn.out, hA])
          refine (Tryd.strconv_Atoi_syntax_var (bs num) (by rw [bs_size]; omega) hA tp pp _ E1.out).mono ?_
          rintro e w7 ⟨N, rfl, -, -, b7⟩
          have B7 := Lib.hid (B3.out.trans (b7.mono hs3))
          have R7 := Lib.hid (R3.out.later b7)
          have d0 := R7.out.cell (j := 0) rfl
          have d1 := R7.out.cell (j := 1) rfl
          have f0 := R7.out.frozen 0
          have f1 := R7.out.frozen 1
          clear b7 hA
          go_wp2_with fail
          refine bodyPost_ret (results_cell_row_tmp rfl _ _ w.heap.size 34 #[.string ⟨#[]⟩, .string ⟨#[]⟩] (0, 0) _ rfl ((R7.out.set 0 _).set 1 _) Tryd.underlying34 rfl rfl) rfl ?_
          exact NextIs.bad hno.out rfl HR.out B7.out (Nat.le_refl _)
        | range =>
          have hno : Hid (nextL s = none) := Lib.hid (by rw [Hnx2.out, hnn.out, hA])
          refine (Tryd.strconv_Atoi_range_var (bs num) (by rw [bs_size]; omega) hA tp' pp' _ E2.out).mono ?_
          rintro e w7 ⟨N, rfl, -, -, b7⟩
          have B7 := Lib.hid (B3.out.trans (b7.mono hs3))
          have R7 := Lib.hid (R3.out.later b7)
          have d0 := R7.out.cell (j := 0) rfl
          have d1 := R7.out.cell (j := 1) rfl
          have f0 := R7.out.frozen 0
          have f1 := R7.out.frozen 1
          clear b7 hA
          go_wp2_with fail
          refine bodyPost_ret (results_cell_row_tmp rfl _ _ w.heap.size 34 #[.string ⟨#[]⟩, .string ⟨#[]⟩] (0, 0) _ rfl ((R7.out.set 0 _).set 1 _) Tryd.underlying34 rfl rfl) rfl ?_
          exact NextIs.bad hno.out rfl HR.out B7.out (Nat.le_refl _)
        | ok v =>
          refine (Tryd.strconv_Atoi_ok (bs num) (by rw [bs_size]; omega) v hA _).mono ?_
          rintro e w7 ⟨rfl, hw7⟩
          have b7 : Below w6.heap.size w6 w7 := by
            rcases hw7 with rfl | ⟨t, rfl⟩
            · exact Below.refl _ _
            · exact Joins.below_bytesWorld _ _ _ _ (Nat.le_refl _)
          have hnx3 := Hnx2.out
          rw [hnn.out, hA, hct.out] at hnx3
          have Hnx3 := Lib.hid hnx3
          have B7 := Lib.hid (B3.out.trans (b7.mono hs3))
          have R7 := Lib.hid (R3.out.later b7)
          have V7 := Lib.hid (V3.out.later b7)
          have hs7 := B7.out.size
          clear hw7 b7 hA hnx3 v0 v1 v2
          go_wp2_with fail
          refine (body_any r (by omega) v _).mono ?_
          rintro e w8 ⟨hbd, b8⟩
          have B8 := Lib.hid (B7.out.trans (b8.mono hs7))
          have R8 := Lib.hid (R7.out.later b8)
          have V8 := Lib.hid (V7.out.later b8)
          have hs8 := B8.out.size
          clear b8
          cases hbn : bodyN r v.toNat with
          | none =>
            unfold BodyIs at hbd
            rw [hbn] at hbd
            obtain rfl : e = _ := hbd
            have hno : Hid (nextL s = none) := Lib.hid (by rw [Hnx3.out]; simp only [hbn])
            have d0 := R8.out.cell (j := 0) rfl
            have d1 := R8.out.cell (j := 1) rfl
            have f0 := R8.out.frozen 0
            have f1 := R8.out.frozen 1
            clear hbn
            go_wp2_with fail
            refine bodyPost_ret (results_cell_row_tmp rfl _ _ w.heap.size 34 #[.string ⟨#[]⟩, .string ⟨#[]⟩] (0, 0) _ rfl ((R8.out.set 0 _).set 1 _) Tryd.underlying34 rfl rfl) rfl ?_
            exact NextIs.bad hno.out rfl HR.out B8.out (Nat.le_refl _)
          | some n =>
            unfold BodyIs at hbd
            rw [hbn] at hbd
            obtain rfl : e = _ := hbd
            have hnx4 := Hnx3.out
            simp only [hbn] at hnx4
            obtain ⟨T, hT⟩ : ∃ T, Hid (r.take n = T) := ⟨_, Lib.hid rfl⟩
            obtain ⟨U, hU⟩ : ∃ U, Hid (r.drop n = U) := ⟨_, Lib.hid rfl⟩
            have hTl : T.length ≤ 100000 := by rw [← hT.out]; simp; omega
            rw [hT.out, hU.out] at hnx4
            rw [hT.out, hU.out]
            have Hnx4 := Lib.hid hnx4
            clear hbn hnx4
            cases ct with
            | true =>
              by_cases hTe : T = []
              · have g0 : T.isEmpty = true := by simpa using hTe
                have g2 : (T == []) = true := by simpa using hTe
                have hno : Hid (nextL s = none) := Lib.hid (by rw [Hnx4.out, if_pos ⟨rfl, hTe⟩])
                have d0 := R8.out.cell (j := 0) rfl
                have d1 := R8.out.cell (j := 1) rfl
                have f0 := R8.out.frozen 0
                have f1 := R8.out.frozen 1
                clear hTe
                go_wp2_with fail
                refine bodyPost_ret (results_cell_row_tmp rfl _ _ w.heap.size 34 #[.string ⟨#[]⟩, .string ⟨#[]⟩] (0, 0) _ rfl ((R8.out.set 0 _).set 1 _) Tryd.underlying34 rfl rfl) rfl ?_
                exact NextIs.bad hno.out rfl HR.out B8.out (Nat.le_refl _)
              · have g0 : T.isEmpty = false := by simpa using hTe
                have g2 : (T == []) = false := by simpa using hTe
                have hnx5 := Hnx4.out
                rw [if_neg (fun hh => hTe hh.2)] at hnx5
                simp only [if_true] at hnx5
                have Hnx5 := Lib.hid hnx5
                have hTp : 1 ≤ T.length := by
                  cases T with
                  | nil => exact absurd rfl hTe
                  | cons a b => simp
                have hcT : (bs T).extract 0 (T.length - 1) = bs T.dropLast := by rw [ext_bs, tl_bs, List.dropLast_eq_take]; simp
                have y0 := V8.out.cell (j := 1) rfl
                clear hTe hnx5
                obtain ⟨F, hF⟩ : ∃ F : Fl, F = ⟨y, T.dropLast⟩ := ⟨_, rfl⟩
                have hFp : F.path = y := by rw [hF]
                have hFt : F.text = T.dropLast := by rw [hF]
                have hok1 : F.path.length ≤ 100000 := by rw [hFp]; exact hyl
                have hok2 : F.text.length ≤ 100000 := by rw [hFt]; rw [List.length_dropLast]; omega
                obtain ⟨W9, hW9⟩ : ∃ W9, Hid (w8.alloc (.cells #[.string (bs y), .string (bs (T.dropLast))] 34) = W9) := ⟨_, Lib.hid rfl⟩
                have B9' : Hid (Below w8.heap.size w8 W9) := by rw [← hW9.out]; exact Lib.hid ((Below.refl _ w8).alloc (Nat.le_refl _) _)
                have Q9 : Hid (RowAt W9 w8.heap.size 34 #[.string (bs y), .string (bs (T.dropLast))]) := by rw [← hW9.out]; exact Lib.hid (RowAt.new w8 34 _)
                have B9 := Lib.hid (B8.out.trans (B9'.out.mono hs8))
                have R9 := Lib.hid (R8.out.later B9'.out)
                have hs9 := B9.out.size
                have hhd : Hid (∀ W, AW W → Calls Tryd.prog 15 #[.agg #[.string (bs y), .string (bs (T.dropLast))]] W fun e w' => e = .returned (.string (bs (headL F))) ∧ Below W.heap.size W w') := Lib.hid fun W hW => by
                  have := Head_any F hok1 hok2 W hW
                  rw [hFp, hFt] at this
                  exact this
                obtain ⟨HF, hHF⟩ : ∃ HF, Hid (headL F = HF) := ⟨_, Lib.hid rfl⟩
                rw [hHF.out] at hhd
                have HFF := Lib.hid hF
                clear hF hFp hFt hok1 hok2
                go_wp2_with fail
                rw [hW9.out]
                refine (hhd.out _ (HW.out.below B9.out)).mono ?_
                rintro e w10 ⟨rfl, b10⟩
                have B10 := Lib.hid (B9.out.trans (b10.mono hs9))
                have R10 := Lib.hid (R9.out.later b10)
                have Q10 := Lib.hid (Q9.out.later b10)
                have hs10 := B10.out.size
                clear b10
                have d0 := R10.out.cell (j := 0) rfl
                have d1 := R10.out.cell (j := 1) rfl
                have f0 := R10.out.frozen 0
                have f1 := R10.out.frozen 1
                by_cases hEq : HF = h
                · have g1 : (HF == h) = true := by simpa using hEq
                  have hyes : Hid (nextL s = some (F, U)) := Lib.hid (by rw [Hnx5.out, if_pos (by rw [← HFF.out, hHF.out]; exact hEq), ← HFF.out])
                  have G10 := Lib.hid (HR.out.later B10.out)
                  have r0 := G10.out.cell (j := 0) rfl
                  have rf := G10.out.frozen 0
                  have q0 := Q10.out.cell (j := 0) rfl
                  have q1 := Q10.out.cell (j := 1) rfl
                  have hgne : g ≠ w.heap.size := by omega
                  have hgne2 : g ≠ w8.heap.size := by omega
                  clear hEq
                  go_wp2_with fail
                  refine bodyPost_ret (results_cell_row_tmp rfl _ _ w.heap.size 34 #[.string (bs y), .string (bs (T.dropLast))] (0, 0) _ rfl (((R10.out.other (fun e => hgne e.symm) 0 _).set 0 _).set 1 _) Tryd.underlying34 rfl rfl) rfl ?_
                  exact NextIs.good hyes.out (by rw [HFF.out]; rfl) HR.out B10.out (Nat.le_refl _)
                · have g1 : (HF == h) = false := by simpa using hEq
                  have hno : Hid (nextL s = none) := Lib.hid (by rw [Hnx5.out, if_neg (by rw [← HFF.out, hHF.out]; exact hEq)])
                  clear hEq
                  go_wp2_with fail
                  refine bodyPost_ret (results_cell_row_tmp rfl _ _ w.heap.size 34 #[.string ⟨#[]⟩, .string ⟨#[]⟩] (0, 0) _ rfl ((R10.out.set 0 _).set 1 _) Tryd.underlying34 rfl rfl) rfl ?_
                  exact NextIs.bad hno.out rfl HR.out B10.out (Nat.le_refl _)
            | false =>
              have hnx5 := Hnx4.out
              rw [if_neg (fun hh => by cases hh.1)] at hnx5
              simp only [Bool.false_eq_true, if_false] at hnx5
              have Hnx5 := Lib.hid hnx5
              have y0 := V8.out.cell (j := 1) rfl
              clear hnx5
              obtain ⟨F, hF⟩ : ∃ F : Fl, F = ⟨y, T⟩ := ⟨_, rfl⟩
              have hFp : F.path = y := by rw [hF]
              have hFt : F.text = T := by rw [hF]
              have hok1 : F.path.length ≤ 100000 := by rw [hFp]; exact hyl
              have hok2 : F.text.length ≤ 100000 := by rw [hFt]; omega
              obtain ⟨W9, hW9⟩ : ∃ W9, Hid (w8.alloc (.cells #[.string (bs y), .string (bs (T))] 34) = W9) := ⟨_, Lib.hid rfl⟩
              have B9' : Hid (Below w8.heap.size w8 W9) := by rw [← hW9.out]; exact Lib.hid ((Below.refl _ w8).alloc (Nat.le_refl _) _)
              have Q9 : Hid (RowAt W9 w8.heap.size 34 #[.string (bs y), .string (bs (T))]) := by rw [← hW9.out]; exact Lib.hid (RowAt.new w8 34 _)
              have B9 := Lib.hid (B8.out.trans (B9'.out.mono hs8))
              have R9 := Lib.hid (R8.out.later B9'.out)
              have hs9 := B9.out.size
              have hhd : Hid (∀ W, AW W → Calls Tryd.prog 15 #[.agg #[.string (bs y), .string (bs (T))]] W fun e w' => e = .returned (.string (bs (headL F))) ∧ Below W.heap.size W w') := Lib.hid fun W hW => by
                have := Head_any F hok1 hok2 W hW
                rw [hFp, hFt] at this
                exact this
              obtain ⟨HF, hHF⟩ : ∃ HF, Hid (headL F = HF) := ⟨_, Lib.hid rfl⟩
              rw [hHF.out] at hhd
              have HFF := Lib.hid hF
              clear hF hFp hFt hok1 hok2
              go_wp2_with fail
              rw [hW9.out]
              refine (hhd.out _ (HW.out.below B9.out)).mono ?_
              rintro e w10 ⟨rfl, b10⟩
              have B10 := Lib.hid (B9.out.trans (b10.mono hs9))
              have R10 := Lib.hid (R9.out.later b10)
              have Q10 := Lib.hid (Q9.out.later b10)
              have hs10 := B10.out.size
              clear b10
              have d0 := R10.out.cell (j := 0) rfl
              have d1 := R10.out.cell (j := 1) rfl
              have f0 := R10.out.frozen 0
              have f1 := R10.out.frozen 1
              by_cases hEq : HF = h
              · have g1 : (HF == h) = true := by simpa using hEq
                have hyes : Hid (nextL s = some (F, U)) := Lib.hid (by rw [Hnx5.out, if_pos (by rw [← HFF.out, hHF.out]; exact hEq), ← HFF.out])
                have G10 := Lib.hid (HR.out.later B10.out)
                have r0 := G10.out.cell (j := 0) rfl
                have rf := G10.out.frozen 0
                have q0 := Q10.out.cell (j := 0) rfl
                have q1 := Q10.out.cell (j := 1) rfl
                have hgne : g ≠ w.heap.size := by omega
                have hgne2 : g ≠ w8.heap.size := by omega
                clear hEq
                go_wp2_with fail
                refine bodyPost_ret (results_cell_row_tmp rfl _ _ w.heap.size 34 #[.string (bs y), .string (bs (T))] (0, 0) _ rfl (((R10.out.other (fun e => hgne e.symm) 0 _).set 0 _).set 1 _) Tryd.underlying34 rfl rfl) rfl ?_
                exact NextIs.good hyes.out (by rw [HFF.out]; rfl) HR.out B10.out (Nat.le_refl _)
              · have g1 : (HF == h) = false := by simpa using hEq
                have hno : Hid (nextL s = none) := Lib.hid (by rw [Hnx5.out, if_neg (by rw [← HFF.out, hHF.out]; exact hEq)])
                clear hEq
                go_wp2_with fail
                refine bodyPost_ret (results_cell_row_tmp rfl _ _ w.heap.size 34 #[.string ⟨#[]⟩, .string ⟨#[]⟩] (0, 0) _ rfl ((R10.out.set 0 _).set 1 _) Tryd.underlying34 rfl rfl) rfl ?_
                exact NextIs.bad hno.out rfl HR.out B10.out (Nat.le_refl _)
  · rw [tl_bs] at k1
    obtain ⟨n3, hn3⟩ : ∃ n3, Hid (Lib.countB (bs h) sp + 1 = n3) := ⟨_, Lib.hid rfl⟩
    have hne : ((n3 : Int) != 3) = true := by rw [bne_iff_ne]; have := hn3.out; omega
    have hno : Hid (nextL s = none) := Lib.hid (by unfold nextL; rw [hh.out, k1])
    rw [hn3.out]
    rintro e w3 ⟨rfl, hw3⟩
    have B3 : Hid (Below w.heap.size w w3) := by rw [hw3]; exact Lib.hid (B2.out.alloc hs2 _)
    have R3 : Hid (RowAt w3 w.heap.size 34 #[.string ⟨#[]⟩, .string ⟨#[]⟩]) := by rw [hw3]; exact Lib.hid (R2.out.alloc _)
    have d0 := R3.out.cell (j := 0) rfl
    have d1 := R3.out.cell (j := 1) rfl
    have f0 := R3.out.frozen 0
    have f1 := R3.out.frozen 1
    clear hw3 k1 k2
    go_wp2_with fail
    refine bodyPost_ret (results_cell_row_tmp rfl _ _ w.heap.size 34 #[.string ⟨#[]⟩, .string ⟨#[]⟩] (0, 0) _ rfl ((R3.out.set 0 _).set 1 _) Tryd.underlying34 rfl rfl) rfl ?_
    exact NextIs.bad hno.out rfl HR.out B3.out (Nat.le_refl _)
end Go.Proofs.YtpnfjiglphogoadDoor
