/-
  For the laws of archive: Read, by the program. Condition: at most 100,000 bytes; the listed variables hold what the program's text lays.
-/
import Derived.OwnWalk
import Derived.Test.YtpnfjiglphogoadDoorRmath
namespace Go.Proofs.YtpnfjiglphogoadDoor
open Go.RowKit Go.Shelf
set_option linter.unusedSimpArgs false
set_option linter.unusedVariables false

set_option maxRecDepth 100000 in
set_option maxHeartbeats 16000000 in
theorem Read_any (s : By) (hs : s.length ≤ 100000) (many : Int) (w : World) (hW : AW w) : Calls Tryd.prog 10 #[.string (bs s), .int .i64 many] w fun e w' => ReadIs s many e w' ∧ Below w.heap.size w w' := by
  have HW := Lib.hid hW
  clear hW
  obtain ⟨i0, hi0, hz0, hz1, hz2⟩ := info_parts infoFl
  obtain ⟨W1, hW1⟩ : ∃ W1, Hid (w.alloc (.cells #[.string (bs s)] 40) = W1) := ⟨_, Lib.hid rfl⟩
  have B1 : Hid (Below w.heap.size w W1) := by rw [← hW1.out]; exact Lib.hid ((Below.refl _ w).alloc (Nat.le_refl _) _)
  have R1 : Hid (RowAt W1 w.heap.size 40 #[.string (bs s)]) := by rw [← hW1.out]; exact Lib.hid (RowAt.new w 40 _)
  have S1 : W1.heap.size = w.heap.size + 1 := by rw [← hW1.out, World.size_alloc]
  have s1 : w.heap.size + 1 ≤ W1.heap.size := by omega
  clear S1
  go_enter Tryd.func10, Tryd.ntmps10
  go_wp2_with fail
  refine wp_scope_jumps 0 (fun a' w' => (∃ u0 u1 u2 u3 u4 u5 u6 u7 u8 u9 u10 u11 u12 u13 u14 u15 u16 u17 u18 u19 u20 u21 u22 u23 u24 u25 u26 u27 u28 u29 u30 u31 u32 u33 u34 : Value, a' = { tmps := #[u0, u1, u2, u3, u4, u5, u6, u7, u8, u9, u10, u11, u12, u13, u14, u15, u16, u17, u18, u19, u20, u21, u22, u23, u24, u25, u26, u27, u28, u29, u30, u31, u32, u33, u34], defers := [] }) ∧ Hid (many < 0 ∨ ∀ L r, okL L → (L.length : Int) = many → s ≠ showL L ++ r) ∧ Hid (Below w.heap.size w w')) (fun _ _ => 0) rfl ?_ ?_
  rotate_left
  · rintro a' w' ⟨⟨u0, u1, u2, u3, u4, u5, u6, u7, u8, u9, u10, u11, u12, u13, u14, u15, u16, u17, u18, u19, u20, u21, u22, u23, u24, u25, u26, u27, u28, u29, u30, u31, u32, u33, u34, rfl⟩, hno, hbb⟩
    go_wp2_with fail
    simp only [Exit.jump]
    go_ret3
    exact ⟨.inr ⟨hno.out, rfl⟩, hbb.out⟩
  by_cases hneg : many < 0
  · have g0 : decide (many < 0) = true := decide_eq_true hneg
    have hno : Hid (many < 0 ∨ ∀ L r, okL L → (L.length : Int) = many → s ≠ showL L ++ r) := Lib.hid (.inl hneg)
    clear hneg
    go_wp2_with fail
    rw [hW1.out]
    go_wp2_with fail
    go_step3
    simp only [Exit.then, Exit.inBlock, Exit.jump]
    exact ⟨rfl, ⟨_, _, _, _, _, _, _, _, _, _, _, _, _, _, _, _, _, _, _, _, _, _, _, _, _, _, _, _, _, _, _, _, _, _, _, rfl⟩, hno, B1⟩
  have g0 : decide (many < 0) = false := decide_eq_false hneg
  go_wp2_with fail
  rw [hW1.out]
  go_loopw [9, 18] (fun u c wr => ∃ (L : List Fl) (r : By), c = .int .i64 L.length ∧ (L.length : Int) ≤ many ∧ Hid (okL L ∧ s = showL L ++ r) ∧ Hid (RowAt wr w.heap.size 40 #[.string (bs r)]) ∧ Hid (wr.ownsRow (w.heap.size + 1) 34 2 u L.length (fv L)) ∧ Hid (Below w.heap.size w wr) ∧ w.heap.size + 1 ≤ wr.heap.size) (fun u _ _ => s.length + 1 - lenOf u)
  case atStart => exact ⟨[], s, rfl, by simp; omega, Lib.hid ⟨(fun f hf => by cases hf), rfl⟩, R1, Lib.hid (World.ownsRow_nil _ _ _ _), B1, s1⟩
  case round =>
    obtain ⟨L, r, rfl, hlm, hL, hR, hO, hB, hsz⟩ := hrel
    have hsl := congrArg List.length hL.out.2
    rw [List.length_append] at hsl
    have hll := showL_len L
    have hlen : L.length ≤ 100000 := by omega
    have hrl : r.length ≤ 100000 := by omega
    have hlu := Lib.hid (own_len hO.out)
    have c0 := hR.out.cell (j := 0) rfl
    by_cases hr : (L.length : Int) < many
    · have g1 : decide ((L.length : Int) < many) = true := decide_eq_true hr
      have hltm : L.length < s.length + 1 := by omega
      have Hsl := Lib.hid hsl
      clear hsl
      go_wp2_with fail
      refine (next_any w.heap.size r hrl wr (HW.out.below hB.out) hR.out).mono ?_
      rintro e w2 hn
      cases hnx : nextL r with
      | none =>
        obtain ⟨rfl, -, nb, -⟩ := hn.no hnx
        have hfin : Hid (many < 0 ∨ ∀ L r, okL L → (L.length : Int) = many → s ≠ showL L ++ r) := Lib.hid (.inr fun L' r' h' hm => by
          rw [hL.out.2]
          exact no_more (by rw [← hL.out.2]; omega) hL.out.1 h' (by omega) hnx)
        have B2 := Lib.hid (hB.out.trans nb)
        have hs2 := B2.out.size
        clear nb hn hnx
        go_wp2_with fail
        go_step3
        simp only [Exit.then, Exit.inBlock, Exit.jump]
        exact ⟨rfl, ⟨_, _, _, _, _, _, _, _, _, _, _, _, _, _, _, _, _, _, _, _, _, _, _, _, _, _, _, _, _, _, _, _, _, _, _, rfl⟩, hfin, Lib.hid (B2.out.alloc hs2 _)⟩
      | some fr =>
        obtain ⟨f, r2⟩ := fr
        obtain ⟨rfl, nr, nb, nq⟩ := hn.yes hnx
        have hof := of_next hnx
        have hnL : Hid (okL (L ++ [f]) ∧ s = showL (L ++ [f]) ++ r2) := Lib.hid ⟨fun x hx => by
          rcases List.mem_append.1 hx with hx | hx
          · exact hL.out.1 x hx
          · obtain rfl : x = f := by simpa using hx
            exact hof.1, by
          rw [hL.out.2, hof.2, showL_app, show showL [f] = oneL f by simp [showL], List.append_assoc]⟩
        have hns : (L ++ [f]).length = L.length + 1 := by simp
        have hnm : (((L ++ [f]).length : Nat) : Int) ≤ many := by rw [hns]; omega
        have B2 := Lib.hid (hB.out.trans nb)
        have NR := Lib.hid nr
        have O2 := Lib.hid (own_keep hO.out (Nat.lt_succ_self _) nq)
        have hs2 : w.heap.size + 1 ≤ w2.heap.size := Nat.le_trans hsz nb.size
        clear nr nb nq hn hnx hof c0
        go_wp2_with (at_builtin; refine wpList_append_own _ rfl _ _ 22 rfl (w.heap.size + 1) 34 i0 _ 2 32 Tryd.underlying22 hi0 hz0 hz1 hz2 rfl (by decide) _ L.length _ rfl ((O2.out.alloc _).alloc _) ⟨w2.heap.size + 1, 0, none⟩ 1 1 (rowF f) rfl rfl (fl_new2 w2 _ f _) (fl_one _) (by unfold maxLen; omega) (by omega) (by simp; omega) ?_; intro v' w4 hown' hgrow _)
        have B4 := Lib.hid (((B2.out.alloc (by omega) (.cells #[.string (bs f.path), .string (bs f.text)] 34)).alloc (by simp; omega) (.cells #[.string (bs f.path), .string (bs f.text)] 34)).grown hgrow (by simp; omega) (fun k hk => by have := (O2.out.lt k hk).1; omega))
        have R4 := Lib.hid (RowAt.same ((NR.out.alloc (.cells #[.string (bs f.path), .string (bs f.text)] 34)).alloc (.cells #[.string (bs f.path), .string (bs f.text)] 34)) (hgrow.block w.heap.size (by simp; omega) (fun e => by have := (O2.out.lt _ e.symm).1; omega)))
        have O4 : Hid (w4.ownsRow (w.heap.size + 1) 34 2 v' (L ++ [f]).length (fv (L ++ [f]))) := by
          rw [fv_snoc, List.length_append]; exact Lib.hid hown'
        have hl4 := own_len hown'
        have hs4 : w.heap.size + 1 ≤ w4.heap.size := by have := hgrow.size; simp at this; omega
        go_wp2_with fail
        refine ⟨⟨L ++ [f], r2, by rw [hns]; go_num, hnm, hnL, R4, O4, B4, hs4⟩, ?_⟩
        show s.length + 1 - lenOf v' < s.length + 1 - lenOf _
        rw [hl4, hlu.out]
        omega
    · have g1 : decide ((L.length : Int) < many) = false := decide_eq_false hr
      have hfin : Hid (s = showL L ++ r) := Lib.hid hL.out.2
      clear hsl
      go_wp2_with fail
      go_quiet (fail)
      go_wp2_with fail
      simp only [Exit.jump]
      go_ret3
      exact ⟨.inl ⟨L, r, _, by omega, by omega, hL.out.1, hfin.out, rfl, (own_fls hO.out).below (below_draws (Below.refl _ _) _)⟩, below_draws hB.out _⟩
end Go.Proofs.YtpnfjiglphogoadDoor
