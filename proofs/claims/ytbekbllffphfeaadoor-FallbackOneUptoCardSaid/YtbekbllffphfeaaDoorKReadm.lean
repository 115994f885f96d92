/-
  For the laws of marker: whether a line is a mark, by the program. Condition: lines of at most 5,000,000 bytes, marks of at least one; the program's table of marks is as it is laid.
-/
import Derived.Test.YtbekbllffphfeaaDoorKShow
namespace Go.Proofs.YtbekbllffphfeaaDoor.K
open Go.RowKit Go.Shelf
set_option linter.unusedSimpArgs false

/-- What read answers. -/
def ReadIs (n : Nat) (l : By) (e : Ending) : Prop :=
  match markOf n l with
  | some (s, c) => e = .returned (.tuple #[.int .i64 s, .bool c, .bool true])
  | none => ∃ (s : Int) (c : Bool), e = .returned (.tuple #[.int .i64 s, .bool c, .bool false])
theorem ReadIs.no {n : Nat} {l : By} {e : Ending} (h : markOf n l = none) {s : Int} {c : Bool} (he : e = .returned (.tuple #[.int .i64 s, .bool c, .bool false])) : ReadIs n l e := by
  unfold ReadIs; rw [h]; exact ⟨s, c, he⟩
theorem ReadIs.yes {n : Nat} {l : By} {e : Ending} {s : Nat} {c : Bool} (h : markOf n l = some (s, c)) (he : e = .returned (.tuple #[.int .i64 s, .bool c, .bool true])) : ReadIs n l e := by
  unfold ReadIs; rw [h]; exact he
theorem trim_33 (r : By) : Lib.trimPrefix r [33] = restR r ∧ Lib.hasPrefix r [33] = cutR r := by
  unfold Lib.trimPrefix Lib.hasPrefix restR cutR
  cases r with
  | nil => simp
  | cons x r =>
    by_cases e : x = 33
    · subst e; simp
    · have e2 : ¬ (33 : UInt8) = x := fun h => e h.symm
      simp [List.isPrefixOf, e, e2]
set_option maxRecDepth 100000 in
set_option maxHeartbeats 8000000 in
theorem read_any (l : ByteArray) (hl : l.size ≤ 50000000) (n : Nat) (hn : 1 ≤ n) (w : World) (hW : MkW w) : Calls Tryd.prog 26 #[.string l, .int .i64 n] w fun e w' => ReadIs n (tl l) e ∧ Below w.heap.size w w' := by
  have HW := Lib.hid hW
  have hW1 := hW.size
  clear hW
  by_cases h1 : l.size ≤ n
  · have f1 : decide ((l.size : Int) ≤ (n : Int)) = true := decide_eq_true (by omega)
    have hno : Hid (markOf n (tl l) = none) := Lib.hid (markOf_len hn (by rw [tl_length]; exact h1))
    go_enter Tryd.func26, Tryd.ntmps26
    go_wp2_with fail
    go_ret3
    exact ⟨ReadIs.no hno.out rfl, Below.refl _ _⟩
  · have f1 : decide ((l.size : Int) ≤ (n : Int)) = false := decide_eq_false (by omega)
    obtain ⟨r1, hr1⟩ : ∃ r1, Hid (runL (tl l) = r1) := ⟨_, Lib.hid rfl⟩
    by_cases h2 : r1 = n
    · have f2 : ((r1 : Int) != (n : Int)) = false := by simp [h2]
      have Hr2 : Hid (runL (tl l) = n) := Lib.hid (hr1.out.trans h2)
      clear h2
      by_cases h3 : (tl l).getLast? = some 10
      · have f3 : Lib.hasSuffix l.data.toList [10] = true := by rw [suffix_nl]; exact decide_eq_true h3
        obtain ⟨s, hs, hsh, hhd⟩ := run_shape hn (by rw [tl_length]; omega) Hr2.out h3
        have hmark := markOf_read hn hs hsh
        obtain ⟨rr, hrr⟩ : ∃ rr, Hid (((tl l).drop n).dropLast = rr) := ⟨_, Lib.hid rfl⟩
        rw [hrr.out] at hmark
        have hext : l.extract n (l.size - 1) = bs rr := by
          rw [ext_bs, ← hrr.out, List.dropLast_eq_take, List.length_drop, tl_length, Nat.sub_right_comm]
        have hrl : rr.length ≤ 50000000 := by
          rw [← hrr.out]; simp; omega
        have Hmark := Lib.hid hmark
        have Hhd := Lib.hid hhd
        have Hext := Lib.hid hext
        have q1 : (n : Int) ≤ (l.size : Int) - 1 := by omega
        have q2 : (l.size : Int) - 1 ≤ (l.size : Int) := by omega
        have q3 : (0 : Int) ≤ (n : Int) := by omega
        have q4 : IntKind.i64.wrap ((l.size : Int) - 1) = (l.size : Int) - 1 := IntWalk.i64_in _ (by omega)
        have q5 : ((l.size : Int) - 1).toNat = l.size - 1 := by omega
        obtain ⟨ct, hct⟩ : ∃ ct, Hid (cutR rr = ct) := ⟨_, Lib.hid rfl⟩
        obtain ⟨rs, hrs⟩ : ∃ rs, Hid (restR rr = rs) := ⟨_, Lib.hid rfl⟩
        have hrsl : rs.length ≤ 50000000 := by
          rw [← hrs.out]; unfold restR; split
          · rw [List.length_tail]; omega
          · exact hrl
        have htr := trim_33 rr
        rw [hct.out, hrs.out] at htr
        have Htr := Lib.hid htr
        obtain ⟨c, hc⟩ : ∃ c, Hid (signB s = c) := ⟨_, Lib.hid rfl⟩
        have hl1 : Hid (l.extract 0 1 = bs [c]) := Lib.hid (by
          rw [ext_bs, ← hc.out]
          cases htl : tl l with
          | nil => rw [htl] at hhd; simp at hhd
          | cons x t => rw [htl] at hhd; simp at hhd; rw [hhd]; rfl)
        clear h3 hsh hmark hhd hext htr
        go_enter Tryd.func26, Tryd.ntmps26
        go_wp2_with fail
        refine (run_any l (by unfold maxLen; omega) _).mono ?_
        rw [hr1.out]
        rintro e w1 ⟨rfl, b1⟩
        have HB1 := Lib.hid b1
        clear b1
        go_wp2_with fail
        refine (Tryd.strings_HasSuffix l _ _ (by omega)).mono ?_
        rw [f3]
        rintro e w' ⟨rfl, rfl⟩
        go_wp2_with fail
        rw [Hext.out]
        refine (Tryd.strings_CutPrefix (bs rr) _ _).mono ?_
        rw [show Lib.trimPrefix (bs rr).data.toList (⟨#[33]⟩ : ByteArray).data.toList = rs from Htr.out.1, show Lib.hasPrefix (bs rr).data.toList (⟨#[33]⟩ : ByteArray).data.toList = ct from Htr.out.2]
        rintro e w2 ⟨rfl, rfl⟩
        go_wp2_with fail
        go_loopw [36] (fun i wr => ∃ k : Nat, i = .int .i64 k ∧ k ≤ s ∧ Hid (Below w.heap.size w wr)) (fun i _ => 4 - (intOf i).toNat)
        case atStart => exact ⟨0, rfl, by omega, HB1⟩
        case round =>
          obtain ⟨k, rfl, hk, hB⟩ := hrel
          have hbs := hB.out.size
          obtain ⟨t0, t1⟩ := (HW.out.below hB.out hW1).tab k (by omega)
          obtain ⟨x, hx⟩ : ∃ x, Hid (signB k = x) := ⟨_, Lib.hid rfl⟩
          obtain ⟨y, hy⟩ : ∃ y, Hid (labB k = y) := ⟨_, Lib.hid rfl⟩
          rw [hx.out] at t0
          rw [hy.out] at t1
          have hyl : y.length ≤ 6 := by rw [← hy.out]; exact labB_le k
          have p4 : k < 4 := by omega
          have p5 : decide ((k : Int) < 4) = true := decide_eq_true (by omega)
          obtain ⟨W2, hW2⟩ : ∃ W2, Hid (wr.alloc (.cells #[.string (bs [x]), .string (bs y)] 94) = W2) := ⟨_, Lib.hid rfl⟩
          have B2 : Hid (Below wr.heap.size wr W2) := by rw [← hW2.out]; exact Lib.hid ((Below.refl _ wr).alloc (Nat.le_refl _) _)
          have R2 : Hid (RowAt W2 wr.heap.size 94 #[.string (bs [x]), .string (bs y)]) := by rw [← hW2.out]; exact Lib.hid (RowAt.new wr 94 _)
          have B3 := Lib.hid (hB.out.trans (B2.out.mono hbs))
          go_wp2_with fail
          rw [hW2.out]
          have d0 := R2.out.cell (j := 0) rfl
          have d1 := R2.out.cell (j := 1) rfl
          have hl1' := hl1.out
          have hl2 : (1 : Int) ≤ (l.size : Int) := by omega
          clear t0 t1
          by_cases hks : k = s
          · have hxc : x = c := by rw [← hx.out, ← hc.out, hks]
            have hxb : (x == c) = true := by simp [hxc]
            clear hxc
            have Hks := Lib.hid hks
            clear hks
            go_quiet (fail)
            go_wp2_with fail
            have hrm := Hmark.out
            rw [hct.out, hrs.out] at hrm
            have hok : Hid (restOk s rs = decide (rs = [] ∨ (y ≠ [] ∧ rs = 32 :: y))) := Lib.hid (by unfold restOk; rw [← Hks.out, hy.out])
            have d1' : (W2.drewN nq).cell? ⟨wr.heap.size, 1, none⟩ = some (.string (bs y)) := R2.out.cell (j := 1) rfl
            by_cases g1 : rs = []
            · have v1 : rs.isEmpty = true := by simpa using g1
              have v2 : (rs == []) = true := by simpa using g1
              have hyes : Hid (markOf n (tl l) = some (s, ct)) := Lib.hid (by rw [hrm, hok.out, if_pos (decide_eq_true (.inl g1))])
              clear hrm g1
              go_quiet (fail)
              go_wp2_with fail
              go_ret3
              exact ⟨ReadIs.yes hyes.out (by rw [Hks.out]; rfl), below_draws (below_draws B3.out _) _⟩
            · have v1 : rs.isEmpty = false := by simpa using g1
              have v2 : (rs == []) = false := by simpa using g1
              by_cases g2 : y = []
              · have v3 : y.isEmpty = true := by simpa using g2
                have hno : Hid (markOf n (tl l) = none) := Lib.hid (by rw [hrm, hok.out, if_neg (by simp [g1, g2])])
                clear hrm g1 g2
                go_quiet (fail)
                go_wp2_with fail
                go_ret3
                exact ⟨ReadIs.no hno.out rfl, below_draws (below_draws B3.out _) _⟩
              · have v3 : y.isEmpty = false := by simpa using g2
                by_cases g3 : rs = 32 :: y
                · have v4 : (rs == (⟨#[32]⟩ ++ bs y : ByteArray).toList) = true := by rw [show (⟨#[32]⟩ : ByteArray) = bs [32] from rfl, bs_app, Lib.toList_data]; simpa using g3
                  have hyes : Hid (markOf n (tl l) = some (s, ct)) := Lib.hid (by rw [hrm, hok.out, if_pos (decide_eq_true (.inr ⟨g2, g3⟩))])
                  clear hrm g1 g2 g3
                  go_quiet (fail)
                  go_wp2_with fail
                  go_ret3
                  exact ⟨ReadIs.yes hyes.out (by rw [Hks.out]; rfl), below_draws (below_draws B3.out _) _⟩
                · have v4 : (rs == (⟨#[32]⟩ ++ bs y : ByteArray).toList) = false := by rw [show (⟨#[32]⟩ : ByteArray) = bs [32] from rfl, bs_app, Lib.toList_data]; simpa using g3
                  have hno : Hid (markOf n (tl l) = none) := Lib.hid (by rw [hrm, hok.out, if_neg (by simp [g1, g3])])
                  clear hrm g1 g2 g3
                  go_quiet (fail)
                  go_wp2_with fail
                  go_ret3
                  exact ⟨ReadIs.no hno.out rfl, below_draws (below_draws B3.out _) _⟩
          · have hxc : ¬ x = c := fun h => hks (signB_inj p4 hs (by rw [hx.out, hc.out, h]))
            have hxb : (x == c) = false := by simpa using hxc
            have hks' : k + 1 ≤ s := by omega
            clear hks
            go_quiet (fail)
            go_wp2_with fail
            exact ⟨⟨k + 1, by go_num, by omega, Lib.hid (below_draws B3.out _)⟩, by simp [intOf]; omega⟩
      · have f3 : Lib.hasSuffix l.data.toList [10] = false := by rw [suffix_nl]; exact decide_eq_false h3
        have hno : Hid (markOf n (tl l) = none) := Lib.hid (markOf_last hn h3)
        clear h3
        go_enter Tryd.func26, Tryd.ntmps26
        go_wp2_with fail
        refine (run_any l (by unfold maxLen; omega) _).mono ?_
        rw [hr1.out]
        rintro e w1 ⟨rfl, b1⟩
        have HB1 := Lib.hid b1
        clear b1
        go_wp2_with fail
        refine (Tryd.strings_HasSuffix l _ _ (by omega)).mono ?_
        rw [f3]
        rintro e w' ⟨rfl, rfl⟩
        go_wp2_with fail
        go_ret3
        exact ⟨ReadIs.no hno.out rfl, HB1.out⟩
    · have f2 : ((r1 : Int) != (n : Int)) = true := by rw [bne_iff_ne]; omega
      have hno : Hid (markOf n (tl l) = none) := Lib.hid (markOf_run hn (by rw [hr1.out]; exact h2))
      clear h2
      go_enter Tryd.func26, Tryd.ntmps26
      go_wp2_with fail
      refine (run_any l (by unfold maxLen; omega) _).mono ?_
      rw [hr1.out]
      rintro e w1 ⟨rfl, b1⟩
      have HB1 := Lib.hid b1
      clear b1
      go_wp2_with fail
      go_ret3
      exact ⟨ReadIs.no hno.out rfl, HB1.out⟩
end Go.Proofs.YtbekbllffphfeaaDoor.K
