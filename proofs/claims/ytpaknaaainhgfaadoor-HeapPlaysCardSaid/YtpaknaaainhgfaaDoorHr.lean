/-
  For the law HeapPlays: the document's heap: object, which, Class. No condition.
-/
import Derived.Test.YtpaknaaainhgfaaDoorHp2
import Derived.BigQuiet
namespace Go.Proofs.YtpaknaaainhgfaaDoor
open Go.RowKit Go.Maps Go.WideMaps Go.Shelf
set_option linter.unusedSimpArgs false
set_option linter.unusedVariables false

/-- What was set: the object, the field, and the value. -/
abbrev Sl := Int × ByteArray × Int × Int
def slF (x : Sl) : List Value := [.int .i64 x.1, .string x.2.1, .int .i64 x.2.2.1, .int .i64 x.2.2.2]
def slv (L : List Sl) : List Value := L.flatMap slF
theorem slv_append (A B : List Sl) : slv (A ++ B) = slv A ++ slv B := by unfold slv; rw [List.flatMap_append]
theorem slv_len (L : List Sl) : (slv L).length = L.length * 4 := by
  unfold slv
  induction L with
  | nil => rfl
  | cons x L ih => rw [List.flatMap_cons, List.length_append, ih, List.length_cons]; simp [slF]; omega
theorem slv_get {L : List Sl} {k j : Nat} {x : Sl} (h : L[k]? = some x) (hj : j < 4) : (slv L)[k * 4 + j]? = (slF x)[j]? := by
  have e : L = L.take k ++ x :: L.drop (k + 1) := by
    obtain ⟨hk, rfl⟩ := List.getElem?_eq_some_iff.1 h
    rw [← List.drop_eq_getElem_cons hk, List.take_append_drop]
  have hk := (List.getElem?_eq_some_iff.1 h).1
  have hl : (slv (L.take k)).length = k * 4 := by rw [slv_len, List.length_take, Nat.min_eq_left (by omega)]
  have hx : (slF x).length = 4 := rfl
  rw [e, slv_append, List.getElem?_append_right (by omega), hl, Nat.add_sub_cancel_left]
  show (slF x ++ slv (L.drop (k + 1)))[j]? = _
  rw [List.getElem?_append_left (by omega)]
/-- The document's heap, as a value. -/
abbrev rf (p : Option Addr) (n c : Nat) (q : Option Addr) (l d : Nat) : Value := .agg #[.slice p n c, .slice q l d]
def isObjB (n : Nat) (k m : Int) : Bool := (k == 3) && (decide (1 ≤ m) && decide (m ≤ (n : Int)))
theorem isObjB_iff (n : Nat) (k m : Int) : isObjB n k m = true ↔ (k = 3 ∧ 1 ≤ m ∧ m ≤ (n : Int)) := by
  simp [isObjB]
set_option maxRecDepth 100000 in
set_option maxHeartbeats 4000000 in
theorem object_any (p : Option Addr) (n c : Nat) (q : Option Addr) (l d : Nat) (k m : Int) (w : World) : Calls Tryd.prog 46 #[rf p n c q l d, val2 k m] w fun e w' => e = .returned (.bool (isObjB n k m)) ∧ Below w.heap.size w w' := by
  obtain ⟨a, ha⟩ : ∃ a, (k == 3) = a := ⟨_, rfl⟩
  obtain ⟨b, hb⟩ : ∃ a, decide (1 ≤ m) = a := ⟨_, rfl⟩
  obtain ⟨e, he⟩ : ∃ a, decide (m ≤ (n : Int)) = a := ⟨_, rfl⟩
  have hr : isObjB n k m = (a && (b && e)) := by unfold isObjB; rw [ha, hb, he]
  rw [hr]
  have HB := Lib.hid (((Below.refl _ w).alloc (Nat.le_refl _) (.cells #[.slice p n c, .slice q l d] 42)).alloc (by simp) (.cells #[.int .i64 k, .int .i64 m] 49))
  clear hr
  cases a <;> cases b <;> cases e <;> (go_enter Tryd.func46, Tryd.ntmps46; go_wp2_with fail; go_ret; exact ⟨rfl, HB.out⟩)
set_option maxRecDepth 100000 in
set_option maxHeartbeats 4000000 in
theorem which_any (p : Option Addr) (n c : Nat) (q : Option Addr) (l d : Nat) (k m : Int) (w : World) : Calls Tryd.prog 45 #[rf p n c q l d, val2 k m] w fun e w' => e = .returned (.tuple #[.int .i64 (whereAt n k m).1, .int .i64 (whereAt n k m).2]) ∧ Below w.heap.size w w' := by
  obtain ⟨W2, hW2⟩ : ∃ W2, Hid ((w.alloc (.cells #[.slice p n c, .slice q l d] 42)).alloc (.cells #[.int .i64 k, .int .i64 m] 49) = W2) := ⟨_, Lib.hid rfl⟩
  have B2 : Hid (Below w.heap.size w W2) := by rw [← hW2.out]; exact Lib.hid (((Below.refl _ w).alloc (Nat.le_refl _) _).alloc (by simp) _)
  have r1 : Hid (RowAt W2 w.heap.size 42 #[.slice p n c, .slice q l d]) := by rw [← hW2.out]; exact Lib.hid ((RowAt.new w 42 _).alloc _)
  have r2 : Hid (RowAt W2 (w.heap.size + 1) 49 #[.int .i64 k, .int .i64 m]) := by
    rw [← hW2.out]
    have := RowAt.new (w.alloc (.cells #[.slice p n c, .slice q l d] 42)) 49 #[.int .i64 k, .int .i64 m]
    rw [World.size_alloc] at this
    exact Lib.hid this
  have a0 : W2.cell? ⟨w.heap.size, 0, none⟩ = some (.slice p n c) := r1.out.cell rfl
  have a1 : W2.cell? ⟨w.heap.size, 1, none⟩ = some (.slice q l d) := r1.out.cell rfl
  have d0 : W2.cell? ⟨w.heap.size + 1, 0, none⟩ = some (.int .i64 k) := r2.out.cell rfl
  have d1 : W2.cell? ⟨w.heap.size + 1, 1, none⟩ = some (.int .i64 m) := r2.out.cell rfl
  obtain ⟨x, hx⟩ : ∃ x, isObjB n k m = x := ⟨_, rfl⟩
  obtain ⟨⟨oo, er⟩, hwe⟩ : ∃ z, Hid (whereAt n k m = z) := ⟨_, Lib.hid rfl⟩
  rw [hwe.out]
  have call := Lib.hid (object_any p n c q l d k m W2)
  rw [hx] at call
  go_enter Tryd.func45, Tryd.ntmps45
  go_wp2_with fail
  rw [hW2.out]
  go_wp2_with fail
  refine call.out.mono ?_
  rintro e w1 ⟨rfl, b1⟩
  have R2 := r2.out.later b1
  have B1 := Lib.hid (B2.out.trans (b1.mono B2.out.size))
  have e0 : w1.cell? ⟨w.heap.size + 1, 0, none⟩ = some (.int .i64 k) := R2.cell rfl
  have e1 : w1.cell? ⟨w.heap.size + 1, 1, none⟩ = some (.int .i64 m) := R2.cell rfl
  clear b1 R2 call a0 a1 d0 d1
  cases x with
  | true =>
    have hw : whereAt n k m = (m, 0) := if_pos ((isObjB_iff n k m).1 hx)
    cases hwe.out.symm.trans hw
    clear hx hw hwe
    go_wp2_with fail
    go_ret2
    exact ⟨rfl, B1.out⟩
  | false =>
    have hn : ¬ (k = 3 ∧ 1 ≤ m ∧ m ≤ (n : Int)) := fun h => by have := (isObjB_iff n k m).2 h; rw [hx] at this; cases this
    by_cases h0 : k = 0
    · have hw : whereAt n k m = (0, 220) := by unfold whereAt; rw [if_neg hn, if_pos (.inl h0)]
      cases hwe.out.symm.trans hw
      have g0 : (k == 0) = true := beq_iff_eq.2 h0
      clear hx hw hwe hn h0
      go_wp2_with fail
      go_ret2
      exact ⟨rfl, B1.out⟩
    · have g0 : (k == 0) = false := beq_eq_false_iff_ne.2 h0
      by_cases h3 : k = 3
      · have hw : whereAt n k m = (0, 220) := by unfold whereAt; rw [if_neg hn, if_pos (.inr h3)]
        cases hwe.out.symm.trans hw
        have g3 : (k == 3) = true := beq_iff_eq.2 h3
        clear hx hw hwe hn h0 h3
        go_wp2_with fail
        go_ret2
        exact ⟨rfl, B1.out⟩
      · have g3 : (k == 3) = false := beq_eq_false_iff_ne.2 h3
        have h03 : ¬ (k = 0 ∨ k = 3) := fun h => h.elim h0 h3
        by_cases h1 : k = 1
        · have g1 : (k == 1) = true := beq_iff_eq.2 h1
          by_cases hm : m = 0
          · have hw : whereAt n k m = (0, 0) := by unfold whereAt; rw [if_neg hn, if_neg h03, if_pos ⟨h1, hm⟩]
            cases hwe.out.symm.trans hw
            have g4 : (m == 0) = true := beq_iff_eq.2 hm
            clear hx hw hwe hn h0 h3 h03 h1 hm
            go_wp2_with fail
            go_ret2
            exact ⟨rfl, B1.out⟩
          · have hw : whereAt n k m = (0, 1) := by unfold whereAt; rw [if_neg hn, if_neg h03, if_neg (fun h => hm h.2)]
            cases hwe.out.symm.trans hw
            have g4 : (m == 0) = false := beq_eq_false_iff_ne.2 hm
            clear hx hw hwe hn h0 h3 h03 h1 hm
            go_wp2_with fail
            go_ret2
            exact ⟨rfl, B1.out⟩
        · have g1 : (k == 1) = false := beq_eq_false_iff_ne.2 h1
          have hw : whereAt n k m = (0, 1) := by unfold whereAt; rw [if_neg hn, if_neg h03, if_neg (fun h => h1 h.1)]
          cases hwe.out.symm.trans hw
          clear hx hw hwe hn h0 h3 h03 h1
          go_wp2_with fail
          go_ret2
          exact ⟨rfl, B1.out⟩
/-- The class that a value has, and whether it is an object. -/
def classOf (cs : List ByteArray) (k m : Int) : ByteArray × Bool := if isObjB cs.length k m then ((cs[(m - 1).toNat]?).getD ⟨#[]⟩, true) else (⟨#[]⟩, false)
set_option maxRecDepth 100000 in
set_option maxHeartbeats 4000000 in
theorem RefClass_any (p : Option Addr) (c : Nat) (q : Option Addr) (l d : Nat) (cs : List ByteArray) (k m : Int) (w : World) (base : Nat) (hsm : cs.length ≤ 1000000) (hown : w.ownsRow base 9 1 (.slice p cs.length c) cs.length (cs.map Value.string)) : Calls Tryd.prog 34 #[rf p cs.length c q l d, val2 k m] w fun e w' => e = .returned (.tuple #[.string (classOf cs k m).1, .bool (classOf cs k m).2]) ∧ Below w.heap.size w w' := by
  obtain ⟨n, hn⟩ : ∃ n, Hid (cs.length = n) := ⟨_, Lib.hid rfl⟩
  have Hown := Lib.hid hown
  have Hsm := Lib.hid hsm
  clear hown hsm
  obtain ⟨W2, hW2⟩ : ∃ W2, Hid ((w.alloc (.cells #[.slice p n c, .slice q l d] 42)).alloc (.cells #[.int .i64 k, .int .i64 m] 49) = W2) := ⟨_, Lib.hid rfl⟩
  have B2 : Hid (Below w.heap.size w W2) := by rw [← hW2.out]; exact Lib.hid (((Below.refl _ w).alloc (Nat.le_refl _) _).alloc (by simp) _)
  have r1 : Hid (RowAt W2 w.heap.size 42 #[.slice p n c, .slice q l d]) := by rw [← hW2.out]; exact Lib.hid ((RowAt.new w 42 _).alloc _)
  have r2 : Hid (RowAt W2 (w.heap.size + 1) 49 #[.int .i64 k, .int .i64 m]) := by
    rw [← hW2.out]
    have := RowAt.new (w.alloc (.cells #[.slice p n c, .slice q l d] 42)) 49 #[.int .i64 k, .int .i64 m]
    rw [World.size_alloc] at this
    exact Lib.hid this
  have a0 : W2.cell? ⟨w.heap.size, 0, none⟩ = some (.slice p n c) := r1.out.cell rfl
  have a1 : W2.cell? ⟨w.heap.size, 1, none⟩ = some (.slice q l d) := r1.out.cell rfl
  have d0 : W2.cell? ⟨w.heap.size + 1, 0, none⟩ = some (.int .i64 k) := r2.out.cell rfl
  have d1 : W2.cell? ⟨w.heap.size + 1, 1, none⟩ = some (.int .i64 m) := r2.out.cell rfl
  obtain ⟨x, hx⟩ : ∃ x, Hid (isObjB n k m = x) := ⟨_, Lib.hid rfl⟩
  have call := Lib.hid (object_any p n c q l d k m W2)
  rw [hx.out] at call
  obtain ⟨C, hC⟩ : ∃ C, Hid (classOf cs k m = C) := ⟨_, Lib.hid rfl⟩
  rw [hC.out, hn.out]
  go_enter Tryd.func34, Tryd.ntmps34
  go_wp2_with fail
  rw [hW2.out]
  go_wp2_with fail
  refine call.out.mono ?_
  rintro e w1 ⟨rfl, b1⟩
  have R1 := r1.out.later b1
  have R2 := r2.out.later b1
  have B1 := Lib.hid (B2.out.trans (b1.mono B2.out.size))
  clear b1 call a0 a1 d0 d1
  cases x with
  | false =>
    have hcc : C = (⟨#[]⟩, false) := by rw [← hC.out]; unfold classOf; rw [hn.out, hx.out]; rfl
    subst hcc
    clear R1 R2
    go_wp2_with fail
    go_ret2
    exact ⟨rfl, B1.out⟩
  | true =>
    obtain ⟨h3, h1, h2⟩ := (isObjB_iff n k m).1 hx.out
    obtain ⟨j, hj⟩ := Int.eq_ofNat_of_zero_le (show 0 ≤ m - 1 by omega)
    have hjn : j < n := by omega
    obtain ⟨s, hs⟩ : ∃ s, cs[j]? = some s := ⟨_, List.getElem?_eq_getElem (by have := hn.out; omega)⟩
    have hcc : C = (s, true) := by rw [← hC.out]; unfold classOf; rw [hn.out, hx.out, if_pos rfl, hj]; simp [hs]
    subst hcc
    have ho1 := owns_same Hown.out (fun k hk => B1.out.block k (Hown.out.lt k hk).2)
    have hnl := hn.out
    obtain ⟨g, rfl, hcell, hcap⟩ : ∃ g, p = some ⟨g, 0, none⟩ ∧ w1.cell? ⟨g, j, none⟩ = some (.string s) ∧ n ≤ c := by
      rcases ho1.2 with ⟨e1, e2⟩ | ⟨g, cap, cur, e1, _, hg, h1, h2, _⟩
      · omega
      · cases e1
        refine ⟨g, rfl, ?_, by omega⟩
        have := ho1.cells (g := g) rfl j (.string s) (by rw [List.getElem?_map, hs]; rfl)
        rw [show (⟨g, 0, none⟩ : Addr).add j = ⟨g, j, none⟩ by unfold Addr.add; split <;> simp_all] at this
        exact this
    have e0 : w1.cell? ⟨w.heap.size, 0, none⟩ = some (.slice (some ⟨g, 0, none⟩) n c) := R1.cell rfl
    have e1 : w1.cell? ⟨w.heap.size + 1, 1, none⟩ = some (.int .i64 m) := R2.cell rfl
    have em : m = (j : Int) + 1 := by omega
    subst em
    have ew : wrap64 ((j : Int) + 1 - 1) = (j : Int) := by rw [Int.add_sub_cancel]; exact Go.IntWalk.wrap64_in _ (by have := Hsm.out; omega)
    have ew2 : wrap64 (j : Int) = (j : Int) := Go.IntWalk.wrap64_in _ (by have := Hsm.out; omega)
    have i0 : (0 : Int) ≤ (j : Int) := by omega
    have i1 : (j : Int) < (n : Int) := by omega
    have i2 : (j : Int) < (c : Int) := by omega
    clear R1 R2 ho1 hs hj h1 h2 h3 hnl hcap hjn
    go_wp2_with fail
    go_ret2
    exact ⟨rfl, B1.out⟩
end Go.Proofs.YtpaknaaainhgfaaDoor
