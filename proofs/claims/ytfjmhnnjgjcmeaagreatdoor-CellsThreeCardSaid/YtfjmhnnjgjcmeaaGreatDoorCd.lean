/-
  For the laws of cells: rows of keys joined: Grow and Concat, by the program. Condition: at most 1,000,000 keys.
-/
import Derived.Lib.AppendZeros
import Derived.Test.YtfjmhnnjgjcmeaaGreatDoorCa
namespace Go.Proofs.YtfjmhnnjgjcmeaaGreatDoor
open Go.RowKit Go.Shelf
set_option linter.unusedSimpArgs false
set_option linter.unusedVariables false

theorem str_one (l : TL) : ∀ u ∈ l.map Value.string, u.oneCell' = true := by
  intro u hu
  obtain ⟨x, _, rfl⟩ := List.mem_map.1 hu
  rfl
def Ess (W : World) (v : Value) (LL : List TL) : Prop :=
  ∃ (a : Option Addr) (cap : Nat), v = .slice a LL.length cap ∧ LL.length ≤ cap ∧ cap ≤ maxLen ∧ ∀ k (l : TL), LL[k]? = some l → ∃ b off u, a = some ⟨b, off, none⟩ ∧ b < W.heap.size ∧ W.cell? ⟨b, off + k, none⟩ = some u ∧ L.Vals W u (l.map .string)
theorem Ess.below {W W' : World} {v : Value} {LL : List TL} (h : Ess W v LL) (hb : Below W.heap.size W W') : Ess W' v LL := by
  obtain ⟨a, cap, rfl, hc, hm, hx⟩ := h
  refine ⟨a, cap, rfl, hc, hm, fun k x hk => ?_⟩
  obtain ⟨b, off, u, rfl, hl, h1, h2⟩ := hx k x hk
  exact ⟨b, off, u, rfl, by have := hb.size; omega, (hb.cell (p := ⟨b, off + k, none⟩) hl).trans h1, h2.below hb⟩
set_option maxRecDepth 100000 in
set_option maxHeartbeats 8000000 in
theorem Grow_nil (n : Nat) (w : World) (hn : n ≤ 1000000) : Calls Tryz.prog 71 #[.slice none 0 0, .int .i64 n] w fun e w' => ∃ v, e = .returned v ∧ w'.ownsRow w.heap.size 9 1 v 0 [] ∧ Below w.heap.size w w' := by
  have f0 : decide ((n : Int) < 0) = false := decide_eq_false (by omega)
  have f1 : wrap64 (n : Int) = n := Go.IntWalk.wrap64_in _ (by omega)
  by_cases h0 : n = 0
  · subst h0
    show Calls Tryz.prog 71 #[.slice none 0 0, .int .i64 0] w _
    clear f0 f1
    go_enter Tryz.func71, Tryz.ntmps71
    go_wp2_with fail
    go_ret
    exact ⟨_, rfl, World.ownsRow_nil _ _ _ _, Below.refl _ _⟩
  · have f2 : decide ((n : Int) > 0) = true := decide_eq_true (by omega)
    obtain ⟨i0, hi0, hz0, hz1, hz2⟩ := info_parts S.try_info9
    have hge := grownCap_ge w n 0 9
    have hle := grownCap_le_maxLen w n 0 9 (by unfold maxLen; omega)
    obtain ⟨C, hC⟩ : ∃ C, grownCap w n 0 9 = C := ⟨_, rfl⟩
    have hrun := Lib.run_append_nil_zeros w 27 3 27 9 i0 _ .i64 .i64 Tryz.underlying27 Tryz.underlying3 hi0 hz0 n (by omega) (by rw [hz1]; decide) (by omega) (by rw [hz2]; omega)
    rw [hC] at hrun hge hle
    obtain ⟨vs, hvs⟩ : ∃ vs, Builtin.zeroCells (Value.string ⟨#[]⟩).cells n ++ Builtin.zeroCells (Value.string ⟨#[]⟩).cells (C - n) = vs := ⟨_, rfl⟩
    have hsz : vs.size = C * 1 := by
      rw [← hvs, Array.size_append, size_zeroCells, size_zeroCells]
      have : (Value.string ⟨#[]⟩).cells.size = 1 := rfl
      rw [this]; omega
    rw [hvs] at hrun
    obtain ⟨W2, hW2⟩ : ∃ W2, Hid (w.drew.alloc (.cells vs 9) = W2) := ⟨_, Lib.hid rfl⟩
    rw [hW2.out] at hrun
    have hown : Hid (W2.ownsRow w.heap.size 9 1 (.slice (some ⟨w.heap.size, 0, none⟩) 0 C) 0 []) := Lib.hid ⟨rfl, .inr ⟨w.heap.size, C, vs, rfl, Nat.le_refl _, by rw [← hW2.out]; exact World.alloc_heap_new w.drew _, Nat.zero_le _, hle, hsz, rfl⟩⟩
    have hB : Hid (Below w.heap.size w W2) := Lib.hid (by rw [← hW2.out]; exact (below_drew (Below.refl _ _)).alloc (Nat.le_refl _) _)
    have Hrun := Lib.hid hrun
    clear hrun hvs hsz hC hge
    unfold maxLen at hle
    go_enter Tryz.func71, Tryz.ntmps71
    go_wp2_with (at_builtin; refine Lib.wpList_append_run _ rfl _ _ _ _ rfl _ _ rfl rfl _ _ Hrun.out ?_)
    go_ret
    exact ⟨_, rfl, hown.out, hB.out⟩
def cnt (LL : List TL) : Nat := LL.flatten.length
theorem w_add {S S' l : Nat} (h : S' = S + l) (hS : S' ≤ 1000000) : wrap64 ((S : Int) + (l : Int)) = ((S' : Nat) : Int) ∧ decide ((S' : Int) < 0) = false := by
  rw [Go.IntWalk.wrap64_in _ (by omega)]
  exact ⟨by omega, decide_eq_false (by omega)⟩
set_option maxRecDepth 100000 in
set_option maxHeartbeats 8000000 in
theorem Concat_any (v : Value) (LL : List TL) (w : World) (h1 : Ess w v LL) (hL : LL.flatten.length ≤ 1000000) : Calls Tryz.prog 51 #[v] w fun e w' => ∃ v', e = .returned v' ∧ L.Vals w' v' (LL.flatten.map .string) ∧ Below w.heap.size w w' := by
  obtain ⟨i9, hi9, hy0, hy1, hy2⟩ := info_parts S.try_info9
  obtain ⟨a, cap, rfl, hc, hm, hat⟩ := h1
  have Hat := Lib.hid hat; clear hat
  have hbd : ∀ k, (LL.take k).flatten.length ≤ 1000000 := fun k => by
    have e : LL.flatten = (LL.take k).flatten ++ (LL.drop k).flatten := by rw [← List.flatten_append, List.take_append_drop]
    rw [e, List.length_append] at hL; omega
  have Hbd := Lib.hid hbd; clear hbd
  have HL := Lib.hid hL; clear hL
  unfold maxLen at hm
  go_enter Tryz.func51, Tryz.ntmps51
  go_wp2_with fail
  go_loopw [3, 11] (fun s c wr => ∃ k : Nat, c = .int .i64 k ∧ k ≤ LL.length ∧ s = .int .i64 (cnt (LL.take k) : Nat) ∧ Hid (Below w.heap.size w wr)) (fun _ c _ => LL.length - (intOf c).toNat)
  case atStart => exact ⟨0, rfl, by omega, rfl, Lib.hid (Below.refl _ _)⟩
  case round =>
    obtain ⟨k, rfl, hk, rfl, hB⟩ := hrel
    have hbs := hB.out.size
    have hS0 : cnt (LL.take k) ≤ 1000000 := Hbd.out k
    by_cases hlt : k < LL.length
    · obtain ⟨l, hx⟩ : ∃ x, LL[k]? = some x := ⟨_, List.getElem?_eq_getElem hlt⟩
      obtain ⟨b, off, u, rfl, hbl, hl0, hfl⟩ := Hat.out k l hx
      have c0 : wr.cell? ⟨b, off + k, none⟩ = some u := (hB.out.cell (p := ⟨b, off + k, none⟩) hbl).trans hl0
      obtain ⟨a2, cap2, rfl, hc2, hm2, -⟩ := hfl
      rw [List.length_map] at hc2 c0
      unfold maxLen at hm2
      have htk : cnt (LL.take (k + 1)) = cnt (LL.take k) + l.length := by
        have e : (LL.take (k + 1)).flatten = (LL.take k).flatten ++ l := by rw [List.take_add_one, hx]; simp
        unfold cnt
        rw [e, List.length_append]
      have hS1 : cnt (LL.take (k + 1)) ≤ 1000000 := Hbd.out (k + 1)
      obtain ⟨S, hS⟩ : ∃ S, cnt (LL.take k) = S := ⟨_, rfl⟩
      obtain ⟨S', hS'⟩ : ∃ S, cnt (LL.take (k + 1)) = S := ⟨_, rfl⟩
      rw [hS, hS'] at htk
      rw [hS'] at hS1
      rw [hS] at hS0
      rw [hS]
      have HS' := Lib.hid hS'
      obtain ⟨f1, f2⟩ := w_add htk hS1
      have F1 := Lib.hid htk
      clear hl0 hx hS hS' htk
      go_wp2_with fail
      exact ⟨⟨k + 1, by go_num, by omega, by rw [f1, HS'.out], hB⟩, by simp [intOf]; omega⟩
    · obtain rfl : k = LL.length := by omega
      rw [List.take_length]
      go_wp2_with fail
      refine (Grow_nil (cnt LL) wr HL.out).mono ?_
      rintro e w2 ⟨u, rfl, ho, hb⟩
      have Ho := Lib.hid (L.own_low ho hbs)
      have hB2 := Lib.hid (hB.out.trans (hb.mono hbs))
      clear ho hb
      go_wp2_with fail
      go_loopw [6, 27] (fun o c wr => ∃ k : Nat, c = .int .i64 k ∧ k ≤ LL.length ∧ Hid (wr.ownsRow w.heap.size 9 1 o (LL.take k).flatten.length (((LL.take k).flatten).map .string)) ∧ Hid (Below w.heap.size w wr)) (fun _ c _ => LL.length - (intOf c).toNat)
      case atStart => exact ⟨0, rfl, by omega, Ho, hB2⟩
      case round =>
        obtain ⟨k, rfl, hk, hown, hB⟩ := hrel
        have hbs := hB.out.size
        by_cases hlt : k < LL.length
        · obtain ⟨l, hx⟩ : ∃ x, LL[k]? = some x := ⟨_, List.getElem?_eq_getElem hlt⟩
          obtain ⟨b, off, u, rfl, hbl, hl0, hfl⟩ := Hat.out k l hx
          have c0 : wr.cell? ⟨b, off + k, none⟩ = some u := (hB.out.cell (p := ⟨b, off + k, none⟩) hbl).trans hl0
          have hfr := hfl.below hB.out
          have htk : (LL.take (k + 1)).flatten = (LL.take k).flatten ++ l := by rw [List.take_add_one, hx]; simp
          have hS1 := Hbd.out (k + 1)
          rw [htk, List.length_append] at hS1
          have Htk := Lib.hid htk
          have Hfr := Lib.hid hfr
          clear hfl hfr htk hx hl0
          go_wp2_with (at_builtin; refine L.wpList_append_vals rfl _ _ 27 9 rfl w.heap.size i9 (.string ⟨#[]⟩) 16 Tryz.underlying27 hi9 hy0 hy1 hy2 rfl _ _ _ _ (l.map .string) rfl hown.out rfl Hfr.out (str_one l) (by rw [List.length_map]; exact hS1) (by decide) hbs ?_; intro v' w4 hown' hg4)
          have hb4 := hB.out.grown hg4 hbs (fun j e => (hown.out.lt j e).1)
          have ho2 : Hid (w4.ownsRow w.heap.size 9 1 v' (LL.take (k + 1)).flatten.length (((LL.take (k + 1)).flatten).map .string)) := Lib.hid (by
            rw [Htk.out, List.map_append, List.length_append]; rw [List.length_map] at hown'; exact hown')
          exact ⟨⟨k + 1, by go_num, by omega, ho2, Lib.hid hb4⟩, by simp [intOf]; omega⟩
        · obtain rfl : k = LL.length := by omega
          rw [List.take_length] at hown
          go_wp2_with fail
          go_ret
          exact ⟨_, rfl, L.own_vals hown.out, hB.out⟩
theorem ess_two {W : World} {b : Nat} {t : TypeId} {u v : Value} {A B : TL} (h : RowAt W b t #[u, v]) (hA : L.Vals W u (A.map .string)) (hB : L.Vals W v (B.map .string)) : Ess W (.slice (some ⟨b, 0, none⟩) 2 2) [A, B] := by
  refine ⟨_, 2, rfl, Nat.le_refl _, by unfold maxLen; omega, fun k x hk => ?_⟩
  match k, hk with
  | 0, hk =>
    simp only [List.getElem?_cons_zero, Option.some.injEq] at hk
    subst hk
    exact ⟨b, 0, u, rfl, h.lt, h.cell rfl, hA⟩
  | 1, hk =>
    simp only [List.getElem?_cons_succ, List.getElem?_cons_zero, Option.some.injEq] at hk
    subst hk
    exact ⟨b, 0, v, rfl, h.lt, h.cell rfl, hB⟩
  | k + 2, hk => simp at hk
theorem ess_three {W : World} {b : Nat} {t : TypeId} {u v x : Value} {A B C : TL} (h : RowAt W b t #[u, v, x]) (hA : L.Vals W u (A.map .string)) (hB : L.Vals W v (B.map .string)) (hC : L.Vals W x (C.map .string)) : Ess W (.slice (some ⟨b, 0, none⟩) 3 3) [A, B, C] := by
  refine ⟨_, 3, rfl, Nat.le_refl _, by unfold maxLen; omega, fun k y hk => ?_⟩
  match k, hk with
  | 0, hk =>
    simp only [List.getElem?_cons_zero, Option.some.injEq] at hk
    subst hk
    exact ⟨b, 0, u, rfl, h.lt, h.cell rfl, hA⟩
  | 1, hk =>
    simp only [List.getElem?_cons_succ, List.getElem?_cons_zero, Option.some.injEq] at hk
    subst hk
    exact ⟨b, 0, v, rfl, h.lt, h.cell rfl, hB⟩
  | 2, hk =>
    simp only [List.getElem?_cons_succ, List.getElem?_cons_zero, Option.some.injEq] at hk
    subst hk
    exact ⟨b, 0, x, rfl, h.lt, h.cell rfl, hC⟩
  | k + 3, hk => simp at hk
end Go.Proofs.YtfjmhnnjgjcmeaaGreatDoor
