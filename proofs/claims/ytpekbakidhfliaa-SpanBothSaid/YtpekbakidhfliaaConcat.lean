/-
  For the laws of span: rows of edits joined: Grow and Concat, by the program. Condition: at most 1,000,000 edits.
-/
import Derived.Lib.AppendZeros
import Derived.Test.YtpekbakidhfliaaSrt
namespace Go.Proofs.Ytpekbakidhfliaa
open Go.RowKit Go.Shelf

def Ess (W : World) (v : Value) (LL : List (List Ed)) : Prop :=
  ∃ (a : Option Addr) (cap : Nat), v = .slice a LL.length cap ∧ LL.length ≤ cap ∧ cap ≤ maxLen ∧ ∀ k (L : List Ed), LL[k]? = some L → ∃ b off u, a = some ⟨b, off, none⟩ ∧ b < W.heap.size ∧ W.cell? ⟨b, off + k, none⟩ = some u ∧ Eds W u L
theorem Ess.below {W W' : World} {v : Value} {LL : List (List Ed)} (h : Ess W v LL) (hb : Below W.heap.size W W') : Ess W' v LL := by
  obtain ⟨a, cap, rfl, hc, hm, hx⟩ := h
  refine ⟨a, cap, rfl, hc, hm, fun k x hk => ?_⟩
  obtain ⟨b, off, u, rfl, hl, h1, h2⟩ := hx k x hk
  exact ⟨b, off, u, rfl, by have := hb.size; omega, (hb.cell (p := ⟨b, off + k, none⟩) hl).trans h1, h2.below hb⟩
set_option maxRecDepth 100000 in
set_option maxHeartbeats 8000000 in
theorem Grow_nil (n : Nat) (w : World) (hn : n ≤ 1000000) : Calls Try.prog 34 #[.slice none 0 0, .int .i64 n] w fun e w' => ∃ v, e = .returned v ∧ w'.ownsRow w.heap.size 39 3 v 0 [] ∧ Below w.heap.size w w' := by
  have f0 : decide ((n : Int) < 0) = false := decide_eq_false (by omega)
  have f1 : wrap64 (n : Int) = n := Go.IntWalk.wrap64_in _ (by omega)
  by_cases h0 : n = 0
  · subst h0
    show Calls Try.prog 34 #[.slice none 0 0, .int .i64 0] w _
    clear f0 f1
    go_enter Try.func34, Try.ntmps34
    go_wp2_with fail
    go_ret
    exact ⟨_, rfl, World.ownsRow_nil _ _ _ _, Below.refl _ _⟩
  · have f2 : decide ((n : Int) > 0) = true := decide_eq_true (by omega)
    obtain ⟨i0, hi0, hz0, hz1, hz2⟩ := info_parts infoEd
    have hge := grownCap_ge w n 0 39
    have hle := grownCap_le_maxLen w n 0 39 (by unfold maxLen; omega)
    obtain ⟨C, hC⟩ : ∃ C, grownCap w n 0 39 = C := ⟨_, rfl⟩
    have hrun := Lib.run_append_nil_zeros w 22 3 22 39 i0 _ .i64 .i64 Try.underlying22 Try.underlying3 hi0 hz0 n (by omega) (by rw [hz1]; decide) (by omega) (by rw [hz2]; omega)
    rw [hC] at hrun hge hle
    obtain ⟨vs, hvs⟩ : ∃ vs, Builtin.zeroCells (Value.agg #[.int .i64 0, .int .i64 0, .string ⟨#[]⟩]).cells n ++ Builtin.zeroCells (Value.agg #[.int .i64 0, .int .i64 0, .string ⟨#[]⟩]).cells (C - n) = vs := ⟨_, rfl⟩
    have hsz : vs.size = C * 3 := by
      rw [← hvs, Array.size_append, size_zeroCells, size_zeroCells]
      have : (Value.agg #[.int .i64 0, .int .i64 0, .string ⟨#[]⟩]).cells.size = 3 := rfl
      rw [this]; omega
    rw [hvs] at hrun
    obtain ⟨W2, hW2⟩ : ∃ W2, Hid (w.drew.alloc (.cells vs 39) = W2) := ⟨_, Lib.hid rfl⟩
    rw [hW2.out] at hrun
    have hown : Hid (W2.ownsRow w.heap.size 39 3 (.slice (some ⟨w.heap.size, 0, none⟩) 0 C) 0 []) := Lib.hid ⟨rfl, .inr ⟨w.heap.size, C, vs, rfl, Nat.le_refl _, by rw [← hW2.out]; exact World.alloc_heap_new w.drew _, Nat.zero_le _, hle, hsz, rfl⟩⟩
    have hB : Hid (Below w.heap.size w W2) := Lib.hid (by rw [← hW2.out]; exact (below_drew (Below.refl _ _)).alloc (Nat.le_refl _) _)
    have Hrun := Lib.hid hrun
    clear hrun hvs hsz hC hge
    unfold maxLen at hle
    go_enter Try.func34, Try.ntmps34
    go_wp2_with (at_builtin; refine Lib.wpList_append_run _ rfl _ _ _ _ rfl _ _ rfl rfl _ _ Hrun.out ?_)
    go_ret
    exact ⟨_, rfl, hown.out, hB.out⟩
def cnt (LL : List (List Ed)) : Nat := LL.flatten.length
theorem w_add {S S' l : Nat} (h : S' = S + l) (hS : S' ≤ 1000000) : wrap64 ((S : Int) + (l : Int)) = ((S' : Nat) : Int) ∧ decide ((S' : Int) < 0) = false := by
  rw [Go.IntWalk.wrap64_in _ (by omega)]
  exact ⟨by omega, decide_eq_false (by omega)⟩
set_option maxRecDepth 100000 in
set_option maxHeartbeats 8000000 in
theorem Concat_any (v : Value) (LL : List (List Ed)) (w : World) (h1 : Ess w v LL) (hL : LL.flatten.length ≤ 1000000) : Calls Try.prog 26 #[v] w fun e w' => ∃ v', e = .returned v' ∧ Eds w' v' LL.flatten ∧ Below w.heap.size w w' := by
  obtain ⟨a, cap, rfl, hc, hm, hat⟩ := h1
  have Hat := Lib.hid hat; clear hat
  have hbd : ∀ k, (LL.take k).flatten.length ≤ 1000000 := fun k => by
    have e : LL.flatten = (LL.take k).flatten ++ (LL.drop k).flatten := by rw [← List.flatten_append, List.take_append_drop]
    rw [e, List.length_append] at hL; omega
  have Hbd := Lib.hid hbd; clear hbd
  have HL := Lib.hid hL; clear hL
  unfold maxLen at hm
  go_enter Try.func26, Try.ntmps26
  go_wp2_with fail
  go_loopw [3, 11] (fun s c wr => ∃ k : Nat, c = .int .i64 k ∧ k ≤ LL.length ∧ s = .int .i64 (cnt (LL.take k) : Nat) ∧ Hid (Below w.heap.size w wr)) (fun _ c _ => LL.length - (intOf c).toNat)
  case atStart => exact ⟨0, rfl, by omega, rfl, Lib.hid (Below.refl _ _)⟩
  case round =>
    obtain ⟨k, rfl, hk, rfl, hB⟩ := hrel
    have hbs := hB.out.size
    have hS0 : cnt (LL.take k) ≤ 1000000 := Hbd.out k
    by_cases hlt : k < LL.length
    · obtain ⟨L, hx⟩ : ∃ x, LL[k]? = some x := ⟨_, List.getElem?_eq_getElem hlt⟩
      obtain ⟨b, off, u, rfl, hbl, hl0, hfl⟩ := Hat.out k L hx
      have c0 : wr.cell? ⟨b, off + k, none⟩ = some u := (hB.out.cell (p := ⟨b, off + k, none⟩) hbl).trans hl0
      obtain ⟨a2, cap2, rfl, hc2, hm2, -⟩ := hfl
      unfold maxLen at hm2
      have htk : cnt (LL.take (k + 1)) = cnt (LL.take k) + L.length := by
        have e : (LL.take (k + 1)).flatten = (LL.take k).flatten ++ L := by rw [List.take_add_one, hx]; simp
        unfold cnt
        rw [e, List.length_append]
      have hS1 : cnt (LL.take (k + 1)) ≤ 1000000 := Hbd.out (k + 1)
      obtain ⟨S, hS⟩ : ∃ S, cnt (LL.take k) = S := ⟨_, rfl⟩
      obtain ⟨S', hS'⟩ : ∃ S, cnt (LL.take (k + 1)) = S := ⟨_, rfl⟩
      rw [hS, hS'] at htk
      rw [hS'] at hS1
      rw [hS] at hS0
      rw [hS]
      have HS' := Lib.hid hS'
      obtain ⟨f1, f2⟩ := w_add htk hS1
      have F1 := Lib.hid htk
      clear hl0 hx hS hS' htk
      go_wp2_with fail
      exact ⟨⟨k + 1, by go_num, by omega, by rw [f1, HS'.out], hB⟩, by simp [intOf]; omega⟩
    · obtain rfl : k = LL.length := by omega
      rw [List.take_length]
      go_wp2_with fail
      refine (Grow_nil (cnt LL) wr HL.out).mono ?_
      rintro e w2 ⟨u, rfl, ho, hb⟩
      have Ho := Lib.hid (own_low ho hbs)
      have hB2 := Lib.hid (hB.out.trans (hb.mono hbs))
      clear ho hb
      go_wp2_with fail
      go_loopw [6, 27] (fun o c wr => ∃ k : Nat, c = .int .i64 k ∧ k ≤ LL.length ∧ Hid (wr.ownsRow w.heap.size 39 3 o (LL.take k).flatten.length (ev (LL.take k).flatten)) ∧ Hid (Below w.heap.size w wr)) (fun _ c _ => LL.length - (intOf c).toNat)
      case atStart => exact ⟨0, rfl, by omega, Ho, hB2⟩
      case round =>
        obtain ⟨k, rfl, hk, hown, hB⟩ := hrel
        have hbs := hB.out.size
        by_cases hlt : k < LL.length
        · obtain ⟨L, hx⟩ : ∃ x, LL[k]? = some x := ⟨_, List.getElem?_eq_getElem hlt⟩
          obtain ⟨b, off, u, rfl, hbl, hl0, hfl⟩ := Hat.out k L hx
          have c0 : wr.cell? ⟨b, off + k, none⟩ = some u := (hB.out.cell (p := ⟨b, off + k, none⟩) hbl).trans hl0
          have hfr := hfl.below hB.out
          have htk : (LL.take (k + 1)).flatten = (LL.take k).flatten ++ L := by rw [List.take_add_one, hx]; simp
          have hS1 := Hbd.out (k + 1)
          rw [htk, List.length_append] at hS1
          have Htk := Lib.hid htk
          have Hfr := Lib.hid hfr
          clear hfl hfr htk hx hl0
          go_wp2_with (at_builtin; refine wpList_append_eds rfl _ _ rfl w.heap.size _ _ _ _ L rfl hown.out rfl Hfr.out hS1 hbs ?_; intro v' w4 hown' hb4)
          have ho2 : Hid (w4.ownsRow w.heap.size 39 3 v' (LL.take (k + 1)).flatten.length (ev (LL.take (k + 1)).flatten)) := Lib.hid (by
            rw [Htk.out, ev_append, List.length_append]; exact hown')
          exact ⟨⟨k + 1, by go_num, by omega, ho2, Lib.hid (hB.out.trans hb4)⟩, by simp [intOf]; omega⟩
        · obtain rfl : k = LL.length := by omega
          rw [List.take_length] at hown
          go_wp2_with fail
          go_ret
          exact ⟨_, rfl, own_eds hown.out, hB.out⟩
theorem ess_two {W : World} {b : Nat} {t : TypeId} {u v : Value} {A B : List Ed} (h : RowAt W b t #[u, v]) (hA : Eds W u A) (hB : Eds W v B) : Ess W (.slice (some ⟨b, 0, none⟩) 2 2) [A, B] := by
  refine ⟨_, 2, rfl, Nat.le_refl _, by unfold maxLen; omega, fun k x hk => ?_⟩
  match k, hk with
  | 0, hk =>
    simp only [List.getElem?_cons_zero, Option.some.injEq] at hk
    subst hk
    exact ⟨b, 0, u, rfl, h.lt, h.cell rfl, hA⟩
  | 1, hk =>
    simp only [List.getElem?_cons_succ, List.getElem?_cons_zero, Option.some.injEq] at hk
    subst hk
    exact ⟨b, 0, v, rfl, h.lt, h.cell rfl, hB⟩
  | k + 2, hk => simp at hk
end Go.Proofs.Ytpekbakidhfliaa
