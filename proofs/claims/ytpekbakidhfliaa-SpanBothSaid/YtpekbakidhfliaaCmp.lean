/-
  For the laws of span: two edits held against one another, by the program. No condition.
-/
import Derived.Shelf.SlSortCmp.KitK
import Derived.StillTailTactics
import Derived.Test.YtpekbakidhfliaaClone
namespace Go.Proofs.Ytpekbakidhfliaa
open Go.RowKit Go.Shelf Go.Sort

theorem ci (x y : Int) : Lib.compareInt x y = 0 ∨ Lib.compareInt x y = 1 ∨ Lib.compareInt x y = -1 := by
  unfold Lib.compareInt
  split
  · simp
  · split <;> simp
/-- Which of two edits is ahead. -/
def cmpE (x y : Ed) : Int := if Lib.compareInt x.fr y.fr = 0 then Lib.compareInt x.to y.to else Lib.compareInt x.fr y.fr
set_option maxRecDepth 100000 in
set_option maxHeartbeats 4000000 in
theorem or_any (b : Nat) (x y : Int) (w : World) (c0 : w.cell? ⟨b, 0, none⟩ = some (.int .i64 x)) (c1 : w.cell? ⟨b, 1, none⟩ = some (.int .i64 y)) : Calls Try.prog 30 #[.slice (some ⟨b, 0, none⟩) 2 2] w fun e w' => e = .returned (.int .i64 (if x = 0 then y else x)) ∧ w' = w := by
  by_cases hx : x = 0
  · subst hx
    by_cases hy : y = 0
    · subst hy
      go_enter Try.func30, Try.ntmps30
      go_wp2_with fail
      refine wp_loop_rounds 3 ?_
      rw [rounds_succ]
      go_wp2_with fail
      rw [rounds_succ]
      go_wp2_with fail
      rw [rounds_succ]
      go_wp2_with fail
      go_ret
      exact ⟨rfl, rfl⟩
    · go_enter Try.func30, Try.ntmps30
      go_wp2_with fail
      refine wp_loop_rounds 2 ?_
      rw [rounds_succ]
      go_wp2_with fail
      rw [rounds_succ]
      go_wp2_with fail
      go_ret
      exact ⟨by simp, rfl⟩
  · go_enter Try.func30, Try.ntmps30
    go_wp2_with fail
    refine wp_loop_rounds 1 ?_
    rw [rounds_succ]
    go_wp2_with fail
    go_ret
    exact ⟨by simp, rfl⟩
def CmpR (w : World) (c : Int) (e : Ending) (w' : World) : Prop := e = .returned (.int .i64 c) ∧ ∃ q os', w' = grow (w.drewN q) os'
set_option maxRecDepth 100000 in
set_option maxHeartbeats 400000 in
theorem cmp_any (x y : Ed) (w : World) : Calls Try.prog 29 #[.agg (rowE x).toArray, .agg (rowE y).toArray] w (CmpR w (cmpE x y)) := by
  obtain ⟨xf, xt, xx⟩ := x
  obtain ⟨yf, yt, yx⟩ := y
  show Calls Try.prog 29 #[.agg #[.int .i64 xf, .int .i64 xt, .string (bs xx)], .agg #[.int .i64 yf, .int .i64 yt, .string (bs yx)]] w (CmpR w (if Lib.compareInt xf yf = 0 then Lib.compareInt xt yt else Lib.compareInt xf yf))
  obtain ⟨c1, hc1⟩ : ∃ c, Hid (Lib.compareInt xf yf = c) := ⟨_, Lib.hid rfl⟩
  obtain ⟨c2, hc2⟩ : ∃ c, Hid (Lib.compareInt xt yt = c) := ⟨_, Lib.hid rfl⟩
  rw [hc1.out, hc2.out]
  obtain ⟨c3, hc3⟩ : ∃ c, Hid ((if c1 = 0 then c2 else c1) = c) := ⟨_, Lib.hid rfl⟩
  rw [hc3.out]
  have k1 : ∀ w, Calls Try.prog 31 #[.int .i64 xf, .int .i64 yf] w fun e w' => e = .returned (.int .i64 c1) ∧ w' = w := fun w => by rw [← hc1.out]; exact Try.cmp_Compare_int xf yf w
  have k2 : ∀ w, Calls Try.prog 31 #[.int .i64 xt, .int .i64 yt] w fun e w' => e = .returned (.int .i64 c2) ∧ w' = w := fun w => by rw [← hc2.out]; exact Try.cmp_Compare_int xt yt w
  have r1 := ed_new w xf xt (bs xx)
  have r2 := ed_new (w.alloc (.cells #[.int .i64 xf, .int .i64 xt, .string (bs xx)] 39)) yf yt (bs yx)
  have r1' := r1.same (W' := (w.alloc (.cells #[.int .i64 xf, .int .i64 xt, .string (bs xx)] 39)).alloc (.cells #[.int .i64 yf, .int .i64 yt, .string (bs yx)] 39)) (Below.heap_alloc _ _ _ r1.lt)
  rw [World.size_alloc] at r2
  have g0 := r1'.cell (j := 0) (v := .int .i64 xf) rfl
  have g1 := r1'.cell (j := 1) (v := .int .i64 xt) rfl
  have d0 := r2.cell (j := 0) (v := .int .i64 yf) rfl
  have d1 := r2.cell (j := 1) (v := .int .i64 yt) rfl
  clear r1 r2 r1'
  have hg : (w.alloc (.cells #[.int .i64 xf, .int .i64 xt, .string (bs xx)] 39)).alloc (.cells #[.int .i64 yf, .int .i64 yt, .string (bs yx)] 39) = grow w (#[.cells #[.int .i64 xf, .int .i64 xt, .string (bs xx)] 39] ++ #[.cells #[.int .i64 yf, .int .i64 yt, .string (bs yx)] 39]) := by
    rw [alloc_eq_grow, alloc_eq_grow, grow_grow]
  obtain ⟨W2, hW2⟩ : ∃ W2, Hid ((w.alloc (.cells #[.int .i64 xf, .int .i64 xt, .string (bs xx)] 39)).alloc (.cells #[.int .i64 yf, .int .i64 yt, .string (bs yx)] 39) = W2) := ⟨_, Lib.hid rfl⟩
  rw [hW2.out] at g0 g1 d0 d1 hg
  have Hg := Lib.hid hg
  clear hg
  have e0 : ({ W2 with drawn := W2.drawn + 1 } : World).cell? ⟨w.heap.size, 0, none⟩ = some (.int .i64 xf) := g0
  have e1 : ({ W2 with drawn := W2.drawn + 1 } : World).cell? ⟨w.heap.size, 1, none⟩ = some (.int .i64 xt) := g1
  have e2 : ({ W2 with drawn := W2.drawn + 1 } : World).cell? ⟨w.heap.size + 1, 0, none⟩ = some (.int .i64 yf) := d0
  have e3 : ({ W2 with drawn := W2.drawn + 1 } : World).cell? ⟨w.heap.size + 1, 1, none⟩ = some (.int .i64 yt) := d1
  go_enter Try.func29, Try.ntmps29
  go_wp2_with fail
  rw [hW2.out]
  refine wp_region_still_tail 10 (by kernel_rfl) (by kernel_rfl) ?_
  simp only [List.take_succ_cons, List.take_zero, List.drop_succ_cons, List.drop_zero]
  repeat still_step
  still_call (k1 _)
  repeat still_step
  still_call (k2 _)
  repeat still_step
  refine wpStill_nil ?_
  change wpList _ _ _ _ _ W2.drew
  obtain ⟨V, hV⟩ : ∃ V, Hid (W2.drew = V) := ⟨_, Lib.hid rfl⟩
  rw [hV.out]
  have rr := RowAt.new V 3 #[.int .i64 c1, .int .i64 c2]
  have f0 := rr.cell (j := 0) (v := .int .i64 c1) rfl
  have f1 := rr.cell (j := 1) (v := .int .i64 c2) rfl
  clear rr g0 g1 d0 d1 e0 e1 e2 e3 k1 k2
  go_wp2_with fail
  refine (or_any _ _ _ _ f0 f1).mono ?_
  rintro e w' ⟨rfl, rfl⟩
  clear f0 f1
  rw [hc3.out]
  go_wp2_with fail
  go_ret
  have hV2 : V = grow (w.drewN 1) (#[.cells #[.int .i64 xf, .int .i64 xt, .string (bs xx)] 39] ++ #[.cells #[.int .i64 yf, .int .i64 yt, .string (bs yx)] 39]) := by rw [← hV.out, Hg.out]; rfl
  rw [alloc_eq_grow, hV2, grow_grow]
  exact ⟨rfl, 1, _, rfl⟩
/-- Where one of the edits of L is held against another one. -/
def encL (L : List Ed) (i : Nat) : List Value := rowE (L.getD i ⟨0, 0, []⟩)
def cfL (L : List Ed) (i j : Nat) : Int := cmpE (L.getD i ⟨0, 0, []⟩) (L.getD j ⟨0, 0, []⟩)
theorem encL_len (L : List Ed) (i : Nat) : (encL L i).length = 3 := rfl
theorem encL_one (L : List Ed) (i : Nat) : ∀ v ∈ encL L i, v.oneCell' = true := by
  intro u hu
  simp [encL, rowE] at hu
  rcases hu with rfl | rfl | rfl <;> rfl
theorem cmpL (L : List Ed) (blk size : Nat) (w : World) : CmpLays Try.prog 29 #[] (encL L) 3 (cfL L) blk 0 size w := fun m os dk _ x y => by
  have h := cmp_any (L.getD x ⟨0, 0, []⟩) (L.getD y ⟨0, 0, []⟩) (sortWorldK (encL L) 3 w blk 0 m dk os)
  exact h
end Go.Proofs.Ytpekbakidhfliaa
