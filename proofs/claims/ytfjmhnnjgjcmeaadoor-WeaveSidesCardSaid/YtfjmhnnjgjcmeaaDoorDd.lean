/-
  For the laws of weave: the chunks of three rows. Condition: rows of at most 1,000,000 things; both matches rise.
-/
import Derived.Test.YtfjmhnnjgjcmeaaDoorDc
import Derived.Test.YtfjmhnnjgjcmeaaDoorRnu
import Derived.Test.YtfjmhnnjgjcmeaaDoorSSplit
import Derived.Laws.EntriesVeiled
namespace Go.Proofs.YtfjmhnnjgjcmeaaDoor.L
open Go.RowKit Go.Shelf
set_option linter.unusedSimpArgs false
set_option linter.unusedVariables false

attribute [local go_sem] Oper.semAt_some

def ckv (c : Ck) : List Value := [.int .i64 c.kind, .int .i64 (c.p.o : Nat), .int .i64 (c.q.o : Nat), .int .i64 (c.p.a : Nat), .int .i64 (c.q.a : Nat), .int .i64 (c.p.b : Nat), .int .i64 (c.q.b : Nat)]
def fck (l : List Ck) : List Value := l.flatMap ckv
theorem infoCk : (Tryd.prog.info? 71).map (fun i => (i.zero, i.size, i.bytes)) = some (some (.agg #[.int .i64 0, .int .i64 0, .int .i64 0, .int .i64 0, .int .i64 0, .int .i64 0, .int .i64 0]), 7, 56) := by kernel_rfl

theorem ckv_len (c : Ck) : (ckv c).length = 7 := rfl
theorem fck_len (l : List Ck) : (fck l).length = l.length * 7 := by
  unfold fck
  induction l with
  | nil => rfl
  | cons c l ih => rw [List.flatMap_cons, List.length_append, ih, ckv_len, List.length_cons]; omega
theorem fck_snoc (l : List Ck) (c : Ck) : fck (l ++ [c]) = fck l ++ ckv c := by unfold fck; rw [List.flatMap_append]; simp
theorem cuts_len (L R : List Int) (E : P3) : ∀ (n : Nat) (p : P3), (cuts L R E n p).length ≤ n
  | 0, _ => Nat.le_refl _
  | n + 1, p => by
    unfold cuts
    split
    · exact Nat.zero_le _
    · rw [List.length_cons]; exact Nat.succ_le_succ (cuts_len L R E n _)
theorem chunks_len (o a b : List Int) : (chunksOf o a b).length ≤ o.length + a.length + b.length := by
  unfold chunksOf cutsAt
  rw [List.length_map]
  refine Nat.le_trans (cuts_len _ _ _ _ _) ?_
  simp [P3.sum]
theorem add_flat (b o j : Nat) : (⟨b, o, none⟩ : Addr).add j = ⟨b, o + j, none⟩ := by
  by_cases h0 : j = 0 <;> simp [Addr.add, h0]
theorem ck_new (W : World) (c : Ck) (t : TypeId) : ∀ j u, (ckv c)[j]? = some u → (W.alloc (.cells (ckv c).toArray t)).cell? ((⟨W.heap.size, 0, none⟩ : Addr).add j) = some u := by
  intro j u hj
  rw [add_flat, Nat.zero_add]
  exact (RowAt.new W t _).cell (by simpa using hj)
theorem ck_one (c : Ck) : ∀ u ∈ ckv c, u.oneCell' = true := by
  intro u hu
  simp [ckv] at hu
  rcases hu with rfl | rfl | rfl | rfl | rfl | rfl | rfl <;> rfl
theorem own_low {W : World} {b base e size n : Nat} {v : Value} {xs : List Value} (h : W.ownsRow b e size v n xs) (hb : base ≤ b) : W.ownsRow base e size v n xs := by
  refine ⟨h.1, ?_⟩
  rcases h.2 with h0 | ⟨g, cap, cur, e1, h1, hg, h2, h3, h4, h5⟩
  · exact .inl h0
  · exact .inr ⟨g, cap, cur, e1, Nat.le_trans hb h1, hg, h2, h3, h4, h5⟩
/-- What the boxes hold between rounds. -/
def CI (n0 : Nat) (w : World) (pre : List Ck) (W : World) : Prop := (∃ v, Boxed W n0 66 v ∧ W.ownsRow (n0 + 4) 71 7 v pre.length (fck pre)) ∧ Below n0 w W ∧ n0 + 4 ≤ W.heap.size
theorem ci_ab (n0 : Nat) (w : World) : AbT (n0 + 4) (CI n0 w) := by
  intro s A A' row ⟨⟨v, h1, h2⟩, h3, h4⟩ hg hr
  have hne : ∀ (q : Nat) (cs : Array Value) (t : TypeId) (fz : Nat × Nat), A.heap[q]? = some (.cells cs t fz) → t ≠ 105 → some q ≠ row := fun q cs t fz hq ht e => by
    obtain ⟨_, o, ho, hm⟩ := hr q e.symm
    rw [hq] at ho; cases ho
    rcases hm with hm | ⟨cs', hm⟩
    · cases hm
    · cases hm; exact ht rfl
  refine ⟨⟨v, h1.kept hg (hne _ _ _ _ h1 (by decide)), h2.kept hg ?_⟩, ?_, Nat.le_trans h4 hg.size⟩
  · rcases h2.2 with ⟨rfl, _⟩ | ⟨g, cap, cur, rfl, _, hq, _⟩
    · exact .inl rfl
    · exact .inr (hne g _ _ _ hq (by decide))
  · exact h3.trans ((Below.refl n0 A).grown hg (by omega) (fun k e => by have := (hr k e).1; omega))
def AxC (n0 : Nat) (T : Nat → Value → Array Value) (x : Ck) (a' : Act) (W : World) : Prop := ∃ g, n0 + 4 ≤ g ∧ RowAt W g 71 (ckv x).toArray ∧ (∃ v, Boxed W n0 66 v ∧ v.ownBlock ≠ some g) ∧ a' = { tmps := T g (.agg (ckv x).toArray), defers := [] }
set_option maxRecDepth 100000 in
set_option maxHeartbeats 4000000 in
theorem Chunks_in (fu : Nat) (hn : 3 ≤ fu) (w : World) (v1 v2 v3 : Value) (o a b : List Int) (i1 : Ints w .i64 v1 o) (i2 : Ints w .i64 v2 a) (i3 : Ints w .i64 v3 b) (l1 : o.length ≤ 1000000) (l2 : a.length ≤ 1000000) (l3 : b.length ≤ 1000000)
    (m1 : isMatch a.length 0 (matchOf o a)) (m2 : isMatch b.length 0 (matchOf o b)) :
    CallsIn Fence.wide fu Tryd.prog 35 #[v1, v2, v3] w fun e w' => ∃ v, e = .returned v ∧ w'.ownsRow w.heap.size 71 7 v (chunksOf o a b).length (fck (chunksOf o a b)) ∧ Below w.heap.size w w' := by
  have hro : Fence.wide.round = none := rfl
  have h1 : 1 ≤ fu := by omega
  obtain ⟨i0, hi, hz0, hz1, hz2⟩ := info_parts infoCk
  have C1 := Lib.hid (fun U (hU : Below w.heap.size w U) => each_any v1 v2 v3 o a b U (i1.below hU) (i2.below hU) (i3.below hU))
  have J1 := Lib.hid i1
  have J2 := Lib.hid i2
  have J3 := Lib.hid i3
  obtain ⟨a1, c1, rfl, -⟩ := i1
  obtain ⟨a2, c2, rfl, -⟩ := i2
  obtain ⟨a3, c3, rfl, -⟩ := i3
  refine callsIn_of_wp_marks Tryd.func35 rfl trivial ?_ hro
  simp only [Tryd.ntmps35, List.size_toArray, List.length_cons, List.length_nil, Nat.reduceAdd, Nat.reduceSub, Array.replicate_succ, Array.replicate_zero, List.push_toArray, List.append_toArray, List.nil_append, List.cons_append]
  gi_wp2
  refine ⟨trivial, ?_⟩
  refine (callsIn_wide.2 (C1.out _ ((Below.refl _ w).alloc (Nat.le_refl _) _))).mono ?_
  rintro e w1 ⟨rfl, hw1⟩
  have hb1 : Below w.heap.size w w1 := by
    rw [hw1]
    exact ((((Below.refl _ w).alloc (Nat.le_refl _) _).alloc (by simp) _).alloc (by simp; omega) _).alloc (by simp; omega) _
  have hs1 : w1.heap.size = w.heap.size + 4 := by rw [hw1]; simp
  have q0 : Boxed w1 w.heap.size 66 (.slice none 0 0) := by
    rw [hw1]
    exact ((((Boxed.new w 66 (.slice none 0 0)).alloc _).alloc _).alloc _)
  have q1 : RowAt w1 (w.heap.size + 1) 85 #[.slice a1 o.length c1] := by
    rw [hw1]
    have h := RowAt.new (w.alloc (.cells #[.slice none 0 0] 66)) 85 #[.slice a1 o.length c1]
    rw [World.size_alloc] at h
    exact (h.alloc _).alloc _
  have q2 : RowAt w1 (w.heap.size + 1 + 1) 85 #[.slice a2 a.length c2] := by
    rw [hw1]
    have h := RowAt.new ((w.alloc (.cells #[.slice none 0 0] 66)).alloc (.cells #[.slice a1 o.length c1] 85)) 85 #[.slice a2 a.length c2]
    rw [World.size_alloc, World.size_alloc] at h
    exact h.alloc _
  have q3 : RowAt w1 (w.heap.size + 1 + 1 + 1) 85 #[.slice a3 b.length c3] := by
    rw [hw1]
    have h := RowAt.new (((w.alloc (.cells #[.slice none 0 0] 66)).alloc (.cells #[.slice a1 o.length c1] 85)).alloc (.cells #[.slice a2 a.length c2] 85)) 85 #[.slice a3 b.length c3]
    rw [World.size_alloc, World.size_alloc, World.size_alloc] at h
    exact h
  clear hw1
  have hlen := chunks_len o a b
  have hseq := each1_in (fu - 1) (by omega) w w1 _ _ _ _ _ _ o a b J1.out J2.out J3.out l1 l2 l3 m1 m2 hb1 q1 q2 q3
  gi_wp2
  refine rngU hro h1 (gf := 54) (lb := #[.pointer (some ⟨w.heap.size + 1, 0, none⟩), .pointer (some ⟨w.heap.size + 1 + 1, 0, none⟩), .pointer (some ⟨w.heap.size + 1 + 1 + 1, 0, none⟩)]) rfl trivial (enters_of Tryd.func54 (by kernel_rfl) rfl)
    hseq (fun h k => KpC.trans h k) (fun W l o o' h1 h2 h3 => kpC_put (by omega) W l o o' h1 h2 h3) (Below.refl _ _) (fun _ => rfl)
    (CI w.heap.size w) (by rw [hs1]; exact ci_ab _ _) ⟨⟨_, q0, World.ownsRow_nil _ _ _ _⟩, hb1, by omega⟩
    (AxC w.heap.size (fun g x => #[.slice a1 o.length c1, .slice a2 a.length c2, .slice a3 b.length c3, undef, undef, undef, .slice none 0 0, .pointer (some ⟨w.heap.size, 0, none⟩), .pointer (some ⟨g, 0, none⟩), .slice a1 o.length c1, .slice a2 a.length c2, .slice a3 b.length c3, .func (.func 54) #[] #[.pointer (some ⟨w.heap.size + 1, 0, none⟩), .pointer (some ⟨w.heap.size + 1 + 1, 0, none⟩), .pointer (some ⟨w.heap.size + 1 + 1 + 1, 0, none⟩)], x, undef, undef, undef, undef, undef]))
    ?ax ?assign ?body ?done
  case ax =>
    rintro x a' A l o o' ⟨g, g1, g2, ⟨v, g3, g4⟩, g5⟩ hl hq hc
    refine ⟨g, g1, g2.same (World.putObj_heap_other ?_), ⟨v, (World.putObj_heap_other ?_).trans g3, g4⟩, g5⟩
    · rintro rfl; rw [show A.heap[g]? = _ from g2] at hq; cases hq; cases hc
    · omega
  case assign =>
    rintro l pre x W K ⟨⟨v, h2, h3⟩, h4, h5⟩ hlt hK
    dsimp only [encC]
    gi_wp2
    exact hK _ _ ((KeepsOthers.alloc _ _).from _) ⟨by simp, (Below.refl _ _).alloc (by omega) _, fun b t cs _ h => h.alloc _⟩ ⟨⟨v, h2.alloc _, h3.alloc _⟩, h4.alloc h4.size _, by simp; omega⟩ ⟨W.heap.size, h5, RowAt.new W 71 _, ⟨v, h2.alloc _, fun e => by have := (h3.lt _ e).2; omega⟩, rfl⟩
  case done =>
    rintro D ys W hD rfl ⟨⟨v, h2, h3⟩, h4, h5⟩ hK
    have hc := h2.cell
    gi_wp2
    refine ⟨by simp, .inl ⟨_, _, rfl, run_takeDeferred hK, ?_⟩⟩
    exact ⟨_, results_tmp rfl _ _ _, v, rfl, ownsRow_putObj (own_low h3 (by omega)) _ hK rfl, h4.trans (belowK_b (w := w) (Nat.le_refl _) W D _ _ (by omega) hK rfl rfl)⟩
  case body =>
    rintro l pre x a' W ⟨⟨v, h2, h3⟩, h4, h5⟩ ⟨g, g1, g2, ⟨v', g3, g4⟩, rfl⟩ hlt
    obtain ⟨e0, e1, e2, e3, e4, e5, e6⟩ : W.cell? ⟨g, 0, none⟩ = some (.int .i64 x.kind) ∧ W.cell? ⟨g, 1, none⟩ = some (.int .i64 (x.p.o : Nat)) ∧ W.cell? ⟨g, 2, none⟩ = some (.int .i64 (x.q.o : Nat)) ∧ W.cell? ⟨g, 3, none⟩ = some (.int .i64 (x.p.a : Nat)) ∧ W.cell? ⟨g, 4, none⟩ = some (.int .i64 (x.q.a : Nat)) ∧ W.cell? ⟨g, 5, none⟩ = some (.int .i64 (x.p.b : Nat)) ∧ W.cell? ⟨g, 6, none⟩ = some (.int .i64 (x.q.b : Nat)) := ⟨g2.cell rfl, g2.cell rfl, g2.cell rfl, g2.cell rfl, g2.cell rfl, g2.cell rfl, g2.cell rfl⟩
    have hc := h2.cell
    have hkp : ∀ (b t : Nat) (cs : Array Value), (t = 105 ∨ t = 3 ∨ t = 85) → RowAt W b t cs → some b ≠ v.ownBlock ∧ b ≠ w.heap.size := fun b t cs ht hb => by
      refine ⟨fun e => ?_, ?_⟩
      · rcases h3.2 with ⟨rfl, _⟩ | ⟨q, cap, cur, rfl, _, hq, _⟩
        · simp [Value.ownBlock] at e
        · obtain rfl : b = q := by simpa [Value.ownBlock] using e
          rw [show W.heap[b]? = _ from hb] at hq
          cases hq
          omega
      · intro e
        rw [e] at hb
        have h22 : W.heap[w.heap.size]? = some (.cells #[v] 66) := h2
        rw [show W.heap[w.heap.size]? = _ from hb] at h22
        cases h22
        omega
    have Hkp := Lib.hid hkp
    clear hkp
    gi_wp2_with (gi_at_builtin; refine wpListIn_append_own _ rfl _ _ 66 rfl (w.heap.size + 4) 71 i0 _ 7 56 Tryd.underlying66 hi hz0 hz1 hz2 rfl (by decide) _ _ _ rfl (h3.alloc _) ⟨W.heap.size, 0, none⟩ 1 1 (ckv x) rfl rfl (ck_new W x _) (ck_one x) (by unfold maxLen; omega) (by omega) (by simp; omega) ?_; intro v2 w2 hown' hgrow _; obtain ⟨g', cap', rfl⟩ := ownsRow_succ hown'; obtain ⟨hv1, hv3, hr2, hk2, hb2, hbx⟩ := S.appended2 h2 h3 h5 (by omega) hown' hgrow; have hc1 := hv1.cell; have hf1 := hv1.frozen)
    refine ⟨hk2.from _, ⟨by have := hb2.size; exact this, hb2, fun b t cs ht hb => ?_⟩, ⟨_, hv3, by rw [fck_snoc]; simpa using hr2⟩, h4.trans hb2, Nat.le_trans h5 hb2.size⟩
    obtain ⟨n1, n2⟩ := Hkp.out b t cs ht hb
    have hlt2 := hb.lt
    exact ((Below.heap_setCell _ ⟨w.heap.size, 0, none⟩ _ b n2).trans (hgrow.block b (by simp; omega) n1)).trans ((Below.heap_alloc W _ b hlt2).trans hb)
end Go.Proofs.YtfjmhnnjgjcmeaaDoor.L
