/-
  For the laws of flow: the first that is never reached. Condition: at most 2,000,000 nodes.
-/
import Derived.Test.YtbnbmjdjkadgoaaFOr
import Derived.Test.YtbnbmjdjkadgoaaKChg
import Derived.Test.YtbnbmjdjkadgoaaUpd
namespace Go.Proofs.Ytbnbmjdjkadgoaa.F
open Go.RowKit Go.Shelf
set_option linter.unusedSimpArgs false
set_option linter.unusedVariables false

attribute [local go_sem] Oper.semAt_some

theorem results_ptr {fn : Func} {p : Tmp} (h : fn.results = #[.cell p 82]) (tmps : Array Value) (w : World) (g : Nat) (v : Value)
    (hp : tmps.getD p undef = .pointer (some ⟨g, 0, none⟩)) (hc : w.cell? ⟨g, 0, none⟩ = some v) : (results fn tmps).run Try.prog w = .ok v w := by
  have e : (results fn tmps).run Try.prog w = ((asAddr (tmps.getD p undef)).run Try.prog w).andThen fun a w₁ => (loadVar 82 a).run Try.prog w₁ := by
    simp only [results, h]
    simp [Sem.run_bind, Result.andThen]
  rw [e, hp]
  simp [asAddr, Result.andThen, go_sem, hc]
theorem abT_boxed {β : Type} (B b : Nat) (t : TypeId) (ht : t ≠ 155) (f : β → Value) : AbT B (fun s W => Boxed W b t (f s)) := fun s A A' row h hg hr => h.kept hg (fun e => by
  obtain ⟨-, o, ho, hm⟩ := hr b e.symm
  rw [show A.heap[b]? = _ from h] at ho
  cases ho
  rcases hm with h1 | ⟨cs, h1⟩
  · cases h1
  · cases h1; exact ht rfl)
theorem abT_below {β : Type} {n0 B : Nat} {w : World} (hn : n0 ≤ w.heap.size) (hB : n0 ≤ B) : AbT B (fun (_ : β) W => Below n0 w W) := fun s A A' row h hg hr => h.grown hg (Nat.le_trans hn h.size) (fun k e => Nat.le_trans hB (hr k e).1)
/-- What is told of what is never reached. -/
def DeadIs (W : World) (T : Nd) (v : Value) : Prop := (deadN T = none ∧ v = .pointer none) ∨ ∃ s : Sp, deadN T = some s.t ∧ v = .pointer (some ⟨s.b, s.o, none⟩) ∧ NodeP W s
set_option maxRecDepth 100000 in
set_option maxHeartbeats 8000000 in
theorem dead_any (v : Value) (T : Nd) (w : World) (hm : T.cnt ≤ 2000000) (hF : FlatAt w v T) : Calls Try.prog 55 #[v] w fun e w' => (∃ u, e = .returned u ∧ DeadIs w' T u) ∧ Below w.heap.size w w' := by
  refine (callsIn_wide (n := 3)).1 ?_
  have hro : Fence.wide.round = none := rfl
  obtain ⟨Q, hrow, hql, hnd, hroot, ht⟩ := hF
  have HR := Lib.hid hrow
  have HN := Lib.hid hnd
  obtain ⟨a, cap, rfl, -⟩ := hrow.get
  obtain ⟨n, hn⟩ : ∃ n, Hid (Q.length = n) := ⟨_, Lib.hid rfl⟩
  obtain ⟨W1, hW1⟩ : ∃ W1, Hid (w.alloc (.cells #[.pointer none] 82) = W1) := ⟨_, Lib.hid rfl⟩
  have B1 : Hid (Below w.heap.size w W1) := by rw [← hW1.out]; exact Lib.hid ((Below.refl _ w).alloc (Nat.le_refl _) _)
  have hs1 : W1.heap.size = w.heap.size + 1 := by rw [← hW1.out]; simp
  have X1 : Hid (Boxed W1 w.heap.size 82 (.pointer none)) := by rw [← hW1.out]; exact Lib.hid (Boxed.new w 82 _)
  have call := Lib.hid (inOrder_any (.slice a Q.length cap) Q W1 (HR.out.below B1.out))
  obtain ⟨W2, hW2⟩ : ∃ W2, Hid (W1.alloc (.cells #[.slice a Q.length cap] 84) = W2) := ⟨_, Lib.hid rfl⟩
  have B2 : Hid (Below w.heap.size w W2) := by rw [← hW2.out]; exact Lib.hid (B1.out.alloc (by omega) _)
  have hs2 : W2.heap.size = w.heap.size + 2 := by rw [← hW2.out]; simp; omega
  have R2 : Hid (RowAt W2 (w.heap.size + 1) 84 #[.slice a Q.length cap]) := by
    rw [← hW2.out]
    have := RowAt.new W1 84 #[.slice a Q.length cap]
    rw [hs1] at this
    exact Lib.hid this
  have X2 : Hid (Boxed W2 w.heap.size 82 (.pointer none)) := by rw [← hW2.out]; exact Lib.hid (X1.out.alloc _)
  have IT := inOrder1_in (3 - 1) (by omega) w W2 (w.heap.size + 1) T _ Q hrow hql hnd hroot ht hm B2.out R2.out
  clear hrow hnd hroot ht
  rw [hn.out] at call hW2
  rw [hn.out]
  refine callsIn_of_wp_marks Try.func55 rfl trivial ?_ hro
  simp only [Try.ntmps55, List.size_toArray, List.length_cons, List.length_nil, Nat.reduceAdd, Nat.reduceSub, Array.replicate_succ, Array.replicate_zero, List.push_toArray, List.append_toArray, List.nil_append, List.cons_append]
  gi_wp2
  rw [hW1.out]
  gi_wp2
  refine ⟨trivial, ?_⟩
  refine (callsIn_wide.2 call.out).mono ?_
  rintro e w2 ⟨rfl, rfl⟩
  rw [hs1, hW2.out]
  clear call
  gi_wp2
  refine rngT hro (by omega) (gf := 118) (lb := #[.pointer (some ⟨w.heap.size + 1, 0, none⟩)]) rfl trivial (enters_of Try.func118 (by kernel_rfl) rfl)
    IT
    KpQ.trans (kpQ_put (by omega) (by omega)) (Below.refl _ _) (fun _ => rfl)
    (fun pre W => (∀ y ∈ pre, y.1.2 = false) ∧ Boxed W w.heap.size 82 (.pointer none) ∧ Below w.heap.size w W)
    (fun xs W => ∃ pre x, xs = pre ++ [x] ∧ (∀ y ∈ pre, y.1.2 = false) ∧ x.1.2 = true ∧ Boxed W w.heap.size 82 (.pointer (some ⟨x.1.1.b, x.1.1.o, none⟩)) ∧ Below w.heap.size w W)
    ?abI ?abX ⟨fun y hy => by (cases hy), X2.out, B2.out⟩
    (fun x => { tmps := #[.slice a n cap, undef, .pointer (some ⟨w.heap.size, 0, none⟩), .pointer (some ⟨x.1.1.b, x.1.1.o, none⟩), .bool x.1.2, .slice a n cap, .func (.func 118) #[] #[.pointer (some ⟨w.heap.size + 1, 0, none⟩)], .pointer (some ⟨x.1.1.b, x.1.1.o, none⟩), .bool x.1.2, undef, undef], defers := [] }) ?assign ?body ?done ?stop
  case abI =>
    rintro s A A' row ⟨i1, i2, i3⟩ hg hr
    exact ⟨i1, abT_boxed (β := Unit) _ _ 82 (by decide) (fun _ => .pointer none) () A A' row i2 hg hr, abT_below (β := Unit) (Nat.le_refl _) (by omega) () A A' row i3 hg hr⟩
  case abX =>
    rintro s A A' row ⟨pre, x, e, i1, i2, i3, i4⟩ hg hr
    exact ⟨pre, x, e, i1, i2, abT_boxed (β := Unit) _ _ 82 (by decide) (fun _ => .pointer (some ⟨x.1.1.b, x.1.1.o, none⟩)) () A A' row i3 hg hr, abT_below (β := Unit) (Nat.le_refl _) (by omega) () A A' row i4 hg hr⟩
  case assign =>
    intro l x W K hK
    gi_wp2
    simpa [encQ] using hK
  case body =>
    rintro l pre x W ⟨hp, hv, hB⟩
    have hc := hv.cell
    have hf := hv.frozen
    have HV := Lib.hid hv
    have HB := Lib.hid hB
    have HP := Lib.hid hp
    clear hv hB hp
    cases hd : x.1.2 with
    | false =>
      have Hd := Lib.hid hd
      clear hd
      gi_wp2
      refine ⟨KeepsFrom.refl _ _, KpQ.refl _ _ _, fun y hy => ?_, HV.out, HB.out⟩
      rcases List.mem_append.1 hy with h | h
      · exact HP.out y h
      · obtain rfl := List.mem_singleton.1 h
        exact Hd.out
    | true =>
      have Hd := Lib.hid hd
      clear hd
      gi_wp2
      exact ⟨(KeepsOthers.setCell _ _ _).from _, pre, x, rfl, HP.out, Hd.out, HV.out.set _, HB.out.setCell (p := ⟨w.heap.size, 0, none⟩) (Nat.le_refl _) _⟩
  case done =>
    rintro D ys W hD hys ⟨hp, hv, hB⟩ hK
    have hdead := hys hp
    have hc := hv.cell
    have hf := hv.frozen
    have HV := Lib.hid hv
    have HB := Lib.hid hB
    have HD := Lib.hid hdead
    have HKK := Lib.hid hK
    clear hys hB hv hp hdead hK
    gi_wp2
    have hDne : D ≠ w.heap.size := by omega
    have K9 := (Below.heap_setCell W ⟨w.heap.size, 0, none⟩ (.pointer none) D (by simpa using hDne)).trans HKK.out
    have X9 : Boxed (W.setCell ⟨w.heap.size, 0, none⟩ (.pointer none)) w.heap.size 82 (.pointer none) := HV.out.set _
    have B9 := HB.out.setCell (p := ⟨w.heap.size, 0, none⟩) (Nat.le_refl _) (.pointer none)
    refine ⟨by simp, .inl ⟨_, _, rfl, run_takeDeferred K9, ?_⟩⟩
    refine ⟨_, results_ptr rfl _ _ w.heap.size _ rfl (Boxed.cell (t := 82) ((World.putObj_heap_other (by omega)).trans X9)), ⟨_, rfl, .inl ⟨HD.out, rfl⟩⟩, B9.trans (belowK_b (w := w) (Nat.le_refl _) _ D _ _ (by omega) K9 rfl rfl)⟩
  case stop =>
    rintro D ys W hD ⟨pre, x, e1, hsp⟩ ⟨pre', x', e2, hp, hx, hv, hB⟩ hK
    rw [e1] at e2
    obtain ⟨rfl, e3⟩ := List.append_inj' e2 rfl
    obtain rfl : x = x' := by simpa using e3
    have hdead := hsp hp hx
    have hDne : D ≠ w.heap.size := by omega
    refine wpIn_ret ?_
    refine ⟨by simp, .inl ⟨_, _, rfl, run_takeDeferred hK, ?_⟩⟩
    refine ⟨_, results_ptr rfl _ _ w.heap.size _ rfl (Boxed.cell (t := 82) ((World.putObj_heap_other (by omega)).trans hv)), ⟨_, rfl, .inr ⟨x.1.1, hdead, rfl, (HN.out _ x.2).below (hB.trans (belowK_b (w := w) (Nat.le_refl _) W D _ _ (by omega) hK rfl rfl))⟩⟩, hB.trans (belowK_b (w := w) (Nat.le_refl _) W D _ _ (by omega) hK rfl rfl)⟩
end Go.Proofs.Ytbnbmjdjkadgoaa.F
/-
  For the laws of flow: Ends, Reached, Dead. Condition: at most 2,000,000 nodes.
-/
namespace Go.Proofs.Ytbnbmjdjkadgoaa.F
open Go.RowKit Go.Shelf
set_option linter.unusedSimpArgs false
set_option linter.unusedVariables false

/-- The first spot of a tree's row. -/
theorem FlatAt.first {W : World} {v : Value} {T : Nd} (h : FlatAt W v T) : ∃ g o n cap, v = .slice (some ⟨g, o, none⟩) n cap ∧ 0 < n ∧ n ≤ 2000000 ∧ W.cell? ⟨g, o + 2, none⟩ = some (.bool (endsN T)) ∧ W.cell? ⟨g, o + 3, none⟩ = some (.int .i64 (reachN T : Nat)) := by
  obtain ⟨Q, hrow, hql, hnd, ⟨s, hs, rfl⟩, ht⟩ := h
  have hl := (List.getElem?_eq_some_iff.1 hs).1
  obtain ⟨a, cap, rfl, -, -, hx⟩ := hrow.get
  obtain ⟨g, o, rfl, c⟩ := hx 0 s hs
  obtain ⟨-, h1, h2⟩ := ht 0 s hs
  have c2 := c.c2
  have c3 := c.c3
  rw [Nat.zero_mul, Nat.add_zero] at c2 c3
  rw [h1] at c2
  rw [h2] at c3
  exact ⟨g, o, _, cap, rfl, hl, hql, c2, c3⟩
set_option maxRecDepth 100000 in
set_option maxHeartbeats 8000000 in
theorem Ends_any (T : Nd) (kv : Value) (w : World) (hm : T.cnt ≤ 2000000) (hk : KidsAt w T.kids kv) : Calls Try.prog 28 #[.agg #[.int .i64 T.hd.kind, .string (bs T.hd.text), .string (bs T.hd.type), .int .i64 T.hd.n, .int .i64 T.hd.fr, .int .i64 T.hd.to_, .int .i64 T.hd.at_, .int .i64 T.hd.tat, kv]] w fun e w' => e = .returned (.bool (endsN T)) ∧ Below w.heap.size w w' := by
  have HK := Lib.hid hk
  obtain ⟨a0, cap0, rfl, -⟩ := hk.get
  clear hk
  obtain ⟨n, hn⟩ : ∃ n, Hid (T.kids.length = n) := ⟨_, Lib.hid rfl⟩
  rw [hn.out] at HK
  rw [hn.out]
  obtain ⟨W1, hW1⟩ : ∃ W1, Hid (w.alloc (.cells #[.int .i64 T.hd.kind, .string (bs T.hd.text), .string (bs T.hd.type), .int .i64 T.hd.n, .int .i64 T.hd.fr, .int .i64 T.hd.to_, .int .i64 T.hd.at_, .int .i64 T.hd.tat, .slice a0 n cap0] 44) = W1) := ⟨_, Lib.hid rfl⟩
  have B1 : Hid (Below w.heap.size w W1) := by rw [← hW1.out]; exact Lib.hid ((Below.refl _ w).alloc (Nat.le_refl _) _)
  have R1 : Hid (RowAt W1 w.heap.size 44 (T.hd.vals (.slice a0 n cap0))) := by rw [← hW1.out]; exact Lib.hid (RowAt.new w 44 _)
  have call := Lib.hid (flatten_any w.heap.size 0 T (.slice a0 n cap0) W1 (Cells.row R1.out) (HK.out.below B1.out) hm)
  obtain ⟨R, hR⟩ : ∃ R, Hid (endsN T = R) := ⟨_, Lib.hid rfl⟩
  rw [hR.out]
  go_enter Try.func28, Try.ntmps28
  go_wp2_with fail
  rw [hW1.out]
  refine call.out.mono ?_
  rintro e w2 ⟨⟨v, rfl, hF⟩, b2⟩
  obtain ⟨g, o, m, cap, rfl, hm0, hm1, c2, c3⟩ := hF.first
  rw [hR.out] at c2
  have B2 := Lib.hid (B1.out.trans (b2.mono B1.out.size))
  have q : (0 : Int) < (m : Int) := by omega
  clear hF b2
  go_wp2_with fail
  go_ret
  exact ⟨rfl, B2.out⟩
set_option maxRecDepth 100000 in
set_option maxHeartbeats 8000000 in
theorem Reached_any (T : Nd) (kv : Value) (w : World) (hm : T.cnt ≤ 2000000) (hk : KidsAt w T.kids kv) : Calls Try.prog 31 #[.agg #[.int .i64 T.hd.kind, .string (bs T.hd.text), .string (bs T.hd.type), .int .i64 T.hd.n, .int .i64 T.hd.fr, .int .i64 T.hd.to_, .int .i64 T.hd.at_, .int .i64 T.hd.tat, kv]] w fun e w' => e = .returned (.int .i64 (reachN T : Nat)) ∧ Below w.heap.size w w' := by
  have HK := Lib.hid hk
  obtain ⟨a0, cap0, rfl, -⟩ := hk.get
  clear hk
  obtain ⟨n, hn⟩ : ∃ n, Hid (T.kids.length = n) := ⟨_, Lib.hid rfl⟩
  rw [hn.out] at HK
  rw [hn.out]
  obtain ⟨W1, hW1⟩ : ∃ W1, Hid (w.alloc (.cells #[.int .i64 T.hd.kind, .string (bs T.hd.text), .string (bs T.hd.type), .int .i64 T.hd.n, .int .i64 T.hd.fr, .int .i64 T.hd.to_, .int .i64 T.hd.at_, .int .i64 T.hd.tat, .slice a0 n cap0] 44) = W1) := ⟨_, Lib.hid rfl⟩
  have B1 : Hid (Below w.heap.size w W1) := by rw [← hW1.out]; exact Lib.hid ((Below.refl _ w).alloc (Nat.le_refl _) _)
  have R1 : Hid (RowAt W1 w.heap.size 44 (T.hd.vals (.slice a0 n cap0))) := by rw [← hW1.out]; exact Lib.hid (RowAt.new w 44 _)
  have call := Lib.hid (flatten_any w.heap.size 0 T (.slice a0 n cap0) W1 (Cells.row R1.out) (HK.out.below B1.out) hm)
  obtain ⟨R, hR⟩ : ∃ R, Hid (reachN T = R) := ⟨_, Lib.hid rfl⟩
  rw [hR.out]
  go_enter Try.func31, Try.ntmps31
  go_wp2_with fail
  rw [hW1.out]
  refine call.out.mono ?_
  rintro e w2 ⟨⟨v, rfl, hF⟩, b2⟩
  obtain ⟨g, o, m, cap, rfl, hm0, hm1, c2, c3⟩ := hF.first
  rw [hR.out] at c3
  have B2 := Lib.hid (B1.out.trans (b2.mono B1.out.size))
  have q : (0 : Int) < (m : Int) := by omega
  clear hF b2
  go_wp2_with fail
  go_ret
  exact ⟨rfl, B2.out⟩
def zN : Nd := .mk ⟨0, [], [], 0, 0, 0, 0, 0⟩ []
/-- A node, if there is one, and whether. -/
def OptIs (W : World) (r : Option Nd) (e : Ending) : Prop := ∃ kv, e = .returned (.tuple #[(r.getD zN).hd.agg kv, .bool r.isSome]) ∧ KidsAt W (r.getD zN).kids kv
theorem copiedI_any (T : Nd) (kv : Value) (w : World) (hm : T.cnt ≤ 2000000) (hk : KidsAt w T.kids kv) : Calls Try.prog 56 #[.agg #[.int .i64 T.hd.kind, .string (bs T.hd.text), .string (bs T.hd.type), .int .i64 T.hd.n, .int .i64 T.hd.fr, .int .i64 T.hd.to_, .int .i64 T.hd.at_, .int .i64 T.hd.tat, kv]] w fun e w' => ∃ (kv' : Value) (F : List Nat), e = .returned (T.hd.agg kv') ∧ (∀ V : World, (∀ N ∈ F, V.heap[N]? = w'.heap[N]?) → KidsAt V T.kids kv') ∧ (∀ N ∈ F, w.heap.size ≤ N) ∧ Below w.heap.size w w' := by
  refine (K.copied_any id (fun _ => rfl) T kv w hm hk).mono ?_
  rintro e w' ⟨kv', F, rfl, hs, -, hF, hb⟩
  have e1 : mapL (fun h => h) T.kids = T.kids := mapL_id T.kids
  exact ⟨kv', F, rfl, fun V hV => by rw [← mapL_id T.kids]; exact (hs.keep hV).kids, hF, hb⟩
set_option maxRecDepth 100000 in
set_option maxHeartbeats 16000000 in
theorem Dead_any (T : Nd) (kv : Value) (w : World) (hm : T.cnt ≤ 2000000) (hk : KidsAt w T.kids kv) (hdc : ∀ x, deadN T = some x → x.cnt ≤ 2000000) : Calls Try.prog 26 #[.agg #[.int .i64 T.hd.kind, .string (bs T.hd.text), .string (bs T.hd.type), .int .i64 T.hd.n, .int .i64 T.hd.fr, .int .i64 T.hd.to_, .int .i64 T.hd.at_, .int .i64 T.hd.tat, kv]] w fun e w' => OptIs w' (deadN T) e ∧ Below w.heap.size w w' := by
  have HK := Lib.hid hk
  obtain ⟨a0, cap0, rfl, -⟩ := hk.get
  clear hk
  obtain ⟨n, hn⟩ : ∃ n, Hid (T.kids.length = n) := ⟨_, Lib.hid rfl⟩
  rw [hn.out] at HK
  rw [hn.out]
  obtain ⟨W1, hW1⟩ : ∃ W1, Hid ((w.alloc (.cells #[.int .i64 T.hd.kind, .string (bs T.hd.text), .string (bs T.hd.type), .int .i64 T.hd.n, .int .i64 T.hd.fr, .int .i64 T.hd.to_, .int .i64 T.hd.at_, .int .i64 T.hd.tat, .slice a0 n cap0] 44)).alloc (.cells #[.int .i64 0, .string ⟨#[]⟩, .string ⟨#[]⟩, .int .i64 0, .int .i64 0, .int .i64 0, .int .i64 0, .int .i64 0, .slice none 0 0] 44) = W1) := ⟨_, Lib.hid rfl⟩
  have B1 : Hid (Below w.heap.size w W1) := by rw [← hW1.out]; exact Lib.hid (((Below.refl _ w).alloc (Nat.le_refl _) _).alloc (by simp) _)
  have R1 : Hid (RowAt W1 w.heap.size 44 (T.hd.vals (.slice a0 n cap0))) := by rw [← hW1.out]; exact Lib.hid ((RowAt.new w 44 (T.hd.vals (.slice a0 n cap0))).alloc _)
  have RZ : Hid (RowAt W1 (w.heap.size + 1) 44 #[.int .i64 0, .string ⟨#[]⟩, .string ⟨#[]⟩, .int .i64 0, .int .i64 0, .int .i64 0, .int .i64 0, .int .i64 0, .slice none 0 0]) := by
    rw [← hW1.out]
    have := RowAt.new (w.alloc (.cells #[.int .i64 T.hd.kind, .string (bs T.hd.text), .string (bs T.hd.type), .int .i64 T.hd.n, .int .i64 T.hd.fr, .int .i64 T.hd.to_, .int .i64 T.hd.at_, .int .i64 T.hd.tat, .slice a0 n cap0] 44)) 44 #[.int .i64 0, .string ⟨#[]⟩, .string ⟨#[]⟩, .int .i64 0, .int .i64 0, .int .i64 0, .int .i64 0, .int .i64 0, .slice none 0 0]
    rw [World.size_alloc] at this
    exact Lib.hid this
  have hs1 : W1.heap.size = w.heap.size + 2 := by rw [← hW1.out]; simp
  have call := Lib.hid (flatten_any w.heap.size 0 T (.slice a0 n cap0) W1 (Cells.row R1.out) (HK.out.below B1.out) hm)
  go_enter Try.func26, Try.ntmps26
  go_wp2_with fail
  rw [hW1.out]
  refine call.out.mono ?_
  rintro e w2 ⟨⟨v, rfl, hF⟩, b2⟩
  have call2 := Lib.hid (dead_any v T w2 hm hF)
  obtain ⟨g, o, m, cap, rfl, -, -, -, -⟩ := hF.first
  have B2 := Lib.hid (B1.out.trans (b2.mono B1.out.size))
  have RZ2 := Lib.hid (RZ.out.later b2)
  have hs2 := b2.size
  clear hF b2 call
  go_wp2_with fail
  refine call2.out.mono ?_
  rintro e w3 ⟨⟨u, rfl, hD⟩, b3⟩
  have B3 := Lib.hid (B2.out.trans (b3.mono B2.out.size))
  have RZ3 := Lib.hid (RZ2.out.later b3)
  have hs3 := b3.size
  clear b3 call2
  rcases hD with ⟨h1, rfl⟩ | ⟨s, h1, rfl, hN⟩
  · have z0 := RZ3.out.frozen 0
    have z1 := RZ3.out.frozen 1
    have z2 := RZ3.out.frozen 2
    have z3 := RZ3.out.frozen 3
    have z4 := RZ3.out.frozen 4
    have z5 := RZ3.out.frozen 5
    have z6 := RZ3.out.frozen 6
    have z7 := RZ3.out.frozen 7
    have z8 := RZ3.out.frozen 8
    obtain ⟨r0, r1, r2, r3, r4, r5, r6, r7, r8⟩ := (show Cells w3 (w.heap.size + 1) 0 ⟨0, [], [], 0, 0, 0, 0, 0⟩ (.slice none 0 0) from Cells.row RZ3.out)
    simp only [Nat.zero_add] at r1 r2 r3 r4 r5 r6 r7 r8
    have H1 := Lib.hid h1
    clear h1
    go_wp2_with fail
    obtain ⟨R9, U9⟩ := nine RZ3.out zN.hd (.slice none 0 0)
    refine bodyPost_ret (results_cell_row_tmp rfl _ _ (w.heap.size + 1) 44 (zN.hd.vals (.slice none 0 0)) (0, 0) _ rfl R9 Try.underlying44 rfl rfl) rfl ?_
    refine ⟨?_, B3.out.trans (U9.below _ (by omega))⟩
    rw [H1.out]
    exact ⟨_, rfl, KidsAt.nil _⟩
  · have HN := Lib.hid hN
    obtain ⟨a1, c1, hkv, -⟩ := hN.2.get
    have call3 := Lib.hid (copiedI_any s.t s.kv w3 (hdc _ h1) hN.2)
    obtain ⟨d0, d1, d2, d3, d4, d5, d6, d7, d8⟩ := hN.1
    have H1 := Lib.hid h1
    rw [hkv] at d8 call3
    clear hN h1 hkv
    obtain ⟨n1, hn1⟩ : ∃ n, Hid (s.t.kids.length = n) := ⟨_, Lib.hid rfl⟩
    rw [hn1.out] at d8 call3
    go_wp2_with fail
    refine call3.out.mono ?_
    rintro e w4 ⟨kv', F, rfl, hkk, hFF, b4⟩
    have HKK := Lib.hid hkk
    have HFF := Lib.hid hFF
    obtain ⟨a2, c2, rfl, -⟩ := (hkk w4 (fun _ _ => rfl)).get
    have B4 := Lib.hid (B3.out.trans (b4.mono B3.out.size))
    have RZ4 := Lib.hid (RZ3.out.later b4)
    clear hkk hFF b4 call3 d0 d1 d2 d3 d4 d5 d6 d7 d8
    rw [hn1.out] at HKK
    rw [hn1.out]
    have z0 := RZ4.out.frozen 0
    have z1 := RZ4.out.frozen 1
    have z2 := RZ4.out.frozen 2
    have z3 := RZ4.out.frozen 3
    have z4 := RZ4.out.frozen 4
    have z5 := RZ4.out.frozen 5
    have z6 := RZ4.out.frozen 6
    have z7 := RZ4.out.frozen 7
    have z8 := RZ4.out.frozen 8
    obtain ⟨r0, r1, r2, r3, r4, r5, r6, r7, r8⟩ := (show Cells w4 (w.heap.size + 1) 0 ⟨0, [], [], 0, 0, 0, 0, 0⟩ (.slice none 0 0) from Cells.row RZ4.out)
    simp only [Nat.zero_add] at r1 r2 r3 r4 r5 r6 r7 r8
    go_wp2_with fail
    obtain ⟨R9, U9⟩ := nine RZ4.out s.t.hd (.slice a2 n1 c2)
    refine bodyPost_ret (results_cell_row_tmp rfl _ _ (w.heap.size + 1) 44 (s.t.hd.vals (.slice a2 n1 c2)) (0, 0) _ rfl R9 Try.underlying44 rfl rfl) rfl ?_
    refine ⟨?_, B4.out.trans (U9.below _ (by omega))⟩
    rw [H1.out]
    exact ⟨_, rfl, HKK.out _ (fun N hN => U9.other N (by have := HFF.out N hN; omega))⟩
end Go.Proofs.Ytbnbmjdjkadgoaa.F
/-
  For the laws of flow: the document's answers. Condition: at most 2,000,000 nodes.
-/
namespace Go.Proofs.Ytbnbmjdjkadgoaa.F
open Go.RowKit Go.Shelf
set_option linter.unusedSimpArgs false
set_option linter.unusedVariables false

set_option maxRecDepth 100000 in
set_option maxHeartbeats 8000000 in
theorem statement_any (t : Nd) (v : Value) (w : World) (hs : v.oneCell' = true) : Calls Try.prog 57 #[.agg #[.int .i64 t.hd.kind, .string (bs t.hd.text), .string (bs t.hd.type), .int .i64 t.hd.n, .int .i64 t.hd.fr, .int .i64 t.hd.to_, .int .i64 t.hd.at_, .int .i64 t.hd.tat, v]] w fun e w' => e = .returned (.bool (stmtK t.hd.kind)) ∧ Below w.heap.size w w' := by
  obtain ⟨R, hR⟩ : ∃ R, Hid (stmtK t.hd.kind = R) := ⟨_, Lib.hid rfl⟩
  rw [hR.out]
  obtain ⟨kd, hkd⟩ : ∃ k, Hid (t.hd.kind = k) := ⟨_, Lib.hid rfl⟩
  rw [hkd.out]
  by_cases h5 : 5 ≤ kd
  · by_cases h12 : kd ≤ 12
    · have hRt : Hid (R = true) := Lib.hid (by rw [← hR.out, hkd.out]; unfold stmtK; rw [decide_eq_true h5, decide_eq_true h12]; rfl)
      have f1 : decide (kd ≥ 5) = true := decide_eq_true h5
      have f2 : decide (kd ≤ 12) = true := decide_eq_true h12
      have f3 : decide (5 ≤ kd) = true := decide_eq_true h5
      have H5 := Lib.hid h5
      have H12 := Lib.hid h12
      clear h5 h12
      go_enter Try.func57, Try.ntmps57
      go_wp2_with fail
      go_ret
      exact ⟨by rw [hRt.out]; rfl, (Below.refl _ w).alloc (Nat.le_refl _) _⟩
    · have hRt : Hid (R = false) := Lib.hid (by rw [← hR.out, hkd.out]; unfold stmtK; rw [decide_eq_false h12, Bool.and_false])
      have f1 : decide (kd ≥ 5) = true := decide_eq_true h5
      have f2 : decide (kd ≤ 12) = false := decide_eq_false h12
      have f3 : decide (5 ≤ kd) = true := decide_eq_true h5
      have H5 := Lib.hid h5
      have H12 := Lib.hid h12
      clear h5 h12
      go_enter Try.func57, Try.ntmps57
      go_wp2_with fail
      go_ret
      exact ⟨by rw [hRt.out]; rfl, (Below.refl _ w).alloc (Nat.le_refl _) _⟩
  · have hRt : Hid (R = false) := Lib.hid (by rw [← hR.out, hkd.out]; unfold stmtK; rw [decide_eq_false h5, Bool.false_and])
    have f1 : decide (kd ≥ 5) = false := decide_eq_false h5
    have f3 : decide (5 ≤ kd) = false := decide_eq_false h5
    have H5 := Lib.hid h5
    clear h5
    go_enter Try.func57, Try.ntmps57
    go_wp2_with fail
    go_ret
    exact ⟨by rw [hRt.out]; rfl, (Below.refl _ w).alloc (Nat.le_refl _) _⟩
set_option maxRecDepth 100000 in
set_option maxHeartbeats 16000000 in
theorem RefEnds_at (w : World) : ∀ (t : Nd) (kv : Value), KidsAt w t.kids kv → ∀ W, Below w.heap.size w W → Calls Try.prog 29 #[.agg #[.int .i64 t.hd.kind, .string (bs t.hd.text), .string (bs t.hd.type), .int .i64 t.hd.n, .int .i64 t.hd.fr, .int .i64 t.hd.to_, .int .i64 t.hd.at_, .int .i64 t.hd.tat, kv]] W fun e w' => e = .returned (.bool (endsN t)) ∧ Below W.heap.size W w' := by
  refine kids_ind _ ?_
  intro t a cap hc hcap hK hx W hW
  have Hx := Lib.hid hx
  have HW := Lib.hid hW
  have HKK := Lib.hid hK
  clear hx hK hW
  have hw0 := HW.out.size
  obtain ⟨n, hn⟩ : ∃ n, Hid (t.kids.length = n) := ⟨_, Lib.hid rfl⟩
  rw [hn.out] at hc HKK
  rw [hn.out]
  obtain ⟨R, hRR⟩ : ∃ R, Hid (endsN t = R) := ⟨_, Lib.hid rfl⟩
  rw [hRR.out]
  obtain ⟨W1, hW1⟩ : ∃ W1, Hid (W.alloc (.cells #[.int .i64 t.hd.kind, .string (bs t.hd.text), .string (bs t.hd.type), .int .i64 t.hd.n, .int .i64 t.hd.fr, .int .i64 t.hd.to_, .int .i64 t.hd.at_, .int .i64 t.hd.tat, .slice a n cap] 44) = W1) := ⟨_, Lib.hid rfl⟩
  have R1 : Hid (RowAt W1 W.heap.size 44 (t.hd.vals (.slice a n cap))) := by rw [← hW1.out]; exact Lib.hid (RowAt.new W 44 _)
  have B1 : Hid (Below W.heap.size W W1) := by rw [← hW1.out]; exact Lib.hid ((Below.refl _ W).alloc (Nat.le_refl _) _)
  have BW1 := Lib.hid (HW.out.trans (B1.out.mono hw0))
  have hs1 := B1.out.size
  have hcap' := hcap
  unfold maxLen at hcap'
  obtain ⟨kd, hkd⟩ : ∃ k, Hid (t.hd.kind = k) := ⟨_, Lib.hid rfl⟩
  have HR := Lib.hid (fun U (hU : Below W1.heap.size W1 U) => (show Cells U W.heap.size 0 t.hd (.slice a n cap) from Cells.row (R1.out.later hU)))
  have hR0 : Hid (R = endH t.hd t.kids (t.kids.map endsN)) := Lib.hid (by rw [← hRR.out, ends_kids])
  have d0 := (HR.out W1 (Below.refl _ _)).c0
  have d8 := (HR.out W1 (Below.refl _ _)).c8
  rw [hkd.out] at d0
  rw [Nat.zero_add] at d8
  rw [hkd.out] at hW1
  rw [hkd.out]
  go_enter Try.func29, Try.ntmps29
  go_upto_region 1 with fail
  rw [hW1.out]
  by_cases k11 : kd = 11
  · subst k11
    have hR : Hid (R = false) := Lib.hid (by rw [hR0.out]; unfold endH; rw [if_pos hkd.out])
    go_wp2_with fail
    go_ret
    exact ⟨by rw [hR.out]; rfl, B1.out⟩
  have f11 : (kd == 11) = false := by simpa using k11
  have K11 := Lib.hid k11
  clear k11
  by_cases k10 : kd = 10
  · subst k10
    have hR : Hid (R = whK t.kids) := Lib.hid (by rw [hR0.out]; unfold endH; rw [if_neg (by rw [hkd.out]; decide), if_pos hkd.out])
    by_cases m0 : n = 0
    · subst m0
      have hR2 : Hid (R = true) := Lib.hid (by rw [hR.out, List.length_eq_zero_iff.1 hn.out]; rfl)
      go_wp2_with fail
      go_ret
      exact ⟨by rw [hR2.out]; rfl, B1.out⟩
    · obtain ⟨x, hx⟩ : ∃ x, t.kids[0]? = some x := ⟨_, List.getElem?_eq_getElem (by rw [hn.out]; omega)⟩
      obtain ⟨b, off, kv, rfl, cs, -, -⟩ := Hx.out 0 x hx
      have cs1 := cs.later BW1.out
      have x0 := cs1.c0
      have x3 := cs1.c3
      rw [Nat.zero_mul, Nat.add_zero] at x0 x3
      obtain ⟨xk, hxk⟩ : ∃ k, Hid (x.hd.kind = k) := ⟨_, Lib.hid rfl⟩
      obtain ⟨xn, hxn2⟩ : ∃ k, Hid (x.hd.n = k) := ⟨_, Lib.hid rfl⟩
      rw [hxk.out] at x0
      rw [hxn2.out] at x3
      have hR2 : Hid (R = !(decide (xk = 14) && decide (xn = 1))) := Lib.hid (by
        rw [hR.out]
        cases hks : t.kids with
        | nil => rw [hks] at hx; cases hx
        | cons c cs =>
          rw [hks] at hx
          obtain rfl : c = x := by simpa using hx
          show (!(decide (c.hd.kind = 14) && decide (c.hd.n = 1))) = _
          rw [hxk.out, hxn2.out])
      have m1 : ((n : Int) == 0) = false := by simp; omega
      have m2 : (0 : Int) < (n : Int) := by omega
      have M0 := Lib.hid m0
      clear hx cs cs1 m0
      by_cases x14 : xk = 14
      · subst x14
        by_cases n1 : xn = 1
        · subst n1
          go_wp2_with fail
          go_ret
          exact ⟨by rw [hR2.out]; rfl, B1.out⟩
        · have g1 : (xn != 1) = true := by simpa using n1
          have hR3 : Hid (R = true) := Lib.hid (by rw [hR2.out, decide_eq_false n1]; rfl)
          have N1 := Lib.hid n1
          clear n1
          go_wp2_with fail
          go_ret
          exact ⟨by rw [hR3.out]; rfl, B1.out⟩
      · have g1 : (xk != 14) = true := by simpa using x14
        have hR3 : Hid (R = true) := Lib.hid (by rw [hR2.out, decide_eq_false x14]; rfl)
        have N1 := Lib.hid x14
        clear x14
        go_wp2_with fail
        go_ret
        exact ⟨by rw [hR3.out]; rfl, B1.out⟩
  have f10 : (kd == 10) = false := by simpa using k10
  have K10 := Lib.hid k10
  clear k10
  by_cases k9 : kd = 9
  · subst k9
    have hR : Hid (R = (decide (n ≠ 3) || (t.kids.map endsN).getD 1 true || (t.kids.map endsN).getD 2 true)) := Lib.hid (by
      rw [hR0.out]; unfold endH
      rw [if_neg (by rw [hkd.out]; decide), if_neg (by rw [hkd.out]; decide), if_pos hkd.out, List.length_map, hn.out])
    by_cases m3 : n = 3
    · subst m3
      obtain ⟨x, hx⟩ : ∃ x, t.kids[1]? = some x := ⟨_, List.getElem?_eq_getElem (by rw [hn.out]; omega)⟩
      obtain ⟨z, hz⟩ : ∃ x, t.kids[2]? = some x := ⟨_, List.getElem?_eq_getElem (by rw [hn.out]; omega)⟩
      obtain ⟨b, off, kv, rfl, cs, hkx, callx⟩ := Hx.out 1 x hx
      obtain ⟨b2, off2, kv2, e2, cs2, hkz, callz⟩ := Hx.out 2 z hz
      cases e2
      have hR2 : Hid (R = (endsN x || endsN z)) := Lib.hid (by
        rw [hR.out, List.getD_eq_getElem?_getD, List.getD_eq_getElem?_getD, List.getElem?_map, List.getElem?_map, hx, hz]
        rfl)
      have CX := Lib.hid (callx W1 BW1.out)
      have CZ := Lib.hid (fun U (hU : Below w.heap.size w U) => callz U hU)
      have CSX := Lib.hid (cs.later BW1.out)
      have CSZ := Lib.hid (fun U (hU : Below w.heap.size w U) => cs2.later hU)
      clear hx hz cs cs2 callx callz hkx hkz
      obtain ⟨e0, e1, e2, e3, e4, e5, e6, e7, e8⟩ := CSX.out
      simp only [Nat.one_mul] at e0 e1 e2 e3 e4 e5 e6 e7 e8
      go_wp2_with fail
      refine CX.out.mono ?_
      rintro e w2 ⟨rfl, b2⟩
      have B2 := Lib.hid (B1.out.trans (b2.mono hs1))
      have BW2 := Lib.hid (BW1.out.trans (b2.mono (by omega)))
      have d8 := (HR.out w2 b2).c8
      rw [Nat.zero_add] at d8
      clear e0 e1 e2 e3 e4 e5 e6 e7 e8 b2
      obtain ⟨e0, e1, e2, e3, e4, e5, e6, e7, e8⟩ := CSZ.out w2 BW2.out
      simp only [Nat.reduceMul] at e0 e1 e2 e3 e4 e5 e6 e7 e8
      go_wp2_with fail
      refine (CZ.out w2 BW2.out).mono ?_
      rintro e w3 ⟨rfl, b3⟩
      have B3 := Lib.hid (B2.out.trans (b3.mono B2.out.size))
      clear b3 e0 e1 e2 e3 e4 e5 e6 e7 e8
      cases hx1 : endsN x with
      | true =>
        rw [hx1] at hR2
        go_wp2_with fail
        go_ret
        exact ⟨by rw [hR2.out]; rfl, B3.out⟩
      | false =>
        rw [hx1] at hR2
        go_wp2_with fail
        go_ret
        exact ⟨by rw [hR2.out]; rfl, B3.out⟩
    · have m1 : ((n : Int) != 3) = true := by simp; omega
      have hR2 : Hid (R = true) := Lib.hid (by rw [hR.out, decide_eq_true m3]; rfl)
      have M3 := Lib.hid m3
      clear m3
      go_wp2_with fail
      go_ret
      exact ⟨by rw [hR2.out]; rfl, B1.out⟩
  have f9 : (kd == 9) = false := by simpa using k9
  have K9 := Lib.hid k9
  clear k9
  by_cases k5 : kd = 5
  · subst k5
    have hR : Hid (R = (t.kids.map endsN).all id) := Lib.hid (by
      rw [hR0.out]; unfold endH
      rw [if_neg (by rw [hkd.out]; decide), if_neg (by rw [hkd.out]; decide), if_neg (by rw [hkd.out]; decide), if_pos hkd.out])
    go_wp2_with fail
    clear d0 d8
    go_loopw [5] (fun c wr => ∃ k : Nat, c = .int .i64 k ∧ k ≤ n ∧ Hid (((t.kids.map endsN).take k).all id = true) ∧ Hid (Below W1.heap.size W1 wr)) (fun c _ => n - (intOf c).toNat)
    case atStart => exact ⟨0, rfl, Nat.zero_le _, Lib.hid (by simp), Lib.hid (Below.refl _ _)⟩
    case round =>
      obtain ⟨k, rfl, hk, hA, hB⟩ := hrel
      have d8 := (HR.out wr hB.out).c8
      rw [Nat.zero_add] at d8
      have BWr := Lib.hid (BW1.out.trans (hB.out.mono (Nat.le_trans hw0 hs1)))
      have BR := Lib.hid (B1.out.trans (hB.out.mono hs1))
      by_cases hlt : k < n
      · obtain ⟨x, hx⟩ : ∃ x, t.kids[k]? = some x := ⟨_, List.getElem?_eq_getElem (by rw [hn.out]; exact hlt)⟩
        obtain ⟨b, off, kv, rfl, cs, hkx, callx⟩ := Hx.out k x hx
        have He : Hid ((t.kids.map endsN)[k]? = some (endsN x)) := Lib.hid (by rw [List.getElem?_map, hx]; rfl)
        have CX := Lib.hid (callx wr BWr.out)
        obtain ⟨e0, e1, e2, e3, e4, e5, e6, e7, e8⟩ := cs.later BWr.out
        clear hx cs callx hkx
        go_wp2_with fail
        refine CX.out.mono ?_
        rintro e w2 ⟨rfl, b2⟩
        have B2 := Lib.hid (hB.out.trans (b2.mono hB.out.size))
        have BR2 := Lib.hid (BR.out.trans (b2.mono BR.out.size))
        clear b2 e0 e1 e2 e3 e4 e5 e6 e7 e8
        cases hx1 : endsN x with
        | true =>
          rw [hx1] at He
          go_wp2_with fail
          exact ⟨⟨k + 1, by go_num, by omega, Lib.hid (by rw [all_take_succ He.out, hA.out]; rfl), B2⟩, by simp [intOf]; omega⟩
        | false =>
          rw [hx1] at He
          have hRf : Hid (R = false) := Lib.hid (by rw [hR.out]; exact all_false He.out)
          go_wp2_with fail
          go_ret
          exact ⟨by rw [hRf.out]; rfl, BR2.out⟩
      · obtain rfl : k = n := by omega
        have hRt : Hid (R = true) := Lib.hid (by
          have h9 := hA.out
          rw [List.take_of_length_le (by rw [List.length_map, hn.out]; exact Nat.le_refl _)] at h9
          rw [hR.out, h9])
        go_wp2_with fail
        go_ret
        exact ⟨by rw [hRt.out]; rfl, BR.out⟩
  have f5 : (kd == 5) = false := by simpa using k5
  have hR : Hid (R = true) := Lib.hid (by
    rw [hR0.out]; unfold endH
    rw [hkd.out, if_neg K11.out, if_neg K10.out, if_neg K9.out, if_neg k5])
  clear k5
  go_wp2_with fail
  go_ret
  exact ⟨by rw [hR.out]; rfl, B1.out⟩
theorem reach_take {h : Hd} {es : List Bool} {rs : List Nat} {k : Nat} {r : Nat} (hs : stmtK h.kind = true) (hr : rs[k]? = some r) (hl : es.length = rs.length) (hn : h.kind ≠ 5 ∨ stopE es = k + 1) (hk : h.kind = 5 ∨ k + 1 = rs.length) : reachH h es rs = (rs.take (k + 1)).foldl (· + ·) 1 := by
  have hkl := (List.getElem?_eq_some_iff.1 hr).1
  unfold reachH
  rw [if_pos hs]
  by_cases h5 : h.kind = 5
  · rw [if_pos h5, hn.resolve_left (fun h => h h5)]
  · rw [if_neg h5, hk.resolve_left h5, List.take_length]
theorem sum_take {rs : List Nat} {k r acc : Nat} (hr : rs[k]? = some r) (ha : (rs.take k).foldl (· + ·) 1 = acc) : (rs.take (k + 1)).foldl (· + ·) 1 = acc + r := by
  rw [List.take_add_one, hr, List.foldl_append, ha]
  rfl
theorem reach_all {h : Hd} {es : List Bool} {rs : List Nat} (hs : stmtK h.kind = true) (hl : es.length = rs.length) (ha : h.kind = 5 → es.all id = true) : reachH h es rs = rs.foldl (· + ·) 1 := by
  unfold reachH
  rw [if_pos hs]
  by_cases h5 : h.kind = 5
  · rw [if_pos h5, stopE_all (ha h5), hl, List.take_length]
  · rw [if_neg h5]
set_option maxRecDepth 100000 in
set_option maxHeartbeats 16000000 in
theorem RefReached_at (w : World) : ∀ (t : Nd) (kv : Value), KidsAt w t.kids kv → ∀ W, Below w.heap.size w W → t.cnt ≤ 2000000 → Calls Try.prog 32 #[.agg #[.int .i64 t.hd.kind, .string (bs t.hd.text), .string (bs t.hd.type), .int .i64 t.hd.n, .int .i64 t.hd.fr, .int .i64 t.hd.to_, .int .i64 t.hd.at_, .int .i64 t.hd.tat, kv]] W fun e w' => e = .returned (.int .i64 (reachN t : Nat)) ∧ Below W.heap.size W w' := by
  refine kids_ind _ ?_
  intro t a cap hc hcap hK hx W hW hm
  have Hx := Lib.hid hx
  have HW := Lib.hid hW
  have HKK := Lib.hid hK
  clear hx hK hW
  have hw0 := HW.out.size
  obtain ⟨n, hn⟩ : ∃ n, Hid (t.kids.length = n) := ⟨_, Lib.hid rfl⟩
  rw [hn.out] at hc HKK
  rw [hn.out]
  obtain ⟨R, hRR⟩ : ∃ R, Hid (reachN t = R) := ⟨_, Lib.hid rfl⟩
  rw [hRR.out]
  obtain ⟨W1, hW1⟩ : ∃ W1, Hid (W.alloc (.cells #[.int .i64 t.hd.kind, .string (bs t.hd.text), .string (bs t.hd.type), .int .i64 t.hd.n, .int .i64 t.hd.fr, .int .i64 t.hd.to_, .int .i64 t.hd.at_, .int .i64 t.hd.tat, .slice a n cap] 44) = W1) := ⟨_, Lib.hid rfl⟩
  have R1 : Hid (RowAt W1 W.heap.size 44 (t.hd.vals (.slice a n cap))) := by rw [← hW1.out]; exact Lib.hid (RowAt.new W 44 _)
  have B1 : Hid (Below W.heap.size W W1) := by rw [← hW1.out]; exact Lib.hid ((Below.refl _ W).alloc (Nat.le_refl _) _)
  have BW1 := Lib.hid (HW.out.trans (B1.out.mono hw0))
  have hs1 := B1.out.size
  have hcap' := hcap
  unfold maxLen at hcap'
  obtain ⟨kd, hkd⟩ : ∃ k, Hid (t.hd.kind = k) := ⟨_, Lib.hid rfl⟩
  have HR := Lib.hid (fun U (hU : Below W1.heap.size W1 U) => (show Cells U W.heap.size 0 t.hd (.slice a n cap) from Cells.row (R1.out.later hU)))
  have hR0 : Hid (R = reachH t.hd (t.kids.map endsN) (t.kids.map reachN)) := Lib.hid (by rw [← hRR.out, reach_kids])
  have hcnt : cntL t.kids + 1 ≤ 2000000 := by rw [← cnt_kids]; exact hm
  have hn2 : n ≤ 2000000 := by have := cntL_len t.kids; rw [hn.out] at this; omega
  obtain ⟨d0, d1, d2, d3, d4, d5, d6, d7, d8⟩ := HR.out W1 (Below.refl _ _)
  simp only [Nat.zero_add] at d1 d2 d3 d4 d5 d6 d7 d8
  have cst := Lib.hid (statement_any t (.slice a n cap) W1 rfl)
  go_enter Try.func32, Try.ntmps32
  go_upto_region 1 with fail
  rw [hW1.out]
  go_wp2_with fail
  refine cst.out.mono ?_
  rintro e w2 ⟨rfl, b2⟩
  have B12 := Lib.hid b2
  have B2 := Lib.hid (B1.out.trans (b2.mono hs1))
  clear d0 d1 d2 d3 d4 d5 d6 d7 d8 b2 cst
  cases hst : stmtK t.hd.kind with
  | false =>
    have hR : Hid (R = 0) := Lib.hid (by rw [hR0.out]; exact reachH_zero hst)
    go_wp2_with fail
    go_ret
    exact ⟨by rw [hR.out]; rfl, B2.out⟩
  | true =>
    have Hst := Lib.hid hst
    clear hst
    go_wp2_with fail
    go_loopw [3, 4] (fun u c wr => ∃ (k acc : Nat), c = .int .i64 k ∧ k ≤ n ∧ u = .int .i64 acc ∧ acc ≤ 1 + k * 2000000 ∧ Hid (((t.kids.map reachN).take k).foldl (· + ·) 1 = acc) ∧ Hid (t.hd.kind = 5 → ((t.kids.map endsN).take k).all id = true) ∧ Hid (Below W1.heap.size W1 wr)) (fun _ c _ => n - (intOf c).toNat)
    case atStart => exact ⟨0, 1, rfl, Nat.zero_le _, rfl, by omega, Lib.hid (by simp), Lib.hid (fun _ => by simp), B12⟩
    case round =>
      obtain ⟨k, acc, rfl, hk, rfl, hle, hS, hA, hB⟩ := hrel
      obtain ⟨d0, d1, d2, d3, d4, d5, d6, d7, d8⟩ := HR.out wr hB.out
      simp only [Nat.zero_add] at d1 d2 d3 d4 d5 d6 d7 d8
      have BWr := Lib.hid (BW1.out.trans (hB.out.mono (Nat.le_trans hw0 hs1)))
      have BR := Lib.hid (B1.out.trans (hB.out.mono hs1))
      by_cases hlt : k < n
      · obtain ⟨x, hx⟩ : ∃ x, t.kids[k]? = some x := ⟨_, List.getElem?_eq_getElem (by rw [hn.out]; exact hlt)⟩
        obtain ⟨b, off, kv, rfl, cs, hkx, callx⟩ := Hx.out k x hx
        have Hrk : Hid ((t.kids.map reachN)[k]? = some (reachN x)) := Lib.hid (by rw [List.getElem?_map, hx]; rfl)
        have He : Hid ((t.kids.map endsN)[k]? = some (endsN x)) := Lib.hid (by rw [List.getElem?_map, hx]; rfl)
        have hxc : x.cnt ≤ 2000000 := by have := cntL_mem (List.mem_of_getElem? hx); omega
        have hxr : reachN x ≤ 2000000 := Nat.le_trans (reach_le x) hxc
        have CX := Lib.hid (callx wr BWr.out hxc)
        have CE := Lib.hid (RefEnds_at w x kv hkx)
        have CSX := Lib.hid (fun U (hU : Below w.heap.size w U) => cs.later hU)
        obtain ⟨e0, e1, e2, e3, e4, e5, e6, e7, e8⟩ := CSX.out wr BWr.out
        clear hx cs callx hkx
        obtain ⟨rx, hrx⟩ : ∃ r, Hid (reachN x = r) := ⟨_, Lib.hid rfl⟩
        rw [hrx.out] at CX Hrk hxr
        go_wp2_with fail
        refine CX.out.mono ?_
        rintro e w3 ⟨rfl, b3⟩
        have B3 := Lib.hid (hB.out.trans (b3.mono hB.out.size))
        have BW3 := Lib.hid (BWr.out.trans (b3.mono BWr.out.size))
        clear b3 d0 d1 d2 d3 d4 d5 d6 d7 d8 e0 e1 e2 e3 e4 e5 e6 e7 e8
        obtain ⟨d0, d1, d2, d3, d4, d5, d6, d7, d8⟩ := HR.out w3 B3.out
        simp only [Nat.zero_add] at d1 d2 d3 d4 d5 d6 d7 d8
        obtain ⟨e0, e1, e2, e3, e4, e5, e6, e7, e8⟩ := CSX.out w3 BW3.out
        go_wp2_with fail
        refine (CE.out w3 BW3.out).mono ?_
        rintro e w4 ⟨rfl, b4⟩
        have B4 := Lib.hid (B3.out.trans (b4.mono B3.out.size))
        have BR4 := Lib.hid (B1.out.trans (B4.out.mono hs1))
        clear b4 d0 d1 d2 d3 d4 d5 d6 d7 d8 e0 e1 e2 e3 e4 e5 e6 e7 e8
        have d0 := (HR.out w4 B4.out).c0
        rw [hkd.out] at d0
        have Hs := Lib.hid (sum_take Hrk.out hS.out)
        by_cases k5 : kd = 5
        · subst k5
          cases hx1 : endsN x with
          | true =>
            rw [hx1] at He
            go_wp2_with fail
            exact ⟨⟨k + 1, acc + rx, by go_num, by omega, by go_num, by omega, Hs, Lib.hid (fun _ => by rw [all_take_succ He.out, hA.out hkd.out]; rfl), B4⟩, by simp [intOf]; omega⟩
          | false =>
            rw [hx1] at He
            have hRf : Hid (R = acc + rx) := Lib.hid (by
              rw [hR0.out, ← Hs.out]
              exact reach_take Hst.out Hrk.out (by rw [List.length_map, List.length_map]) (.inr (stopE_at (hA.out hkd.out) He.out)) (.inl hkd.out))
            go_wp2_with fail
            go_ret
            exact ⟨by rw [hRf.out]; go_num, BR4.out⟩
        · have f5 : (kd == 5) = false := by simpa using k5
          have K5 := Lib.hid k5
          clear k5
          go_wp2_with fail
          exact ⟨⟨k + 1, acc + rx, by go_num, by omega, by go_num, by omega, Hs, Lib.hid (fun h => absurd (hkd.out.symm.trans h) K5.out), B4⟩, by simp [intOf]; omega⟩
      · obtain rfl : k = n := by omega
        have hfin : R = acc := by
          rw [hR0.out, ← hS.out, List.take_of_length_le (by rw [List.length_map, hn.out]; exact Nat.le_refl _)]
          exact reach_all Hst.out (by rw [List.length_map, List.length_map]) (fun h5 => by
            have h9 := hA.out h5
            rwa [List.take_of_length_le (by rw [List.length_map, hn.out]; exact Nat.le_refl _)] at h9)
        have Hfin := Lib.hid hfin
        clear hfin
        go_wp2_with fail
        go_ret
        exact ⟨by rw [Hfin.out]; rfl, BR.out⟩
/-- The same, its kids as they lay at first. -/
def OptAt (w : World) (r : Option Nd) (e : Ending) : Prop := ∃ kv, e = .returned (.tuple #[(r.getD zN).hd.agg kv, .bool r.isSome]) ∧ KidsAt w (r.getD zN).kids kv
set_option maxRecDepth 100000 in
set_option maxHeartbeats 16000000 in
theorem RefDead_at (w : World) : ∀ (t : Nd) (kv : Value), KidsAt w t.kids kv → ∀ W, Below w.heap.size w W → Calls Try.prog 27 #[.agg #[.int .i64 t.hd.kind, .string (bs t.hd.text), .string (bs t.hd.type), .int .i64 t.hd.n, .int .i64 t.hd.fr, .int .i64 t.hd.to_, .int .i64 t.hd.at_, .int .i64 t.hd.tat, kv]] W fun e w' => OptAt w (deadN t) e ∧ Below W.heap.size W w' := by
  refine kids_ind _ ?_
  intro t a cap hc hcap hK hx W hW
  have Hx := Lib.hid hx
  have HW := Lib.hid hW
  have HKK := Lib.hid hK
  clear hx hK hW
  have hw0 := HW.out.size
  obtain ⟨n, hn⟩ : ∃ n, Hid (t.kids.length = n) := ⟨_, Lib.hid rfl⟩
  rw [hn.out] at hc HKK
  rw [hn.out]
  obtain ⟨R, hRR⟩ : ∃ R, Hid (deadN t = R) := ⟨_, Lib.hid rfl⟩
  rw [hRR.out]
  obtain ⟨W1, hW1⟩ : ∃ W1, Hid ((W.alloc (.cells #[.int .i64 t.hd.kind, .string (bs t.hd.text), .string (bs t.hd.type), .int .i64 t.hd.n, .int .i64 t.hd.fr, .int .i64 t.hd.to_, .int .i64 t.hd.at_, .int .i64 t.hd.tat, .slice a n cap] 44)).alloc (.cells #[.int .i64 0, .string ⟨#[]⟩, .string ⟨#[]⟩, .int .i64 0, .int .i64 0, .int .i64 0, .int .i64 0, .int .i64 0, .slice none 0 0] 44) = W1) := ⟨_, Lib.hid rfl⟩
  have R1 : Hid (RowAt W1 W.heap.size 44 (t.hd.vals (.slice a n cap))) := by rw [← hW1.out]; exact Lib.hid ((RowAt.new W 44 (t.hd.vals (.slice a n cap))).alloc _)
  have RZ : Hid (RowAt W1 (W.heap.size + 1) 44 #[.int .i64 0, .string ⟨#[]⟩, .string ⟨#[]⟩, .int .i64 0, .int .i64 0, .int .i64 0, .int .i64 0, .int .i64 0, .slice none 0 0]) := by
    rw [← hW1.out]
    have := RowAt.new (W.alloc (.cells #[.int .i64 t.hd.kind, .string (bs t.hd.text), .string (bs t.hd.type), .int .i64 t.hd.n, .int .i64 t.hd.fr, .int .i64 t.hd.to_, .int .i64 t.hd.at_, .int .i64 t.hd.tat, .slice a n cap] 44)) 44 #[.int .i64 0, .string ⟨#[]⟩, .string ⟨#[]⟩, .int .i64 0, .int .i64 0, .int .i64 0, .int .i64 0, .int .i64 0, .slice none 0 0]
    rw [World.size_alloc] at this
    exact Lib.hid this
  have B1 : Hid (Below W.heap.size W W1) := by rw [← hW1.out]; exact Lib.hid (((Below.refl _ W).alloc (Nat.le_refl _) _).alloc (by simp) _)
  have hs1 : W1.heap.size = W.heap.size + 2 := by rw [← hW1.out]; simp
  have BW1 := Lib.hid (HW.out.trans (B1.out.mono hw0))
  have hs1' := B1.out.size
  have hcap' := hcap
  unfold maxLen at hcap'
  obtain ⟨kd, hkd⟩ : ∃ k, Hid (t.hd.kind = k) := ⟨_, Lib.hid rfl⟩
  have HR := Lib.hid (fun U (hU : Below W1.heap.size W1 U) => (show Cells U W.heap.size 0 t.hd (.slice a n cap) from Cells.row (R1.out.later hU)))
  obtain ⟨blk, hblk⟩ : ∃ b, Hid (decide (t.hd.kind = 5) = b) := ⟨_, Lib.hid rfl⟩
  have hR0 : Hid (R = deadL blk false (t.kids.drop 0)) := Lib.hid (by rw [← hRR.out, dead_kids, hblk.out]; rfl)
  go_enter Try.func27, Try.ntmps27
  go_upto_region 1 with fail
  rw [hW1.out]
  go_wp2_with fail
  go_loopw [4, 5] (fun u c wr => ∃ (k : Nat) (b : Bool), c = .int .i64 k ∧ k ≤ n ∧ u = .bool b ∧ Hid (R = deadL blk b (t.kids.drop k)) ∧ Hid (Below W1.heap.size W1 wr)) (fun _ c _ => n - (intOf c).toNat)
  case atStart => exact ⟨0, false, rfl, Nat.zero_le _, rfl, hR0, Lib.hid (Below.refl _ _)⟩
  case round =>
    clear hR0
    obtain ⟨k, b, rfl, hk, rfl, hD, hB⟩ := hrel
    obtain ⟨d0, d1, d2, d3, d4, d5, d6, d7, d8⟩ := HR.out wr hB.out
    simp only [Nat.zero_add] at d1 d2 d3 d4 d5 d6 d7 d8
    have BWr := Lib.hid (BW1.out.trans (hB.out.mono (by omega)))
    have BR := Lib.hid (B1.out.trans (hB.out.mono hs1'))
    by_cases hlt : k < n
    · obtain ⟨x, hx⟩ : ∃ x, t.kids[k]? = some x := ⟨_, List.getElem?_eq_getElem (by rw [hn.out]; exact hlt)⟩
      obtain ⟨xb, off, kv, rfl, cs, hkx, callx⟩ := Hx.out k x hx
      have hdrop : t.kids.drop k = x :: t.kids.drop (k + 1) := by
        have hl := (List.getElem?_eq_some_iff.1 hx).1
        rw [List.drop_eq_getElem_cons hl]
        congr 1
        rw [List.getElem?_eq_getElem hl] at hx
        exact Option.some.inj hx
      have hD2 := hD.out
      rw [hdrop, deadL] at hD2
      have HD2 := Lib.hid hD2
      have CX := Lib.hid (callx wr BWr.out)
      have CE := Lib.hid (RefEnds_at w x kv hkx)
      have HKX := Lib.hid hkx
      have CSX := Lib.hid (fun U (hU : Below w.heap.size w U) => cs.later hU)
      obtain ⟨e0, e1, e2, e3, e4, e5, e6, e7, e8⟩ := CSX.out wr BWr.out
      obtain ⟨ax, cx, rfl, -⟩ := hkx.get
      clear hx cs callx hkx hdrop hD2 hD
      obtain ⟨nx, hnx⟩ : ∃ n, Hid (x.kids.length = n) := ⟨_, Lib.hid rfl⟩
      rw [hnx.out] at CX CE HKX CSX e8
      rw [hkd.out] at d0
      have hsr := hB.out.size
      by_cases hbe : (blk && b) = true
      · have hRx : Hid (R = some x) := Lib.hid (by rw [HD2.out, if_pos hbe])
        obtain ⟨rfl, rfl⟩ : blk = true ∧ b = true := by simpa using hbe
        have k5 : kd = 5 := by have := hblk.out; rw [hkd.out] at this; simpa using this
        subst k5
        have RZ9 := Lib.hid (RZ.out.later hB.out)
        have z0 := RZ9.out.frozen 0
        have z1 := RZ9.out.frozen 1
        have z2 := RZ9.out.frozen 2
        have z3 := RZ9.out.frozen 3
        have z4 := RZ9.out.frozen 4
        have z5 := RZ9.out.frozen 5
        have z6 := RZ9.out.frozen 6
        have z7 := RZ9.out.frozen 7
        have z8 := RZ9.out.frozen 8
        obtain ⟨r0, r1, r2, r3, r4, r5, r6, r7, r8⟩ := (show Cells wr (W.heap.size + 1) 0 ⟨0, [], [], 0, 0, 0, 0, 0⟩ (.slice none 0 0) from Cells.row RZ9.out)
        simp only [Nat.zero_add] at r1 r2 r3 r4 r5 r6 r7 r8
        clear hbe
        go_wp2_with fail
        obtain ⟨R9, U9⟩ := nine RZ9.out x.hd (.slice ax nx cx)
        refine bodyPost_ret (results_cell_row_tmp rfl _ _ (W.heap.size + 1) 44 (x.hd.vals (.slice ax nx cx)) (0, 0) _ rfl R9 Try.underlying44 rfl rfl) rfl ?_
        refine ⟨?_, BR.out.trans (U9.below _ (by omega))⟩
        rw [hRx.out]
        exact ⟨_, rfl, HKX.out⟩
      · have hR2 : Hid (R = (deadN x).or (deadL blk (b || !endsN x) (t.kids.drop (k + 1)))) := Lib.hid (by rw [HD2.out, if_neg hbe])
        obtain ⟨tst, htst⟩ : ∃ q, Hid ((kd == 5) = q) := ⟨_, Lib.hid rfl⟩
        have ht0 : tst = blk := by
          rw [← htst.out, ← hblk.out, hkd.out]
          by_cases h : kd = 5 <;> simp [h]
        have hkb : (blk && b) = false := by simpa using hbe
        have ht1 : (kd == 5) = blk := htst.out.trans ht0
        have Ht0 := Lib.hid ht0
        clear hbe ht0 htst Ht0 tst
        have REST : ∀ (A : Act), A.tmps.size = 0 → True := fun _ _ => trivial
        clear REST
        cases blk with
        | true =>
          have hbf : b = false := by simpa using hkb
          subst hbf
          clear hkb
          go_wp2_with fail
          refine CX.out.mono ?_
          rintro e w2 ⟨⟨kv2, rfl, hk2⟩, b2⟩
          have HK2 := Lib.hid hk2
          obtain ⟨ay, cy, rfl, -⟩ := hk2.get
          obtain ⟨dx, hdx⟩ : ∃ q, Hid (deadN x = q) := ⟨_, Lib.hid rfl⟩
          rw [hdx.out] at HK2 hR2 ⊢
          obtain ⟨y, hy⟩ : ∃ y, Hid (dx.getD zN = y) := ⟨_, Lib.hid rfl⟩
          rw [hy.out] at HK2 ⊢
          obtain ⟨ny, hny⟩ : ∃ n, Hid (y.kids.length = n) := ⟨_, Lib.hid rfl⟩
          rw [hny.out] at HK2 ⊢
          have B2 := Lib.hid (hB.out.trans (b2.mono hsr))
          have BW2 := Lib.hid (BWr.out.trans (b2.mono BWr.out.size))
          have BR2 := Lib.hid (BR.out.trans (b2.mono BR.out.size))
          clear d0 d1 d2 d3 d4 d5 d6 d7 d8 e0 e1 e2 e3 e4 e5 e6 e7 e8 b2 hk2 CX
          obtain ⟨w3, hw3⟩ : ∃ w3, Hid (w2.alloc (.cells #[.int .i64 y.hd.kind, .string (bs y.hd.text), .string (bs y.hd.type), .int .i64 y.hd.n, .int .i64 y.hd.fr, .int .i64 y.hd.to_, .int .i64 y.hd.at_, .int .i64 y.hd.tat, .slice ay ny cy] 44) = w3) := ⟨_, Lib.hid rfl⟩
          have B3 : Hid (Below W1.heap.size W1 w3) := by rw [← hw3.out]; exact Lib.hid (B2.out.alloc B2.out.size _)
          have BW3 : Hid (Below w.heap.size w w3) := by rw [← hw3.out]; exact Lib.hid (BW2.out.alloc BW2.out.size _)
          have BR3 : Hid (Below W.heap.size W w3) := by rw [← hw3.out]; exact Lib.hid (BR2.out.alloc BR2.out.size _)
          have RY : Hid (RowAt w3 w2.heap.size 44 (y.hd.vals (.slice ay ny cy))) := by rw [← hw3.out]; exact Lib.hid (RowAt.new w2 44 _)
          have hs2 := B2.out.size
          cases dx with
          | some q =>
            obtain rfl : q = y := hy.out
            have hRq : Hid (R = some q) := Lib.hid (by rw [hR2.out]; rfl)
            have RZ9 := Lib.hid (RZ.out.later B3.out)
            obtain ⟨y0, y1, y2, y3, y4, y5, y6, y7, y8⟩ := (show Cells w3 w2.heap.size 0 q.hd (.slice ay ny cy) from Cells.row RY.out)
            simp only [Nat.zero_add] at y1 y2 y3 y4 y5 y6 y7 y8
            have z0 := RZ9.out.frozen 0
            have z1 := RZ9.out.frozen 1
            have z2 := RZ9.out.frozen 2
            have z3 := RZ9.out.frozen 3
            have z4 := RZ9.out.frozen 4
            have z5 := RZ9.out.frozen 5
            have z6 := RZ9.out.frozen 6
            have z7 := RZ9.out.frozen 7
            have z8 := RZ9.out.frozen 8
            obtain ⟨r0, r1, r2, r3, r4, r5, r6, r7, r8⟩ := (show Cells w3 (W.heap.size + 1) 0 ⟨0, [], [], 0, 0, 0, 0, 0⟩ (.slice none 0 0) from Cells.row RZ9.out)
            simp only [Nat.zero_add] at r1 r2 r3 r4 r5 r6 r7 r8
            go_upto_region 8 with fail
            rw [hw3.out]
            go_wp2_with fail
            obtain ⟨R9, U9⟩ := nine RZ9.out q.hd (.slice ay ny cy)
            refine bodyPost_ret (results_cell_row_tmp rfl _ _ (W.heap.size + 1) 44 (q.hd.vals (.slice ay ny cy)) (0, 0) _ rfl R9 Try.underlying44 rfl rfl) rfl ?_
            refine ⟨?_, BR3.out.trans (U9.below _ (by omega))⟩
            rw [hRq.out]
            exact ⟨_, rfl, HK2.out⟩
          | none =>
            obtain ⟨d0, d1, d2, d3, d4, d5, d6, d7, d8⟩ := HR.out w3 B3.out
            simp only [Nat.zero_add] at d1 d2 d3 d4 d5 d6 d7 d8
            obtain ⟨e0, e1, e2, e3, e4, e5, e6, e7, e8⟩ := CSX.out w3 BW3.out
            go_upto_region 8 with fail
            rw [hw3.out]
            go_wp2_with fail
            refine (CE.out w3 BW3.out).mono ?_
            rintro e w4 ⟨rfl, b4⟩
            have B4 := Lib.hid (B3.out.trans (b4.mono B3.out.size))
            clear d0 d1 d2 d3 d4 d5 d6 d7 d8 e0 e1 e2 e3 e4 e5 e6 e7 e8 b4
            cases hex : endsN x with
            | true =>
              have Hex := Lib.hid hex
              clear hex
              go_wp2_with fail
              exact ⟨⟨k + 1, _, by go_num, by omega, rfl, Lib.hid (by rw [hR2.out, Hex.out]; rfl), B4⟩, by simp [intOf]; omega⟩
            | false =>
              have Hex := Lib.hid hex
              clear hex
              go_wp2_with fail
              exact ⟨⟨k + 1, _, by go_num, by omega, rfl, Lib.hid (by rw [hR2.out, Hex.out]; rfl), B4⟩, by simp [intOf]; omega⟩

        | false =>
          clear hkb
          go_wp2_with fail
          refine CX.out.mono ?_
          rintro e w2 ⟨⟨kv2, rfl, hk2⟩, b2⟩
          have HK2 := Lib.hid hk2
          obtain ⟨ay, cy, rfl, -⟩ := hk2.get
          obtain ⟨dx, hdx⟩ : ∃ q, Hid (deadN x = q) := ⟨_, Lib.hid rfl⟩
          rw [hdx.out] at HK2 hR2 ⊢
          obtain ⟨y, hy⟩ : ∃ y, Hid (dx.getD zN = y) := ⟨_, Lib.hid rfl⟩
          rw [hy.out] at HK2 ⊢
          obtain ⟨ny, hny⟩ : ∃ n, Hid (y.kids.length = n) := ⟨_, Lib.hid rfl⟩
          rw [hny.out] at HK2 ⊢
          have B2 := Lib.hid (hB.out.trans (b2.mono hsr))
          have BW2 := Lib.hid (BWr.out.trans (b2.mono BWr.out.size))
          have BR2 := Lib.hid (BR.out.trans (b2.mono BR.out.size))
          clear d0 d1 d2 d3 d4 d5 d6 d7 d8 e0 e1 e2 e3 e4 e5 e6 e7 e8 b2 hk2 CX
          obtain ⟨w3, hw3⟩ : ∃ w3, Hid (w2.alloc (.cells #[.int .i64 y.hd.kind, .string (bs y.hd.text), .string (bs y.hd.type), .int .i64 y.hd.n, .int .i64 y.hd.fr, .int .i64 y.hd.to_, .int .i64 y.hd.at_, .int .i64 y.hd.tat, .slice ay ny cy] 44) = w3) := ⟨_, Lib.hid rfl⟩
          have B3 : Hid (Below W1.heap.size W1 w3) := by rw [← hw3.out]; exact Lib.hid (B2.out.alloc B2.out.size _)
          have BW3 : Hid (Below w.heap.size w w3) := by rw [← hw3.out]; exact Lib.hid (BW2.out.alloc BW2.out.size _)
          have BR3 : Hid (Below W.heap.size W w3) := by rw [← hw3.out]; exact Lib.hid (BR2.out.alloc BR2.out.size _)
          have RY : Hid (RowAt w3 w2.heap.size 44 (y.hd.vals (.slice ay ny cy))) := by rw [← hw3.out]; exact Lib.hid (RowAt.new w2 44 _)
          have hs2 := B2.out.size
          cases dx with
          | some q =>
            obtain rfl : q = y := hy.out
            have hRq : Hid (R = some q) := Lib.hid (by rw [hR2.out]; rfl)
            have RZ9 := Lib.hid (RZ.out.later B3.out)
            obtain ⟨y0, y1, y2, y3, y4, y5, y6, y7, y8⟩ := (show Cells w3 w2.heap.size 0 q.hd (.slice ay ny cy) from Cells.row RY.out)
            simp only [Nat.zero_add] at y1 y2 y3 y4 y5 y6 y7 y8
            have z0 := RZ9.out.frozen 0
            have z1 := RZ9.out.frozen 1
            have z2 := RZ9.out.frozen 2
            have z3 := RZ9.out.frozen 3
            have z4 := RZ9.out.frozen 4
            have z5 := RZ9.out.frozen 5
            have z6 := RZ9.out.frozen 6
            have z7 := RZ9.out.frozen 7
            have z8 := RZ9.out.frozen 8
            obtain ⟨r0, r1, r2, r3, r4, r5, r6, r7, r8⟩ := (show Cells w3 (W.heap.size + 1) 0 ⟨0, [], [], 0, 0, 0, 0, 0⟩ (.slice none 0 0) from Cells.row RZ9.out)
            simp only [Nat.zero_add] at r1 r2 r3 r4 r5 r6 r7 r8
            go_upto_region 8 with fail
            rw [hw3.out]
            go_wp2_with fail
            obtain ⟨R9, U9⟩ := nine RZ9.out q.hd (.slice ay ny cy)
            refine bodyPost_ret (results_cell_row_tmp rfl _ _ (W.heap.size + 1) 44 (q.hd.vals (.slice ay ny cy)) (0, 0) _ rfl R9 Try.underlying44 rfl rfl) rfl ?_
            refine ⟨?_, BR3.out.trans (U9.below _ (by omega))⟩
            rw [hRq.out]
            exact ⟨_, rfl, HK2.out⟩
          | none =>
            obtain ⟨d0, d1, d2, d3, d4, d5, d6, d7, d8⟩ := HR.out w3 B3.out
            simp only [Nat.zero_add] at d1 d2 d3 d4 d5 d6 d7 d8
            obtain ⟨e0, e1, e2, e3, e4, e5, e6, e7, e8⟩ := CSX.out w3 BW3.out
            go_upto_region 8 with fail
            rw [hw3.out]
            go_wp2_with fail
            refine (CE.out w3 BW3.out).mono ?_
            rintro e w4 ⟨rfl, b4⟩
            have B4 := Lib.hid (B3.out.trans (b4.mono B3.out.size))
            clear d0 d1 d2 d3 d4 d5 d6 d7 d8 e0 e1 e2 e3 e4 e5 e6 e7 e8 b4
            cases hex : endsN x with
            | true =>
              have Hex := Lib.hid hex
              clear hex
              cases b with
              | true =>
                go_wp2_with fail
                exact ⟨⟨k + 1, _, by go_num, by omega, rfl, Lib.hid (by rw [hR2.out, Hex.out]; rfl), B4⟩, by simp [intOf]; omega⟩
              | false =>
                go_wp2_with fail
                exact ⟨⟨k + 1, _, by go_num, by omega, rfl, Lib.hid (by rw [hR2.out, Hex.out]; rfl), B4⟩, by simp [intOf]; omega⟩
            | false =>
              have Hex := Lib.hid hex
              clear hex
              cases b with
              | true =>
                go_wp2_with fail
                exact ⟨⟨k + 1, _, by go_num, by omega, rfl, Lib.hid (by rw [hR2.out, Hex.out]; rfl), B4⟩, by simp [intOf]; omega⟩
              | false =>
                go_wp2_with fail
                exact ⟨⟨k + 1, _, by go_num, by omega, rfl, Lib.hid (by rw [hR2.out, Hex.out]; rfl), B4⟩, by simp [intOf]; omega⟩

    · obtain rfl : k = n := by omega
      have hRn : Hid (R = none) := Lib.hid (by rw [hD.out, List.drop_of_length_le (by rw [hn.out]; exact Nat.le_refl _), deadL])
      have RZ9 := Lib.hid (RZ.out.later hB.out)
      have hsr := hB.out.size
      have z0 := RZ9.out.frozen 0
      have z1 := RZ9.out.frozen 1
      have z2 := RZ9.out.frozen 2
      have z3 := RZ9.out.frozen 3
      have z4 := RZ9.out.frozen 4
      have z5 := RZ9.out.frozen 5
      have z6 := RZ9.out.frozen 6
      have z7 := RZ9.out.frozen 7
      have z8 := RZ9.out.frozen 8
      obtain ⟨r0, r1, r2, r3, r4, r5, r6, r7, r8⟩ := (show Cells wr (W.heap.size + 1) 0 ⟨0, [], [], 0, 0, 0, 0, 0⟩ (.slice none 0 0) from Cells.row RZ9.out)
      simp only [Nat.zero_add] at r1 r2 r3 r4 r5 r6 r7 r8
      go_wp2_with fail
      obtain ⟨R9, U9⟩ := nine RZ9.out zN.hd (.slice none 0 0)
      refine bodyPost_ret (results_cell_row_tmp rfl _ _ (W.heap.size + 1) 44 (zN.hd.vals (.slice none 0 0)) (0, 0) _ rfl R9 Try.underlying44 rfl rfl) rfl ?_
      refine ⟨?_, BR.out.trans (U9.below _ (by omega))⟩
      rw [hRn.out]
      exact ⟨_, rfl, KidsAt.nil _⟩
end Go.Proofs.Ytbnbmjdjkadgoaa.F
