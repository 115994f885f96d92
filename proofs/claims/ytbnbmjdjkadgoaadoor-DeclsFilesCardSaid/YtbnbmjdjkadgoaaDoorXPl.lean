/-
  For the laws on the parser: the document's small rules: names, types, a node that is made. Condition: the tokens are a text's.
-/
import Derived.Test.YtbnbmjdjkadgoaaDoorXPk
import Derived.Test.YtbnbmjdjkadgoaaDoorXQt
namespace Go.Proofs.YtbnbmjdjkadgoaaDoor.X
open Go.RowKit Go.Shelf
set_option linter.unusedSimpArgs false
set_option linter.unusedVariables false

set_option maxRecDepth 100000 in
set_option maxHeartbeats 4000000 in
theorem name_any (v : Value) (T : List Tk) (a : Nat) (w : World) (h : Toks w v T) : Calls Tryd.prog 43 #[v, .int .i64 (a : Nat)] w fun e w' => e = .returned (.bool (nmT T a)) ∧ w' = w := by
  obtain ⟨ao, cap, rfl, hc, hcm, hat⟩ := h.get
  unfold maxLen at hcm
  obtain ⟨n, hn⟩ : ∃ n, Hid (T.length = n) := ⟨_, Lib.hid rfl⟩
  rw [hn.out] at hc ⊢
  rcases Nat.lt_or_ge a n with hlt | hlt
  · have ht := tok_at (T := T) (a := a) (by rw [hn.out]; exact hlt)
    obtain ⟨b, off, rfl, hbl, c0, c1, c2, c3⟩ := hat a _ ht
    obtain ⟨t, htt⟩ : ∃ t, Hid (tokT T a = t) := ⟨_, Lib.hid rfl⟩
    rw [htt.out] at ht c0 c1
    have d1 : (a : Int) < (n : Int) := by omega
    have d2 : (0 : Int) ≤ (a : Int) := by omega
    have d3 : decide (a < n) = true := decide_eq_true hlt
    have hr : nmT T a = decide (t.kind = 1) := by unfold nmT; rw [ht]
    rw [hr]
    obtain ⟨k, hk⟩ : ∃ k, Hid (t.kind = k) := ⟨_, Lib.hid rfl⟩
    rw [hk.out] at c0 ⊢
    have e2 : (k == 1) = decide (k = 1) := Bool.beq_eq_decide_eq _ _
    clear hr ht hat c1 c2 c3 hlt
    generalize decide (k = 1) = q2 at *
    cases q2
    all_goals
      go_enter Tryd.func43, Tryd.ntmps43
      go_wp2_with fail
      go_ret
      exact ⟨rfl, rfl⟩
  · have d3 : decide (a < n) = false := decide_eq_false (by omega)
    have d1 : decide ((a : Int) < (n : Int)) = false := decide_eq_false (by omega)
    have hr : nmT T a = false := by unfold nmT; rw [List.getElem?_eq_none (by rw [hn.out]; exact hlt)]
    rw [hr]
    go_enter Tryd.func43, Tryd.ntmps43
    go_wp2_with fail
    go_ret
    exact ⟨rfl, rfl⟩
theorem is_at {v : Value} {T : List Tk} {a : Nat} {s : ByteArray} {w : World} {b : Bool} (h : Toks w v T) (hb : isT T a (tl s) = b) : Calls Tryd.prog 41 #[v, .int .i64 (a : Nat), .string s] w fun e w' => e = .returned (.bool b) ∧ w' = w := by
  rw [← hb]; exact is_any v T a s w h
theorem name_at {v : Value} {T : List Tk} {a : Nat} {w : World} {b : Bool} (h : Toks w v T) (hb : nmT T a = b) : Calls Tryd.prog 43 #[v, .int .i64 (a : Nat)] w fun e w' => e = .returned (.bool b) ∧ w' = w := by
  rw [← hb]; exact name_any v T a w h
theorem is_1 {v : Value} {T : List Tk} {a : Nat} {s : ByteArray} {w : World} {b : Bool} (h : Toks w v T) (hb : isT T (a + 1) (tl s) = b) : Calls Tryd.prog 41 #[v, .int .i64 ((a : Int) + 1), .string s] w fun e w' => e = .returned (.bool b) ∧ w' = w := is_at (a := a + 1) h hb
theorem is_2 {v : Value} {T : List Tk} {a : Nat} {s : ByteArray} {w : World} {b : Bool} (h : Toks w v T) (hb : isT T (a + 2) (tl s) = b) : Calls Tryd.prog 41 #[v, .int .i64 ((a : Int) + 2), .string s] w fun e w' => e = .returned (.bool b) ∧ w' = w := is_at (a := a + 2) h hb
theorem is_3 {v : Value} {T : List Tk} {a : Nat} {s : ByteArray} {w : World} {b : Bool} (h : Toks w v T) (hb : isT T (a + 3) (tl s) = b) : Calls Tryd.prog 41 #[v, .int .i64 ((a : Int) + 3), .string s] w fun e w' => e = .returned (.bool b) ∧ w' = w := is_at (a := a + 3) h hb
theorem name_1 {v : Value} {T : List Tk} {a : Nat} {w : World} {b : Bool} (h : Toks w v T) (hb : nmT T (a + 1) = b) : Calls Tryd.prog 43 #[v, .int .i64 ((a : Int) + 1)] w fun e w' => e = .returned (.bool b) ∧ w' = w := name_at (a := a + 1) h hb
set_option maxRecDepth 100000 in
set_option maxHeartbeats 4000000 in
theorem kind_any (v : Value) (T : List Tk) (a : Nat) (w : World) (h : Toks w v T) : Calls Tryd.prog 55 #[v, .int .i64 (a : Nat)] w fun e w' => e = .returned (.bool (kindT T a)) ∧ w' = w := by
  have H := Lib.hid h
  obtain ⟨ao, cap, rfl, -⟩ := h.get
  unfold kindT
  obtain ⟨q1, h1⟩ : ∃ q, nmT T a = q := ⟨_, rfl⟩
  obtain ⟨q2, h2⟩ : ∃ q, isT T a sInt = q := ⟨_, rfl⟩
  obtain ⟨q3, h3⟩ : ∃ q, isT T a sBoolean = q := ⟨_, rfl⟩
  obtain ⟨q4, h4⟩ : ∃ q, isT T a sVoid = q := ⟨_, rfl⟩
  have C1 := Lib.hid (name_at H.out h1)
  have C2 := Lib.hid (is_at (s := ⟨#[105, 110, 116]⟩) H.out h2)
  have C3 := Lib.hid (is_at (s := ⟨#[98, 111, 111, 108, 101, 97, 110]⟩) H.out h3)
  have C4 := Lib.hid (is_at (s := ⟨#[118, 111, 105, 100]⟩) H.out h4)
  rw [h1, h2, h3, h4]
  clear h1 h2 h3 h4 h
  obtain ⟨n, hn⟩ : ∃ n, Hid (T.length = n) := ⟨_, Lib.hid rfl⟩
  rw [hn.out] at C1 C2 C3 C4 ⊢
  cases q1 <;> cases q2 <;> cases q3 <;> cases q4
  all_goals
    go_enter Tryd.func55, Tryd.ntmps55
    go_wp2_with (first | (go_at_call 43; with_reducible refine C1.out.mono ?_; rintro e w' ⟨rfl, rfl⟩) | (go_at_call 41; with_reducible refine C2.out.mono ?_; rintro e w' ⟨rfl, rfl⟩) | (go_at_call 41; with_reducible refine C3.out.mono ?_; rintro e w' ⟨rfl, rfl⟩) | (go_at_call 41; with_reducible refine C4.out.mono ?_; rintro e w' ⟨rfl, rfl⟩))
    go_ret
    exact ⟨rfl, rfl⟩
set_option maxRecDepth 100000 in
set_option maxHeartbeats 4000000 in
theorem local_any (v : Value) (T : List Tk) (a : Nat) (ha : a ≤ 2000000) (w : World) (h : Toks w v T) : Calls Tryd.prog 63 #[v, .int .i64 (a : Nat)] w fun e w' => e = .returned (.bool (localT T a)) ∧ w' = w := by
  have H := Lib.hid h
  obtain ⟨ao, cap, rfl, -⟩ := h.get
  unfold localT
  obtain ⟨q1, h1⟩ : ∃ q, nmT T a = q := ⟨_, rfl⟩
  obtain ⟨q2, h2⟩ : ∃ q, isT T a sInt = q := ⟨_, rfl⟩
  obtain ⟨q3, h3⟩ : ∃ q, isT T a sBoolean = q := ⟨_, rfl⟩
  obtain ⟨q4, h4⟩ : ∃ q, isT T a sVoid = q := ⟨_, rfl⟩
  obtain ⟨q5, h5⟩ : ∃ q, nmT T (a + 1) = q := ⟨_, rfl⟩
  have C1 := Lib.hid (name_at H.out h1)
  have C2 := Lib.hid (is_at (s := ⟨#[105, 110, 116]⟩) H.out h2)
  have C3 := Lib.hid (is_at (s := ⟨#[98, 111, 111, 108, 101, 97, 110]⟩) H.out h3)
  have C4 := Lib.hid (is_at (s := ⟨#[118, 111, 105, 100]⟩) H.out h4)
  have C5 := Lib.hid (name_1 H.out h5)
  rw [h1, h2, h3, h4, h5]
  clear h1 h2 h3 h4 h5 h
  obtain ⟨n, hn⟩ : ∃ n, Hid (T.length = n) := ⟨_, Lib.hid rfl⟩
  rw [hn.out] at C1 C2 C3 C4 C5 ⊢
  cases q1 <;> cases q2 <;> cases q3 <;> cases q4 <;> cases q5
  all_goals
    go_enter Tryd.func63, Tryd.ntmps63
    go_wp2_with (first | (go_at_call 43; with_reducible refine C1.out.mono ?_; rintro e w' ⟨rfl, rfl⟩) | (go_at_call 43; with_reducible refine C5.out.mono ?_; rintro e w' ⟨rfl, rfl⟩) | (go_at_call 41; with_reducible refine C2.out.mono ?_; rintro e w' ⟨rfl, rfl⟩) | (go_at_call 41; with_reducible refine C3.out.mono ?_; rintro e w' ⟨rfl, rfl⟩) | (go_at_call 41; with_reducible refine C4.out.mono ?_; rintro e w' ⟨rfl, rfl⟩))
    go_ret
    exact ⟨rfl, rfl⟩
theorem one_row (W : World) (t : TypeId) (cs : Array Value) : (W.alloc (.cells cs t)).heap[W.heap.size]? = some (.cells cs t (0, 0)) := RowAt.new W t cs
set_option maxRecDepth 100000 in
theorem fine_any (w : World) : Calls Tryd.prog 46 #[] w fun e w' => e = .returned (.agg #[.int .i64 (-1), .int .i64 0]) ∧ Below w.heap.size w w' := by
  go_enter Tryd.func46, Tryd.ntmps46
  go_wp2_with fail
  exact bodyPost_ret (results_cell_row (P := Tryd.prog) rfl _ _ w.heap.size 68 #[.int .i64 (-1), .int .i64 0] (0, 0) _ rfl (one_row w 68 _) Tryd.underlying68 rfl rfl) rfl ⟨rfl, (Below.refl _ w).alloc (Nat.le_refl _) _⟩
set_option maxRecDepth 100000 in
theorem syntax_any (p : Int) (w : World) : Calls Tryd.prog 42 #[.int .i64 p] w fun e w' => e = .returned (.agg #[.int .i64 p, .int .i64 120]) ∧ Below w.heap.size w w' := by
  go_enter Tryd.func42, Tryd.ntmps42
  go_wp2_with fail
  exact bodyPost_ret (results_cell_row (P := Tryd.prog) rfl _ _ w.heap.size 68 #[.int .i64 p, .int .i64 120] (0, 0) _ rfl (one_row w 68 _) Tryd.underlying68 rfl rfl) rfl ⟨rfl, (Below.refl _ w).alloc (Nat.le_refl _) _⟩
set_option maxRecDepth 100000 in
set_option maxHeartbeats 4000000 in
theorem end_any (v : Value) (T : List Tk) (hT : GoodT T) (a : Nat) (ha : a < T.length) (w : World) (h : Toks w v T) : Calls Tryd.prog 59 #[v, .int .i64 ((a : Int) + 1)] w fun e w' => e = .returned (.int .i64 (endT T (a + 1))) ∧ Below w.heap.size w w' := by
  obtain ⟨ao, cap, rfl, hc, hcm, hat⟩ := h.get
  unfold maxLen at hcm
  have ht := tok_at ha
  obtain ⟨b, off, rfl, hbl, c0, c1, c2, c3⟩ := hat a _ ht
  have hk := hT.tk _ (List.mem_of_getElem? ht)
  have g1 := hk.lo
  have g2 := hk.hi
  have hl := hT.len
  unfold endT
  rw [Nat.add_sub_cancel]
  obtain ⟨n, hn⟩ : ∃ n, Hid (T.length = n) := ⟨_, Lib.hid rfl⟩
  rw [hn.out] at hc ha hl ⊢
  obtain ⟨x, hx⟩ : ∃ x, bs (tokT T a).text = x := ⟨_, rfl⟩
  obtain ⟨p, hp⟩ : ∃ p, (tokT T a).at_ = p := ⟨_, rfl⟩
  have hsz : (tokT T a).text.length = x.size := by rw [← hx, bs_size]
  rw [hx] at c1
  rw [hp] at c2 g1 g2 ⊢
  rw [hsz] at g2 ⊢
  have i0 : IntKind.i64.wrap (a : Int) = (a : Int) := Go.IntWalk.i64_in _ (by omega)
  have i1 : IntKind.i64.wrap ((a : Int) + 1 - 1) = (a : Int) := by rw [Int.add_sub_cancel]; exact Go.IntWalk.i64_in _ (by omega)
  have i2 : IntKind.i64.wrap (p + (x.size : Int)) = p + (x.size : Int) := Go.IntWalk.i64_in _ (by omega)
  have d1 : (a : Int) < (n : Int) := by omega
  have d2 : (0 : Int) ≤ (a : Int) := by omega
  clear hat ht hk c0 c3 g1 g2 hsz hp hx hl hcm hc ha
  go_enter Tryd.func59, Tryd.ntmps59
  go_wp2_with fail
  go_quiet (fail)
  go_wp2_with fail
  go_ret
  exact ⟨rfl, below_draws (Below.refl _ _) _⟩
set_option maxRecDepth 100000 in
set_option maxHeartbeats 4000000 in
theorem made_any (v : Value) (ak : Option Addr) (nk ck : Nat) (T : List Tk) (hT : GoodT T) (kind : Int) (a b : Nat) (ha : a < T.length) (hb : b < T.length) (w : World) (h : Toks w v T) :
    Calls Tryd.prog 45 #[v, .int .i64 kind, .int .i64 (a : Nat), .int .i64 ((b : Int) + 1), .slice ak nk ck] w fun e w' => e = .returned (.agg #[.int .i64 (madeH T kind a (b + 1)).kind, .string (bs (madeH T kind a (b + 1)).text), .string (bs (madeH T kind a (b + 1)).type), .int .i64 (madeH T kind a (b + 1)).n, .int .i64 (madeH T kind a (b + 1)).fr, .int .i64 (madeH T kind a (b + 1)).to_, .int .i64 (madeH T kind a (b + 1)).at_, .int .i64 (madeH T kind a (b + 1)).tat, .slice ak nk ck]) ∧ Below w.heap.size w w' := by
  have HB := Lib.hid (fun W (hW : Below w.heap.size w W) => end_any v T hT b hb W (h.below hW))
  obtain ⟨ao, cap, rfl, hc, hcm, hat⟩ := h.get
  have ht := tok_at ha
  obtain ⟨g, off, rfl, hbl, c0, c1, c2, c3⟩ := hat a _ ht
  unfold madeH
  obtain ⟨n, hn⟩ : ∃ n, Hid (T.length = n) := ⟨_, Lib.hid rfl⟩
  rw [hn.out] at HB ha hc ⊢
  obtain ⟨p_, hp⟩ : ∃ p, Hid ((tokT T a).at_ = p) := ⟨_, Lib.hid rfl⟩
  obtain ⟨q, hq⟩ : ∃ q, Hid (endT T (b + 1) = q) := ⟨_, Lib.hid rfl⟩
  dsimp only
  rw [hp.out] at c2 ⊢
  rw [hq.out] at HB ⊢
  have d1 : (a : Int) < (n : Int) := by omega
  have d2 : (0 : Int) ≤ (a : Int) := by omega
  obtain ⟨W1, hW1⟩ : ∃ W1, Hid (w.alloc (.cells #[.int .i64 0, .string ⟨#[]⟩, .string ⟨#[]⟩, .int .i64 0, .int .i64 0, .int .i64 0, .int .i64 0, .int .i64 0, .slice none 0 0] 55) = W1) := ⟨_, Lib.hid rfl⟩
  have R1 : RowAt W1 w.heap.size 55 #[.int .i64 0, .string ⟨#[]⟩, .string ⟨#[]⟩, .int .i64 0, .int .i64 0, .int .i64 0, .int .i64 0, .int .i64 0, .slice none 0 0] := by rw [← hW1.out]; exact RowAt.new w 55 _
  have B1 : Hid (Below w.heap.size w W1) := Lib.hid (by rw [← hW1.out]; exact (Below.refl _ w).alloc (Nat.le_refl _) _)
  have RU := Lib.hid (fun U (hU : Below W1.heap.size W1 U) => R1.later hU)
  have BU := Lib.hid (fun U (hU : Below W1.heap.size W1 U) => B1.out.trans (hU.mono B1.out.size))
  have K1 : ∀ p : InC W1, p.w.cell? ⟨g, off + a * 4 + 2, none⟩ = some (.int .i64 p_) := fun p => ((BU.out p.w p.h).cell (p := ⟨g, off + a * 4 + 2, none⟩) hbl).trans c2
  clear hat ht c0 c1 c2 c3 ha hcm hc R1 hbl
  go_enter Tryd.func45, Tryd.ntmps45
  go_wp2_with fail
  rw [hW1.out]
  refine wp_tail_in W1 11 (Below.refl _ _) (by kernel_rfl) (by kernel_rfl) ?_
  simp only [List.take_succ_cons, List.take_zero, List.drop_succ_cons, List.drop_zero]
  repeat (quiet_step (first | (go_at_call 59; with_reducible exact quiet_in (HB.out _ (BU.out _ (InC.h _))))))
  refine wpQuiet_nil ?_
  intro U hw'
  have hU : Below W1.heap.size W1 U := by obtain ⟨p, rfl⟩ := hw'; exact p.h
  clear hw'
  have R2 := RU.out U hU
  have B2 := Lib.hid (BU.out U hU)
  have z0 := R2.frozen 0
  have z1 := R2.frozen 1
  have z2 := R2.frozen 2
  have z3 := R2.frozen 3
  have z4 := R2.frozen 4
  have z5 := R2.frozen 5
  have z6 := R2.frozen 6
  have z7 := R2.frozen 7
  have z8 := R2.frozen 8
  obtain ⟨r0, r1, r2, r3, r4, r5, r6, r7, r8⟩ := (show Cells U w.heap.size 0 ⟨0, [], [], 0, 0, 0, 0, 0⟩ (.slice none 0 0) from Cells.row R2)
  simp only [Nat.zero_add] at r1 r2 r3 r4 r5 r6 r7 r8
  have NN := Lib.hid (nine R2 ⟨kind, [], [], 0, p_, q, -1, -1⟩ (.slice ak nk ck))
  clear hU K1 RU BU R2
  go_wp2_with fail
  exact bodyPost_ret (results_cell_row (P := Tryd.prog) rfl _ _ w.heap.size 55 _ (0, 0) _ rfl NN.out.1 Tryd.underlying55 rfl rfl) rfl ⟨rfl, B2.out.trans (NN.out.2.below _ (Nat.le_refl _))⟩
end Go.Proofs.YtbnbmjdjkadgoaaDoor.X
