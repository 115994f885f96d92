/-
  For the laws on the parser: classes. Condition: the tokens are a text's.
-/
import Derived.Test.YtbnbmjdjkadgoaaDoorXSe
namespace Go.Proofs.YtbnbmjdjkadgoaaDoor.X
open Go.RowKit Go.Shelf
set_option linter.unusedSimpArgs false
set_option linter.unusedVariables false


/-- A node's type and its place are stored behind its nine cells. -/
theorem typed_row {U : World} {D : Nat} (h2 : Hd) (kv : Value) (R : RowAt U D 55 (h2.vals kv)) (t : By) (p : Int) {V : World} (hV : (U.setCell ⟨D, 2, none⟩ (.string (bs t))).setCell ⟨D, 7, none⟩ (.int .i64 p) = V) :
    RowAt V D 55 (({ h2 with type := t, tat := p } : Hd).vals kv) ∧ V.heap.size = U.heap.size ∧ (∀ b, b ≠ D → V.heap[b]? = U.heap[b]?) ∧ ∀ B, B ≤ D → Below B U V := by
  subst hV
  refine ⟨?_, by simp [World.setCell], fun b h2 => (Below.heap_setCell _ _ _ b (by simpa using h2)).trans (Below.heap_setCell _ _ _ b (by simpa using h2)), fun B h2 => ((Below.refl _ _).setCell (p := ⟨D, 2, none⟩) h2 _).setCell (p := ⟨D, 7, none⟩) h2 _⟩
  have R9 := (R.set 2 (.string (bs t))).set 7 (.int .i64 p)
  simp only [Hd.vals, List.setIfInBounds_toArray, List.set_cons_zero, List.set_cons_succ] at R9 ⊢
  exact R9
set_option maxRecDepth 100000 in
set_option maxHeartbeats 16000000 in
theorem class_any (v : Value) (T : List Tk) (hT : GoodT T) (f : Nat) (a : Nat) (r : PR Nd) (w : World) (hr : clsF f T a = some r) (ha : a < T.length) (h : Toks w v T) :
    Calls Tryd.prog 28 #[v, .int .i64 (a : Nat)] w fun e w' => NodeIs r w.heap.size e w' ∧ Below w.heap.size w w' := by
  have ME := Lib.hid (member_any v T hT)
  have HT := Lib.hid (fun W (hW : Below w.heap.size w W) => h.below hW)
  have HG := Lib.hid hT
  have hTl := hT.len
  obtain ⟨tb, to_, cv, rfl, -, -, hcell⟩ := h.fix hT.e.pos
  have HC := Lib.hid hcell
  clear h hcell
  clear hT
  unfold clsF at hr
  cases q1 : isT T a sClass with
  | false =>
    rw [q1, if_neg (by decide)] at hr
    obtain rfl := Option.some.inj hr
    go_enter Tryd.func28, Tryd.ntmps28
    go_wp2_with fail
    refine calls_gen (fun W => RowAt W w.heap.size 55 #[.int .i64 0, .string ⟨#[]⟩, .string ⟨#[]⟩, .int .i64 0, .int .i64 0, .int .i64 0, .int .i64 0, .int .i64 0, .slice none 0 0] ∧ RowAt W (w.heap.size + 1) 68 #[.int .i64 0, .int .i64 0] ∧ Below w.heap.size w W) ⟨(row_new rfl).alloc _, row_new (by simp), ((Below.refl _ w).alloc (Nat.le_refl _) _).alloc (by simp) _⟩ ?_
    rintro W1 ⟨g1, h1, b1⟩
    have RG1 := Lib.hid g1
    have RH1 := Lib.hid h1
    have B1 := Lib.hid b1
    have hlt1 := h1.lt
    clear g1 h1 b1
    refine (is_at (s := ⟨#[99, 108, 97, 115, 115]⟩) (HT.out W1 B1.out) q1).mono ?_
    rintro e w' ⟨rfl, hw⟩
    have hw := hw.symm
    subst hw
    go_wp2_with fail
    refine (syntax_any _ _).mono ?_
    rintro e w9 ⟨rfl, b9⟩
    have RG9 := RG1.out.later b9
    have RH9 := RH1.out.later b9
    have B9 := B1.out.trans (b9.mono B1.out.size)
    have z0 := RG9.frozen 0
    have z1 := RG9.frozen 1
    have z2 := RG9.frozen 2
    have z3 := RG9.frozen 3
    have z4 := RG9.frozen 4
    have z5 := RG9.frozen 5
    have z6 := RG9.frozen 6
    have z7 := RG9.frozen 7
    have z8 := RG9.frozen 8
    have y0 := RH9.frozen 0
    have y1 := RH9.frozen 1
    obtain ⟨r0, r1, r2, r3, r4, r5, r6, r7, r8⟩ := (show Cells w9 w.heap.size 0 ⟨0, [], [], 0, 0, 0, 0, 0⟩ (.slice none 0 0) from Cells.row RG9)
    simp only [Nat.zero_add] at r1 r2 r3 r4 r5 r6 r7 r8
    have s0 : w9.cell? ⟨w.heap.size + 1, 0, none⟩ = some (.int .i64 0) := RH9.cell rfl
    have s1 : w9.cell? ⟨w.heap.size + 1, 1, none⟩ = some (.int .i64 0) := RH9.cell rfl
    have RG9' := Lib.hid RG9
    have RH9' := Lib.hid RH9
    have B9' := Lib.hid B9
    clear RG9 RH9 B9 b9
    go_wp2_with fail
    obtain ⟨k1, k2, k3, k4, k5⟩ := both_rows RG9'.out RH9'.out (by omega) ⟨0, [], [], 0, 0, 0, 0, 0⟩ (.slice none 0 0) ((a : Nat) : Int) 120 rfl
    exact fin_node 4 5 6 rfl rfl rfl k1 k2 ⟨rfl, B9'.out.trans (k5 _ (Nat.le_refl _) (by omega))⟩
  | true =>
  rw [q1, if_pos rfl] at hr
  cases q2 : nmT T (a + 1) with
  | false =>
    rw [q2, if_neg (by decide)] at hr
    obtain rfl := Option.some.inj hr
    go_enter Tryd.func28, Tryd.ntmps28
    go_wp2_with fail
    refine calls_gen (fun W => RowAt W w.heap.size 55 #[.int .i64 0, .string ⟨#[]⟩, .string ⟨#[]⟩, .int .i64 0, .int .i64 0, .int .i64 0, .int .i64 0, .int .i64 0, .slice none 0 0] ∧ RowAt W (w.heap.size + 1) 68 #[.int .i64 0, .int .i64 0] ∧ Below w.heap.size w W) ⟨(row_new rfl).alloc _, row_new (by simp), ((Below.refl _ w).alloc (Nat.le_refl _) _).alloc (by simp) _⟩ ?_
    rintro W1 ⟨g1, h1, b1⟩
    have RG1 := Lib.hid g1
    have RH1 := Lib.hid h1
    have B1 := Lib.hid b1
    have hlt1 := h1.lt
    clear g1 h1 b1
    refine (is_at (s := ⟨#[99, 108, 97, 115, 115]⟩) (HT.out W1 B1.out) q1).mono ?_
    rintro e w' ⟨rfl, hw⟩
    have hw := hw.symm
    subst hw
    go_wp2_with fail
    refine (name_1 (HT.out W1 B1.out) q2).mono ?_
    rintro e w' ⟨rfl, hw⟩
    have hw := hw.symm
    subst hw
    go_wp2_with fail
    refine (syntax_any _ _).mono ?_
    rintro e w9 ⟨rfl, b9⟩
    have RG9 := RG1.out.later b9
    have RH9 := RH1.out.later b9
    have B9 := B1.out.trans (b9.mono B1.out.size)
    have z0 := RG9.frozen 0
    have z1 := RG9.frozen 1
    have z2 := RG9.frozen 2
    have z3 := RG9.frozen 3
    have z4 := RG9.frozen 4
    have z5 := RG9.frozen 5
    have z6 := RG9.frozen 6
    have z7 := RG9.frozen 7
    have z8 := RG9.frozen 8
    have y0 := RH9.frozen 0
    have y1 := RH9.frozen 1
    obtain ⟨r0, r1, r2, r3, r4, r5, r6, r7, r8⟩ := (show Cells w9 w.heap.size 0 ⟨0, [], [], 0, 0, 0, 0, 0⟩ (.slice none 0 0) from Cells.row RG9)
    simp only [Nat.zero_add] at r1 r2 r3 r4 r5 r6 r7 r8
    have s0 : w9.cell? ⟨w.heap.size + 1, 0, none⟩ = some (.int .i64 0) := RH9.cell rfl
    have s1 : w9.cell? ⟨w.heap.size + 1, 1, none⟩ = some (.int .i64 0) := RH9.cell rfl
    have RG9' := Lib.hid RG9
    have RH9' := Lib.hid RH9
    have B9' := Lib.hid B9
    clear RG9 RH9 B9 b9
    go_wp2_with fail
    obtain ⟨k1, k2, k3, k4, k5⟩ := both_rows RG9'.out RH9'.out (by omega) ⟨0, [], [], 0, 0, 0, 0, 0⟩ (.slice none 0 0) ((a + 1 : Nat) : Int) 120 rfl
    exact fin_node 4 5 6 rfl rfl rfl k1 k2 ⟨rfl, B9'.out.trans (k5 _ (Nat.le_refl _) (by omega))⟩
  | true =>
  rw [q2, if_pos rfl] at hr
  have ha2 : a + 2 < T.length := nmT_lt HG.out.e q2
  cases q3 : isT T (a + 2) sExtends with
  | true =>
    rw [q3, if_pos rfl] at hr
    obtain ⟨b0, hb0⟩ : ∃ b0, a + 2 = b0 := ⟨_, rfl⟩
    have hcast0 : (a : Int) + 2 = (b0 : Nat) := by omega
    have e3 : a + 3 = b0 + 1 := by omega
    rw [hb0] at q3
    rw [e3] at hr
    cases q4 : nmT T (b0 + 1) with
    | false =>
      rw [q4, if_neg (by decide)] at hr
      obtain rfl := Option.some.inj hr
      go_enter Tryd.func28, Tryd.ntmps28
      go_wp2_with fail
      refine calls_gen (fun W => RowAt W w.heap.size 55 #[.int .i64 0, .string ⟨#[]⟩, .string ⟨#[]⟩, .int .i64 0, .int .i64 0, .int .i64 0, .int .i64 0, .int .i64 0, .slice none 0 0] ∧ RowAt W (w.heap.size + 1) 68 #[.int .i64 0, .int .i64 0] ∧ Below w.heap.size w W) ⟨(row_new rfl).alloc _, row_new (by simp), ((Below.refl _ w).alloc (Nat.le_refl _) _).alloc (by simp) _⟩ ?_
      rintro W1 ⟨g1, h1, b1⟩
      have RG1 := Lib.hid g1
      have RH1 := Lib.hid h1
      have B1 := Lib.hid b1
      have hlt1 := h1.lt
      clear g1 h1 b1
      refine (is_at (s := ⟨#[99, 108, 97, 115, 115]⟩) (HT.out W1 B1.out) q1).mono ?_
      rintro e w' ⟨rfl, hw⟩
      have hw := hw.symm
      subst hw
      go_wp2_with fail
      refine (name_1 (HT.out W1 B1.out) q2).mono ?_
      rintro e w' ⟨rfl, hw⟩
      have hw := hw.symm
      subst hw
      go_wp2_with fail
      refine (is_at (s := ⟨#[101, 120, 116, 101, 110, 100, 115]⟩) (HT.out W1 B1.out) q3).mono ?_
      rintro e w' ⟨rfl, hw⟩
      have hw := hw.symm
      subst hw
      go_wp2_with fail
      refine (name_1 (HT.out W1 B1.out) q4).mono ?_
      rintro e w' ⟨rfl, hw⟩
      have hw := hw.symm
      subst hw
      go_wp2_with fail
      refine (syntax_any _ _).mono ?_
      rintro e w9 ⟨rfl, b9⟩
      have RG9 := RG1.out.later b9
      have RH9 := RH1.out.later b9
      have B9 := B1.out.trans (b9.mono B1.out.size)
      have z0 := RG9.frozen 0
      have z1 := RG9.frozen 1
      have z2 := RG9.frozen 2
      have z3 := RG9.frozen 3
      have z4 := RG9.frozen 4
      have z5 := RG9.frozen 5
      have z6 := RG9.frozen 6
      have z7 := RG9.frozen 7
      have z8 := RG9.frozen 8
      have y0 := RH9.frozen 0
      have y1 := RH9.frozen 1
      obtain ⟨r0, r1, r2, r3, r4, r5, r6, r7, r8⟩ := (show Cells w9 w.heap.size 0 ⟨0, [], [], 0, 0, 0, 0, 0⟩ (.slice none 0 0) from Cells.row RG9)
      simp only [Nat.zero_add] at r1 r2 r3 r4 r5 r6 r7 r8
      have s0 : w9.cell? ⟨w.heap.size + 1, 0, none⟩ = some (.int .i64 0) := RH9.cell rfl
      have s1 : w9.cell? ⟨w.heap.size + 1, 1, none⟩ = some (.int .i64 0) := RH9.cell rfl
      have RG9' := Lib.hid RG9
      have RH9' := Lib.hid RH9
      have B9' := Lib.hid B9
      clear RG9 RH9 B9 b9
      go_wp2_with fail
      obtain ⟨k1, k2, k3, k4, k5⟩ := both_rows RG9'.out RH9'.out (by omega) ⟨0, [], [], 0, 0, 0, 0, 0⟩ (.slice none 0 0) ((b0 + 1 : Nat) : Int) 120 rfl
      exact fin_node 4 5 6 rfl rfl rfl k1 k2 ⟨rfl, B9'.out.trans (k5 _ (Nat.le_refl _) (by omega))⟩
    | true =>
      rw [q4, if_pos rfl] at hr
      have hab : b0 + 1 + 1 < T.length := nmT_lt HG.out.e q4
      obtain ⟨b, hb⟩ : ∃ b, a + 4 = b := ⟨_, rfl⟩
      have hcast : (b0 : Int) + 2 = (b : Nat) := by omega
      rw [hb] at hr
      unfold clsBodyF at hr
      replace hr : (if isT T b sBeg = true then bindP (clsLF f T (b + 1) []) (fun l m => some (PR.ok (Nd.mk ({ namedH T (madeH T 1 a (m)) (a + 1) with type := (tokT T (b0 + 1)).text, tat := (tokT T (b0 + 1)).at_ } : Hd) l) m)) else some (PR.bad b 120)) = some r := hr
      cases q5 : isT T b sBeg with
      | false =>
        rw [q5, if_neg (by decide)] at hr
        obtain rfl := Option.some.inj hr
        go_enter Tryd.func28, Tryd.ntmps28
        go_wp2_with fail
        refine calls_gen (fun W => RowAt W w.heap.size 55 #[.int .i64 0, .string ⟨#[]⟩, .string ⟨#[]⟩, .int .i64 0, .int .i64 0, .int .i64 0, .int .i64 0, .int .i64 0, .slice none 0 0] ∧ RowAt W (w.heap.size + 1) 68 #[.int .i64 0, .int .i64 0] ∧ Below w.heap.size w W) ⟨(row_new rfl).alloc _, row_new (by simp), ((Below.refl _ w).alloc (Nat.le_refl _) _).alloc (by simp) _⟩ ?_
        rintro W1 ⟨g1, h1, b1⟩
        have RG1 := Lib.hid g1
        have RH1 := Lib.hid h1
        have B1 := Lib.hid b1
        have hlt1 := h1.lt
        clear g1 h1 b1
        refine (is_at (s := ⟨#[99, 108, 97, 115, 115]⟩) (HT.out W1 B1.out) q1).mono ?_
        rintro e w' ⟨rfl, hw⟩
        have hw := hw.symm
        subst hw
        go_wp2_with fail
        refine (name_1 (HT.out W1 B1.out) q2).mono ?_
        rintro e w' ⟨rfl, hw⟩
        have hw := hw.symm
        subst hw
        go_wp2_with fail
        refine (is_at (s := ⟨#[101, 120, 116, 101, 110, 100, 115]⟩) (HT.out W1 B1.out) q3).mono ?_
        rintro e w' ⟨rfl, hw⟩
        have hw := hw.symm
        subst hw
        go_wp2_with fail
        refine (name_1 (HT.out W1 B1.out) q4).mono ?_
        rintro e w' ⟨rfl, hw⟩
        have hw := hw.symm
        subst hw
        go_wp2_with fail
        refine (is_at (s := ⟨#[123]⟩) (HT.out W1 B1.out) q5).mono ?_
        rintro e w' ⟨rfl, hw⟩
        have hw := hw.symm
        subst hw
        go_wp2_with fail
        refine (syntax_any _ _).mono ?_
        rintro e w9 ⟨rfl, b9⟩
        have RG9 := RG1.out.later b9
        have RH9 := RH1.out.later b9
        have B9 := B1.out.trans (b9.mono B1.out.size)
        have z0 := RG9.frozen 0
        have z1 := RG9.frozen 1
        have z2 := RG9.frozen 2
        have z3 := RG9.frozen 3
        have z4 := RG9.frozen 4
        have z5 := RG9.frozen 5
        have z6 := RG9.frozen 6
        have z7 := RG9.frozen 7
        have z8 := RG9.frozen 8
        have y0 := RH9.frozen 0
        have y1 := RH9.frozen 1
        obtain ⟨r0, r1, r2, r3, r4, r5, r6, r7, r8⟩ := (show Cells w9 w.heap.size 0 ⟨0, [], [], 0, 0, 0, 0, 0⟩ (.slice none 0 0) from Cells.row RG9)
        simp only [Nat.zero_add] at r1 r2 r3 r4 r5 r6 r7 r8
        have s0 : w9.cell? ⟨w.heap.size + 1, 0, none⟩ = some (.int .i64 0) := RH9.cell rfl
        have s1 : w9.cell? ⟨w.heap.size + 1, 1, none⟩ = some (.int .i64 0) := RH9.cell rfl
        have RG9' := Lib.hid RG9
        have RH9' := Lib.hid RH9
        have B9' := Lib.hid B9
        clear RG9 RH9 B9 b9
        go_wp2_with fail
        obtain ⟨k1, k2, k3, k4, k5⟩ := both_rows RG9'.out RH9'.out (by omega) ⟨0, [], [], 0, 0, 0, 0, 0⟩ (.slice none 0 0) ((b : Nat) : Int) 120 rfl
        exact fin_node 4 5 6 rfl rfl rfl k1 k2 ⟨rfl, B9'.out.trans (k5 _ (Nat.le_refl _) (by omega))⟩
      | true =>
        rw [q5, if_pos rfl] at hr
        have hb1 : b + 1 < T.length := isT_lt HG.out.e q5
        have Hr := Lib.hid hr
        clear hr
        go_enter Tryd.func28, Tryd.ntmps28
        go_wp2_with fail
        refine calls_gen (fun W => RowAt W w.heap.size 55 #[.int .i64 0, .string ⟨#[]⟩, .string ⟨#[]⟩, .int .i64 0, .int .i64 0, .int .i64 0, .int .i64 0, .int .i64 0, .slice none 0 0] ∧ RowAt W (w.heap.size + 1) 68 #[.int .i64 0, .int .i64 0] ∧ Below w.heap.size w W) ⟨(row_new rfl).alloc _, row_new (by simp), ((Below.refl _ w).alloc (Nat.le_refl _) _).alloc (by simp) _⟩ ?_
        rintro W1 ⟨g1, h1, b1⟩
        have RG1 := Lib.hid g1
        have RH1 := Lib.hid h1
        have B1 := Lib.hid b1
        have hlt1 := h1.lt
        clear g1 h1 b1
        refine (is_at (s := ⟨#[99, 108, 97, 115, 115]⟩) (HT.out W1 B1.out) q1).mono ?_
        rintro e w' ⟨rfl, hw⟩
        have hw := hw.symm
        subst hw
        go_wp2_with fail
        refine (name_1 (HT.out W1 B1.out) q2).mono ?_
        rintro e w' ⟨rfl, hw⟩
        have hw := hw.symm
        subst hw
        go_wp2_with fail
        refine (is_at (s := ⟨#[101, 120, 116, 101, 110, 100, 115]⟩) (HT.out W1 B1.out) q3).mono ?_
        rintro e w' ⟨rfl, hw⟩
        have hw := hw.symm
        subst hw
        go_wp2_with fail
        refine (name_1 (HT.out W1 B1.out) q4).mono ?_
        rintro e w' ⟨rfl, hw⟩
        have hw := hw.symm
        subst hw
        go_wp2_with fail
        refine (is_at (s := ⟨#[123]⟩) (HT.out W1 B1.out) q5).mono ?_
        rintro e w' ⟨rfl, hw⟩
        have hw := hw.symm
        subst hw
        have OQ1 : Hid (OwnQ (fun _ => True) W1.heap.size W1 (.slice none 0 0) []) := Lib.hid (OwnQ.nil (Nat.le_refl _))
        go_wp2_with fail
        go_loopw [7, 9] (fun c ov wr => ∃ (f' k : Nat) (ps : List Pr), c = .int .i64 k ∧ f' ≤ f ∧ b < k ∧ k < T.length ∧ ps.length ≤ k ∧ Hid (bindP (clsLF f' T k (ps.map (·.1))) (fun l m => some (PR.ok (Nd.mk ({ namedH T (madeH T 1 a (m)) (a + 1) with type := (tokT T (b0 + 1)).text, tat := (tokT T (b0 + 1)).at_ } : Hd) l) m)) = some r) ∧ Hid (RowAt wr w.heap.size 55 #[.int .i64 0, .string ⟨#[]⟩, .string ⟨#[]⟩, .int .i64 0, .int .i64 0, .int .i64 0, .int .i64 0, .int .i64 0, .slice none 0 0]) ∧ Hid (RowAt wr (w.heap.size + 1) 68 #[.int .i64 0, .int .i64 0]) ∧ Hid (OwnQ (fun _ => True) W1.heap.size wr ov ps) ∧ Hid (Below w.heap.size w wr)) (fun c _ _ => T.length - (intOf c).toNat)
        case atStart => exact ⟨f, b + 1, [], rfl, Nat.le_refl _, by omega, hb1, Nat.zero_le _, Hr, RG1, RH1, OQ1, B1⟩
        case round =>
          obtain ⟨f', k, ps, rfl, hf', hak, hk, hpk, hrl, RG3, RH3, OQ3, B3⟩ := hrel
          obtain ⟨an, nn, cn, rfl⟩ := ownq_slice OQ3.out
          have hbase := OQ3.out.bas
          cases f' with
          | zero => have := hrl.out; unfold clsLF at this; cases this
          | succ f' =>
          have hr := hrl.out
          unfold clsLF at hr
          clear hrl
          cases q6 : isT T k sEnd with
          | true =>
            rw [q6, if_pos rfl] at hr
            have hk1 : k + 1 < T.length := isT_lt HG.out.e q6
            have hr : some (PR.ok (Nd.mk ({ namedH T (madeH T 1 a (k + 1)) (a + 1) with type := (tokT T (b0 + 1)).text, tat := (tokT T (b0 + 1)).at_ } : Hd) (ps.map (·.1))) (k + 1)) = some r := hr
            obtain ⟨m, hm⟩ : ∃ m, (Nd.mk ({ namedH T (madeH T 1 a (k + 1)) (a + 1) with type := (tokT T (b0 + 1)).text, tat := (tokT T (b0 + 1)).at_ } : Hd) (ps.map (·.1))) = m := ⟨_, rfl⟩
            rw [hm] at hr
            obtain rfl := Option.some.inj hr
            go_wp2_with fail
            refine (is_at (s := ⟨#[125]⟩) (HT.out wr B3.out) q6).mono ?_
            rintro e w' ⟨rfl, hw⟩
            have hw := hw.symm
            subst hw
            go_wp2_with fail
            obtain ⟨F, s1, -⟩ := OQ3.out.kids
            refine (made_at (.slice (some ⟨tb, to_, none⟩) T.length cv) an nn cn T HG.out 1 a (k + 1) (by omega) (by omega) (by omega) wr (HT.out wr B3.out)).mono ?_
            rintro e w8 ⟨rfl, b8⟩
            have RG8 := Lib.hid (RG3.out.later b8)
            have RH8 := Lib.hid (RH3.out.later b8)
            have B8 := Lib.hid (B3.out.trans (b8.mono B3.out.size))
            have S8 := Lib.hid (s1.below b8)
            have hs8 := b8.size
            clear b8 s1
            obtain ⟨P, hP⟩ : ∃ P, w8.heap.size = P := ⟨_, rfl⟩
            have hPl : w.heap.size + 2 ≤ P := by have := B1.out.size; omega
            go_upto_region 23 with fail
            refine wp_gen (fun W => RowAt W w.heap.size 55 #[.int .i64 0, .string ⟨#[]⟩, .string ⟨#[]⟩, .int .i64 0, .int .i64 0, .int .i64 0, .int .i64 0, .int .i64 0, .slice none 0 0] ∧ RowAt W (w.heap.size + 1) 68 #[.int .i64 0, .int .i64 0] ∧ RowAt W w8.heap.size 55 ((madeH T 1 a (k + 1)).vals (.slice an nn cn)) ∧ Sup W W1.heap.size (ps.map (·.1)) (.slice an nn cn) F ∧ Below w.heap.size w W) ⟨RG8.out.alloc _, RH8.out.alloc _, row_new rfl, S8.out.below ((Below.refl _ _).alloc (Nat.le_refl _) _), B8.out.alloc (by omega) _⟩ ?_
            rintro W9 ⟨g3, h3, m3, s3, b3⟩
            have hFP : Hid (∀ b, F b → b ≠ P) := Lib.hid (fun b hb => by have := (S8.out.1 b hb).2; omega)
            rw [hP] at m3
            have RGz := Lib.hid g3
            have RHz := Lib.hid h3
            have RMz := Lib.hid m3
            have Sz := Lib.hid s3
            have Bz := Lib.hid b3
            clear g3 h3 m3 s3 b3
            have z1 := RMz.out.frozen 1
            have z6 := RMz.out.frozen 6
            have c1 : W9.cell? ⟨P, 1, none⟩ = some (.string (bs (madeH T 1 a (k + 1)).text)) := RMz.out.cell rfl
            have c6 : W9.cell? ⟨P, 6, none⟩ = some (.int .i64 (madeH T 1 a (k + 1)).at_) := RMz.out.cell rfl
            obtain ⟨-, tA1, tA2⟩ := HC.out W9 Bz.out (a + 1) (by omega)
            have htb : tb < w.heap.size := cell_lt ((HC.out w (Below.refl _ _) 0 HG.out.e.pos).2.1)
            have neP : tb ≠ P := by omega
            have j1 : (a : Int) + 1 < (T.length : Int) := by omega
            have j2 : (0 : Int) ≤ (a : Int) + 1 := by omega
            have j3 : ((a : Int) + 1).toNat = a + 1 := by omega
            have HNR := Lib.hid (named_row (vs := #[]) (madeH T 1 a (k + 1)) (.slice an nn cn) RMz.out (tokT T (a + 1)).text (tokT T (a + 1)).at_ rfl)
            go_upto_region 25 with fail
            refine wp_gen (fun W => RowAt W w.heap.size 55 #[.int .i64 0, .string ⟨#[]⟩, .string ⟨#[]⟩, .int .i64 0, .int .i64 0, .int .i64 0, .int .i64 0, .int .i64 0, .slice none 0 0] ∧ RowAt W (w.heap.size + 1) 68 #[.int .i64 0, .int .i64 0] ∧ RowAt W P 55 ((namedH T (madeH T 1 a (k + 1)) (a + 1)).vals (.slice an nn cn)) ∧ Sup W W1.heap.size (ps.map (·.1)) (.slice an nn cn) F ∧ Below w.heap.size w W) ⟨RowAt.same RGz.out (HNR.out.2.2.1 _ (by omega)), RowAt.same RHz.out (HNR.out.2.2.1 _ (by omega)), HNR.out.1, Sz.out.keep (Nat.le_of_eq HNR.out.2.1.symm) (fun b hb => HNR.out.2.2.1 b (hFP.out b hb)), Bz.out.trans (HNR.out.2.2.2 _ (by omega))⟩ ?_
            clear z1 z6 c1 c6 tA1 tA2 j1 j2 j3 HNR
            rintro WA ⟨g3, h3, m3, s3, b3⟩
            have RGy := Lib.hid g3
            have RHy := Lib.hid h3
            have RMy := Lib.hid m3
            have Sy := Lib.hid s3
            have By := Lib.hid b3
            clear g3 h3 m3 s3 b3
            have q8 : decide ((b0 : Int) + 1 ≥ 0) = true := decide_eq_true (by omega)
            have q8' : decide ((0 : Int) ≤ (b0 : Int) + 1) = true := decide_eq_true (by omega)
            have z2 := RMy.out.frozen 2
            have z7 := RMy.out.frozen 7
            have c2 : WA.cell? ⟨P, 2, none⟩ = some (.string (bs (namedH T (madeH T 1 a (k + 1)) (a + 1)).type)) := RMy.out.cell rfl
            have c7 : WA.cell? ⟨P, 7, none⟩ = some (.int .i64 (namedH T (madeH T 1 a (k + 1)) (a + 1)).tat) := RMy.out.cell rfl
            obtain ⟨-, tA1, tA2⟩ := HC.out WA By.out (b0 + 1) (by omega)
            have j1 : (b0 : Int) + 1 < (T.length : Int) := by omega
            have j2 : (0 : Int) ≤ (b0 : Int) + 1 := by omega
            have j3 : ((b0 : Int) + 1).toNat = b0 + 1 := by omega
            have HTR := Lib.hid (typed_row (namedH T (madeH T 1 a (k + 1)) (a + 1)) (.slice an nn cn) RMy.out (tokT T (b0 + 1)).text (tokT T (b0 + 1)).at_ rfl)
            go_upto_region 28 with fail
            refine wp_gen (fun W => RowAt W w.heap.size 55 #[.int .i64 0, .string ⟨#[]⟩, .string ⟨#[]⟩, .int .i64 0, .int .i64 0, .int .i64 0, .int .i64 0, .int .i64 0, .slice none 0 0] ∧ RowAt W (w.heap.size + 1) 68 #[.int .i64 0, .int .i64 0] ∧ RowAt W P 55 #[.int .i64 m.hd.kind, .string (bs m.hd.text), .string (bs m.hd.type), .int .i64 m.hd.n, .int .i64 m.hd.fr, .int .i64 m.hd.to_, .int .i64 m.hd.at_, .int .i64 m.hd.tat, .slice an nn cn] ∧ Sup W W1.heap.size (ps.map (·.1)) (.slice an nn cn) F ∧ Below w.heap.size w W) ⟨RowAt.same RGy.out (HTR.out.2.2.1 _ (by omega)), RowAt.same RHy.out (HTR.out.2.2.1 _ (by omega)), by rw [← hm]; exact HTR.out.1, Sy.out.keep (Nat.le_of_eq HTR.out.2.1.symm) (fun b hb => HTR.out.2.2.1 b (hFP.out b hb)), By.out.trans (HTR.out.2.2.2 _ (by omega))⟩ ?_
            clear z2 z7 c2 c7 tA1 tA2 j1 j2 j3 HTR
            rintro WX ⟨g3, h3, m3, s3, b3⟩
            have RGx := Lib.hid g3
            have RHx := Lib.hid h3
            have RMx := Lib.hid m3
            have SS : Hid (Sup WX W1.heap.size m.kids (.slice an nn cn) F) := Lib.hid (by rw [← hm]; exact s3)
            have Bx := Lib.hid b3
            clear g3 h3 m3 s3 b3
            have hne1 : P ≠ w.heap.size := by omega
            have hne2 : P ≠ w.heap.size + 1 := by omega
            have iw : Hid (IntKind.i64.wrap ((k : Int) + 1) = (k : Int) + 1) := Lib.hid (Go.IntWalk.i64_in _ (by omega))
            have z0 := RGx.out.frozen 0
            have z1 := RGx.out.frozen 1
            have z2 := RGx.out.frozen 2
            have z3 := RGx.out.frozen 3
            have z4 := RGx.out.frozen 4
            have z5 := RGx.out.frozen 5
            have z6 := RGx.out.frozen 6
            have z7 := RGx.out.frozen 7
            have z8 := RGx.out.frozen 8
            have y0 := RHx.out.frozen 0
            have y1 := RHx.out.frozen 1
            obtain ⟨r0, r1, r2, r3, r4, r5, r6, r7, r8⟩ := (show Cells WX w.heap.size 0 ⟨0, [], [], 0, 0, 0, 0, 0⟩ (.slice none 0 0) from Cells.row RGx.out)
            simp only [Nat.zero_add] at r1 r2 r3 r4 r5 r6 r7 r8
            have s0 : WX.cell? ⟨w.heap.size + 1, 0, none⟩ = some (.int .i64 0) := RHx.out.cell rfl
            have s1 : WX.cell? ⟨w.heap.size + 1, 1, none⟩ = some (.int .i64 0) := RHx.out.cell rfl
            have F0 : Hid (WX.cell? ⟨P, 0, none⟩ = some (.int .i64 m.hd.kind) ∧ WX.cell? ⟨P, 1, none⟩ = some (.string (bs m.hd.text)) ∧ WX.cell? ⟨P, 2, none⟩ = some (.string (bs m.hd.type)) ∧ WX.cell? ⟨P, 3, none⟩ = some (.int .i64 m.hd.n) ∧ WX.cell? ⟨P, 4, none⟩ = some (.int .i64 m.hd.fr) ∧ WX.cell? ⟨P, 5, none⟩ = some (.int .i64 m.hd.to_) ∧ WX.cell? ⟨P, 6, none⟩ = some (.int .i64 m.hd.at_) ∧ WX.cell? ⟨P, 7, none⟩ = some (.int .i64 m.hd.tat) ∧ WX.cell? ⟨P, 8, none⟩ = some (.slice an nn cn)) := Lib.hid ⟨RMx.out.cell rfl, RMx.out.cell rfl, RMx.out.cell rfl, RMx.out.cell rfl, RMx.out.cell rfl, RMx.out.cell rfl, RMx.out.cell rfl, RMx.out.cell rfl, RMx.out.cell rfl⟩
            have FD : Hid (WX.drew.cell? ⟨P, 0, none⟩ = some (.int .i64 m.hd.kind) ∧ WX.drew.cell? ⟨P, 1, none⟩ = some (.string (bs m.hd.text)) ∧ WX.drew.cell? ⟨P, 2, none⟩ = some (.string (bs m.hd.type)) ∧ WX.drew.cell? ⟨P, 3, none⟩ = some (.int .i64 m.hd.n) ∧ WX.drew.cell? ⟨P, 4, none⟩ = some (.int .i64 m.hd.fr) ∧ WX.drew.cell? ⟨P, 5, none⟩ = some (.int .i64 m.hd.to_) ∧ WX.drew.cell? ⟨P, 6, none⟩ = some (.int .i64 m.hd.at_) ∧ WX.drew.cell? ⟨P, 7, none⟩ = some (.int .i64 m.hd.tat) ∧ WX.drew.cell? ⟨P, 8, none⟩ = some (.slice an nn cn)) := Lib.hid F0.out
            have RGd : Hid (RowAt WX.drew w.heap.size 55 #[.int .i64 0, .string ⟨#[]⟩, .string ⟨#[]⟩, .int .i64 0, .int .i64 0, .int .i64 0, .int .i64 0, .int .i64 0, .slice none 0 0]) := Lib.hid RGx.out
            have RHd : Hid (RowAt WX.drew (w.heap.size + 1) 68 #[.int .i64 0, .int .i64 0]) := Lib.hid RHx.out
            have RMd : Hid (RowAt WX.drew P 55 #[.int .i64 m.hd.kind, .string (bs m.hd.text), .string (bs m.hd.type), .int .i64 m.hd.n, .int .i64 m.hd.fr, .int .i64 m.hd.to_, .int .i64 m.hd.at_, .int .i64 m.hd.tat, .slice an nn cn]) := Lib.hid RMx.out
            have BDd : Hid (Below w.heap.size w WX.drew) := Lib.hid (below_drew Bx.out)
            have SDd : Hid (Sup WX.drew W1.heap.size m.kids (.slice an nn cn) F) := Lib.hid (SS.out.below (below_drew (Below.refl _ _)))
            go_region_held3 (fun W => W.cell? ⟨P, 0, none⟩ = some (.int .i64 m.hd.kind) ∧ W.cell? ⟨P, 1, none⟩ = some (.string (bs m.hd.text)) ∧ W.cell? ⟨P, 2, none⟩ = some (.string (bs m.hd.type)) ∧ W.cell? ⟨P, 3, none⟩ = some (.int .i64 m.hd.n) ∧ W.cell? ⟨P, 4, none⟩ = some (.int .i64 m.hd.fr) ∧ W.cell? ⟨P, 5, none⟩ = some (.int .i64 m.hd.to_) ∧ W.cell? ⟨P, 6, none⟩ = some (.int .i64 m.hd.at_) ∧ W.cell? ⟨P, 7, none⟩ = some (.int .i64 m.hd.tat) ∧ W.cell? ⟨P, 8, none⟩ = some (.slice an nn cn))
              (first | (with_reducible exact F0.out) | (with_reducible exact FD.out) | (with_reducible exact F5.out) | (with_reducible exact F6.out) | (with_reducible exact F7.out))
              (first | (go_at_call 46; ((with_reducible refine (fine_any _).mono ?_); rintro e wf ⟨rfl, bf⟩; have R5 := RMd.out.later bf; have F5 := Lib.hid (show wf.cell? ⟨P, 0, none⟩ = some (.int .i64 m.hd.kind) ∧ wf.cell? ⟨P, 1, none⟩ = some (.string (bs m.hd.text)) ∧ wf.cell? ⟨P, 2, none⟩ = some (.string (bs m.hd.type)) ∧ wf.cell? ⟨P, 3, none⟩ = some (.int .i64 m.hd.n) ∧ wf.cell? ⟨P, 4, none⟩ = some (.int .i64 m.hd.fr) ∧ wf.cell? ⟨P, 5, none⟩ = some (.int .i64 m.hd.to_) ∧ wf.cell? ⟨P, 6, none⟩ = some (.int .i64 m.hd.at_) ∧ wf.cell? ⟨P, 7, none⟩ = some (.int .i64 m.hd.tat) ∧ wf.cell? ⟨P, 8, none⟩ = some (.slice an nn cn) from ⟨R5.cell rfl, R5.cell rfl, R5.cell rfl, R5.cell rfl, R5.cell rfl, R5.cell rfl, R5.cell rfl, R5.cell rfl, R5.cell rfl⟩); have RGf := Lib.hid (RGd.out.later bf); have RHf := Lib.hid (RHd.out.later bf); have F6 := Lib.hid (nineC (RowAt.same R5 ((nine RGf.out m.hd (.slice an nn cn)).2.other P (by omega)))); have N9 := (nine RGf.out m.hd (.slice an nn cn)).2; have F7 := Lib.hid (nineC (((RowAt.same R5 (N9.other P (by omega))).other (c := w.heap.size + 1) (by omega) 0 (.int .i64 (-1))).other (c := w.heap.size + 1) (by omega) 1 (.int .i64 0))); clear N9; have Bf := Lib.hid (BDd.out.trans (bf.mono BDd.out.size)); have Sf := Lib.hid (SDd.out.below bf); have z0 := RGf.out.frozen 0; have z1 := RGf.out.frozen 1; have z2 := RGf.out.frozen 2; have z3 := RGf.out.frozen 3; have z4 := RGf.out.frozen 4; have z5 := RGf.out.frozen 5; have z6 := RGf.out.frozen 6; have z7 := RGf.out.frozen 7; have z8 := RGf.out.frozen 8; have y0 := RHf.out.frozen 0; have y1 := RHf.out.frozen 1; obtain ⟨r0, r1, r2, r3, r4, r5, r6, r7, r8⟩ := (show Cells wf w.heap.size 0 ⟨0, [], [], 0, 0, 0, 0, 0⟩ (.slice none 0 0) from Cells.row RGf.out); simp only [Nat.zero_add] at r1 r2 r3 r4 r5 r6 r7 r8; have s0 : wf.cell? ⟨w.heap.size + 1, 0, none⟩ = some (.int .i64 0) := RHf.out.cell rfl; have s1 : wf.cell? ⟨w.heap.size + 1, 1, none⟩ = some (.int .i64 0) := RHf.out.cell rfl; clear bf R5)))
            all_goals
              go_wp2_with fail
              obtain ⟨k1, k2, k3, k4, k5⟩ := both_rows RGf.out RHf.out (by omega) m.hd (.slice an nn cn) (-1) 0 rfl
              refine fin_node 4 5 6 rfl rfl rfl k1 k2 ⟨⟨an, nn, cn, F, (by show Ending.returned (.tuple #[_, .int .i64 (IntKind.i64.wrap ((k : Int) + 1)), _]) = _; rw [iw.out]; rfl), sup_past Sf.out k3 k4 (by omega) (by omega) B1.out.size⟩, Bf.out.trans (k5 _ (Nat.le_refl _) (by omega))⟩
          | false =>
            rw [q6, if_neg (by decide)] at hr
            obtain ⟨x, hx⟩ : ∃ x, memF f' T k = x := ⟨_, rfl⟩
            have gx := (mem_ok HG.out.e f' k).2
            rw [hx] at hr gx
            cases x with
            | none => cases hr
            | some x =>
            have CX := Lib.hid (fun W hW => ME.out f' k x W hx hk (HT.out W hW))
            clear hx
            go_wp2_with fail
            refine (is_at (s := ⟨#[125]⟩) (HT.out wr B3.out) q6).mono ?_
            rintro e w' ⟨rfl, hw⟩
            have hw := hw.symm
            subst hw
            go_wp2_with fail
            refine (CX.out wr B3.out).mono ?_
            rintro e w4 ⟨hni, b4⟩
            have b34 := Lib.hid b4
            have RG4 := Lib.hid (RG3.out.later b4)
            have RH4 := Lib.hid (RH3.out.later b4)
            have B4 := Lib.hid (B3.out.trans (b4.mono B3.out.size))
            have hs4 := b4.size
            clear b4
            have O4 := Lib.hid (OQ3.out.below b34.out)
            cases x with
            | bad p c =>
              obtain rfl : PR.bad p c = r := Option.some.inj hr
              obtain rfl := hni
              have p1 : decide ((p : Int) ≥ 0) = true := decide_eq_true (by omega)
              have p2 : decide ((0 : Int) ≤ (p : Int)) = true := decide_eq_true (by omega)
              go_wp2_with fail
              refine wp_gen (fun W => RowAt W w.heap.size 55 #[.int .i64 0, .string ⟨#[]⟩, .string ⟨#[]⟩, .int .i64 0, .int .i64 0, .int .i64 0, .int .i64 0, .int .i64 0, .slice none 0 0] ∧ RowAt W (w.heap.size + 1) 68 #[.int .i64 0, .int .i64 0] ∧ RowAt W (w4.heap.size + 1) 68 #[.int .i64 (p : Nat), .int .i64 c] ∧ Below w.heap.size w W) ⟨(RG4.out.alloc _).alloc _, (RH4.out.alloc _).alloc _, row_new (by simp), (B4.out.alloc (by omega) _).alloc (by simp; omega) _⟩ ?_
              rintro W3 ⟨g3, h3, t3, b3⟩
              have z0 := g3.frozen 0
              have z1 := g3.frozen 1
              have z2 := g3.frozen 2
              have z3 := g3.frozen 3
              have z4 := g3.frozen 4
              have z5 := g3.frozen 5
              have z6 := g3.frozen 6
              have z7 := g3.frozen 7
              have z8 := g3.frozen 8
              have y0 := h3.frozen 0
              have y1 := h3.frozen 1
              obtain ⟨r0, r1, r2, r3, r4, r5, r6, r7, r8⟩ := (show Cells W3 w.heap.size 0 ⟨0, [], [], 0, 0, 0, 0, 0⟩ (.slice none 0 0) from Cells.row g3)
              simp only [Nat.zero_add] at r1 r2 r3 r4 r5 r6 r7 r8
              have s0 : W3.cell? ⟨w.heap.size + 1, 0, none⟩ = some (.int .i64 0) := h3.cell rfl
              have s1 : W3.cell? ⟨w.heap.size + 1, 1, none⟩ = some (.int .i64 0) := h3.cell rfl
              have t0 : W3.cell? ⟨(w4.heap.size + 1), 0, none⟩ = some (.int .i64 (p : Nat)) := t3.cell rfl
              have t1 : W3.cell? ⟨(w4.heap.size + 1), 1, none⟩ = some (.int .i64 c) := t3.cell rfl
              have ne1 : (w4.heap.size + 1) ≠ w.heap.size := by omega
              have G3 := Lib.hid g3
              have H3 := Lib.hid h3
              have B3 := Lib.hid b3
              clear g3 h3 t3 b3
              go_region
              all_goals
                go_wp2_with fail
                obtain ⟨k1, k2, k3, k4, k5⟩ := both_rows_d G3.out H3.out (by omega) ⟨0, [], [], 0, 0, 0, 0, 0⟩ (.slice none 0 0) p c rfl
                exact fin_node 4 5 6 rfl rfl rfl k1 k2 ⟨rfl, B3.out.trans (k5 _ (Nat.le_refl _) (by omega))⟩
            | ok m nx =>
              obtain ⟨v1, v2, v3⟩ := gx m nx rfl
              have hr : bindP (clsLF f' T nx (ps.map (·.1) ++ [m])) (fun l m => some (PR.ok (Nd.mk ({ namedH T (madeH T 1 a (m)) (a + 1) with type := (tokT T (b0 + 1)).text, tat := (tokT T (b0 + 1)).at_ } : Hd) l) m)) = some r := hr
              obtain ⟨ka, kn, kc, F, rfl, hsup⟩ := hni
              have HS := Lib.hid hsup
              have p1 : decide ((-1 : Int) ≥ 0) = false := by decide
              clear hsup
              go_upto_region 20 with fail
              refine wp_gen (fun W => RowAt W w.heap.size 55 #[.int .i64 0, .string ⟨#[]⟩, .string ⟨#[]⟩, .int .i64 0, .int .i64 0, .int .i64 0, .int .i64 0, .int .i64 0, .slice none 0 0] ∧ RowAt W (w.heap.size + 1) 68 #[.int .i64 0, .int .i64 0] ∧ RowAt W w4.heap.size 55 #[.int .i64 m.hd.kind, .string (bs m.hd.text), .string (bs m.hd.type), .int .i64 m.hd.n, .int .i64 m.hd.fr, .int .i64 m.hd.to_, .int .i64 m.hd.at_, .int .i64 m.hd.tat, .slice ka kn kc] ∧ Below w4.heap.size w4 W) ⟨(RG4.out.alloc _).alloc _, (RH4.out.alloc _).alloc _, (row_new rfl).alloc _, ((Below.refl _ _).alloc (Nat.le_refl _) _).alloc (by simp) _⟩ ?_
              rintro W5 ⟨g5, h5, m5, b5⟩
              have RG5 := Lib.hid g5
              have RH5 := Lib.hid h5
              have RM5 := Lib.hid m5
              have B5 := Lib.hid (B4.out.trans (b5.mono B4.out.size))
              have S5 := Lib.hid (HS.out.below b5)
              have b45 := Lib.hid b5
              have hs5 := b5.size
              have hm5 := m5.lt
              clear g5 h5 m5 b5
              have OQ5 := Lib.hid (O4.out.below b45.out)
              obtain ⟨d0, d1, d2, d3, d4, d5, d6, d7, d8⟩ := (show Cells W5 w4.heap.size 0 m.hd (.slice ka kn kc) from Cells.row RM5.out)
              simp only [Nat.zero_add] at d1 d2 d3 d4 d5 d6 d7 d8
              obtain ⟨A, hA⟩ : ∃ A, Hid (W5.alloc (.cells #[.int .i64 m.hd.kind, .string (bs m.hd.text), .string (bs m.hd.type), .int .i64 m.hd.n, .int .i64 m.hd.fr, .int .i64 m.hd.to_, .int .i64 m.hd.at_, .int .i64 m.hd.tat, .slice ka kn kc] 55) = A) := ⟨_, Lib.hid rfl⟩
              have bA : Hid (Below W5.heap.size W5 A) := by rw [← hA.out]; exact Lib.hid ((Below.refl _ _).alloc (Nat.le_refl _) _)
              have hsA : A.heap.size = W5.heap.size + 1 := by rw [← hA.out]; simp
              have OA := Lib.hid (OQ5.out.below bA.out)
              have XA : Hid (OwnS (wr.heap.size) A (.slice (some ⟨W5.heap.size, 0, none⟩) 1 1) [(m, Value.slice ka kn kc)]) := Lib.hid (own_build (ps := [(m, Value.slice ka kn kc)]) (by rw [← hA.out]; exact row_new rfl) (by omega) (by show 1 ≤ maxLen; unfold maxLen; omega) (fun p hp => by
                obtain rfl := List.mem_singleton.1 hp
                exact ⟨_, S5.out.below bA.out, fun b hb => by have := (S5.out.1 b hb).2; omega⟩))
              have hlo6 : Hid (∀ b, (Value.slice an nn cn).ownBlock = some b → b < wr.heap.size) := Lib.hid (fun b hb => by have h9 := (OQ3.out.row.lt b hb).2; omega)
              have hPl6 : Hid (∀ b : Nat, wr.heap.size ≤ b → True) := Lib.hid (fun b hb => trivial)
              have RGA := Lib.hid (RG5.out.later bA.out)
              have RHA := Lib.hid (RH5.out.later bA.out)
              have BA := Lib.hid (B5.out.trans (bA.out.mono B5.out.size))
              go_wp2_with (at_builtin; rw [hA.out]; refine wpList_append_q (w := A) (base := W1.heap.size) (lo := wr.heap.size) (P := fun _ => True) rfl _ _ rfl (Value.slice an nn cn) (.slice (some ⟨W5.heap.size, 0, none⟩) 1 1) ps [(m, Value.slice ka kn kc)] rfl OA.out rfl XA.out hlo6.out hPl6.out (by omega) (by simp only [List.length_cons, List.length_nil]; omega) ?_; intro a7 n7 c7 w7 oq7 hg70)
              have hg7 : A.grownBy w7 (Value.slice an nn cn).ownBlock := hg70
              clear hg70
              have OQ7 := Lib.hid oq7
              have hkb : Hid (∀ b, (Value.slice an nn cn).ownBlock = some b → W1.heap.size ≤ b) := Lib.hid (fun b hb => (OQ5.out.row.lt b hb).1)
              have RG7 := Lib.hid (RowAt.same RGA.out (hg7.block _ RGA.out.lt (fun e => by have h9 := hkb.out _ e.symm; have h8 := B1.out.size; omega)))
              have RH7 := Lib.hid (RowAt.same RHA.out (hg7.block _ RHA.out.lt (fun e => by have h9 := hkb.out _ e.symm; have h8 := B1.out.size; omega)))
              have B7 := Lib.hid (BA.out.grown hg7 (by have := BA.out.size; omega) (fun k e => by have h9 := hkb.out _ e; have h8 := B1.out.size; omega))
              have hs7 := hg7.size
              clear oq7 hg7 d0 d1 d2 d3 d4 d5 d6 d7 d8
              exact ⟨⟨f', nx, ps ++ [(m, Value.slice ka kn kc)], rfl, by omega, by omega, v2, by rw [List.length_append, List.length_singleton]; omega, Lib.hid (by rw [List.map_append]; exact hr), RG7, RH7, OQ7, B7⟩, by simp [intOf]; omega⟩
  | false =>
    rw [q3, if_neg (by decide)] at hr
    obtain ⟨b, hb⟩ : ∃ b, a + 2 = b := ⟨_, rfl⟩
    have hcast : (a : Int) + 2 = (b : Nat) := by omega
    have hab : b < T.length := by omega
    rw [hb] at hr q3
    unfold clsBodyF at hr
    replace hr : (if isT T b sBeg = true then bindP (clsLF f T (b + 1) []) (fun l m => some (PR.ok (Nd.mk (namedH T (madeH T 1 a (m)) (a + 1)) l) m)) else some (PR.bad b 120)) = some r := hr
    cases q5 : isT T b sBeg with
    | false =>
      rw [q5, if_neg (by decide)] at hr
      obtain rfl := Option.some.inj hr
      go_enter Tryd.func28, Tryd.ntmps28
      go_wp2_with fail
      refine calls_gen (fun W => RowAt W w.heap.size 55 #[.int .i64 0, .string ⟨#[]⟩, .string ⟨#[]⟩, .int .i64 0, .int .i64 0, .int .i64 0, .int .i64 0, .int .i64 0, .slice none 0 0] ∧ RowAt W (w.heap.size + 1) 68 #[.int .i64 0, .int .i64 0] ∧ Below w.heap.size w W) ⟨(row_new rfl).alloc _, row_new (by simp), ((Below.refl _ w).alloc (Nat.le_refl _) _).alloc (by simp) _⟩ ?_
      rintro W1 ⟨g1, h1, b1⟩
      have RG1 := Lib.hid g1
      have RH1 := Lib.hid h1
      have B1 := Lib.hid b1
      have hlt1 := h1.lt
      clear g1 h1 b1
      refine (is_at (s := ⟨#[99, 108, 97, 115, 115]⟩) (HT.out W1 B1.out) q1).mono ?_
      rintro e w' ⟨rfl, hw⟩
      have hw := hw.symm
      subst hw
      go_wp2_with fail
      refine (name_1 (HT.out W1 B1.out) q2).mono ?_
      rintro e w' ⟨rfl, hw⟩
      have hw := hw.symm
      subst hw
      go_wp2_with fail
      refine (is_at (s := ⟨#[101, 120, 116, 101, 110, 100, 115]⟩) (HT.out W1 B1.out) q3).mono ?_
      rintro e w' ⟨rfl, hw⟩
      have hw := hw.symm
      subst hw
      go_wp2_with fail
      refine (is_at (s := ⟨#[123]⟩) (HT.out W1 B1.out) q5).mono ?_
      rintro e w' ⟨rfl, hw⟩
      have hw := hw.symm
      subst hw
      go_wp2_with fail
      refine (syntax_any _ _).mono ?_
      rintro e w9 ⟨rfl, b9⟩
      have RG9 := RG1.out.later b9
      have RH9 := RH1.out.later b9
      have B9 := B1.out.trans (b9.mono B1.out.size)
      have z0 := RG9.frozen 0
      have z1 := RG9.frozen 1
      have z2 := RG9.frozen 2
      have z3 := RG9.frozen 3
      have z4 := RG9.frozen 4
      have z5 := RG9.frozen 5
      have z6 := RG9.frozen 6
      have z7 := RG9.frozen 7
      have z8 := RG9.frozen 8
      have y0 := RH9.frozen 0
      have y1 := RH9.frozen 1
      obtain ⟨r0, r1, r2, r3, r4, r5, r6, r7, r8⟩ := (show Cells w9 w.heap.size 0 ⟨0, [], [], 0, 0, 0, 0, 0⟩ (.slice none 0 0) from Cells.row RG9)
      simp only [Nat.zero_add] at r1 r2 r3 r4 r5 r6 r7 r8
      have s0 : w9.cell? ⟨w.heap.size + 1, 0, none⟩ = some (.int .i64 0) := RH9.cell rfl
      have s1 : w9.cell? ⟨w.heap.size + 1, 1, none⟩ = some (.int .i64 0) := RH9.cell rfl
      have RG9' := Lib.hid RG9
      have RH9' := Lib.hid RH9
      have B9' := Lib.hid B9
      clear RG9 RH9 B9 b9
      go_wp2_with fail
      obtain ⟨k1, k2, k3, k4, k5⟩ := both_rows RG9'.out RH9'.out (by omega) ⟨0, [], [], 0, 0, 0, 0, 0⟩ (.slice none 0 0) ((b : Nat) : Int) 120 rfl
      exact fin_node 4 5 6 rfl rfl rfl k1 k2 ⟨rfl, B9'.out.trans (k5 _ (Nat.le_refl _) (by omega))⟩
    | true =>
      rw [q5, if_pos rfl] at hr
      have hb1 : b + 1 < T.length := isT_lt HG.out.e q5
      have Hr := Lib.hid hr
      clear hr
      go_enter Tryd.func28, Tryd.ntmps28
      go_wp2_with fail
      refine calls_gen (fun W => RowAt W w.heap.size 55 #[.int .i64 0, .string ⟨#[]⟩, .string ⟨#[]⟩, .int .i64 0, .int .i64 0, .int .i64 0, .int .i64 0, .int .i64 0, .slice none 0 0] ∧ RowAt W (w.heap.size + 1) 68 #[.int .i64 0, .int .i64 0] ∧ Below w.heap.size w W) ⟨(row_new rfl).alloc _, row_new (by simp), ((Below.refl _ w).alloc (Nat.le_refl _) _).alloc (by simp) _⟩ ?_
      rintro W1 ⟨g1, h1, b1⟩
      have RG1 := Lib.hid g1
      have RH1 := Lib.hid h1
      have B1 := Lib.hid b1
      have hlt1 := h1.lt
      clear g1 h1 b1
      refine (is_at (s := ⟨#[99, 108, 97, 115, 115]⟩) (HT.out W1 B1.out) q1).mono ?_
      rintro e w' ⟨rfl, hw⟩
      have hw := hw.symm
      subst hw
      go_wp2_with fail
      refine (name_1 (HT.out W1 B1.out) q2).mono ?_
      rintro e w' ⟨rfl, hw⟩
      have hw := hw.symm
      subst hw
      go_wp2_with fail
      refine (is_at (s := ⟨#[101, 120, 116, 101, 110, 100, 115]⟩) (HT.out W1 B1.out) q3).mono ?_
      rintro e w' ⟨rfl, hw⟩
      have hw := hw.symm
      subst hw
      go_wp2_with fail
      refine (is_at (s := ⟨#[123]⟩) (HT.out W1 B1.out) q5).mono ?_
      rintro e w' ⟨rfl, hw⟩
      have hw := hw.symm
      subst hw
      have OQ1 : Hid (OwnQ (fun _ => True) W1.heap.size W1 (.slice none 0 0) []) := Lib.hid (OwnQ.nil (Nat.le_refl _))
      go_wp2_with fail
      go_loopw [7, 9] (fun c ov wr => ∃ (f' k : Nat) (ps : List Pr), c = .int .i64 k ∧ f' ≤ f ∧ b < k ∧ k < T.length ∧ ps.length ≤ k ∧ Hid (bindP (clsLF f' T k (ps.map (·.1))) (fun l m => some (PR.ok (Nd.mk (namedH T (madeH T 1 a (m)) (a + 1)) l) m)) = some r) ∧ Hid (RowAt wr w.heap.size 55 #[.int .i64 0, .string ⟨#[]⟩, .string ⟨#[]⟩, .int .i64 0, .int .i64 0, .int .i64 0, .int .i64 0, .int .i64 0, .slice none 0 0]) ∧ Hid (RowAt wr (w.heap.size + 1) 68 #[.int .i64 0, .int .i64 0]) ∧ Hid (OwnQ (fun _ => True) W1.heap.size wr ov ps) ∧ Hid (Below w.heap.size w wr)) (fun c _ _ => T.length - (intOf c).toNat)
      case atStart => exact ⟨f, b + 1, [], rfl, Nat.le_refl _, by omega, hb1, Nat.zero_le _, Hr, RG1, RH1, OQ1, B1⟩
      case round =>
        obtain ⟨f', k, ps, rfl, hf', hak, hk, hpk, hrl, RG3, RH3, OQ3, B3⟩ := hrel
        obtain ⟨an, nn, cn, rfl⟩ := ownq_slice OQ3.out
        have hbase := OQ3.out.bas
        cases f' with
        | zero => have := hrl.out; unfold clsLF at this; cases this
        | succ f' =>
        have hr := hrl.out
        unfold clsLF at hr
        clear hrl
        cases q6 : isT T k sEnd with
        | true =>
          rw [q6, if_pos rfl] at hr
          have hk1 : k + 1 < T.length := isT_lt HG.out.e q6
          have hr : some (PR.ok (Nd.mk (namedH T (madeH T 1 a (k + 1)) (a + 1)) (ps.map (·.1))) (k + 1)) = some r := hr
          obtain ⟨m, hm⟩ : ∃ m, (Nd.mk (namedH T (madeH T 1 a (k + 1)) (a + 1)) (ps.map (·.1))) = m := ⟨_, rfl⟩
          rw [hm] at hr
          obtain rfl := Option.some.inj hr
          go_wp2_with fail
          refine (is_at (s := ⟨#[125]⟩) (HT.out wr B3.out) q6).mono ?_
          rintro e w' ⟨rfl, hw⟩
          have hw := hw.symm
          subst hw
          go_wp2_with fail
          obtain ⟨F, s1, -⟩ := OQ3.out.kids
          refine (made_at (.slice (some ⟨tb, to_, none⟩) T.length cv) an nn cn T HG.out 1 a (k + 1) (by omega) (by omega) (by omega) wr (HT.out wr B3.out)).mono ?_
          rintro e w8 ⟨rfl, b8⟩
          have RG8 := Lib.hid (RG3.out.later b8)
          have RH8 := Lib.hid (RH3.out.later b8)
          have B8 := Lib.hid (B3.out.trans (b8.mono B3.out.size))
          have S8 := Lib.hid (s1.below b8)
          have hs8 := b8.size
          clear b8 s1
          obtain ⟨P, hP⟩ : ∃ P, w8.heap.size = P := ⟨_, rfl⟩
          have hPl : w.heap.size + 2 ≤ P := by have := B1.out.size; omega
          go_upto_region 23 with fail
          refine wp_gen (fun W => RowAt W w.heap.size 55 #[.int .i64 0, .string ⟨#[]⟩, .string ⟨#[]⟩, .int .i64 0, .int .i64 0, .int .i64 0, .int .i64 0, .int .i64 0, .slice none 0 0] ∧ RowAt W (w.heap.size + 1) 68 #[.int .i64 0, .int .i64 0] ∧ RowAt W w8.heap.size 55 ((madeH T 1 a (k + 1)).vals (.slice an nn cn)) ∧ Sup W W1.heap.size (ps.map (·.1)) (.slice an nn cn) F ∧ Below w.heap.size w W) ⟨RG8.out.alloc _, RH8.out.alloc _, row_new rfl, S8.out.below ((Below.refl _ _).alloc (Nat.le_refl _) _), B8.out.alloc (by omega) _⟩ ?_
          rintro W9 ⟨g3, h3, m3, s3, b3⟩
          have hFP : Hid (∀ b, F b → b ≠ P) := Lib.hid (fun b hb => by have := (S8.out.1 b hb).2; omega)
          rw [hP] at m3
          have RGz := Lib.hid g3
          have RHz := Lib.hid h3
          have RMz := Lib.hid m3
          have Sz := Lib.hid s3
          have Bz := Lib.hid b3
          clear g3 h3 m3 s3 b3
          have z1 := RMz.out.frozen 1
          have z6 := RMz.out.frozen 6
          have c1 : W9.cell? ⟨P, 1, none⟩ = some (.string (bs (madeH T 1 a (k + 1)).text)) := RMz.out.cell rfl
          have c6 : W9.cell? ⟨P, 6, none⟩ = some (.int .i64 (madeH T 1 a (k + 1)).at_) := RMz.out.cell rfl
          obtain ⟨-, tA1, tA2⟩ := HC.out W9 Bz.out (a + 1) (by omega)
          have htb : tb < w.heap.size := cell_lt ((HC.out w (Below.refl _ _) 0 HG.out.e.pos).2.1)
          have neP : tb ≠ P := by omega
          have j1 : (a : Int) + 1 < (T.length : Int) := by omega
          have j2 : (0 : Int) ≤ (a : Int) + 1 := by omega
          have j3 : ((a : Int) + 1).toNat = a + 1 := by omega
          have HNR := Lib.hid (named_row (vs := #[]) (madeH T 1 a (k + 1)) (.slice an nn cn) RMz.out (tokT T (a + 1)).text (tokT T (a + 1)).at_ rfl)
          go_upto_region 25 with fail
          refine wp_gen (fun W => RowAt W w.heap.size 55 #[.int .i64 0, .string ⟨#[]⟩, .string ⟨#[]⟩, .int .i64 0, .int .i64 0, .int .i64 0, .int .i64 0, .int .i64 0, .slice none 0 0] ∧ RowAt W (w.heap.size + 1) 68 #[.int .i64 0, .int .i64 0] ∧ RowAt W P 55 ((namedH T (madeH T 1 a (k + 1)) (a + 1)).vals (.slice an nn cn)) ∧ Sup W W1.heap.size (ps.map (·.1)) (.slice an nn cn) F ∧ Below w.heap.size w W) ⟨RowAt.same RGz.out (HNR.out.2.2.1 _ (by omega)), RowAt.same RHz.out (HNR.out.2.2.1 _ (by omega)), HNR.out.1, Sz.out.keep (Nat.le_of_eq HNR.out.2.1.symm) (fun b hb => HNR.out.2.2.1 b (hFP.out b hb)), Bz.out.trans (HNR.out.2.2.2 _ (by omega))⟩ ?_
          clear z1 z6 c1 c6 tA1 tA2 j1 j2 j3 HNR
          rintro WA ⟨g3, h3, m3, s3, b3⟩
          have RGy := Lib.hid g3
          have RHy := Lib.hid h3
          have RMy := Lib.hid m3
          have Sy := Lib.hid s3
          have By := Lib.hid b3
          clear g3 h3 m3 s3 b3
          have q8 : decide ((-1 : Int) ≥ 0) = false := by decide
          have q8' : decide ((0 : Int) ≤ (-1 : Int)) = false := by decide
          go_upto_region 28 with fail
          refine wp_gen (fun W => RowAt W w.heap.size 55 #[.int .i64 0, .string ⟨#[]⟩, .string ⟨#[]⟩, .int .i64 0, .int .i64 0, .int .i64 0, .int .i64 0, .int .i64 0, .slice none 0 0] ∧ RowAt W (w.heap.size + 1) 68 #[.int .i64 0, .int .i64 0] ∧ RowAt W P 55 #[.int .i64 m.hd.kind, .string (bs m.hd.text), .string (bs m.hd.type), .int .i64 m.hd.n, .int .i64 m.hd.fr, .int .i64 m.hd.to_, .int .i64 m.hd.at_, .int .i64 m.hd.tat, .slice an nn cn] ∧ Sup W W1.heap.size (ps.map (·.1)) (.slice an nn cn) F ∧ Below w.heap.size w W) ⟨RGy.out, RHy.out, by rw [← hm]; exact RMy.out, Sy.out, By.out⟩ ?_
          rintro WX ⟨g3, h3, m3, s3, b3⟩
          have RGx := Lib.hid g3
          have RHx := Lib.hid h3
          have RMx := Lib.hid m3
          have SS : Hid (Sup WX W1.heap.size m.kids (.slice an nn cn) F) := Lib.hid (by rw [← hm]; exact s3)
          have Bx := Lib.hid b3
          clear g3 h3 m3 s3 b3
          have hne1 : P ≠ w.heap.size := by omega
          have hne2 : P ≠ w.heap.size + 1 := by omega
          have iw : Hid (IntKind.i64.wrap ((k : Int) + 1) = (k : Int) + 1) := Lib.hid (Go.IntWalk.i64_in _ (by omega))
          have z0 := RGx.out.frozen 0
          have z1 := RGx.out.frozen 1
          have z2 := RGx.out.frozen 2
          have z3 := RGx.out.frozen 3
          have z4 := RGx.out.frozen 4
          have z5 := RGx.out.frozen 5
          have z6 := RGx.out.frozen 6
          have z7 := RGx.out.frozen 7
          have z8 := RGx.out.frozen 8
          have y0 := RHx.out.frozen 0
          have y1 := RHx.out.frozen 1
          obtain ⟨r0, r1, r2, r3, r4, r5, r6, r7, r8⟩ := (show Cells WX w.heap.size 0 ⟨0, [], [], 0, 0, 0, 0, 0⟩ (.slice none 0 0) from Cells.row RGx.out)
          simp only [Nat.zero_add] at r1 r2 r3 r4 r5 r6 r7 r8
          have s0 : WX.cell? ⟨w.heap.size + 1, 0, none⟩ = some (.int .i64 0) := RHx.out.cell rfl
          have s1 : WX.cell? ⟨w.heap.size + 1, 1, none⟩ = some (.int .i64 0) := RHx.out.cell rfl
          have F0 : Hid (WX.cell? ⟨P, 0, none⟩ = some (.int .i64 m.hd.kind) ∧ WX.cell? ⟨P, 1, none⟩ = some (.string (bs m.hd.text)) ∧ WX.cell? ⟨P, 2, none⟩ = some (.string (bs m.hd.type)) ∧ WX.cell? ⟨P, 3, none⟩ = some (.int .i64 m.hd.n) ∧ WX.cell? ⟨P, 4, none⟩ = some (.int .i64 m.hd.fr) ∧ WX.cell? ⟨P, 5, none⟩ = some (.int .i64 m.hd.to_) ∧ WX.cell? ⟨P, 6, none⟩ = some (.int .i64 m.hd.at_) ∧ WX.cell? ⟨P, 7, none⟩ = some (.int .i64 m.hd.tat) ∧ WX.cell? ⟨P, 8, none⟩ = some (.slice an nn cn)) := Lib.hid ⟨RMx.out.cell rfl, RMx.out.cell rfl, RMx.out.cell rfl, RMx.out.cell rfl, RMx.out.cell rfl, RMx.out.cell rfl, RMx.out.cell rfl, RMx.out.cell rfl, RMx.out.cell rfl⟩
          have FD : Hid (WX.drew.cell? ⟨P, 0, none⟩ = some (.int .i64 m.hd.kind) ∧ WX.drew.cell? ⟨P, 1, none⟩ = some (.string (bs m.hd.text)) ∧ WX.drew.cell? ⟨P, 2, none⟩ = some (.string (bs m.hd.type)) ∧ WX.drew.cell? ⟨P, 3, none⟩ = some (.int .i64 m.hd.n) ∧ WX.drew.cell? ⟨P, 4, none⟩ = some (.int .i64 m.hd.fr) ∧ WX.drew.cell? ⟨P, 5, none⟩ = some (.int .i64 m.hd.to_) ∧ WX.drew.cell? ⟨P, 6, none⟩ = some (.int .i64 m.hd.at_) ∧ WX.drew.cell? ⟨P, 7, none⟩ = some (.int .i64 m.hd.tat) ∧ WX.drew.cell? ⟨P, 8, none⟩ = some (.slice an nn cn)) := Lib.hid F0.out
          have RGd : Hid (RowAt WX.drew w.heap.size 55 #[.int .i64 0, .string ⟨#[]⟩, .string ⟨#[]⟩, .int .i64 0, .int .i64 0, .int .i64 0, .int .i64 0, .int .i64 0, .slice none 0 0]) := Lib.hid RGx.out
          have RHd : Hid (RowAt WX.drew (w.heap.size + 1) 68 #[.int .i64 0, .int .i64 0]) := Lib.hid RHx.out
          have RMd : Hid (RowAt WX.drew P 55 #[.int .i64 m.hd.kind, .string (bs m.hd.text), .string (bs m.hd.type), .int .i64 m.hd.n, .int .i64 m.hd.fr, .int .i64 m.hd.to_, .int .i64 m.hd.at_, .int .i64 m.hd.tat, .slice an nn cn]) := Lib.hid RMx.out
          have BDd : Hid (Below w.heap.size w WX.drew) := Lib.hid (below_drew Bx.out)
          have SDd : Hid (Sup WX.drew W1.heap.size m.kids (.slice an nn cn) F) := Lib.hid (SS.out.below (below_drew (Below.refl _ _)))
          go_region_held3 (fun W => W.cell? ⟨P, 0, none⟩ = some (.int .i64 m.hd.kind) ∧ W.cell? ⟨P, 1, none⟩ = some (.string (bs m.hd.text)) ∧ W.cell? ⟨P, 2, none⟩ = some (.string (bs m.hd.type)) ∧ W.cell? ⟨P, 3, none⟩ = some (.int .i64 m.hd.n) ∧ W.cell? ⟨P, 4, none⟩ = some (.int .i64 m.hd.fr) ∧ W.cell? ⟨P, 5, none⟩ = some (.int .i64 m.hd.to_) ∧ W.cell? ⟨P, 6, none⟩ = some (.int .i64 m.hd.at_) ∧ W.cell? ⟨P, 7, none⟩ = some (.int .i64 m.hd.tat) ∧ W.cell? ⟨P, 8, none⟩ = some (.slice an nn cn))
            (first | (with_reducible exact F0.out) | (with_reducible exact FD.out) | (with_reducible exact F5.out) | (with_reducible exact F6.out) | (with_reducible exact F7.out))
            (first | (go_at_call 46; ((with_reducible refine (fine_any _).mono ?_); rintro e wf ⟨rfl, bf⟩; have R5 := RMd.out.later bf; have F5 := Lib.hid (show wf.cell? ⟨P, 0, none⟩ = some (.int .i64 m.hd.kind) ∧ wf.cell? ⟨P, 1, none⟩ = some (.string (bs m.hd.text)) ∧ wf.cell? ⟨P, 2, none⟩ = some (.string (bs m.hd.type)) ∧ wf.cell? ⟨P, 3, none⟩ = some (.int .i64 m.hd.n) ∧ wf.cell? ⟨P, 4, none⟩ = some (.int .i64 m.hd.fr) ∧ wf.cell? ⟨P, 5, none⟩ = some (.int .i64 m.hd.to_) ∧ wf.cell? ⟨P, 6, none⟩ = some (.int .i64 m.hd.at_) ∧ wf.cell? ⟨P, 7, none⟩ = some (.int .i64 m.hd.tat) ∧ wf.cell? ⟨P, 8, none⟩ = some (.slice an nn cn) from ⟨R5.cell rfl, R5.cell rfl, R5.cell rfl, R5.cell rfl, R5.cell rfl, R5.cell rfl, R5.cell rfl, R5.cell rfl, R5.cell rfl⟩); have RGf := Lib.hid (RGd.out.later bf); have RHf := Lib.hid (RHd.out.later bf); have F6 := Lib.hid (nineC (RowAt.same R5 ((nine RGf.out m.hd (.slice an nn cn)).2.other P (by omega)))); have N9 := (nine RGf.out m.hd (.slice an nn cn)).2; have F7 := Lib.hid (nineC (((RowAt.same R5 (N9.other P (by omega))).other (c := w.heap.size + 1) (by omega) 0 (.int .i64 (-1))).other (c := w.heap.size + 1) (by omega) 1 (.int .i64 0))); clear N9; have Bf := Lib.hid (BDd.out.trans (bf.mono BDd.out.size)); have Sf := Lib.hid (SDd.out.below bf); have z0 := RGf.out.frozen 0; have z1 := RGf.out.frozen 1; have z2 := RGf.out.frozen 2; have z3 := RGf.out.frozen 3; have z4 := RGf.out.frozen 4; have z5 := RGf.out.frozen 5; have z6 := RGf.out.frozen 6; have z7 := RGf.out.frozen 7; have z8 := RGf.out.frozen 8; have y0 := RHf.out.frozen 0; have y1 := RHf.out.frozen 1; obtain ⟨r0, r1, r2, r3, r4, r5, r6, r7, r8⟩ := (show Cells wf w.heap.size 0 ⟨0, [], [], 0, 0, 0, 0, 0⟩ (.slice none 0 0) from Cells.row RGf.out); simp only [Nat.zero_add] at r1 r2 r3 r4 r5 r6 r7 r8; have s0 : wf.cell? ⟨w.heap.size + 1, 0, none⟩ = some (.int .i64 0) := RHf.out.cell rfl; have s1 : wf.cell? ⟨w.heap.size + 1, 1, none⟩ = some (.int .i64 0) := RHf.out.cell rfl; clear bf R5)))
          all_goals
            go_wp2_with fail
            obtain ⟨k1, k2, k3, k4, k5⟩ := both_rows RGf.out RHf.out (by omega) m.hd (.slice an nn cn) (-1) 0 rfl
            refine fin_node 4 5 6 rfl rfl rfl k1 k2 ⟨⟨an, nn, cn, F, (by show Ending.returned (.tuple #[_, .int .i64 (IntKind.i64.wrap ((k : Int) + 1)), _]) = _; rw [iw.out]; rfl), sup_past Sf.out k3 k4 (by omega) (by omega) B1.out.size⟩, Bf.out.trans (k5 _ (Nat.le_refl _) (by omega))⟩
        | false =>
          rw [q6, if_neg (by decide)] at hr
          obtain ⟨x, hx⟩ : ∃ x, memF f' T k = x := ⟨_, rfl⟩
          have gx := (mem_ok HG.out.e f' k).2
          rw [hx] at hr gx
          cases x with
          | none => cases hr
          | some x =>
          have CX := Lib.hid (fun W hW => ME.out f' k x W hx hk (HT.out W hW))
          clear hx
          go_wp2_with fail
          refine (is_at (s := ⟨#[125]⟩) (HT.out wr B3.out) q6).mono ?_
          rintro e w' ⟨rfl, hw⟩
          have hw := hw.symm
          subst hw
          go_wp2_with fail
          refine (CX.out wr B3.out).mono ?_
          rintro e w4 ⟨hni, b4⟩
          have b34 := Lib.hid b4
          have RG4 := Lib.hid (RG3.out.later b4)
          have RH4 := Lib.hid (RH3.out.later b4)
          have B4 := Lib.hid (B3.out.trans (b4.mono B3.out.size))
          have hs4 := b4.size
          clear b4
          have O4 := Lib.hid (OQ3.out.below b34.out)
          cases x with
          | bad p c =>
            obtain rfl : PR.bad p c = r := Option.some.inj hr
            obtain rfl := hni
            have p1 : decide ((p : Int) ≥ 0) = true := decide_eq_true (by omega)
            have p2 : decide ((0 : Int) ≤ (p : Int)) = true := decide_eq_true (by omega)
            go_wp2_with fail
            refine wp_gen (fun W => RowAt W w.heap.size 55 #[.int .i64 0, .string ⟨#[]⟩, .string ⟨#[]⟩, .int .i64 0, .int .i64 0, .int .i64 0, .int .i64 0, .int .i64 0, .slice none 0 0] ∧ RowAt W (w.heap.size + 1) 68 #[.int .i64 0, .int .i64 0] ∧ RowAt W (w4.heap.size + 1) 68 #[.int .i64 (p : Nat), .int .i64 c] ∧ Below w.heap.size w W) ⟨(RG4.out.alloc _).alloc _, (RH4.out.alloc _).alloc _, row_new (by simp), (B4.out.alloc (by omega) _).alloc (by simp; omega) _⟩ ?_
            rintro W3 ⟨g3, h3, t3, b3⟩
            have z0 := g3.frozen 0
            have z1 := g3.frozen 1
            have z2 := g3.frozen 2
            have z3 := g3.frozen 3
            have z4 := g3.frozen 4
            have z5 := g3.frozen 5
            have z6 := g3.frozen 6
            have z7 := g3.frozen 7
            have z8 := g3.frozen 8
            have y0 := h3.frozen 0
            have y1 := h3.frozen 1
            obtain ⟨r0, r1, r2, r3, r4, r5, r6, r7, r8⟩ := (show Cells W3 w.heap.size 0 ⟨0, [], [], 0, 0, 0, 0, 0⟩ (.slice none 0 0) from Cells.row g3)
            simp only [Nat.zero_add] at r1 r2 r3 r4 r5 r6 r7 r8
            have s0 : W3.cell? ⟨w.heap.size + 1, 0, none⟩ = some (.int .i64 0) := h3.cell rfl
            have s1 : W3.cell? ⟨w.heap.size + 1, 1, none⟩ = some (.int .i64 0) := h3.cell rfl
            have t0 : W3.cell? ⟨(w4.heap.size + 1), 0, none⟩ = some (.int .i64 (p : Nat)) := t3.cell rfl
            have t1 : W3.cell? ⟨(w4.heap.size + 1), 1, none⟩ = some (.int .i64 c) := t3.cell rfl
            have ne1 : (w4.heap.size + 1) ≠ w.heap.size := by omega
            have G3 := Lib.hid g3
            have H3 := Lib.hid h3
            have B3 := Lib.hid b3
            clear g3 h3 t3 b3
            go_region
            all_goals
              go_wp2_with fail
              obtain ⟨k1, k2, k3, k4, k5⟩ := both_rows_d G3.out H3.out (by omega) ⟨0, [], [], 0, 0, 0, 0, 0⟩ (.slice none 0 0) p c rfl
              exact fin_node 4 5 6 rfl rfl rfl k1 k2 ⟨rfl, B3.out.trans (k5 _ (Nat.le_refl _) (by omega))⟩
          | ok m nx =>
            obtain ⟨v1, v2, v3⟩ := gx m nx rfl
            have hr : bindP (clsLF f' T nx (ps.map (·.1) ++ [m])) (fun l m => some (PR.ok (Nd.mk (namedH T (madeH T 1 a (m)) (a + 1)) l) m)) = some r := hr
            obtain ⟨ka, kn, kc, F, rfl, hsup⟩ := hni
            have HS := Lib.hid hsup
            have p1 : decide ((-1 : Int) ≥ 0) = false := by decide
            clear hsup
            go_upto_region 20 with fail
            refine wp_gen (fun W => RowAt W w.heap.size 55 #[.int .i64 0, .string ⟨#[]⟩, .string ⟨#[]⟩, .int .i64 0, .int .i64 0, .int .i64 0, .int .i64 0, .int .i64 0, .slice none 0 0] ∧ RowAt W (w.heap.size + 1) 68 #[.int .i64 0, .int .i64 0] ∧ RowAt W w4.heap.size 55 #[.int .i64 m.hd.kind, .string (bs m.hd.text), .string (bs m.hd.type), .int .i64 m.hd.n, .int .i64 m.hd.fr, .int .i64 m.hd.to_, .int .i64 m.hd.at_, .int .i64 m.hd.tat, .slice ka kn kc] ∧ Below w4.heap.size w4 W) ⟨(RG4.out.alloc _).alloc _, (RH4.out.alloc _).alloc _, (row_new rfl).alloc _, ((Below.refl _ _).alloc (Nat.le_refl _) _).alloc (by simp) _⟩ ?_
            rintro W5 ⟨g5, h5, m5, b5⟩
            have RG5 := Lib.hid g5
            have RH5 := Lib.hid h5
            have RM5 := Lib.hid m5
            have B5 := Lib.hid (B4.out.trans (b5.mono B4.out.size))
            have S5 := Lib.hid (HS.out.below b5)
            have b45 := Lib.hid b5
            have hs5 := b5.size
            have hm5 := m5.lt
            clear g5 h5 m5 b5
            have OQ5 := Lib.hid (O4.out.below b45.out)
            obtain ⟨d0, d1, d2, d3, d4, d5, d6, d7, d8⟩ := (show Cells W5 w4.heap.size 0 m.hd (.slice ka kn kc) from Cells.row RM5.out)
            simp only [Nat.zero_add] at d1 d2 d3 d4 d5 d6 d7 d8
            obtain ⟨A, hA⟩ : ∃ A, Hid (W5.alloc (.cells #[.int .i64 m.hd.kind, .string (bs m.hd.text), .string (bs m.hd.type), .int .i64 m.hd.n, .int .i64 m.hd.fr, .int .i64 m.hd.to_, .int .i64 m.hd.at_, .int .i64 m.hd.tat, .slice ka kn kc] 55) = A) := ⟨_, Lib.hid rfl⟩
            have bA : Hid (Below W5.heap.size W5 A) := by rw [← hA.out]; exact Lib.hid ((Below.refl _ _).alloc (Nat.le_refl _) _)
            have hsA : A.heap.size = W5.heap.size + 1 := by rw [← hA.out]; simp
            have OA := Lib.hid (OQ5.out.below bA.out)
            have XA : Hid (OwnS (wr.heap.size) A (.slice (some ⟨W5.heap.size, 0, none⟩) 1 1) [(m, Value.slice ka kn kc)]) := Lib.hid (own_build (ps := [(m, Value.slice ka kn kc)]) (by rw [← hA.out]; exact row_new rfl) (by omega) (by show 1 ≤ maxLen; unfold maxLen; omega) (fun p hp => by
              obtain rfl := List.mem_singleton.1 hp
              exact ⟨_, S5.out.below bA.out, fun b hb => by have := (S5.out.1 b hb).2; omega⟩))
            have hlo6 : Hid (∀ b, (Value.slice an nn cn).ownBlock = some b → b < wr.heap.size) := Lib.hid (fun b hb => by have h9 := (OQ3.out.row.lt b hb).2; omega)
            have hPl6 : Hid (∀ b : Nat, wr.heap.size ≤ b → True) := Lib.hid (fun b hb => trivial)
            have RGA := Lib.hid (RG5.out.later bA.out)
            have RHA := Lib.hid (RH5.out.later bA.out)
            have BA := Lib.hid (B5.out.trans (bA.out.mono B5.out.size))
            go_wp2_with (at_builtin; rw [hA.out]; refine wpList_append_q (w := A) (base := W1.heap.size) (lo := wr.heap.size) (P := fun _ => True) rfl _ _ rfl (Value.slice an nn cn) (.slice (some ⟨W5.heap.size, 0, none⟩) 1 1) ps [(m, Value.slice ka kn kc)] rfl OA.out rfl XA.out hlo6.out hPl6.out (by omega) (by simp only [List.length_cons, List.length_nil]; omega) ?_; intro a7 n7 c7 w7 oq7 hg70)
            have hg7 : A.grownBy w7 (Value.slice an nn cn).ownBlock := hg70
            clear hg70
            have OQ7 := Lib.hid oq7
            have hkb : Hid (∀ b, (Value.slice an nn cn).ownBlock = some b → W1.heap.size ≤ b) := Lib.hid (fun b hb => (OQ5.out.row.lt b hb).1)
            have RG7 := Lib.hid (RowAt.same RGA.out (hg7.block _ RGA.out.lt (fun e => by have h9 := hkb.out _ e.symm; have h8 := B1.out.size; omega)))
            have RH7 := Lib.hid (RowAt.same RHA.out (hg7.block _ RHA.out.lt (fun e => by have h9 := hkb.out _ e.symm; have h8 := B1.out.size; omega)))
            have B7 := Lib.hid (BA.out.grown hg7 (by have := BA.out.size; omega) (fun k e => by have h9 := hkb.out _ e; have h8 := B1.out.size; omega))
            have hs7 := hg7.size
            clear oq7 hg7 d0 d1 d2 d3 d4 d5 d6 d7 d8
            exact ⟨⟨f', nx, ps ++ [(m, Value.slice ka kn kc)], rfl, by omega, by omega, v2, by rw [List.length_append, List.length_singleton]; omega, Lib.hid (by rw [List.map_append]; exact hr), RG7, RH7, OQ7, B7⟩, by simp [intOf]; omega⟩
end Go.Proofs.YtbnbmjdjkadgoaaDoor.X
