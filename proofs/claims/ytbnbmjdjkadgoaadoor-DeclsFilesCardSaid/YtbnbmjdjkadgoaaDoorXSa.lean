/-
  For the laws on the parser: statements. Condition: the tokens are a text's.
-/
import Derived.Test.YtbnbmjdjkadgoaaDoorXRj
namespace Go.Proofs.YtbnbmjdjkadgoaaDoor.X
open Go.RowKit Go.Shelf
set_option linter.unusedSimpArgs false
set_option linter.unusedVariables false

set_option maxRecDepth 100000 in
set_option maxHeartbeats 16000000 in
theorem statement_any (v : Value) (T : List Tk) (hT : GoodT T) (f : Nat) (ih : ∀ f', f' ≤ f → StSpec v T f') (a d : Nat) (r : PR Nd) (w : World) (hr : stF (f + 1) T a d = some r) (ha : a < T.length) (hd : d ≤ 70) (h : Toks w v T) :
    Calls Tryd.prog 65 #[v, .int .i64 (a : Nat), .int .i64 (d : Nat)] w fun e w' => NodeIs r w.heap.size e w' ∧ Below w.heap.size w w' := by
  have EX := Lib.hid (expr_all v T hT f)
  have SM := Lib.hid (simple_any v T hT f (expr_all v T hT f))
  have HT := Lib.hid (fun W (hW : Below w.heap.size w W) => h.below hW)
  have HG := Lib.hid hT
  have hTl := hT.len
  obtain ⟨tb, to_, cv, rfl, -, -, hcell⟩ := h.fix hT.e.pos
  have HC := Lib.hid hcell
  clear h hcell
  have Ih := Lib.hid ih
  clear ih hT
  unfold stF at hr
  by_cases h60 : 60 < d
  · rw [if_pos h60] at hr
    obtain rfl := Option.some.inj hr
    have q0 : decide ((d : Int) > 60) = true := decide_eq_true (by omega)
    have q0' : decide (60 < d) = true := decide_eq_true h60
    go_enter Tryd.func65, Tryd.ntmps65
    go_upto_region 2 with fail
    refine wp_gen (fun W => RowAt W w.heap.size 55 #[.int .i64 0, .string ⟨#[]⟩, .string ⟨#[]⟩, .int .i64 0, .int .i64 0, .int .i64 0, .int .i64 0, .int .i64 0, .slice none 0 0] ∧ RowAt W (w.heap.size + 1) 68 #[.int .i64 0, .int .i64 0] ∧ Below w.heap.size w W) ⟨(row_new rfl).alloc _, row_new (by simp), ((Below.refl _ w).alloc (Nat.le_refl _) _).alloc (by simp) _⟩ ?_
    rintro W1 ⟨g1, h1, b1⟩
    have RG1 := Lib.hid g1
    have RH1 := Lib.hid h1
    have B1 := Lib.hid b1
    have hlt1 := h1.lt
    clear g1 h1 b1
    have z0 := RG1.out.frozen 0
    have z1 := RG1.out.frozen 1
    have z2 := RG1.out.frozen 2
    have z3 := RG1.out.frozen 3
    have z4 := RG1.out.frozen 4
    have z5 := RG1.out.frozen 5
    have z6 := RG1.out.frozen 6
    have z7 := RG1.out.frozen 7
    have z8 := RG1.out.frozen 8
    have y0 := RH1.out.frozen 0
    have y1 := RH1.out.frozen 1
    obtain ⟨r0, r1, r2, r3, r4, r5, r6, r7, r8⟩ := (show Cells W1 w.heap.size 0 ⟨0, [], [], 0, 0, 0, 0, 0⟩ (.slice none 0 0) from Cells.row RG1.out)
    simp only [Nat.zero_add] at r1 r2 r3 r4 r5 r6 r7 r8
    have s0 : W1.cell? ⟨w.heap.size + 1, 0, none⟩ = some (.int .i64 0) := RH1.out.cell rfl
    have s1 : W1.cell? ⟨w.heap.size + 1, 1, none⟩ = some (.int .i64 0) := RH1.out.cell rfl
    go_wp2_with fail
    obtain ⟨k1, k2, k3, k4, k5⟩ := both_rows RG1.out RH1.out (by omega) ⟨0, [], [], 0, 0, 0, 0, 0⟩ (.slice none 0 0) (a : Nat) 2 rfl
    exact fin_node 6 7 8 rfl rfl rfl k1 k2 ⟨rfl, B1.out.trans (k5 _ (Nat.le_refl _) (by omega))⟩
  rw [if_neg h60] at hr
  have q0 : decide ((d : Int) > 60) = false := decide_eq_false (by omega)
  have q0' : decide (60 < d) = false := decide_eq_false h60
  cases q1 : isT T a sBeg with
  | true =>
    rw [q1, if_pos rfl] at hr
    have CX := Lib.hid (fun W hW => (Ih.out f (Nat.le_refl _)).blk a d r W hr ha (by omega) (HT.out W hW))
    go_enter Tryd.func65, Tryd.ntmps65
    go_wp2_with fail
    refine calls_gen (fun W => RowAt W w.heap.size 55 #[.int .i64 0, .string ⟨#[]⟩, .string ⟨#[]⟩, .int .i64 0, .int .i64 0, .int .i64 0, .int .i64 0, .int .i64 0, .slice none 0 0] ∧ RowAt W (w.heap.size + 1) 68 #[.int .i64 0, .int .i64 0] ∧ Below w.heap.size w W) ⟨(row_new rfl).alloc _, row_new (by simp), ((Below.refl _ w).alloc (Nat.le_refl _) _).alloc (by simp) _⟩ ?_
    rintro W1 ⟨g1, h1, b1⟩
    have RG1 := Lib.hid g1
    have RH1 := Lib.hid h1
    have B1 := Lib.hid b1
    have hlt1 := h1.lt
    clear g1 h1 b1
    refine (is_at (s := ⟨#[123]⟩) (HT.out W1 B1.out) q1).mono ?_
    rintro e w' ⟨rfl, hw⟩
    have hw := hw.symm
    subst hw
    go_wp2_with fail
    refine (CX.out W1 B1.out).mono ?_
    rintro e w2 ⟨hni, b2⟩
    have b12 := Lib.hid b2
    have RG2 := Lib.hid (RG1.out.later b2)
    have RH2 := Lib.hid (RH1.out.later b2)
    have B2 := Lib.hid (B1.out.trans (b2.mono B1.out.size))
    have hs2 := b2.size
    clear b2
    have z0 := RG2.out.frozen 0
    have z1 := RG2.out.frozen 1
    have z2 := RG2.out.frozen 2
    have z3 := RG2.out.frozen 3
    have z4 := RG2.out.frozen 4
    have z5 := RG2.out.frozen 5
    have z6 := RG2.out.frozen 6
    have z7 := RG2.out.frozen 7
    have z8 := RG2.out.frozen 8
    have y0 := RH2.out.frozen 0
    have y1 := RH2.out.frozen 1
    obtain ⟨r0, r1, r2, r3, r4, r5, r6, r7, r8⟩ := (show Cells w2 w.heap.size 0 ⟨0, [], [], 0, 0, 0, 0, 0⟩ (.slice none 0 0) from Cells.row RG2.out)
    simp only [Nat.zero_add] at r1 r2 r3 r4 r5 r6 r7 r8
    have s0 : w2.cell? ⟨w.heap.size + 1, 0, none⟩ = some (.int .i64 0) := RH2.out.cell rfl
    have s1 : w2.cell? ⟨w.heap.size + 1, 1, none⟩ = some (.int .i64 0) := RH2.out.cell rfl
    cases r with
    | bad p c =>
      obtain rfl := hni
      go_wp2_with fail
      obtain ⟨k1, k2, k3, k4, k5⟩ := both_rows RG2.out RH2.out (by omega) ⟨0, [], [], 0, 0, 0, 0, 0⟩ (.slice none 0 0) p c rfl
      exact fin_node 6 7 8 rfl rfl rfl k1 k2 ⟨rfl, B2.out.trans (k5 _ (Nat.le_refl _) (by omega))⟩
    | ok m next =>
      obtain ⟨ka, kn, kc, F, rfl, hsup⟩ := hni
      have HS := Lib.hid hsup
      clear hsup
      go_wp2_with fail
      obtain ⟨k1, k2, k3, k4, k5⟩ := both_rows RG2.out RH2.out (by omega) m.hd (.slice ka kn kc) (-1) 0 rfl
      exact fin_node 6 7 8 rfl rfl rfl k1 k2 ⟨⟨ka, kn, kc, F, rfl, sup_past HS.out k3 k4 (by omega) (by omega) B1.out.size⟩, B2.out.trans (k5 _ (Nat.le_refl _) (by omega))⟩
  | false =>
  rw [q1, if_neg (by decide)] at hr
  cases q2 : isT T a sIf with
  | true =>
    rw [q2, Bool.true_or, if_pos rfl] at hr
    have CX := Lib.hid (fun W hW => (Ih.out f (Nat.le_refl _)).grd a d r W hr (isT_lt HG.out.e q2) (by omega) (HT.out W hW))
    go_enter Tryd.func65, Tryd.ntmps65
    go_wp2_with fail
    refine calls_gen (fun W => RowAt W w.heap.size 55 #[.int .i64 0, .string ⟨#[]⟩, .string ⟨#[]⟩, .int .i64 0, .int .i64 0, .int .i64 0, .int .i64 0, .int .i64 0, .slice none 0 0] ∧ RowAt W (w.heap.size + 1) 68 #[.int .i64 0, .int .i64 0] ∧ Below w.heap.size w W) ⟨(row_new rfl).alloc _, row_new (by simp), ((Below.refl _ w).alloc (Nat.le_refl _) _).alloc (by simp) _⟩ ?_
    rintro W1 ⟨g1, h1, b1⟩
    have RG1 := Lib.hid g1
    have RH1 := Lib.hid h1
    have B1 := Lib.hid b1
    have hlt1 := h1.lt
    clear g1 h1 b1
    refine (is_at (s := ⟨#[123]⟩) (HT.out W1 B1.out) q1).mono ?_
    rintro e w' ⟨rfl, hw⟩
    have hw := hw.symm
    subst hw
    go_wp2_with fail
    refine (is_at (s := ⟨#[105, 102]⟩) (HT.out W1 B1.out) q2).mono ?_
    rintro e w' ⟨rfl, hw⟩
    have hw := hw.symm
    subst hw
    go_wp2_with fail
    refine (CX.out W1 B1.out).mono ?_
    rintro e w2 ⟨hni, b2⟩
    have b12 := Lib.hid b2
    have RG2 := Lib.hid (RG1.out.later b2)
    have RH2 := Lib.hid (RH1.out.later b2)
    have B2 := Lib.hid (B1.out.trans (b2.mono B1.out.size))
    have hs2 := b2.size
    clear b2
    have z0 := RG2.out.frozen 0
    have z1 := RG2.out.frozen 1
    have z2 := RG2.out.frozen 2
    have z3 := RG2.out.frozen 3
    have z4 := RG2.out.frozen 4
    have z5 := RG2.out.frozen 5
    have z6 := RG2.out.frozen 6
    have z7 := RG2.out.frozen 7
    have z8 := RG2.out.frozen 8
    have y0 := RH2.out.frozen 0
    have y1 := RH2.out.frozen 1
    obtain ⟨r0, r1, r2, r3, r4, r5, r6, r7, r8⟩ := (show Cells w2 w.heap.size 0 ⟨0, [], [], 0, 0, 0, 0, 0⟩ (.slice none 0 0) from Cells.row RG2.out)
    simp only [Nat.zero_add] at r1 r2 r3 r4 r5 r6 r7 r8
    have s0 : w2.cell? ⟨w.heap.size + 1, 0, none⟩ = some (.int .i64 0) := RH2.out.cell rfl
    have s1 : w2.cell? ⟨w.heap.size + 1, 1, none⟩ = some (.int .i64 0) := RH2.out.cell rfl
    cases r with
    | bad p c =>
      obtain rfl := hni
      go_wp2_with fail
      obtain ⟨k1, k2, k3, k4, k5⟩ := both_rows RG2.out RH2.out (by omega) ⟨0, [], [], 0, 0, 0, 0, 0⟩ (.slice none 0 0) p c rfl
      exact fin_node 6 7 8 rfl rfl rfl k1 k2 ⟨rfl, B2.out.trans (k5 _ (Nat.le_refl _) (by omega))⟩
    | ok m next =>
      obtain ⟨ka, kn, kc, F, rfl, hsup⟩ := hni
      have HS := Lib.hid hsup
      clear hsup
      go_wp2_with fail
      obtain ⟨k1, k2, k3, k4, k5⟩ := both_rows RG2.out RH2.out (by omega) m.hd (.slice ka kn kc) (-1) 0 rfl
      exact fin_node 6 7 8 rfl rfl rfl k1 k2 ⟨⟨ka, kn, kc, F, rfl, sup_past HS.out k3 k4 (by omega) (by omega) B1.out.size⟩, B2.out.trans (k5 _ (Nat.le_refl _) (by omega))⟩
  | false =>
  cases q3 : isT T a sWhile with
  | true =>
    rw [q2, q3, Bool.or_true, if_pos rfl] at hr
    have CX := Lib.hid (fun W hW => (Ih.out f (Nat.le_refl _)).grd a d r W hr (isT_lt HG.out.e q3) (by omega) (HT.out W hW))
    go_enter Tryd.func65, Tryd.ntmps65
    go_wp2_with fail
    refine calls_gen (fun W => RowAt W w.heap.size 55 #[.int .i64 0, .string ⟨#[]⟩, .string ⟨#[]⟩, .int .i64 0, .int .i64 0, .int .i64 0, .int .i64 0, .int .i64 0, .slice none 0 0] ∧ RowAt W (w.heap.size + 1) 68 #[.int .i64 0, .int .i64 0] ∧ Below w.heap.size w W) ⟨(row_new rfl).alloc _, row_new (by simp), ((Below.refl _ w).alloc (Nat.le_refl _) _).alloc (by simp) _⟩ ?_
    rintro W1 ⟨g1, h1, b1⟩
    have RG1 := Lib.hid g1
    have RH1 := Lib.hid h1
    have B1 := Lib.hid b1
    have hlt1 := h1.lt
    clear g1 h1 b1
    refine (is_at (s := ⟨#[123]⟩) (HT.out W1 B1.out) q1).mono ?_
    rintro e w' ⟨rfl, hw⟩
    have hw := hw.symm
    subst hw
    go_wp2_with fail
    refine (is_at (s := ⟨#[105, 102]⟩) (HT.out W1 B1.out) q2).mono ?_
    rintro e w' ⟨rfl, hw⟩
    have hw := hw.symm
    subst hw
    go_wp2_with fail
    refine (is_at (s := ⟨#[119, 104, 105, 108, 101]⟩) (HT.out W1 B1.out) q3).mono ?_
    rintro e w' ⟨rfl, hw⟩
    have hw := hw.symm
    subst hw
    go_wp2_with fail
    refine (CX.out W1 B1.out).mono ?_
    rintro e w2 ⟨hni, b2⟩
    have b12 := Lib.hid b2
    have RG2 := Lib.hid (RG1.out.later b2)
    have RH2 := Lib.hid (RH1.out.later b2)
    have B2 := Lib.hid (B1.out.trans (b2.mono B1.out.size))
    have hs2 := b2.size
    clear b2
    have z0 := RG2.out.frozen 0
    have z1 := RG2.out.frozen 1
    have z2 := RG2.out.frozen 2
    have z3 := RG2.out.frozen 3
    have z4 := RG2.out.frozen 4
    have z5 := RG2.out.frozen 5
    have z6 := RG2.out.frozen 6
    have z7 := RG2.out.frozen 7
    have z8 := RG2.out.frozen 8
    have y0 := RH2.out.frozen 0
    have y1 := RH2.out.frozen 1
    obtain ⟨r0, r1, r2, r3, r4, r5, r6, r7, r8⟩ := (show Cells w2 w.heap.size 0 ⟨0, [], [], 0, 0, 0, 0, 0⟩ (.slice none 0 0) from Cells.row RG2.out)
    simp only [Nat.zero_add] at r1 r2 r3 r4 r5 r6 r7 r8
    have s0 : w2.cell? ⟨w.heap.size + 1, 0, none⟩ = some (.int .i64 0) := RH2.out.cell rfl
    have s1 : w2.cell? ⟨w.heap.size + 1, 1, none⟩ = some (.int .i64 0) := RH2.out.cell rfl
    cases r with
    | bad p c =>
      obtain rfl := hni
      go_wp2_with fail
      obtain ⟨k1, k2, k3, k4, k5⟩ := both_rows RG2.out RH2.out (by omega) ⟨0, [], [], 0, 0, 0, 0, 0⟩ (.slice none 0 0) p c rfl
      exact fin_node 6 7 8 rfl rfl rfl k1 k2 ⟨rfl, B2.out.trans (k5 _ (Nat.le_refl _) (by omega))⟩
    | ok m next =>
      obtain ⟨ka, kn, kc, F, rfl, hsup⟩ := hni
      have HS := Lib.hid hsup
      clear hsup
      go_wp2_with fail
      obtain ⟨k1, k2, k3, k4, k5⟩ := both_rows RG2.out RH2.out (by omega) m.hd (.slice ka kn kc) (-1) 0 rfl
      exact fin_node 6 7 8 rfl rfl rfl k1 k2 ⟨⟨ka, kn, kc, F, rfl, sup_past HS.out k3 k4 (by omega) (by omega) B1.out.size⟩, B2.out.trans (k5 _ (Nat.le_refl _) (by omega))⟩
  | false =>
  rw [q2, q3, Bool.or_false, if_neg (by decide)] at hr
  cases q4 : isT T a sReturn with
  | true =>
    rw [q4, Bool.true_or, if_pos rfl] at hr
    have CX := Lib.hid (fun W hW => SM.out a d r W hr (isT_lt HG.out.e q4) (by omega) (HT.out W hW))
    go_enter Tryd.func65, Tryd.ntmps65
    go_wp2_with fail
    refine calls_gen (fun W => RowAt W w.heap.size 55 #[.int .i64 0, .string ⟨#[]⟩, .string ⟨#[]⟩, .int .i64 0, .int .i64 0, .int .i64 0, .int .i64 0, .int .i64 0, .slice none 0 0] ∧ RowAt W (w.heap.size + 1) 68 #[.int .i64 0, .int .i64 0] ∧ Below w.heap.size w W) ⟨(row_new rfl).alloc _, row_new (by simp), ((Below.refl _ w).alloc (Nat.le_refl _) _).alloc (by simp) _⟩ ?_
    rintro W1 ⟨g1, h1, b1⟩
    have RG1 := Lib.hid g1
    have RH1 := Lib.hid h1
    have B1 := Lib.hid b1
    have hlt1 := h1.lt
    clear g1 h1 b1
    refine (is_at (s := ⟨#[123]⟩) (HT.out W1 B1.out) q1).mono ?_
    rintro e w' ⟨rfl, hw⟩
    have hw := hw.symm
    subst hw
    go_wp2_with fail
    refine (is_at (s := ⟨#[105, 102]⟩) (HT.out W1 B1.out) q2).mono ?_
    rintro e w' ⟨rfl, hw⟩
    have hw := hw.symm
    subst hw
    go_wp2_with fail
    refine (is_at (s := ⟨#[119, 104, 105, 108, 101]⟩) (HT.out W1 B1.out) q3).mono ?_
    rintro e w' ⟨rfl, hw⟩
    have hw := hw.symm
    subst hw
    go_wp2_with fail
    refine (is_at (s := ⟨#[114, 101, 116, 117, 114, 110]⟩) (HT.out W1 B1.out) q4).mono ?_
    rintro e w' ⟨rfl, hw⟩
    have hw := hw.symm
    subst hw
    go_wp2_with fail
    refine (CX.out W1 B1.out).mono ?_
    rintro e w2 ⟨hni, b2⟩
    have b12 := Lib.hid b2
    have RG2 := Lib.hid (RG1.out.later b2)
    have RH2 := Lib.hid (RH1.out.later b2)
    have B2 := Lib.hid (B1.out.trans (b2.mono B1.out.size))
    have hs2 := b2.size
    clear b2
    have z0 := RG2.out.frozen 0
    have z1 := RG2.out.frozen 1
    have z2 := RG2.out.frozen 2
    have z3 := RG2.out.frozen 3
    have z4 := RG2.out.frozen 4
    have z5 := RG2.out.frozen 5
    have z6 := RG2.out.frozen 6
    have z7 := RG2.out.frozen 7
    have z8 := RG2.out.frozen 8
    have y0 := RH2.out.frozen 0
    have y1 := RH2.out.frozen 1
    obtain ⟨r0, r1, r2, r3, r4, r5, r6, r7, r8⟩ := (show Cells w2 w.heap.size 0 ⟨0, [], [], 0, 0, 0, 0, 0⟩ (.slice none 0 0) from Cells.row RG2.out)
    simp only [Nat.zero_add] at r1 r2 r3 r4 r5 r6 r7 r8
    have s0 : w2.cell? ⟨w.heap.size + 1, 0, none⟩ = some (.int .i64 0) := RH2.out.cell rfl
    have s1 : w2.cell? ⟨w.heap.size + 1, 1, none⟩ = some (.int .i64 0) := RH2.out.cell rfl
    cases r with
    | bad p c =>
      obtain rfl := hni
      go_wp2_with fail
      obtain ⟨k1, k2, k3, k4, k5⟩ := both_rows RG2.out RH2.out (by omega) ⟨0, [], [], 0, 0, 0, 0, 0⟩ (.slice none 0 0) p c rfl
      exact fin_node 6 7 8 rfl rfl rfl k1 k2 ⟨rfl, B2.out.trans (k5 _ (Nat.le_refl _) (by omega))⟩
    | ok m next =>
      obtain ⟨ka, kn, kc, F, rfl, hsup⟩ := hni
      have HS := Lib.hid hsup
      clear hsup
      go_wp2_with fail
      obtain ⟨k1, k2, k3, k4, k5⟩ := both_rows RG2.out RH2.out (by omega) m.hd (.slice ka kn kc) (-1) 0 rfl
      exact fin_node 6 7 8 rfl rfl rfl k1 k2 ⟨⟨ka, kn, kc, F, rfl, sup_past HS.out k3 k4 (by omega) (by omega) B1.out.size⟩, B2.out.trans (k5 _ (Nat.le_refl _) (by omega))⟩
  | false =>
  cases q5 : isT T a sPrint with
  | true =>
    rw [q4, q5, Bool.or_true, if_pos rfl] at hr
    have CX := Lib.hid (fun W hW => SM.out a d r W hr (isT_lt HG.out.e q5) (by omega) (HT.out W hW))
    go_enter Tryd.func65, Tryd.ntmps65
    go_wp2_with fail
    refine calls_gen (fun W => RowAt W w.heap.size 55 #[.int .i64 0, .string ⟨#[]⟩, .string ⟨#[]⟩, .int .i64 0, .int .i64 0, .int .i64 0, .int .i64 0, .int .i64 0, .slice none 0 0] ∧ RowAt W (w.heap.size + 1) 68 #[.int .i64 0, .int .i64 0] ∧ Below w.heap.size w W) ⟨(row_new rfl).alloc _, row_new (by simp), ((Below.refl _ w).alloc (Nat.le_refl _) _).alloc (by simp) _⟩ ?_
    rintro W1 ⟨g1, h1, b1⟩
    have RG1 := Lib.hid g1
    have RH1 := Lib.hid h1
    have B1 := Lib.hid b1
    have hlt1 := h1.lt
    clear g1 h1 b1
    refine (is_at (s := ⟨#[123]⟩) (HT.out W1 B1.out) q1).mono ?_
    rintro e w' ⟨rfl, hw⟩
    have hw := hw.symm
    subst hw
    go_wp2_with fail
    refine (is_at (s := ⟨#[105, 102]⟩) (HT.out W1 B1.out) q2).mono ?_
    rintro e w' ⟨rfl, hw⟩
    have hw := hw.symm
    subst hw
    go_wp2_with fail
    refine (is_at (s := ⟨#[119, 104, 105, 108, 101]⟩) (HT.out W1 B1.out) q3).mono ?_
    rintro e w' ⟨rfl, hw⟩
    have hw := hw.symm
    subst hw
    go_wp2_with fail
    refine (is_at (s := ⟨#[114, 101, 116, 117, 114, 110]⟩) (HT.out W1 B1.out) q4).mono ?_
    rintro e w' ⟨rfl, hw⟩
    have hw := hw.symm
    subst hw
    go_wp2_with fail
    refine (is_at (s := ⟨#[112, 114, 105, 110, 116]⟩) (HT.out W1 B1.out) q5).mono ?_
    rintro e w' ⟨rfl, hw⟩
    have hw := hw.symm
    subst hw
    go_wp2_with fail
    refine (CX.out W1 B1.out).mono ?_
    rintro e w2 ⟨hni, b2⟩
    have b12 := Lib.hid b2
    have RG2 := Lib.hid (RG1.out.later b2)
    have RH2 := Lib.hid (RH1.out.later b2)
    have B2 := Lib.hid (B1.out.trans (b2.mono B1.out.size))
    have hs2 := b2.size
    clear b2
    have z0 := RG2.out.frozen 0
    have z1 := RG2.out.frozen 1
    have z2 := RG2.out.frozen 2
    have z3 := RG2.out.frozen 3
    have z4 := RG2.out.frozen 4
    have z5 := RG2.out.frozen 5
    have z6 := RG2.out.frozen 6
    have z7 := RG2.out.frozen 7
    have z8 := RG2.out.frozen 8
    have y0 := RH2.out.frozen 0
    have y1 := RH2.out.frozen 1
    obtain ⟨r0, r1, r2, r3, r4, r5, r6, r7, r8⟩ := (show Cells w2 w.heap.size 0 ⟨0, [], [], 0, 0, 0, 0, 0⟩ (.slice none 0 0) from Cells.row RG2.out)
    simp only [Nat.zero_add] at r1 r2 r3 r4 r5 r6 r7 r8
    have s0 : w2.cell? ⟨w.heap.size + 1, 0, none⟩ = some (.int .i64 0) := RH2.out.cell rfl
    have s1 : w2.cell? ⟨w.heap.size + 1, 1, none⟩ = some (.int .i64 0) := RH2.out.cell rfl
    cases r with
    | bad p c =>
      obtain rfl := hni
      go_wp2_with fail
      obtain ⟨k1, k2, k3, k4, k5⟩ := both_rows RG2.out RH2.out (by omega) ⟨0, [], [], 0, 0, 0, 0, 0⟩ (.slice none 0 0) p c rfl
      exact fin_node 6 7 8 rfl rfl rfl k1 k2 ⟨rfl, B2.out.trans (k5 _ (Nat.le_refl _) (by omega))⟩
    | ok m next =>
      obtain ⟨ka, kn, kc, F, rfl, hsup⟩ := hni
      have HS := Lib.hid hsup
      clear hsup
      go_wp2_with fail
      obtain ⟨k1, k2, k3, k4, k5⟩ := both_rows RG2.out RH2.out (by omega) m.hd (.slice ka kn kc) (-1) 0 rfl
      exact fin_node 6 7 8 rfl rfl rfl k1 k2 ⟨⟨ka, kn, kc, F, rfl, sup_past HS.out k3 k4 (by omega) (by omega) B1.out.size⟩, B2.out.trans (k5 _ (Nat.le_refl _) (by omega))⟩
  | false =>
  rw [q4, q5, Bool.or_false, if_neg (by decide)] at hr
  unfold exprF at hr
  obtain ⟨x, hx⟩ : ∃ x, levelF f T a (d + 1) 1 = x := ⟨_, rfl⟩
  have gx := ((ex_ok HG.out.e f).level a (d + 1) 1 (by omega) (by omega) ha).2
  rw [hx] at hr gx
  cases x with
  | none => cases hr
  | some x =>
  have CX := Lib.hid (fun W hW => EX.out a (d + 1) x W hx ha (by omega) (HT.out W hW))
  clear hx
  go_enter Tryd.func65, Tryd.ntmps65
  go_wp2_with fail
  refine calls_gen (fun W => RowAt W w.heap.size 55 #[.int .i64 0, .string ⟨#[]⟩, .string ⟨#[]⟩, .int .i64 0, .int .i64 0, .int .i64 0, .int .i64 0, .int .i64 0, .slice none 0 0] ∧ RowAt W (w.heap.size + 1) 68 #[.int .i64 0, .int .i64 0] ∧ Below w.heap.size w W) ⟨(row_new rfl).alloc _, row_new (by simp), ((Below.refl _ w).alloc (Nat.le_refl _) _).alloc (by simp) _⟩ ?_
  rintro W1 ⟨g1, h1, b1⟩
  have RG1 := Lib.hid g1
  have RH1 := Lib.hid h1
  have B1 := Lib.hid b1
  have hlt1 := h1.lt
  clear g1 h1 b1
  refine (is_at (s := ⟨#[123]⟩) (HT.out W1 B1.out) q1).mono ?_
  rintro e w' ⟨rfl, hw⟩
  have hw := hw.symm
  subst hw
  go_wp2_with fail
  refine (is_at (s := ⟨#[105, 102]⟩) (HT.out W1 B1.out) q2).mono ?_
  rintro e w' ⟨rfl, hw⟩
  have hw := hw.symm
  subst hw
  go_wp2_with fail
  refine (is_at (s := ⟨#[119, 104, 105, 108, 101]⟩) (HT.out W1 B1.out) q3).mono ?_
  rintro e w' ⟨rfl, hw⟩
  have hw := hw.symm
  subst hw
  go_wp2_with fail
  refine (is_at (s := ⟨#[114, 101, 116, 117, 114, 110]⟩) (HT.out W1 B1.out) q4).mono ?_
  rintro e w' ⟨rfl, hw⟩
  have hw := hw.symm
  subst hw
  go_wp2_with fail
  refine (is_at (s := ⟨#[112, 114, 105, 110, 116]⟩) (HT.out W1 B1.out) q5).mono ?_
  rintro e w' ⟨rfl, hw⟩
  have hw := hw.symm
  subst hw
  go_wp2_with fail
  refine (CX.out W1 B1.out).mono ?_
  rintro e w2 ⟨hni, b2⟩
  have b12 := Lib.hid b2
  have RG2 := Lib.hid (RG1.out.later b2)
  have RH2 := Lib.hid (RH1.out.later b2)
  have B2 := Lib.hid (B1.out.trans (b2.mono B1.out.size))
  have hs2 := b2.size
  clear b2
  cases x with
  | bad p c =>
    obtain rfl : PR.bad p c = r := Option.some.inj hr
    obtain rfl := hni
    have p1 : decide ((p : Int) ≥ 0) = true := decide_eq_true (by omega)
    have p2 : decide ((0 : Int) ≤ (p : Int)) = true := decide_eq_true (by omega)
    go_wp2_with fail
    refine wp_gen (fun W => RowAt W w.heap.size 55 #[.int .i64 0, .string ⟨#[]⟩, .string ⟨#[]⟩, .int .i64 0, .int .i64 0, .int .i64 0, .int .i64 0, .int .i64 0, .slice none 0 0] ∧ RowAt W (w.heap.size + 1) 68 #[.int .i64 0, .int .i64 0] ∧ RowAt W (w2.heap.size + 1) 68 #[.int .i64 (p : Nat), .int .i64 c] ∧ Below w.heap.size w W) ⟨(RG2.out.alloc _).alloc _, (RH2.out.alloc _).alloc _, row_new (by simp), (B2.out.alloc (by omega) _).alloc (by simp; omega) _⟩ ?_
    rintro W3 ⟨g3, h3, t3, b3⟩
    have z0 := g3.frozen 0
    have z1 := g3.frozen 1
    have z2 := g3.frozen 2
    have z3 := g3.frozen 3
    have z4 := g3.frozen 4
    have z5 := g3.frozen 5
    have z6 := g3.frozen 6
    have z7 := g3.frozen 7
    have z8 := g3.frozen 8
    have y0 := h3.frozen 0
    have y1 := h3.frozen 1
    obtain ⟨r0, r1, r2, r3, r4, r5, r6, r7, r8⟩ := (show Cells W3 w.heap.size 0 ⟨0, [], [], 0, 0, 0, 0, 0⟩ (.slice none 0 0) from Cells.row g3)
    simp only [Nat.zero_add] at r1 r2 r3 r4 r5 r6 r7 r8
    have s0 : W3.cell? ⟨w.heap.size + 1, 0, none⟩ = some (.int .i64 0) := h3.cell rfl
    have s1 : W3.cell? ⟨w.heap.size + 1, 1, none⟩ = some (.int .i64 0) := h3.cell rfl
    have t0 : W3.cell? ⟨(w2.heap.size + 1), 0, none⟩ = some (.int .i64 (p : Nat)) := t3.cell rfl
    have t1 : W3.cell? ⟨(w2.heap.size + 1), 1, none⟩ = some (.int .i64 c) := t3.cell rfl
    have ne1 : (w2.heap.size + 1) ≠ w.heap.size := by omega
    have G3 := Lib.hid g3
    have H3 := Lib.hid h3
    have B3 := Lib.hid b3
    clear g3 h3 t3 b3
    go_region
    all_goals
      go_wp2_with fail
      obtain ⟨k1, k2, k3, k4, k5⟩ := both_rows_d G3.out H3.out (by omega) ⟨0, [], [], 0, 0, 0, 0, 0⟩ (.slice none 0 0) p c rfl
      exact fin_node 6 7 8 rfl rfl rfl k1 k2 ⟨rfl, B3.out.trans (k5 _ (Nat.le_refl _) (by omega))⟩
  | ok m next =>
    obtain ⟨u1, u2, u3⟩ := gx m next rfl
    have hr : (if isT T next sEq = true then bindP (levelF f T (next + 1) (d + 1) 1) (fun r b => if isT T b sSemi then some (.ok (.mk (madeH T 7 a (b + 1)) [m, r]) (b + 1)) else some (.bad b 120)) else if isT T next sSemi = true then some (.ok (.mk (madeH T 8 a (next + 1)) [m]) (next + 1)) else some (.bad next 120)) = some r := hr
    obtain ⟨ka, kn, kc, F, rfl, hsup⟩ := hni
    have HS := Lib.hid hsup
    have p1 : decide ((-1 : Int) ≥ 0) = false := by decide
    clear hsup
    go_upto_region 15 with fail
    refine wp_gen (fun W => RowAt W w.heap.size 55 #[.int .i64 0, .string ⟨#[]⟩, .string ⟨#[]⟩, .int .i64 0, .int .i64 0, .int .i64 0, .int .i64 0, .int .i64 0, .slice none 0 0] ∧ RowAt W (w.heap.size + 1) 68 #[.int .i64 0, .int .i64 0] ∧ RowAt W w2.heap.size 55 #[.int .i64 m.hd.kind, .string (bs m.hd.text), .string (bs m.hd.type), .int .i64 m.hd.n, .int .i64 m.hd.fr, .int .i64 m.hd.to_, .int .i64 m.hd.at_, .int .i64 m.hd.tat, .slice ka kn kc] ∧ Below w2.heap.size w2 W) ⟨(RG2.out.alloc _).alloc _, (RH2.out.alloc _).alloc _, (row_new rfl).alloc _, ((Below.refl _ _).alloc (Nat.le_refl _) _).alloc (by simp) _⟩ ?_
    rintro W3 ⟨g3, h3, m3, b3⟩
    have RG3 := Lib.hid g3
    have RH3 := Lib.hid h3
    have RM3 := Lib.hid m3
    have B3 := Lib.hid (B2.out.trans (b3.mono B2.out.size))
    have S3 := Lib.hid (HS.out.below b3)
    have b23 := Lib.hid b3
    have hs3 := b3.size
    have hm3 := m3.lt
    clear g3 h3 m3 b3
    obtain ⟨d0, d1, d2, d3, d4, d5, d6, d7, d8⟩ := (show Cells W3 w2.heap.size 0 m.hd (.slice ka kn kc) from Cells.row RM3.out)
    simp only [Nat.zero_add] at d1 d2 d3 d4 d5 d6 d7 d8
    go_wp2_with fail
    refine calls_gen (fun W => RowAt W w.heap.size 55 #[.int .i64 0, .string ⟨#[]⟩, .string ⟨#[]⟩, .int .i64 0, .int .i64 0, .int .i64 0, .int .i64 0, .int .i64 0, .slice none 0 0] ∧ RowAt W (w.heap.size + 1) 68 #[.int .i64 0, .int .i64 0] ∧ RowAt W W3.heap.size 55 #[.int .i64 m.hd.kind, .string (bs m.hd.text), .string (bs m.hd.type), .int .i64 m.hd.n, .int .i64 m.hd.fr, .int .i64 m.hd.to_, .int .i64 m.hd.at_, .int .i64 m.hd.tat, .slice ka kn kc] ∧ Below W3.heap.size W3 W ∧ W3.heap.size + 1 ≤ W.heap.size) ⟨RG3.out.alloc _, RH3.out.alloc _, row_new rfl, (Below.refl _ _).alloc (Nat.le_refl _) _, by simp⟩ ?_
    rintro W4 ⟨g4, h4, v4, b4, l4⟩
    have RG4 := Lib.hid g4
    have RH4 := Lib.hid h4
    have B4 := Lib.hid (B3.out.trans (b4.mono B3.out.size))
    have b34 := Lib.hid b4
    have hs4 := l4
    have OQ4 : Hid (OwnQ (fun _ => True) W1.heap.size W4 (.slice (some ⟨W3.heap.size, 0, none⟩) 1 1) [(m, Value.slice ka kn kc)]) := Lib.hid (own_q (P := fun _ => True) (base := W1.heap.size) (ps := [(m, Value.slice ka kn kc)]) v4 (by omega) (by show 1 ≤ maxLen; unfold maxLen; omega) trivial (fun p hp => by
      obtain rfl := List.mem_singleton.1 hp
      exact ⟨_, sup_low (S3.out.below b34.out) (by omega), fun b hb => ⟨by have := (S3.out.1 b hb).2; omega, trivial⟩⟩
    ))
    clear g4 h4 v4 b4 l4 d0 d1 d2 d3 d4 d5 d6 d7 d8
    cases q6 : isT T next sEq with
    | false =>
      rw [q6, if_neg (by decide)] at hr
      cases q7 : isT T next sSemi with
      | false =>
        rw [q7, if_neg (by decide)] at hr
        obtain rfl := Option.some.inj hr
        refine (is_at (s := ⟨#[61]⟩) (HT.out W4 B4.out) q6).mono ?_
        rintro e w' ⟨rfl, hw⟩
        have hw := hw.symm
        subst hw
        go_wp2_with fail
        refine (is_at (s := ⟨#[59]⟩) (HT.out W4 B4.out) q7).mono ?_
        rintro e w' ⟨rfl, hw⟩
        have hw := hw.symm
        subst hw
        go_wp2_with fail
        refine (syntax_any _ _).mono ?_
        rintro e w9 ⟨rfl, b9⟩
        have RG9 := RG4.out.later b9
        have RH9 := RH4.out.later b9
        have B9 := B4.out.trans (b9.mono B4.out.size)
        have z0 := RG9.frozen 0
        have z1 := RG9.frozen 1
        have z2 := RG9.frozen 2
        have z3 := RG9.frozen 3
        have z4 := RG9.frozen 4
        have z5 := RG9.frozen 5
        have z6 := RG9.frozen 6
        have z7 := RG9.frozen 7
        have z8 := RG9.frozen 8
        have y0 := RH9.frozen 0
        have y1 := RH9.frozen 1
        obtain ⟨r0, r1, r2, r3, r4, r5, r6, r7, r8⟩ := (show Cells w9 w.heap.size 0 ⟨0, [], [], 0, 0, 0, 0, 0⟩ (.slice none 0 0) from Cells.row RG9)
        simp only [Nat.zero_add] at r1 r2 r3 r4 r5 r6 r7 r8
        have s0 : w9.cell? ⟨w.heap.size + 1, 0, none⟩ = some (.int .i64 0) := RH9.cell rfl
        have s1 : w9.cell? ⟨w.heap.size + 1, 1, none⟩ = some (.int .i64 0) := RH9.cell rfl
        have RG9' := Lib.hid RG9
        have RH9' := Lib.hid RH9
        have B9' := Lib.hid B9
        clear RG9 RH9 B9 b9
        go_wp2_with fail
        obtain ⟨k1, k2, k3, k4, k5⟩ := both_rows RG9'.out RH9'.out (by omega) ⟨0, [], [], 0, 0, 0, 0, 0⟩ (.slice none 0 0) ((next : Nat) : Int) 120 rfl
        exact fin_node 6 7 8 rfl rfl rfl k1 k2 ⟨rfl, B9'.out.trans (k5 _ (Nat.le_refl _) (by omega))⟩
      | true =>
        rw [q7, if_pos rfl] at hr
        obtain rfl := Option.some.inj hr
        have hnx : next + 1 < T.length := isT_lt HG.out.e q7
        refine (is_at (s := ⟨#[61]⟩) (HT.out W4 B4.out) q6).mono ?_
        rintro e w' ⟨rfl, hw⟩
        have hw := hw.symm
        subst hw
        go_wp2_with fail
        refine (is_at (s := ⟨#[59]⟩) (HT.out W4 B4.out) q7).mono ?_
        rintro e w' ⟨rfl, hw⟩
        have hw := hw.symm
        subst hw
        go_wp2_with fail
        obtain ⟨F', s1, -⟩ := OQ4.out.kids
        refine (made_at (.slice (some ⟨tb, to_, none⟩) T.length cv) (some ⟨W3.heap.size, 0, none⟩) 1 1 T HG.out 8 a (next + 1) (by omega) (by omega) (by omega) W4 (HT.out W4 B4.out)).mono ?_
        rintro e w8 ⟨rfl, b8⟩
        have RG8 := Lib.hid (RG4.out.later b8)
        have RH8 := Lib.hid (RH4.out.later b8)
        have B8 := Lib.hid (B4.out.trans (b8.mono B4.out.size))
        have S8 := Lib.hid (s1.below b8)
        clear b8 s1
        go_wp2_with fail
        refine (fine_any _).mono ?_
        rintro e w9 ⟨rfl, b9⟩
        have RG9 := RG8.out.later b9
        have RH9 := RH8.out.later b9
        have B9 := Lib.hid (B8.out.trans (b9.mono B8.out.size))
        have S9 := Lib.hid (S8.out.below b9)
        have z0 := RG9.frozen 0
        have z1 := RG9.frozen 1
        have z2 := RG9.frozen 2
        have z3 := RG9.frozen 3
        have z4 := RG9.frozen 4
        have z5 := RG9.frozen 5
        have z6 := RG9.frozen 6
        have z7 := RG9.frozen 7
        have z8 := RG9.frozen 8
        have y0 := RH9.frozen 0
        have y1 := RH9.frozen 1
        obtain ⟨r0, r1, r2, r3, r4, r5, r6, r7, r8⟩ := (show Cells w9 w.heap.size 0 ⟨0, [], [], 0, 0, 0, 0, 0⟩ (.slice none 0 0) from Cells.row RG9)
        simp only [Nat.zero_add] at r1 r2 r3 r4 r5 r6 r7 r8
        have s0 : w9.cell? ⟨w.heap.size + 1, 0, none⟩ = some (.int .i64 0) := RH9.cell rfl
        have s1 : w9.cell? ⟨w.heap.size + 1, 1, none⟩ = some (.int .i64 0) := RH9.cell rfl
        have RG9' := Lib.hid RG9
        have RH9' := Lib.hid RH9
        clear RG9 RH9 b9
        go_wp2_with fail
        obtain ⟨k1, k2, k3, k4, k5⟩ := both_rows RG9'.out RH9'.out (by omega) (madeH T 8 a (next + 1)) (.slice (some ⟨W3.heap.size, 0, none⟩) 1 1) (-1) 0 rfl
        exact fin_node 6 7 8 rfl rfl rfl k1 k2 ⟨⟨(some ⟨W3.heap.size, 0, none⟩), 1, 1, F', rfl, sup_past S9.out k3 k4 (by omega) (by omega) B1.out.size⟩, B9.out.trans (k5 _ (Nat.le_refl _) (by omega))⟩
    | true =>
      rw [q6, if_pos rfl] at hr
      have hn1 : next + 1 < T.length := isT_lt HG.out.e q6
      obtain ⟨x, hx⟩ : ∃ x, levelF f T (next + 1) (d + 1) 1 = x := ⟨_, rfl⟩
      have gx := ((ex_ok HG.out.e f).level (next + 1) (d + 1) 1 (by omega) (by omega) hn1).2
      rw [hx] at hr gx
      cases x with
      | none => cases hr
      | some x =>
      have CX := Lib.hid (fun W hW => EX.out (next + 1) (d + 1) x W hx hn1 (by omega) (HT.out W hW))
      clear hx
      refine (is_at (s := ⟨#[61]⟩) (HT.out W4 B4.out) q6).mono ?_
      rintro e w' ⟨rfl, hw⟩
      have hw := hw.symm
      subst hw
      go_wp2_with fail
      refine (CX.out W4 B4.out).mono ?_
      rintro e w5 ⟨hni, b5⟩
      have b45 := Lib.hid b5
      have RG5 := Lib.hid (RG4.out.later b5)
      have RH5 := Lib.hid (RH4.out.later b5)
      have B5 := Lib.hid (B4.out.trans (b5.mono B4.out.size))
      have hs5 := b5.size
      clear b5
      cases x with
      | bad p c =>
        obtain rfl : PR.bad p c = r := Option.some.inj hr
        obtain rfl := hni
        have p1 : decide ((p : Int) ≥ 0) = true := decide_eq_true (by omega)
        have p2 : decide ((0 : Int) ≤ (p : Int)) = true := decide_eq_true (by omega)
        go_wp2_with fail
        refine wp_gen (fun W => RowAt W w.heap.size 55 #[.int .i64 0, .string ⟨#[]⟩, .string ⟨#[]⟩, .int .i64 0, .int .i64 0, .int .i64 0, .int .i64 0, .int .i64 0, .slice none 0 0] ∧ RowAt W (w.heap.size + 1) 68 #[.int .i64 0, .int .i64 0] ∧ RowAt W (w5.heap.size + 1) 68 #[.int .i64 (p : Nat), .int .i64 c] ∧ Below w.heap.size w W) ⟨(RG5.out.alloc _).alloc _, (RH5.out.alloc _).alloc _, row_new (by simp), (B5.out.alloc (by omega) _).alloc (by simp; omega) _⟩ ?_
        rintro W3 ⟨g3, h3, t3, b3⟩
        have z0 := g3.frozen 0
        have z1 := g3.frozen 1
        have z2 := g3.frozen 2
        have z3 := g3.frozen 3
        have z4 := g3.frozen 4
        have z5 := g3.frozen 5
        have z6 := g3.frozen 6
        have z7 := g3.frozen 7
        have z8 := g3.frozen 8
        have y0 := h3.frozen 0
        have y1 := h3.frozen 1
        obtain ⟨r0, r1, r2, r3, r4, r5, r6, r7, r8⟩ := (show Cells W3 w.heap.size 0 ⟨0, [], [], 0, 0, 0, 0, 0⟩ (.slice none 0 0) from Cells.row g3)
        simp only [Nat.zero_add] at r1 r2 r3 r4 r5 r6 r7 r8
        have s0 : W3.cell? ⟨w.heap.size + 1, 0, none⟩ = some (.int .i64 0) := h3.cell rfl
        have s1 : W3.cell? ⟨w.heap.size + 1, 1, none⟩ = some (.int .i64 0) := h3.cell rfl
        have t0 : W3.cell? ⟨(w5.heap.size + 1), 0, none⟩ = some (.int .i64 (p : Nat)) := t3.cell rfl
        have t1 : W3.cell? ⟨(w5.heap.size + 1), 1, none⟩ = some (.int .i64 c) := t3.cell rfl
        have ne1 : (w5.heap.size + 1) ≠ w.heap.size := by omega
        have G3 := Lib.hid g3
        have H3 := Lib.hid h3
        have B3 := Lib.hid b3
        clear g3 h3 t3 b3
        go_region
        all_goals
          go_wp2_with fail
          obtain ⟨k1, k2, k3, k4, k5⟩ := both_rows_d G3.out H3.out (by omega) ⟨0, [], [], 0, 0, 0, 0, 0⟩ (.slice none 0 0) p c rfl
          exact fin_node 6 7 8 rfl rfl rfl k1 k2 ⟨rfl, B3.out.trans (k5 _ (Nat.le_refl _) (by omega))⟩
      | ok m2 b =>
        obtain ⟨v1, v2, v3⟩ := gx m2 b rfl
        have hr : (if isT T b sSemi = true then some (PR.ok (.mk (madeH T 7 a (b + 1)) [m, m2]) (b + 1)) else some (PR.bad b 120)) = some r := hr
        have OQ5 := Lib.hid (OQ4.out.below b45.out)
        obtain ⟨kb, ln, lc, F2, rfl, hsup⟩ := hni
        have HS2 := Lib.hid hsup
        have p1 : decide ((-1 : Int) ≥ 0) = false := by decide
        clear hsup
        go_upto_region 21 with fail
        refine wp_gen (fun W => RowAt W w.heap.size 55 #[.int .i64 0, .string ⟨#[]⟩, .string ⟨#[]⟩, .int .i64 0, .int .i64 0, .int .i64 0, .int .i64 0, .int .i64 0, .slice none 0 0] ∧ RowAt W (w.heap.size + 1) 68 #[.int .i64 0, .int .i64 0] ∧ RowAt W w5.heap.size 55 #[.int .i64 m2.hd.kind, .string (bs m2.hd.text), .string (bs m2.hd.type), .int .i64 m2.hd.n, .int .i64 m2.hd.fr, .int .i64 m2.hd.to_, .int .i64 m2.hd.at_, .int .i64 m2.hd.tat, .slice kb ln lc] ∧ Below w5.heap.size w5 W) ⟨(RG5.out.alloc _).alloc _, (RH5.out.alloc _).alloc _, (row_new rfl).alloc _, ((Below.refl _ _).alloc (Nat.le_refl _) _).alloc (by simp) _⟩ ?_
        rintro W6 ⟨g6, h6, m6, b6⟩
        have RG6 := Lib.hid g6
        have RH6 := Lib.hid h6
        have RM6 := Lib.hid m6
        have B6 := Lib.hid (B5.out.trans (b6.mono B5.out.size))
        have S6 := Lib.hid (HS2.out.below b6)
        have b56 := Lib.hid b6
        have hs6 := b6.size
        have hm6 := m6.lt
        clear g6 h6 m6 b6
        have OQ6 := Lib.hid (OQ5.out.below b56.out)
        obtain ⟨d0, d1, d2, d3, d4, d5, d6, d7, d8⟩ := (show Cells W6 w5.heap.size 0 m2.hd (.slice kb ln lc) from Cells.row RM6.out)
        simp only [Nat.zero_add] at d1 d2 d3 d4 d5 d6 d7 d8
        obtain ⟨A, hA⟩ : ∃ A, Hid (W6.alloc (.cells #[.int .i64 m2.hd.kind, .string (bs m2.hd.text), .string (bs m2.hd.type), .int .i64 m2.hd.n, .int .i64 m2.hd.fr, .int .i64 m2.hd.to_, .int .i64 m2.hd.at_, .int .i64 m2.hd.tat, .slice kb ln lc] 55) = A) := ⟨_, Lib.hid rfl⟩
        have bA : Hid (Below W6.heap.size W6 A) := by rw [← hA.out]; exact Lib.hid ((Below.refl _ _).alloc (Nat.le_refl _) _)
        have hsA : A.heap.size = W6.heap.size + 1 := by rw [← hA.out]; simp
        have OA := Lib.hid (OQ6.out.below bA.out)
        have XA : Hid (OwnS (W4.heap.size) A (.slice (some ⟨W6.heap.size, 0, none⟩) 1 1) [(m2, Value.slice kb ln lc)]) := Lib.hid (own_build (ps := [(m2, Value.slice kb ln lc)]) (by rw [← hA.out]; exact row_new rfl) (by omega) (by show 1 ≤ maxLen; unfold maxLen; omega) (fun p hp => by
          obtain rfl := List.mem_singleton.1 hp
          exact ⟨_, S6.out.below bA.out, fun b hb => by have := (S6.out.1 b hb).2; omega⟩))
        have hlo6 : Hid (∀ b, (Value.slice (some ⟨W3.heap.size, 0, none⟩) 1 1).ownBlock = some b → b < W4.heap.size) := Lib.hid (fun b hb => by have h9 : W3.heap.size = b := Option.some.inj hb; omega)
        have hPl6 : Hid (∀ b : Nat, W4.heap.size ≤ b → True) := Lib.hid (fun b hb => trivial)
        have RGA := Lib.hid (RG6.out.later bA.out)
        have RHA := Lib.hid (RH6.out.later bA.out)
        have BA := Lib.hid (B6.out.trans (bA.out.mono B6.out.size))
        go_wp2_with (at_builtin; rw [hA.out]; refine wpList_append_q (w := A) (base := W1.heap.size) (lo := W4.heap.size) (P := fun _ => True) rfl _ _ rfl (Value.slice (some ⟨W3.heap.size, 0, none⟩) 1 1) (.slice (some ⟨W6.heap.size, 0, none⟩) 1 1) [(m, Value.slice ka kn kc)] [(m2, Value.slice kb ln lc)] rfl OA.out rfl XA.out hlo6.out hPl6.out (by omega) (by simp only [List.length_cons, List.length_nil]; omega) ?_; intro a7 n7 c7 w7 oq7 hg70)
        have hg7 : A.grownBy w7 (Value.slice (some ⟨W3.heap.size, 0, none⟩) 1 1).ownBlock := hg70
        clear hg70
        have OQ7 := Lib.hid oq7
        have hkb : Hid (∀ b, (Value.slice (some ⟨W3.heap.size, 0, none⟩) 1 1).ownBlock = some b → W1.heap.size ≤ b) := Lib.hid (fun b hb => (OQ6.out.row.lt b hb).1)
        have RG7 := Lib.hid (RowAt.same RGA.out (hg7.block _ RGA.out.lt (fun e => by have h9 := hkb.out _ e.symm; have h8 := B1.out.size; omega)))
        have RH7 := Lib.hid (RowAt.same RHA.out (hg7.block _ RHA.out.lt (fun e => by have h9 := hkb.out _ e.symm; have h8 := B1.out.size; omega)))
        have B7 := Lib.hid (BA.out.grown hg7 (by have := BA.out.size; omega) (fun k e => by have h9 := hkb.out _ e; have h8 := B1.out.size; omega))
        have hs7 := hg7.size
        clear oq7 hg7 d0 d1 d2 d3 d4 d5 d6 d7 d8
        cases q7 : isT T b sSemi with
        | false =>
          rw [q7, if_neg (by decide)] at hr
          obtain rfl := Option.some.inj hr
          refine (is_at (s := ⟨#[59]⟩) (HT.out w7 B7.out) q7).mono ?_
          rintro e w' ⟨rfl, hw⟩
          have hw := hw.symm
          subst hw
          go_wp2_with fail
          refine (syntax_any _ _).mono ?_
          rintro e w9 ⟨rfl, b9⟩
          have RG9 := RG7.out.later b9
          have RH9 := RH7.out.later b9
          have B9 := B7.out.trans (b9.mono B7.out.size)
          have z0 := RG9.frozen 0
          have z1 := RG9.frozen 1
          have z2 := RG9.frozen 2
          have z3 := RG9.frozen 3
          have z4 := RG9.frozen 4
          have z5 := RG9.frozen 5
          have z6 := RG9.frozen 6
          have z7 := RG9.frozen 7
          have z8 := RG9.frozen 8
          have y0 := RH9.frozen 0
          have y1 := RH9.frozen 1
          obtain ⟨r0, r1, r2, r3, r4, r5, r6, r7, r8⟩ := (show Cells w9 w.heap.size 0 ⟨0, [], [], 0, 0, 0, 0, 0⟩ (.slice none 0 0) from Cells.row RG9)
          simp only [Nat.zero_add] at r1 r2 r3 r4 r5 r6 r7 r8
          have s0 : w9.cell? ⟨w.heap.size + 1, 0, none⟩ = some (.int .i64 0) := RH9.cell rfl
          have s1 : w9.cell? ⟨w.heap.size + 1, 1, none⟩ = some (.int .i64 0) := RH9.cell rfl
          have RG9' := Lib.hid RG9
          have RH9' := Lib.hid RH9
          have B9' := Lib.hid B9
          clear RG9 RH9 B9 b9
          go_wp2_with fail
          obtain ⟨k1, k2, k3, k4, k5⟩ := both_rows RG9'.out RH9'.out (by omega) ⟨0, [], [], 0, 0, 0, 0, 0⟩ (.slice none 0 0) ((b : Nat) : Int) 120 rfl
          exact fin_node 6 7 8 rfl rfl rfl k1 k2 ⟨rfl, B9'.out.trans (k5 _ (Nat.le_refl _) (by omega))⟩
        | true =>
          rw [q7, if_pos rfl] at hr
          obtain rfl := Option.some.inj hr
          have hnx : b + 1 < T.length := isT_lt HG.out.e q7
          refine (is_at (s := ⟨#[59]⟩) (HT.out w7 B7.out) q7).mono ?_
          rintro e w' ⟨rfl, hw⟩
          have hw := hw.symm
          subst hw
          go_wp2_with fail
          obtain ⟨F', s1, -⟩ := OQ7.out.kids
          refine (made_at (.slice (some ⟨tb, to_, none⟩) T.length cv) a7 n7 c7 T HG.out 7 a (b + 1) (by omega) (by omega) (by omega) w7 (HT.out w7 B7.out)).mono ?_
          rintro e w8 ⟨rfl, b8⟩
          have RG8 := Lib.hid (RG7.out.later b8)
          have RH8 := Lib.hid (RH7.out.later b8)
          have B8 := Lib.hid (B7.out.trans (b8.mono B7.out.size))
          have S8 := Lib.hid (s1.below b8)
          clear b8 s1
          go_wp2_with fail
          refine (fine_any _).mono ?_
          rintro e w9 ⟨rfl, b9⟩
          have RG9 := RG8.out.later b9
          have RH9 := RH8.out.later b9
          have B9 := Lib.hid (B8.out.trans (b9.mono B8.out.size))
          have S9 := Lib.hid (S8.out.below b9)
          have z0 := RG9.frozen 0
          have z1 := RG9.frozen 1
          have z2 := RG9.frozen 2
          have z3 := RG9.frozen 3
          have z4 := RG9.frozen 4
          have z5 := RG9.frozen 5
          have z6 := RG9.frozen 6
          have z7 := RG9.frozen 7
          have z8 := RG9.frozen 8
          have y0 := RH9.frozen 0
          have y1 := RH9.frozen 1
          obtain ⟨r0, r1, r2, r3, r4, r5, r6, r7, r8⟩ := (show Cells w9 w.heap.size 0 ⟨0, [], [], 0, 0, 0, 0, 0⟩ (.slice none 0 0) from Cells.row RG9)
          simp only [Nat.zero_add] at r1 r2 r3 r4 r5 r6 r7 r8
          have s0 : w9.cell? ⟨w.heap.size + 1, 0, none⟩ = some (.int .i64 0) := RH9.cell rfl
          have s1 : w9.cell? ⟨w.heap.size + 1, 1, none⟩ = some (.int .i64 0) := RH9.cell rfl
          have RG9' := Lib.hid RG9
          have RH9' := Lib.hid RH9
          clear RG9 RH9 b9
          go_wp2_with fail
          obtain ⟨k1, k2, k3, k4, k5⟩ := both_rows RG9'.out RH9'.out (by omega) (madeH T 7 a (b + 1)) (.slice a7 n7 c7) (-1) 0 rfl
          exact fin_node 6 7 8 rfl rfl rfl k1 k2 ⟨⟨a7, n7, c7, F', rfl, sup_past S9.out k3 k4 (by omega) (by omega) B1.out.size⟩, B9.out.trans (k5 _ (Nat.le_refl _) (by omega))⟩
end Go.Proofs.YtbnbmjdjkadgoaaDoor.X
