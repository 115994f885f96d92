/-
  For the laws on the parser: an expression; an expression in round brackets. Condition: the tokens are a text's.
-/
import Derived.Test.YtbnbmjdjkadgoaaDoorXRl
namespace Go.Proofs.YtbnbmjdjkadgoaaDoor.X
open Go.RowKit Go.Shelf
set_option linter.unusedSimpArgs false
set_option linter.unusedVariables false

/-- The contract of expression, with fuel f. -/
def ExprC (v : Value) (T : List Tk) (f : Nat) : Prop := ∀ (a d : Nat) (r : PR Nd) (w : World), levelF f T a d 1 = some r → a < T.length → d ≤ 80 → Toks w v T → Calls Tryd.prog 72 #[v, .int .i64 (a : Nat), .int .i64 (d : Nat)] w fun e w' => NodeIs r w.heap.size e w' ∧ Below w.heap.size w w'
set_option maxRecDepth 100000 in
set_option maxHeartbeats 16000000 in
theorem bracketed_any (v : Value) (T : List Tk) (hT : GoodT T) (f : Nat) (ih : ExprC v T f) (a d : Nat) (r : PR Nd) (w : World) (hr : bracF f T a d = some r) (ha : a < T.length) (hd : d ≤ 80) (h : Toks w v T) :
    Calls Tryd.prog 82 #[v, .int .i64 (a : Nat), .int .i64 (d : Nat)] w fun e w' => NodeIs r w.heap.size e w' ∧ Below w.heap.size w w' := by
  unfold bracF at hr
  have HT := Lib.hid (fun W (hW : Below w.heap.size w W) => h.below hW)
  have HG := Lib.hid hT
  have hTl := hT.len
  obtain ⟨tb, to_, cv, rfl, -, -, hcell⟩ := h.fix hT.e.pos
  have HC := Lib.hid hcell
  clear h hcell
  have Ih := Lib.hid ih
  clear ih hT
  cases q1 : isT T a sL with
  | false =>
    rw [q1] at hr
    obtain rfl : PR.bad a 120 = r := Option.some.inj hr
    go_enter Tryd.func82, Tryd.ntmps82
    go_wp2_with fail
    refine calls_gen (fun W => RowAt W w.heap.size 55 #[.int .i64 0, .string ⟨#[]⟩, .string ⟨#[]⟩, .int .i64 0, .int .i64 0, .int .i64 0, .int .i64 0, .int .i64 0, .slice none 0 0] ∧ RowAt W (w.heap.size + 1) 68 #[.int .i64 0, .int .i64 0] ∧ Below w.heap.size w W) ⟨(row_new rfl).alloc _, row_new (by simp), ((Below.refl _ w).alloc (Nat.le_refl _) _).alloc (by simp) _⟩ ?_
    rintro W1 ⟨g1, h1, b1⟩
    have RG1 := Lib.hid g1
    have RH1 := Lib.hid h1
    have B1 := Lib.hid b1
    have hlt1 := h1.lt
    clear g1 h1 b1
    refine (is_at (s := ⟨#[40]⟩) (HT.out W1 B1.out) q1).mono ?_
    rintro e w' ⟨rfl, hw⟩
    have hw := hw.symm
    subst hw
    go_wp2_with fail
    refine (syntax_any _ _).mono ?_
    rintro e w9 ⟨rfl, b9⟩
    have RG9 := RG1.out.later b9
    have RH9 := RH1.out.later b9
    have B9 := B1.out.trans (b9.mono B1.out.size)
    have z0 := RG9.frozen 0
    have z1 := RG9.frozen 1
    have z2 := RG9.frozen 2
    have z3 := RG9.frozen 3
    have z4 := RG9.frozen 4
    have z5 := RG9.frozen 5
    have z6 := RG9.frozen 6
    have z7 := RG9.frozen 7
    have z8 := RG9.frozen 8
    have y0 := RH9.frozen 0
    have y1 := RH9.frozen 1
    obtain ⟨r0, r1, r2, r3, r4, r5, r6, r7, r8⟩ := (show Cells w9 w.heap.size 0 ⟨0, [], [], 0, 0, 0, 0, 0⟩ (.slice none 0 0) from Cells.row RG9)
    simp only [Nat.zero_add] at r1 r2 r3 r4 r5 r6 r7 r8
    have s0 : w9.cell? ⟨w.heap.size + 1, 0, none⟩ = some (.int .i64 0) := RH9.cell rfl
    have s1 : w9.cell? ⟨w.heap.size + 1, 1, none⟩ = some (.int .i64 0) := RH9.cell rfl
    have RG9' := Lib.hid RG9
    have RH9' := Lib.hid RH9
    have B9' := Lib.hid B9
    clear RG9 RH9 B9 b9
    go_wp2_with fail
    obtain ⟨k1, k2, k3, k4, k5⟩ := both_rows RG9'.out RH9'.out (by omega) ⟨0, [], [], 0, 0, 0, 0, 0⟩ (.slice none 0 0) ((a : Nat) : Int) 120 rfl
    exact fin_node 6 7 8 rfl rfl rfl k1 k2 ⟨rfl, B9'.out.trans (k5 _ (Nat.le_refl _) (by omega))⟩
  | true =>
    rw [q1, if_pos rfl] at hr
    have ha1 : a + 1 < T.length := isT_lt HG.out.e q1
    obtain ⟨x, hx⟩ : ∃ x, levelF f T (a + 1) d 1 = x := ⟨_, rfl⟩
    have gx := ((ex_ok HG.out.e f).level (a + 1) d 1 (by omega) (by omega) ha1).2
    rw [hx] at hr gx
    cases x with
    | none => cases hr
    | some x =>
    have CX := Lib.hid (fun W hW => Ih.out (a + 1) d x W hx ha1 hd (HT.out W hW))
    clear hx
    go_enter Tryd.func82, Tryd.ntmps82
    go_wp2_with fail
    refine calls_gen (fun W => RowAt W w.heap.size 55 #[.int .i64 0, .string ⟨#[]⟩, .string ⟨#[]⟩, .int .i64 0, .int .i64 0, .int .i64 0, .int .i64 0, .int .i64 0, .slice none 0 0] ∧ RowAt W (w.heap.size + 1) 68 #[.int .i64 0, .int .i64 0] ∧ Below w.heap.size w W) ⟨(row_new rfl).alloc _, row_new (by simp), ((Below.refl _ w).alloc (Nat.le_refl _) _).alloc (by simp) _⟩ ?_
    rintro W1 ⟨g1, h1, b1⟩
    have RG1 := Lib.hid g1
    have RH1 := Lib.hid h1
    have B1 := Lib.hid b1
    have hlt1 := h1.lt
    clear g1 h1 b1
    refine (is_at (s := ⟨#[40]⟩) (HT.out W1 B1.out) q1).mono ?_
    rintro e w' ⟨rfl, hw⟩
    have hw := hw.symm
    subst hw
    go_wp2_with fail
    refine (CX.out W1 B1.out).mono ?_
    rintro e w2 ⟨hni, b2⟩
    have b12 := Lib.hid b2
    have RG2 := Lib.hid (RG1.out.later b2)
    have RH2 := Lib.hid (RH1.out.later b2)
    have B2 := Lib.hid (B1.out.trans (b2.mono B1.out.size))
    have hs2 := b2.size
    clear b2
    cases x with
    | bad p c =>
      obtain rfl : PR.bad p c = r := Option.some.inj hr
      obtain rfl := hni
      have p1 : decide ((p : Int) ≥ 0) = true := decide_eq_true (by omega)
      have p2 : decide ((0 : Int) ≤ (p : Int)) = true := decide_eq_true (by omega)
      go_wp2_with fail
      refine wp_gen (fun W => RowAt W w.heap.size 55 #[.int .i64 0, .string ⟨#[]⟩, .string ⟨#[]⟩, .int .i64 0, .int .i64 0, .int .i64 0, .int .i64 0, .int .i64 0, .slice none 0 0] ∧ RowAt W (w.heap.size + 1) 68 #[.int .i64 0, .int .i64 0] ∧ RowAt W (w2.heap.size + 1) 68 #[.int .i64 (p : Nat), .int .i64 c] ∧ Below w.heap.size w W) ⟨(RG2.out.alloc _).alloc _, (RH2.out.alloc _).alloc _, row_new (by simp), (B2.out.alloc (by omega) _).alloc (by simp; omega) _⟩ ?_
      rintro W3 ⟨g3, h3, t3, b3⟩
      have z0 := g3.frozen 0
      have z1 := g3.frozen 1
      have z2 := g3.frozen 2
      have z3 := g3.frozen 3
      have z4 := g3.frozen 4
      have z5 := g3.frozen 5
      have z6 := g3.frozen 6
      have z7 := g3.frozen 7
      have z8 := g3.frozen 8
      have y0 := h3.frozen 0
      have y1 := h3.frozen 1
      obtain ⟨r0, r1, r2, r3, r4, r5, r6, r7, r8⟩ := (show Cells W3 w.heap.size 0 ⟨0, [], [], 0, 0, 0, 0, 0⟩ (.slice none 0 0) from Cells.row g3)
      simp only [Nat.zero_add] at r1 r2 r3 r4 r5 r6 r7 r8
      have s0 : W3.cell? ⟨w.heap.size + 1, 0, none⟩ = some (.int .i64 0) := h3.cell rfl
      have s1 : W3.cell? ⟨w.heap.size + 1, 1, none⟩ = some (.int .i64 0) := h3.cell rfl
      have t0 : W3.cell? ⟨(w2.heap.size + 1), 0, none⟩ = some (.int .i64 (p : Nat)) := t3.cell rfl
      have t1 : W3.cell? ⟨(w2.heap.size + 1), 1, none⟩ = some (.int .i64 c) := t3.cell rfl
      have ne1 : (w2.heap.size + 1) ≠ w.heap.size := by omega
      have G3 := Lib.hid g3
      have H3 := Lib.hid h3
      have B3 := Lib.hid b3
      clear g3 h3 t3 b3
      go_region
      all_goals
        go_wp2_with fail
        obtain ⟨k1, k2, k3, k4, k5⟩ := both_rows_d G3.out H3.out (by omega) ⟨0, [], [], 0, 0, 0, 0, 0⟩ (.slice none 0 0) p c rfl
        exact fin_node 6 7 8 rfl rfl rfl k1 k2 ⟨rfl, B3.out.trans (k5 _ (Nat.le_refl _) (by omega))⟩
    | ok m next =>
      obtain ⟨u1, u2, u3⟩ := gx m next rfl
      have hr : (if isT T next sR = true then some (PR.ok m (next + 1)) else some (PR.bad next 120)) = some r := hr
      obtain ⟨ka, kn, kc, F, rfl, hsup⟩ := hni
      have HS := Lib.hid hsup
      have p1 : decide ((-1 : Int) ≥ 0) = false := by decide
      clear hsup
      go_wp2_with fail
      refine calls_gen (fun W => RowAt W w.heap.size 55 #[.int .i64 0, .string ⟨#[]⟩, .string ⟨#[]⟩, .int .i64 0, .int .i64 0, .int .i64 0, .int .i64 0, .int .i64 0, .slice none 0 0] ∧ RowAt W (w.heap.size + 1) 68 #[.int .i64 0, .int .i64 0] ∧ RowAt W w2.heap.size 55 #[.int .i64 m.hd.kind, .string (bs m.hd.text), .string (bs m.hd.type), .int .i64 m.hd.n, .int .i64 m.hd.fr, .int .i64 m.hd.to_, .int .i64 m.hd.at_, .int .i64 m.hd.tat, .slice ka kn kc] ∧ Below w2.heap.size w2 W) ⟨(RG2.out.alloc _).alloc _, (RH2.out.alloc _).alloc _, (row_new rfl).alloc _, ((Below.refl _ _).alloc (Nat.le_refl _) _).alloc (by simp) _⟩ ?_
      rintro W3 ⟨g3, h3, m3, b3⟩
      have RG3 := Lib.hid g3
      have RH3 := Lib.hid h3
      have RM3 := Lib.hid m3
      have B3 := Lib.hid (B2.out.trans (b3.mono B2.out.size))
      have S3 := Lib.hid (HS.out.below b3)
      have b23 := Lib.hid b3
      have hs3 := b3.size
      have hm3 := m3.lt
      clear g3 h3 m3 b3
      cases q2 : isT T next sR with
      | false =>
        rw [q2] at hr
        obtain rfl : PR.bad next 120 = r := Option.some.inj hr
        refine (is_at (s := ⟨#[41]⟩) (HT.out W3 B3.out) q2).mono ?_
        rintro e w' ⟨rfl, hw⟩
        have hw := hw.symm
        subst hw
        go_wp2_with fail
        refine (syntax_any _ _).mono ?_
        rintro e w9 ⟨rfl, b9⟩
        have RG9 := RG3.out.later b9
        have RH9 := RH3.out.later b9
        have B9 := B3.out.trans (b9.mono B3.out.size)
        have z0 := RG9.frozen 0
        have z1 := RG9.frozen 1
        have z2 := RG9.frozen 2
        have z3 := RG9.frozen 3
        have z4 := RG9.frozen 4
        have z5 := RG9.frozen 5
        have z6 := RG9.frozen 6
        have z7 := RG9.frozen 7
        have z8 := RG9.frozen 8
        have y0 := RH9.frozen 0
        have y1 := RH9.frozen 1
        obtain ⟨r0, r1, r2, r3, r4, r5, r6, r7, r8⟩ := (show Cells w9 w.heap.size 0 ⟨0, [], [], 0, 0, 0, 0, 0⟩ (.slice none 0 0) from Cells.row RG9)
        simp only [Nat.zero_add] at r1 r2 r3 r4 r5 r6 r7 r8
        have s0 : w9.cell? ⟨w.heap.size + 1, 0, none⟩ = some (.int .i64 0) := RH9.cell rfl
        have s1 : w9.cell? ⟨w.heap.size + 1, 1, none⟩ = some (.int .i64 0) := RH9.cell rfl
        have RG9' := Lib.hid RG9
        have RH9' := Lib.hid RH9
        have B9' := Lib.hid B9
        clear RG9 RH9 B9 b9
        go_wp2_with fail
        obtain ⟨k1, k2, k3, k4, k5⟩ := both_rows RG9'.out RH9'.out (by omega) ⟨0, [], [], 0, 0, 0, 0, 0⟩ (.slice none 0 0) ((next : Nat) : Int) 120 rfl
        exact fin_node 6 7 8 rfl rfl rfl k1 k2 ⟨rfl, B9'.out.trans (k5 _ (Nat.le_refl _) (by omega))⟩
      | true =>
        rw [q2, if_pos rfl] at hr
        obtain rfl : PR.ok m (next + 1) = r := Option.some.inj hr
        refine (is_at (s := ⟨#[41]⟩) (HT.out W3 B3.out) q2).mono ?_
        rintro e w' ⟨rfl, hw⟩
        have hw := hw.symm
        subst hw
        go_upto_region 8 with fail
        have iw : Hid (IntKind.i64.wrap ((next : Int) + 1) = (next : Int) + 1) := Lib.hid (Go.IntWalk.i64_in _ (by omega))
        have z0 := RG3.out.frozen 0
        have z1 := RG3.out.frozen 1
        have z2 := RG3.out.frozen 2
        have z3 := RG3.out.frozen 3
        have z4 := RG3.out.frozen 4
        have z5 := RG3.out.frozen 5
        have z6 := RG3.out.frozen 6
        have z7 := RG3.out.frozen 7
        have z8 := RG3.out.frozen 8
        have y0 := RH3.out.frozen 0
        have y1 := RH3.out.frozen 1
        obtain ⟨r0, r1, r2, r3, r4, r5, r6, r7, r8⟩ := (show Cells W3 w.heap.size 0 ⟨0, [], [], 0, 0, 0, 0, 0⟩ (.slice none 0 0) from Cells.row RG3.out)
        simp only [Nat.zero_add] at r1 r2 r3 r4 r5 r6 r7 r8
        have s0 : W3.cell? ⟨w.heap.size + 1, 0, none⟩ = some (.int .i64 0) := RH3.out.cell rfl
        have s1 : W3.cell? ⟨w.heap.size + 1, 1, none⟩ = some (.int .i64 0) := RH3.out.cell rfl
        have F0 : Hid (W3.cell? ⟨w2.heap.size, 0, none⟩ = some (.int .i64 m.hd.kind) ∧ W3.cell? ⟨w2.heap.size, 1, none⟩ = some (.string (bs m.hd.text)) ∧ W3.cell? ⟨w2.heap.size, 2, none⟩ = some (.string (bs m.hd.type)) ∧ W3.cell? ⟨w2.heap.size, 3, none⟩ = some (.int .i64 m.hd.n) ∧ W3.cell? ⟨w2.heap.size, 4, none⟩ = some (.int .i64 m.hd.fr) ∧ W3.cell? ⟨w2.heap.size, 5, none⟩ = some (.int .i64 m.hd.to_) ∧ W3.cell? ⟨w2.heap.size, 6, none⟩ = some (.int .i64 m.hd.at_) ∧ W3.cell? ⟨w2.heap.size, 7, none⟩ = some (.int .i64 m.hd.tat) ∧ W3.cell? ⟨w2.heap.size, 8, none⟩ = some (.slice ka kn kc)) := Lib.hid ⟨RM3.out.cell rfl, RM3.out.cell rfl, RM3.out.cell rfl, RM3.out.cell rfl, RM3.out.cell rfl, RM3.out.cell rfl, RM3.out.cell rfl, RM3.out.cell rfl, RM3.out.cell rfl⟩
        have FD : Hid (W3.drew.cell? ⟨w2.heap.size, 0, none⟩ = some (.int .i64 m.hd.kind) ∧ W3.drew.cell? ⟨w2.heap.size, 1, none⟩ = some (.string (bs m.hd.text)) ∧ W3.drew.cell? ⟨w2.heap.size, 2, none⟩ = some (.string (bs m.hd.type)) ∧ W3.drew.cell? ⟨w2.heap.size, 3, none⟩ = some (.int .i64 m.hd.n) ∧ W3.drew.cell? ⟨w2.heap.size, 4, none⟩ = some (.int .i64 m.hd.fr) ∧ W3.drew.cell? ⟨w2.heap.size, 5, none⟩ = some (.int .i64 m.hd.to_) ∧ W3.drew.cell? ⟨w2.heap.size, 6, none⟩ = some (.int .i64 m.hd.at_) ∧ W3.drew.cell? ⟨w2.heap.size, 7, none⟩ = some (.int .i64 m.hd.tat) ∧ W3.drew.cell? ⟨w2.heap.size, 8, none⟩ = some (.slice ka kn kc)) := Lib.hid F0.out
        have RGd : Hid (RowAt W3.drew w.heap.size 55 #[.int .i64 0, .string ⟨#[]⟩, .string ⟨#[]⟩, .int .i64 0, .int .i64 0, .int .i64 0, .int .i64 0, .int .i64 0, .slice none 0 0]) := Lib.hid RG3.out
        have RHd : Hid (RowAt W3.drew (w.heap.size + 1) 68 #[.int .i64 0, .int .i64 0]) := Lib.hid RH3.out
        have RMd : Hid (RowAt W3.drew w2.heap.size 55 #[.int .i64 m.hd.kind, .string (bs m.hd.text), .string (bs m.hd.type), .int .i64 m.hd.n, .int .i64 m.hd.fr, .int .i64 m.hd.to_, .int .i64 m.hd.at_, .int .i64 m.hd.tat, .slice ka kn kc]) := Lib.hid RM3.out
        have BDd : Hid (Below w.heap.size w W3.drew) := Lib.hid (below_drew B3.out)
        have SDd : Hid (Sup W3.drew W1.heap.size m.kids (.slice ka kn kc) F) := Lib.hid (S3.out.below (below_drew (Below.refl _ _)))
        go_region_held3 (fun W => W.cell? ⟨w2.heap.size, 0, none⟩ = some (.int .i64 m.hd.kind) ∧ W.cell? ⟨w2.heap.size, 1, none⟩ = some (.string (bs m.hd.text)) ∧ W.cell? ⟨w2.heap.size, 2, none⟩ = some (.string (bs m.hd.type)) ∧ W.cell? ⟨w2.heap.size, 3, none⟩ = some (.int .i64 m.hd.n) ∧ W.cell? ⟨w2.heap.size, 4, none⟩ = some (.int .i64 m.hd.fr) ∧ W.cell? ⟨w2.heap.size, 5, none⟩ = some (.int .i64 m.hd.to_) ∧ W.cell? ⟨w2.heap.size, 6, none⟩ = some (.int .i64 m.hd.at_) ∧ W.cell? ⟨w2.heap.size, 7, none⟩ = some (.int .i64 m.hd.tat) ∧ W.cell? ⟨w2.heap.size, 8, none⟩ = some (.slice ka kn kc))
          (first | (with_reducible exact F0.out) | (with_reducible exact FD.out) | (with_reducible exact F5.out) | (with_reducible exact F6.out) | (with_reducible exact F7.out))
          (first | (go_at_call 46; ((with_reducible refine (fine_any _).mono ?_); rintro e wf ⟨rfl, bf⟩; have R5 := RMd.out.later bf; have F5 := Lib.hid (show wf.cell? ⟨w2.heap.size, 0, none⟩ = some (.int .i64 m.hd.kind) ∧ wf.cell? ⟨w2.heap.size, 1, none⟩ = some (.string (bs m.hd.text)) ∧ wf.cell? ⟨w2.heap.size, 2, none⟩ = some (.string (bs m.hd.type)) ∧ wf.cell? ⟨w2.heap.size, 3, none⟩ = some (.int .i64 m.hd.n) ∧ wf.cell? ⟨w2.heap.size, 4, none⟩ = some (.int .i64 m.hd.fr) ∧ wf.cell? ⟨w2.heap.size, 5, none⟩ = some (.int .i64 m.hd.to_) ∧ wf.cell? ⟨w2.heap.size, 6, none⟩ = some (.int .i64 m.hd.at_) ∧ wf.cell? ⟨w2.heap.size, 7, none⟩ = some (.int .i64 m.hd.tat) ∧ wf.cell? ⟨w2.heap.size, 8, none⟩ = some (.slice ka kn kc) from ⟨R5.cell rfl, R5.cell rfl, R5.cell rfl, R5.cell rfl, R5.cell rfl, R5.cell rfl, R5.cell rfl, R5.cell rfl, R5.cell rfl⟩); have RGf := Lib.hid (RGd.out.later bf); have RHf := Lib.hid (RHd.out.later bf); have F6 := Lib.hid (nineC (RowAt.same R5 ((nine RGf.out m.hd (.slice ka kn kc)).2.other w2.heap.size (by omega)))); have N9 := (nine RGf.out m.hd (.slice ka kn kc)).2; have F7 := Lib.hid (nineC (((RowAt.same R5 (N9.other w2.heap.size (by omega))).other (c := w.heap.size + 1) (by omega) 0 (.int .i64 (-1))).other (c := w.heap.size + 1) (by omega) 1 (.int .i64 0))); clear N9; have Bf := Lib.hid (BDd.out.trans (bf.mono BDd.out.size)); have Sf := Lib.hid (SDd.out.below bf); have z0 := RGf.out.frozen 0; have z1 := RGf.out.frozen 1; have z2 := RGf.out.frozen 2; have z3 := RGf.out.frozen 3; have z4 := RGf.out.frozen 4; have z5 := RGf.out.frozen 5; have z6 := RGf.out.frozen 6; have z7 := RGf.out.frozen 7; have z8 := RGf.out.frozen 8; have y0 := RHf.out.frozen 0; have y1 := RHf.out.frozen 1; obtain ⟨r0, r1, r2, r3, r4, r5, r6, r7, r8⟩ := (show Cells wf w.heap.size 0 ⟨0, [], [], 0, 0, 0, 0, 0⟩ (.slice none 0 0) from Cells.row RGf.out); simp only [Nat.zero_add] at r1 r2 r3 r4 r5 r6 r7 r8; have s0 : wf.cell? ⟨w.heap.size + 1, 0, none⟩ = some (.int .i64 0) := RHf.out.cell rfl; have s1 : wf.cell? ⟨w.heap.size + 1, 1, none⟩ = some (.int .i64 0) := RHf.out.cell rfl; clear bf R5)))
        all_goals
          go_wp2_with fail
          obtain ⟨k1, k2, k3, k4, k5⟩ := both_rows RGf.out RHf.out (by omega) m.hd (.slice ka kn kc) (-1) 0 rfl
          refine fin_node 6 7 8 rfl rfl rfl k1 k2 ⟨⟨ka, kn, kc, F, (by show Ending.returned (.tuple #[_, .int .i64 (IntKind.i64.wrap ((next : Int) + 1)), _]) = _; rw [iw.out]; rfl), sup_past Sf.out k3 k4 (by omega) (by omega) B1.out.size⟩, Bf.out.trans (k5 _ (Nat.le_refl _) (by omega))⟩
end Go.Proofs.YtbnbmjdjkadgoaaDoor.X
