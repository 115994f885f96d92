/-
  For the laws on the parser: an expression; return and print; a local. Condition: the tokens are a text's.
-/
import Derived.Test.YtbnbmjdjkadgoaaDoorXRb
namespace Go.Proofs.YtbnbmjdjkadgoaaDoor.X
open Go.RowKit Go.Shelf
set_option linter.unusedSimpArgs false
set_option linter.unusedVariables false

set_option maxRecDepth 100000 in
set_option maxHeartbeats 16000000 in
theorem expression_any (v : Value) (T : List Tk) (hT : GoodT T) (f : Nat) (ih : ExSpec v T f) : ExprC v T f := by
  intro a d r w hr ha hd h
  have HT := Lib.hid (fun W (hW : Below w.heap.size w W) => h.below hW)
  have HG := Lib.hid hT
  have hTl := hT.len
  obtain ⟨tb, to_, cv, rfl, -, -, hcell⟩ := h.fix hT.e.pos
  have HC := Lib.hid hcell
  clear h hcell
  have CX := Lib.hid (fun W hW => ih.level a d 1 r W hr (by omega) (by omega) ha hd (HT.out W hW))
  clear ih hT hr
  go_enter Tryd.func72, Tryd.ntmps72
  go_wp2_with fail
  refine calls_gen (fun W => RowAt W w.heap.size 55 #[.int .i64 0, .string ⟨#[]⟩, .string ⟨#[]⟩, .int .i64 0, .int .i64 0, .int .i64 0, .int .i64 0, .int .i64 0, .slice none 0 0] ∧ RowAt W (w.heap.size + 1) 68 #[.int .i64 0, .int .i64 0] ∧ Below w.heap.size w W) ⟨(row_new rfl).alloc _, row_new (by simp), ((Below.refl _ w).alloc (Nat.le_refl _) _).alloc (by simp) _⟩ ?_
  rintro W1 ⟨g1, h1, b1⟩
  have RG1 := Lib.hid g1
  have RH1 := Lib.hid h1
  have B1 := Lib.hid b1
  have hlt1 := h1.lt
  clear g1 h1 b1
  refine (CX.out W1 B1.out).mono ?_
  rintro e w2 ⟨hni, b2⟩
  have b12 := Lib.hid b2
  have RG2 := Lib.hid (RG1.out.later b2)
  have RH2 := Lib.hid (RH1.out.later b2)
  have B2 := Lib.hid (B1.out.trans (b2.mono B1.out.size))
  have hs2 := b2.size
  clear b2
  have z0 := RG2.out.frozen 0
  have z1 := RG2.out.frozen 1
  have z2 := RG2.out.frozen 2
  have z3 := RG2.out.frozen 3
  have z4 := RG2.out.frozen 4
  have z5 := RG2.out.frozen 5
  have z6 := RG2.out.frozen 6
  have z7 := RG2.out.frozen 7
  have z8 := RG2.out.frozen 8
  have y0 := RH2.out.frozen 0
  have y1 := RH2.out.frozen 1
  obtain ⟨r0, r1, r2, r3, r4, r5, r6, r7, r8⟩ := (show Cells w2 w.heap.size 0 ⟨0, [], [], 0, 0, 0, 0, 0⟩ (.slice none 0 0) from Cells.row RG2.out)
  simp only [Nat.zero_add] at r1 r2 r3 r4 r5 r6 r7 r8
  have s0 : w2.cell? ⟨w.heap.size + 1, 0, none⟩ = some (.int .i64 0) := RH2.out.cell rfl
  have s1 : w2.cell? ⟨w.heap.size + 1, 1, none⟩ = some (.int .i64 0) := RH2.out.cell rfl
  cases r with
  | bad p c =>
    obtain rfl := hni
    go_wp2_with fail
    obtain ⟨k1, k2, k3, k4, k5⟩ := both_rows RG2.out RH2.out (by omega) ⟨0, [], [], 0, 0, 0, 0, 0⟩ (.slice none 0 0) p c rfl
    exact fin_node 6 7 8 rfl rfl rfl k1 k2 ⟨rfl, B2.out.trans (k5 _ (Nat.le_refl _) (by omega))⟩
  | ok m next =>
    obtain ⟨ka, kn, kc, F, rfl, hsup⟩ := hni
    have HS := Lib.hid hsup
    clear hsup
    go_wp2_with fail
    obtain ⟨k1, k2, k3, k4, k5⟩ := both_rows RG2.out RH2.out (by omega) m.hd (.slice ka kn kc) (-1) 0 rfl
    exact fin_node 6 7 8 rfl rfl rfl k1 k2 ⟨⟨ka, kn, kc, F, rfl, sup_past HS.out k3 k4 (by omega) (by omega) B1.out.size⟩, B2.out.trans (k5 _ (Nat.le_refl _) (by omega))⟩
set_option maxRecDepth 100000 in
set_option maxHeartbeats 16000000 in
theorem simple_any (v : Value) (T : List Tk) (hT : GoodT T) (f : Nat) (ih : ExprC v T f) (a d : Nat) (r : PR Nd) (w : World) (hr : simpleF f T a d = some r) (ha : a + 1 < T.length) (hd : d ≤ 79) (h : Toks w v T) :
    Calls Tryd.prog 74 #[v, .int .i64 (a : Nat), .int .i64 (d : Nat)] w fun e w' => NodeIs r w.heap.size e w' ∧ Below w.heap.size w w' := by
  have HB := Lib.hid (bracketed_any v T hT f ih)
  unfold simpleF at hr
  have HT := Lib.hid (fun W (hW : Below w.heap.size w W) => h.below hW)
  have HG := Lib.hid hT
  have hTl := hT.len
  obtain ⟨tb, to_, cv, rfl, -, -, hcell⟩ := h.fix hT.e.pos
  have HC := Lib.hid hcell
  clear h hcell
  have Ih := Lib.hid ih
  clear ih hT
  cases q1 : isT T a sPrint with
  | true =>
    rw [q1, if_pos rfl] at hr
    obtain ⟨x, hx⟩ : ∃ x, bracF f T (a + 1) (d + 1) = x := ⟨_, rfl⟩
    have gx := (brac_ok HG.out.e f (a + 1) (d + 1) ha).2
    rw [hx] at hr gx
    cases x with
    | none => cases hr
    | some x =>
    have CX := Lib.hid (fun W hW => HB.out (a + 1) (d + 1) x W hx ha (by omega) (HT.out W hW))
    clear hx
    go_enter Tryd.func74, Tryd.ntmps74
    go_wp2_with fail
    refine calls_gen (fun W => RowAt W w.heap.size 55 #[.int .i64 0, .string ⟨#[]⟩, .string ⟨#[]⟩, .int .i64 0, .int .i64 0, .int .i64 0, .int .i64 0, .int .i64 0, .slice none 0 0] ∧ RowAt W (w.heap.size + 1) 68 #[.int .i64 0, .int .i64 0] ∧ Below w.heap.size w W) ⟨(row_new rfl).alloc _, row_new (by simp), ((Below.refl _ w).alloc (Nat.le_refl _) _).alloc (by simp) _⟩ ?_
    rintro W1 ⟨g1, h1, b1⟩
    have RG1 := Lib.hid g1
    have RH1 := Lib.hid h1
    have B1 := Lib.hid b1
    have hlt1 := h1.lt
    clear g1 h1 b1
    refine (is_at (s := ⟨#[112, 114, 105, 110, 116]⟩) (HT.out W1 B1.out) q1).mono ?_
    rintro e w' ⟨rfl, hw⟩
    have hw := hw.symm
    subst hw
    go_wp2_with fail
    refine (CX.out W1 B1.out).mono ?_
    rintro e w2 ⟨hni, b2⟩
    have b12 := Lib.hid b2
    have RG2 := Lib.hid (RG1.out.later b2)
    have RH2 := Lib.hid (RH1.out.later b2)
    have B2 := Lib.hid (B1.out.trans (b2.mono B1.out.size))
    have hs2 := b2.size
    clear b2
    cases x with
    | bad p c =>
      obtain rfl : PR.bad p c = r := Option.some.inj hr
      obtain rfl := hni
      have p1 : decide ((p : Int) ≥ 0) = true := decide_eq_true (by omega)
      have p2 : decide ((0 : Int) ≤ (p : Int)) = true := decide_eq_true (by omega)
      go_wp2_with fail
      refine wp_gen (fun W => RowAt W w.heap.size 55 #[.int .i64 0, .string ⟨#[]⟩, .string ⟨#[]⟩, .int .i64 0, .int .i64 0, .int .i64 0, .int .i64 0, .int .i64 0, .slice none 0 0] ∧ RowAt W (w.heap.size + 1) 68 #[.int .i64 0, .int .i64 0] ∧ RowAt W (w2.heap.size + 1) 68 #[.int .i64 (p : Nat), .int .i64 c] ∧ Below w.heap.size w W) ⟨(RG2.out.alloc _).alloc _, (RH2.out.alloc _).alloc _, row_new (by simp), (B2.out.alloc (by omega) _).alloc (by simp; omega) _⟩ ?_
      rintro W3 ⟨g3, h3, t3, b3⟩
      have z0 := g3.frozen 0
      have z1 := g3.frozen 1
      have z2 := g3.frozen 2
      have z3 := g3.frozen 3
      have z4 := g3.frozen 4
      have z5 := g3.frozen 5
      have z6 := g3.frozen 6
      have z7 := g3.frozen 7
      have z8 := g3.frozen 8
      have y0 := h3.frozen 0
      have y1 := h3.frozen 1
      obtain ⟨r0, r1, r2, r3, r4, r5, r6, r7, r8⟩ := (show Cells W3 w.heap.size 0 ⟨0, [], [], 0, 0, 0, 0, 0⟩ (.slice none 0 0) from Cells.row g3)
      simp only [Nat.zero_add] at r1 r2 r3 r4 r5 r6 r7 r8
      have s0 : W3.cell? ⟨w.heap.size + 1, 0, none⟩ = some (.int .i64 0) := h3.cell rfl
      have s1 : W3.cell? ⟨w.heap.size + 1, 1, none⟩ = some (.int .i64 0) := h3.cell rfl
      have t0 : W3.cell? ⟨(w2.heap.size + 1), 0, none⟩ = some (.int .i64 (p : Nat)) := t3.cell rfl
      have t1 : W3.cell? ⟨(w2.heap.size + 1), 1, none⟩ = some (.int .i64 c) := t3.cell rfl
      have ne1 : (w2.heap.size + 1) ≠ w.heap.size := by omega
      have G3 := Lib.hid g3
      have H3 := Lib.hid h3
      have B3 := Lib.hid b3
      clear g3 h3 t3 b3
      go_region
      all_goals
        go_wp2_with fail
        obtain ⟨k1, k2, k3, k4, k5⟩ := both_rows_d G3.out H3.out (by omega) ⟨0, [], [], 0, 0, 0, 0, 0⟩ (.slice none 0 0) p c rfl
        exact fin_node 6 7 8 rfl rfl rfl k1 k2 ⟨rfl, B3.out.trans (k5 _ (Nat.le_refl _) (by omega))⟩
    | ok m next =>
      obtain ⟨u1, u2, u3⟩ := gx m next rfl
      obtain ⟨ka, kn, kc, F, rfl, hsup⟩ := hni
      have HS := Lib.hid hsup
      have p1 : decide ((-1 : Int) ≥ 0) = false := by decide
      clear hsup
      go_wp2_with fail
      refine calls_gen (fun W => RowAt W w.heap.size 55 #[.int .i64 0, .string ⟨#[]⟩, .string ⟨#[]⟩, .int .i64 0, .int .i64 0, .int .i64 0, .int .i64 0, .int .i64 0, .slice none 0 0] ∧ RowAt W (w.heap.size + 1) 68 #[.int .i64 0, .int .i64 0] ∧ RowAt W w2.heap.size 55 #[.int .i64 m.hd.kind, .string (bs m.hd.text), .string (bs m.hd.type), .int .i64 m.hd.n, .int .i64 m.hd.fr, .int .i64 m.hd.to_, .int .i64 m.hd.at_, .int .i64 m.hd.tat, .slice ka kn kc] ∧ Below w2.heap.size w2 W) ⟨(RG2.out.alloc _).alloc _, (RH2.out.alloc _).alloc _, (row_new rfl).alloc _, ((Below.refl _ _).alloc (Nat.le_refl _) _).alloc (by simp) _⟩ ?_
      rintro W3 ⟨g3, h3, m3, b3⟩
      have RG3 := Lib.hid g3
      have RH3 := Lib.hid h3
      have RM3 := Lib.hid m3
      have B3 := Lib.hid (B2.out.trans (b3.mono B2.out.size))
      have S3 := Lib.hid (HS.out.below b3)
      have b23 := Lib.hid b3
      have hs3 := b3.size
      have hm3 := m3.lt
      clear g3 h3 m3 b3
      cases q2 : isT T next sSemi with
      | false =>
        have hr : some (PR.bad next 120) = some r := by simpa [bindP, q2] using hr
        obtain rfl : PR.bad next 120 = r := Option.some.inj hr
        refine (is_at (s := ⟨#[59]⟩) (HT.out W3 B3.out) q2).mono ?_
        rintro e w' ⟨rfl, hw⟩
        have hw := hw.symm
        subst hw
        go_wp2_with fail
        refine (syntax_any _ _).mono ?_
        rintro e w9 ⟨rfl, b9⟩
        have RG9 := RG3.out.later b9
        have RH9 := RH3.out.later b9
        have B9 := B3.out.trans (b9.mono B3.out.size)
        have z0 := RG9.frozen 0
        have z1 := RG9.frozen 1
        have z2 := RG9.frozen 2
        have z3 := RG9.frozen 3
        have z4 := RG9.frozen 4
        have z5 := RG9.frozen 5
        have z6 := RG9.frozen 6
        have z7 := RG9.frozen 7
        have z8 := RG9.frozen 8
        have y0 := RH9.frozen 0
        have y1 := RH9.frozen 1
        obtain ⟨r0, r1, r2, r3, r4, r5, r6, r7, r8⟩ := (show Cells w9 w.heap.size 0 ⟨0, [], [], 0, 0, 0, 0, 0⟩ (.slice none 0 0) from Cells.row RG9)
        simp only [Nat.zero_add] at r1 r2 r3 r4 r5 r6 r7 r8
        have s0 : w9.cell? ⟨w.heap.size + 1, 0, none⟩ = some (.int .i64 0) := RH9.cell rfl
        have s1 : w9.cell? ⟨w.heap.size + 1, 1, none⟩ = some (.int .i64 0) := RH9.cell rfl
        have RG9' := Lib.hid RG9
        have RH9' := Lib.hid RH9
        have B9' := Lib.hid B9
        clear RG9 RH9 B9 b9
        go_wp2_with fail
        obtain ⟨k1, k2, k3, k4, k5⟩ := both_rows RG9'.out RH9'.out (by omega) ⟨0, [], [], 0, 0, 0, 0, 0⟩ (.slice none 0 0) ((next : Nat) : Int) 120 rfl
        exact fin_node 6 7 8 rfl rfl rfl k1 k2 ⟨rfl, B9'.out.trans (k5 _ (Nat.le_refl _) (by omega))⟩
      | true =>
        have hr : some (PR.ok (Nd.mk (madeH T 12 a (next + 1)) [m]) (next + 1)) = some r := by simpa [bindP, q2] using hr
        obtain rfl := Option.some.inj hr
        have hnx : next + 1 < T.length := isT_lt HG.out.e q2
        refine (is_at (s := ⟨#[59]⟩) (HT.out W3 B3.out) q2).mono ?_
        rintro e w' ⟨rfl, hw⟩
        have hw := hw.symm
        subst hw
        obtain ⟨d0, d1, d2, d3, d4, d5, d6, d7, d8⟩ := (show Cells W3 w2.heap.size 0 m.hd (.slice ka kn kc) from Cells.row RM3.out)
        simp only [Nat.zero_add] at d1 d2 d3 d4 d5 d6 d7 d8
        go_wp2_with fail
        refine calls_gen (fun W => RowAt W w.heap.size 55 #[.int .i64 0, .string ⟨#[]⟩, .string ⟨#[]⟩, .int .i64 0, .int .i64 0, .int .i64 0, .int .i64 0, .int .i64 0, .slice none 0 0] ∧ RowAt W (w.heap.size + 1) 68 #[.int .i64 0, .int .i64 0] ∧ RowAt W W3.heap.size 55 #[.int .i64 m.hd.kind, .string (bs m.hd.text), .string (bs m.hd.type), .int .i64 m.hd.n, .int .i64 m.hd.fr, .int .i64 m.hd.to_, .int .i64 m.hd.at_, .int .i64 m.hd.tat, .slice ka kn kc] ∧ Below W3.heap.size W3 W) ⟨RG3.out.alloc _, RH3.out.alloc _, row_new rfl, (Below.refl _ _).alloc (Nat.le_refl _) _⟩ ?_
        rintro W7 ⟨g7, h7, v7, b7⟩
        have B7 := Lib.hid (B3.out.trans (b7.mono B3.out.size))
        have hs7 := b7.size
        refine (made_at (.slice (some ⟨tb, to_, none⟩) T.length cv) (some ⟨W3.heap.size, 0, none⟩) 1 1 T HG.out 12 a (next + 1) (by omega) (by omega) (by omega) W7 (HT.out W7 B7.out)).mono ?_
        rintro e w8 ⟨rfl, b8⟩
        have b78 := Lib.hid (b7.trans (b8.mono hs7))
        have RG8 := Lib.hid (g7.later b8)
        have RH8 := Lib.hid (h7.later b8)
        have B8 := Lib.hid (B7.out.trans (b8.mono B7.out.size))
        have v8 := Lib.hid (v7.later b8)
        clear g7 h7 b7 b8 v7
        go_wp2_with fail
        refine (fine_any _).mono ?_
        rintro e w9 ⟨rfl, b9⟩
        have RG9 := RG8.out.later b9
        have RH9 := RH8.out.later b9
        have B9 := Lib.hid (B8.out.trans (b9.mono B8.out.size))
        have b79 := Lib.hid (b78.out.trans (b9.mono b78.out.size))
        have v9 := Lib.hid (v8.out.later b9)
        have z0 := RG9.frozen 0
        have z1 := RG9.frozen 1
        have z2 := RG9.frozen 2
        have z3 := RG9.frozen 3
        have z4 := RG9.frozen 4
        have z5 := RG9.frozen 5
        have z6 := RG9.frozen 6
        have z7 := RG9.frozen 7
        have z8 := RG9.frozen 8
        have y0 := RH9.frozen 0
        have y1 := RH9.frozen 1
        obtain ⟨r0, r1, r2, r3, r4, r5, r6, r7, r8⟩ := (show Cells w9 w.heap.size 0 ⟨0, [], [], 0, 0, 0, 0, 0⟩ (.slice none 0 0) from Cells.row RG9)
        simp only [Nat.zero_add] at r1 r2 r3 r4 r5 r6 r7 r8
        have s0 : w9.cell? ⟨w.heap.size + 1, 0, none⟩ = some (.int .i64 0) := RH9.cell rfl
        have s1 : w9.cell? ⟨w.heap.size + 1, 1, none⟩ = some (.int .i64 0) := RH9.cell rfl
        have RG9' := Lib.hid RG9
        have RH9' := Lib.hid RH9
        clear RG9 RH9 b9
        obtain ⟨F', sup1, -⟩ := sup_row (W := w9) (base := W1.heap.size) (K := W3.heap.size) (ps := [(m, .slice ka kn kc)]) (P := fun _ => True) v9.out (by omega) (by show 1 ≤ maxLen; unfold maxLen; omega) trivial (fun p hp => by
          obtain rfl := List.mem_singleton.1 hp
          exact ⟨_, sup_low (S3.out.below b79.out) (by omega), fun _ _ => trivial⟩
        )
        have Sup1 := Lib.hid sup1
        clear sup1
        go_wp2_with fail
        obtain ⟨k1, k2, k3, k4, k5⟩ := both_rows RG9'.out RH9'.out (by omega) (madeH T 12 a (next + 1)) (.slice (some ⟨W3.heap.size, 0, none⟩) 1 1) (-1) 0 rfl
        exact fin_node 6 7 8 rfl rfl rfl k1 k2 ⟨⟨_, 1, 1, F', rfl, sup_past Sup1.out k3 k4 (by omega) (by omega) B1.out.size⟩, B9.out.trans (k5 _ (Nat.le_refl _) (by omega))⟩
  | false =>
    rw [q1, if_neg (by decide)] at hr
    cases q3 : isT T (a + 1) sSemi with
    | true =>
      rw [q3, if_pos rfl] at hr
      obtain rfl := Option.some.inj hr
      have hnx : a + 2 < T.length := isT_lt HG.out.e q3
      go_enter Tryd.func74, Tryd.ntmps74
      go_wp2_with fail
      refine calls_gen (fun W => RowAt W w.heap.size 55 #[.int .i64 0, .string ⟨#[]⟩, .string ⟨#[]⟩, .int .i64 0, .int .i64 0, .int .i64 0, .int .i64 0, .int .i64 0, .slice none 0 0] ∧ RowAt W (w.heap.size + 1) 68 #[.int .i64 0, .int .i64 0] ∧ Below w.heap.size w W) ⟨(row_new rfl).alloc _, row_new (by simp), ((Below.refl _ w).alloc (Nat.le_refl _) _).alloc (by simp) _⟩ ?_
      rintro W1 ⟨g1, h1, b1⟩
      have RG1 := Lib.hid g1
      have RH1 := Lib.hid h1
      have B1 := Lib.hid b1
      have hlt1 := h1.lt
      clear g1 h1 b1
      refine (is_at (s := ⟨#[112, 114, 105, 110, 116]⟩) (HT.out W1 B1.out) q1).mono ?_
      rintro e w' ⟨rfl, hw⟩
      have hw := hw.symm
      subst hw
      go_wp2_with fail
      refine (is_1 (s := ⟨#[59]⟩) (HT.out W1 B1.out) q3).mono ?_
      rintro e w' ⟨rfl, hw⟩
      have hw := hw.symm
      subst hw
      go_wp2_with fail
      refine calls_gen (fun W => RowAt W w.heap.size 55 #[.int .i64 0, .string ⟨#[]⟩, .string ⟨#[]⟩, .int .i64 0, .int .i64 0, .int .i64 0, .int .i64 0, .int .i64 0, .slice none 0 0] ∧ RowAt W (w.heap.size + 1) 68 #[.int .i64 0, .int .i64 0] ∧ Below W1.heap.size W1 W) ⟨RG1.out, RH1.out, Below.refl _ _⟩ ?_
      rintro W7 ⟨g7, h7, b7⟩
      have B7 := Lib.hid (B1.out.trans (b7.mono B1.out.size))
      have hs7 := b7.size
      refine (made_at (.slice (some ⟨tb, to_, none⟩) T.length cv) none 0 0 T HG.out 11 a (a + 2) (by omega) (by omega) (by omega) W7 (HT.out W7 B7.out)).mono ?_
      rintro e w8 ⟨rfl, b8⟩
      have b78 := Lib.hid (b7.trans (b8.mono hs7))
      have RG8 := Lib.hid (g7.later b8)
      have RH8 := Lib.hid (h7.later b8)
      have B8 := Lib.hid (B7.out.trans (b8.mono B7.out.size))
      clear g7 h7 b7 b8
      go_wp2_with fail
      refine (fine_any _).mono ?_
      rintro e w9 ⟨rfl, b9⟩
      have RG9 := RG8.out.later b9
      have RH9 := RH8.out.later b9
      have B9 := Lib.hid (B8.out.trans (b9.mono B8.out.size))
      have b79 := Lib.hid (b78.out.trans (b9.mono b78.out.size))
      have z0 := RG9.frozen 0
      have z1 := RG9.frozen 1
      have z2 := RG9.frozen 2
      have z3 := RG9.frozen 3
      have z4 := RG9.frozen 4
      have z5 := RG9.frozen 5
      have z6 := RG9.frozen 6
      have z7 := RG9.frozen 7
      have z8 := RG9.frozen 8
      have y0 := RH9.frozen 0
      have y1 := RH9.frozen 1
      obtain ⟨r0, r1, r2, r3, r4, r5, r6, r7, r8⟩ := (show Cells w9 w.heap.size 0 ⟨0, [], [], 0, 0, 0, 0, 0⟩ (.slice none 0 0) from Cells.row RG9)
      simp only [Nat.zero_add] at r1 r2 r3 r4 r5 r6 r7 r8
      have s0 : w9.cell? ⟨w.heap.size + 1, 0, none⟩ = some (.int .i64 0) := RH9.cell rfl
      have s1 : w9.cell? ⟨w.heap.size + 1, 1, none⟩ = some (.int .i64 0) := RH9.cell rfl
      have RG9' := Lib.hid RG9
      have RH9' := Lib.hid RH9
      clear RG9 RH9 b9
      go_wp2_with fail
      obtain ⟨k1, k2, k3, k4, k5⟩ := both_rows RG9'.out RH9'.out (by omega) (madeH T 11 a (a + 2)) (.slice none 0 0) (-1) 0 rfl
      exact fin_node 6 7 8 rfl rfl rfl k1 k2 ⟨⟨none, 0, 0, fun _ => False, rfl, ⟨nofun, fun V _ => KidsAt.nil V⟩⟩, B9.out.trans (k5 _ (Nat.le_refl _) (by omega))⟩
    | false =>
      rw [q3, if_neg (by decide)] at hr
      obtain ⟨x, hx⟩ : ∃ x, levelF f T (a + 1) (d + 1) 1 = x := ⟨_, rfl⟩
      have gx := ((ex_ok HG.out.e f).level (a + 1) (d + 1) 1 (by omega) (by omega) ha).2
      rw [hx] at hr gx
      cases x with
      | none => cases hr
      | some x =>
      have CX := Lib.hid (fun W hW => Ih.out (a + 1) (d + 1) x W hx ha (by omega) (HT.out W hW))
      clear hx
      go_enter Tryd.func74, Tryd.ntmps74
      go_wp2_with fail
      refine calls_gen (fun W => RowAt W w.heap.size 55 #[.int .i64 0, .string ⟨#[]⟩, .string ⟨#[]⟩, .int .i64 0, .int .i64 0, .int .i64 0, .int .i64 0, .int .i64 0, .slice none 0 0] ∧ RowAt W (w.heap.size + 1) 68 #[.int .i64 0, .int .i64 0] ∧ Below w.heap.size w W) ⟨(row_new rfl).alloc _, row_new (by simp), ((Below.refl _ w).alloc (Nat.le_refl _) _).alloc (by simp) _⟩ ?_
      rintro W1 ⟨g1, h1, b1⟩
      have RG1 := Lib.hid g1
      have RH1 := Lib.hid h1
      have B1 := Lib.hid b1
      have hlt1 := h1.lt
      clear g1 h1 b1
      refine (is_at (s := ⟨#[112, 114, 105, 110, 116]⟩) (HT.out W1 B1.out) q1).mono ?_
      rintro e w' ⟨rfl, hw⟩
      have hw := hw.symm
      subst hw
      go_wp2_with fail
      refine (is_1 (s := ⟨#[59]⟩) (HT.out W1 B1.out) q3).mono ?_
      rintro e w' ⟨rfl, hw⟩
      have hw := hw.symm
      subst hw
      go_wp2_with fail
      refine (CX.out W1 B1.out).mono ?_
      rintro e w2 ⟨hni, b2⟩
      have b12 := Lib.hid b2
      have RG2 := Lib.hid (RG1.out.later b2)
      have RH2 := Lib.hid (RH1.out.later b2)
      have B2 := Lib.hid (B1.out.trans (b2.mono B1.out.size))
      have hs2 := b2.size
      clear b2
      cases x with
      | bad p c =>
        obtain rfl : PR.bad p c = r := Option.some.inj hr
        obtain rfl := hni
        have p1 : decide ((p : Int) ≥ 0) = true := decide_eq_true (by omega)
        have p2 : decide ((0 : Int) ≤ (p : Int)) = true := decide_eq_true (by omega)
        go_wp2_with fail
        refine wp_gen (fun W => RowAt W w.heap.size 55 #[.int .i64 0, .string ⟨#[]⟩, .string ⟨#[]⟩, .int .i64 0, .int .i64 0, .int .i64 0, .int .i64 0, .int .i64 0, .slice none 0 0] ∧ RowAt W (w.heap.size + 1) 68 #[.int .i64 0, .int .i64 0] ∧ RowAt W (w2.heap.size + 1) 68 #[.int .i64 (p : Nat), .int .i64 c] ∧ Below w.heap.size w W) ⟨(RG2.out.alloc _).alloc _, (RH2.out.alloc _).alloc _, row_new (by simp), (B2.out.alloc (by omega) _).alloc (by simp; omega) _⟩ ?_
        rintro W3 ⟨g3, h3, t3, b3⟩
        have z0 := g3.frozen 0
        have z1 := g3.frozen 1
        have z2 := g3.frozen 2
        have z3 := g3.frozen 3
        have z4 := g3.frozen 4
        have z5 := g3.frozen 5
        have z6 := g3.frozen 6
        have z7 := g3.frozen 7
        have z8 := g3.frozen 8
        have y0 := h3.frozen 0
        have y1 := h3.frozen 1
        obtain ⟨r0, r1, r2, r3, r4, r5, r6, r7, r8⟩ := (show Cells W3 w.heap.size 0 ⟨0, [], [], 0, 0, 0, 0, 0⟩ (.slice none 0 0) from Cells.row g3)
        simp only [Nat.zero_add] at r1 r2 r3 r4 r5 r6 r7 r8
        have s0 : W3.cell? ⟨w.heap.size + 1, 0, none⟩ = some (.int .i64 0) := h3.cell rfl
        have s1 : W3.cell? ⟨w.heap.size + 1, 1, none⟩ = some (.int .i64 0) := h3.cell rfl
        have t0 : W3.cell? ⟨(w2.heap.size + 1), 0, none⟩ = some (.int .i64 (p : Nat)) := t3.cell rfl
        have t1 : W3.cell? ⟨(w2.heap.size + 1), 1, none⟩ = some (.int .i64 c) := t3.cell rfl
        have ne1 : (w2.heap.size + 1) ≠ w.heap.size := by omega
        have G3 := Lib.hid g3
        have H3 := Lib.hid h3
        have B3 := Lib.hid b3
        clear g3 h3 t3 b3
        go_region
        all_goals
          go_wp2_with fail
          obtain ⟨k1, k2, k3, k4, k5⟩ := both_rows_d G3.out H3.out (by omega) ⟨0, [], [], 0, 0, 0, 0, 0⟩ (.slice none 0 0) p c rfl
          exact fin_node 6 7 8 rfl rfl rfl k1 k2 ⟨rfl, B3.out.trans (k5 _ (Nat.le_refl _) (by omega))⟩
      | ok m next =>
        obtain ⟨u1, u2, u3⟩ := gx m next rfl
        obtain ⟨ka, kn, kc, F, rfl, hsup⟩ := hni
        have HS := Lib.hid hsup
        have p1 : decide ((-1 : Int) ≥ 0) = false := by decide
        clear hsup
        go_wp2_with fail
        refine calls_gen (fun W => RowAt W w.heap.size 55 #[.int .i64 0, .string ⟨#[]⟩, .string ⟨#[]⟩, .int .i64 0, .int .i64 0, .int .i64 0, .int .i64 0, .int .i64 0, .slice none 0 0] ∧ RowAt W (w.heap.size + 1) 68 #[.int .i64 0, .int .i64 0] ∧ RowAt W w2.heap.size 55 #[.int .i64 m.hd.kind, .string (bs m.hd.text), .string (bs m.hd.type), .int .i64 m.hd.n, .int .i64 m.hd.fr, .int .i64 m.hd.to_, .int .i64 m.hd.at_, .int .i64 m.hd.tat, .slice ka kn kc] ∧ Below w2.heap.size w2 W) ⟨(RG2.out.alloc _).alloc _, (RH2.out.alloc _).alloc _, (row_new rfl).alloc _, ((Below.refl _ _).alloc (Nat.le_refl _) _).alloc (by simp) _⟩ ?_
        rintro W3 ⟨g3, h3, m3, b3⟩
        have RG3 := Lib.hid g3
        have RH3 := Lib.hid h3
        have RM3 := Lib.hid m3
        have B3 := Lib.hid (B2.out.trans (b3.mono B2.out.size))
        have S3 := Lib.hid (HS.out.below b3)
        have b23 := Lib.hid b3
        have hs3 := b3.size
        have hm3 := m3.lt
        clear g3 h3 m3 b3
        cases q2 : isT T next sSemi with
        | false =>
          have hr : some (PR.bad next 120) = some r := by simpa [bindP, q2] using hr
          obtain rfl : PR.bad next 120 = r := Option.some.inj hr
          refine (is_at (s := ⟨#[59]⟩) (HT.out W3 B3.out) q2).mono ?_
          rintro e w' ⟨rfl, hw⟩
          have hw := hw.symm
          subst hw
          go_wp2_with fail
          refine (syntax_any _ _).mono ?_
          rintro e w9 ⟨rfl, b9⟩
          have RG9 := RG3.out.later b9
          have RH9 := RH3.out.later b9
          have B9 := B3.out.trans (b9.mono B3.out.size)
          have z0 := RG9.frozen 0
          have z1 := RG9.frozen 1
          have z2 := RG9.frozen 2
          have z3 := RG9.frozen 3
          have z4 := RG9.frozen 4
          have z5 := RG9.frozen 5
          have z6 := RG9.frozen 6
          have z7 := RG9.frozen 7
          have z8 := RG9.frozen 8
          have y0 := RH9.frozen 0
          have y1 := RH9.frozen 1
          obtain ⟨r0, r1, r2, r3, r4, r5, r6, r7, r8⟩ := (show Cells w9 w.heap.size 0 ⟨0, [], [], 0, 0, 0, 0, 0⟩ (.slice none 0 0) from Cells.row RG9)
          simp only [Nat.zero_add] at r1 r2 r3 r4 r5 r6 r7 r8
          have s0 : w9.cell? ⟨w.heap.size + 1, 0, none⟩ = some (.int .i64 0) := RH9.cell rfl
          have s1 : w9.cell? ⟨w.heap.size + 1, 1, none⟩ = some (.int .i64 0) := RH9.cell rfl
          have RG9' := Lib.hid RG9
          have RH9' := Lib.hid RH9
          have B9' := Lib.hid B9
          clear RG9 RH9 B9 b9
          go_wp2_with fail
          obtain ⟨k1, k2, k3, k4, k5⟩ := both_rows RG9'.out RH9'.out (by omega) ⟨0, [], [], 0, 0, 0, 0, 0⟩ (.slice none 0 0) ((next : Nat) : Int) 120 rfl
          exact fin_node 6 7 8 rfl rfl rfl k1 k2 ⟨rfl, B9'.out.trans (k5 _ (Nat.le_refl _) (by omega))⟩
        | true =>
          have hr : some (PR.ok (Nd.mk (madeH T 11 a (next + 1)) [m]) (next + 1)) = some r := by simpa [bindP, q2] using hr
          obtain rfl := Option.some.inj hr
          have hnx : next + 1 < T.length := isT_lt HG.out.e q2
          refine (is_at (s := ⟨#[59]⟩) (HT.out W3 B3.out) q2).mono ?_
          rintro e w' ⟨rfl, hw⟩
          have hw := hw.symm
          subst hw
          obtain ⟨d0, d1, d2, d3, d4, d5, d6, d7, d8⟩ := (show Cells W3 w2.heap.size 0 m.hd (.slice ka kn kc) from Cells.row RM3.out)
          simp only [Nat.zero_add] at d1 d2 d3 d4 d5 d6 d7 d8
          go_wp2_with fail
          refine calls_gen (fun W => RowAt W w.heap.size 55 #[.int .i64 0, .string ⟨#[]⟩, .string ⟨#[]⟩, .int .i64 0, .int .i64 0, .int .i64 0, .int .i64 0, .int .i64 0, .slice none 0 0] ∧ RowAt W (w.heap.size + 1) 68 #[.int .i64 0, .int .i64 0] ∧ RowAt W W3.heap.size 55 #[.int .i64 m.hd.kind, .string (bs m.hd.text), .string (bs m.hd.type), .int .i64 m.hd.n, .int .i64 m.hd.fr, .int .i64 m.hd.to_, .int .i64 m.hd.at_, .int .i64 m.hd.tat, .slice ka kn kc] ∧ Below W3.heap.size W3 W) ⟨RG3.out.alloc _, RH3.out.alloc _, row_new rfl, (Below.refl _ _).alloc (Nat.le_refl _) _⟩ ?_
          rintro W7 ⟨g7, h7, v7, b7⟩
          have B7 := Lib.hid (B3.out.trans (b7.mono B3.out.size))
          have hs7 := b7.size
          refine (made_at (.slice (some ⟨tb, to_, none⟩) T.length cv) (some ⟨W3.heap.size, 0, none⟩) 1 1 T HG.out 11 a (next + 1) (by omega) (by omega) (by omega) W7 (HT.out W7 B7.out)).mono ?_
          rintro e w8 ⟨rfl, b8⟩
          have b78 := Lib.hid (b7.trans (b8.mono hs7))
          have RG8 := Lib.hid (g7.later b8)
          have RH8 := Lib.hid (h7.later b8)
          have B8 := Lib.hid (B7.out.trans (b8.mono B7.out.size))
          have v8 := Lib.hid (v7.later b8)
          clear g7 h7 b7 b8 v7
          go_wp2_with fail
          refine (fine_any _).mono ?_
          rintro e w9 ⟨rfl, b9⟩
          have RG9 := RG8.out.later b9
          have RH9 := RH8.out.later b9
          have B9 := Lib.hid (B8.out.trans (b9.mono B8.out.size))
          have b79 := Lib.hid (b78.out.trans (b9.mono b78.out.size))
          have v9 := Lib.hid (v8.out.later b9)
          have z0 := RG9.frozen 0
          have z1 := RG9.frozen 1
          have z2 := RG9.frozen 2
          have z3 := RG9.frozen 3
          have z4 := RG9.frozen 4
          have z5 := RG9.frozen 5
          have z6 := RG9.frozen 6
          have z7 := RG9.frozen 7
          have z8 := RG9.frozen 8
          have y0 := RH9.frozen 0
          have y1 := RH9.frozen 1
          obtain ⟨r0, r1, r2, r3, r4, r5, r6, r7, r8⟩ := (show Cells w9 w.heap.size 0 ⟨0, [], [], 0, 0, 0, 0, 0⟩ (.slice none 0 0) from Cells.row RG9)
          simp only [Nat.zero_add] at r1 r2 r3 r4 r5 r6 r7 r8
          have s0 : w9.cell? ⟨w.heap.size + 1, 0, none⟩ = some (.int .i64 0) := RH9.cell rfl
          have s1 : w9.cell? ⟨w.heap.size + 1, 1, none⟩ = some (.int .i64 0) := RH9.cell rfl
          have RG9' := Lib.hid RG9
          have RH9' := Lib.hid RH9
          clear RG9 RH9 b9
          obtain ⟨F', sup1, -⟩ := sup_row (W := w9) (base := W1.heap.size) (K := W3.heap.size) (ps := [(m, .slice ka kn kc)]) (P := fun _ => True) v9.out (by omega) (by show 1 ≤ maxLen; unfold maxLen; omega) trivial (fun p hp => by
            obtain rfl := List.mem_singleton.1 hp
            exact ⟨_, sup_low (S3.out.below b79.out) (by omega), fun _ _ => trivial⟩
          )
          have Sup1 := Lib.hid sup1
          clear sup1
          go_wp2_with fail
          obtain ⟨k1, k2, k3, k4, k5⟩ := both_rows RG9'.out RH9'.out (by omega) (madeH T 11 a (next + 1)) (.slice (some ⟨W3.heap.size, 0, none⟩) 1 1) (-1) 0 rfl
          exact fin_node 6 7 8 rfl rfl rfl k1 k2 ⟨⟨_, 1, 1, F', rfl, sup_past Sup1.out k3 k4 (by omega) (by omega) B1.out.size⟩, B9.out.trans (k5 _ (Nat.le_refl _) (by omega))⟩
end Go.Proofs.YtbnbmjdjkadgoaaDoor.X
