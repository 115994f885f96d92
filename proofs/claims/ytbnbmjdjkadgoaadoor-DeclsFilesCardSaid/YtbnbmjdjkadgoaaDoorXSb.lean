/-
  For the laws on the parser: if and while. Condition: the tokens are a text's.
-/
import Derived.Test.YtbnbmjdjkadgoaaDoorXRj
namespace Go.Proofs.YtbnbmjdjkadgoaaDoor.X
open Go.RowKit Go.Shelf
set_option linter.unusedSimpArgs false
set_option linter.unusedVariables false

set_option maxRecDepth 100000 in
set_option maxHeartbeats 16000000 in
theorem guarded_any (v : Value) (T : List Tk) (hT : GoodT T) (f : Nat) (ih : ∀ f', f' ≤ f → StSpec v T f') (a d : Nat) (r : PR Nd) (w : World) (hr : grdF (f + 1) T a d = some r) (ha1 : a + 1 < T.length) (hd : d ≤ 62) (h : Toks w v T) :
    Calls Tryd.prog 73 #[v, .int .i64 (a : Nat), .int .i64 (d : Nat)] w fun e w' => NodeIs r w.heap.size e w' ∧ Below w.heap.size w w' := by
  have BR := Lib.hid (bracketed_any v T hT f (expr_all v T hT f))
  have HT := Lib.hid (fun W (hW : Below w.heap.size w W) => h.below hW)
  have HG := Lib.hid hT
  have hTl := hT.len
  obtain ⟨tb, to_, cv, rfl, -, -, hcell⟩ := h.fix hT.e.pos
  have HC := Lib.hid hcell
  clear h hcell
  have Ih := Lib.hid ih
  clear ih hT
  unfold grdF at hr
  obtain ⟨x, hx⟩ : ∃ x, bracF f T (a + 1) (d + 1) = x := ⟨_, rfl⟩
  have gx := (brac_ok HG.out.e f (a + 1) (d + 1) ha1).2
  rw [hx] at hr gx
  cases x with
  | none => cases hr
  | some x =>
  have CX := Lib.hid (fun W hW => BR.out (a + 1) (d + 1) x W hx ha1 (by omega) (HT.out W hW))
  clear hx
  go_enter Tryd.func73, Tryd.ntmps73
  go_wp2_with fail
  refine calls_gen (fun W => RowAt W w.heap.size 55 #[.int .i64 0, .string ⟨#[]⟩, .string ⟨#[]⟩, .int .i64 0, .int .i64 0, .int .i64 0, .int .i64 0, .int .i64 0, .slice none 0 0] ∧ RowAt W (w.heap.size + 1) 68 #[.int .i64 0, .int .i64 0] ∧ Below w.heap.size w W) ⟨(row_new rfl).alloc _, row_new (by simp), ((Below.refl _ w).alloc (Nat.le_refl _) _).alloc (by simp) _⟩ ?_
  rintro W1 ⟨g1, h1, b1⟩
  have RG1 := Lib.hid g1
  have RH1 := Lib.hid h1
  have B1 := Lib.hid b1
  have hlt1 := h1.lt
  clear g1 h1 b1
  refine (CX.out W1 B1.out).mono ?_
  rintro e w2 ⟨hni, b2⟩
  have b12 := Lib.hid b2
  have RG2 := Lib.hid (RG1.out.later b2)
  have RH2 := Lib.hid (RH1.out.later b2)
  have B2 := Lib.hid (B1.out.trans (b2.mono B1.out.size))
  have hs2 := b2.size
  clear b2
  cases x with
  | bad p c =>
    obtain rfl : PR.bad p c = r := Option.some.inj hr
    obtain rfl := hni
    have p1 : decide ((p : Int) ≥ 0) = true := decide_eq_true (by omega)
    have p2 : decide ((0 : Int) ≤ (p : Int)) = true := decide_eq_true (by omega)
    go_wp2_with fail
    refine wp_gen (fun W => RowAt W w.heap.size 55 #[.int .i64 0, .string ⟨#[]⟩, .string ⟨#[]⟩, .int .i64 0, .int .i64 0, .int .i64 0, .int .i64 0, .int .i64 0, .slice none 0 0] ∧ RowAt W (w.heap.size + 1) 68 #[.int .i64 0, .int .i64 0] ∧ RowAt W (w2.heap.size + 1) 68 #[.int .i64 (p : Nat), .int .i64 c] ∧ Below w.heap.size w W) ⟨(RG2.out.alloc _).alloc _, (RH2.out.alloc _).alloc _, row_new (by simp), (B2.out.alloc (by omega) _).alloc (by simp; omega) _⟩ ?_
    rintro W3 ⟨g3, h3, t3, b3⟩
    have z0 := g3.frozen 0
    have z1 := g3.frozen 1
    have z2 := g3.frozen 2
    have z3 := g3.frozen 3
    have z4 := g3.frozen 4
    have z5 := g3.frozen 5
    have z6 := g3.frozen 6
    have z7 := g3.frozen 7
    have z8 := g3.frozen 8
    have y0 := h3.frozen 0
    have y1 := h3.frozen 1
    obtain ⟨r0, r1, r2, r3, r4, r5, r6, r7, r8⟩ := (show Cells W3 w.heap.size 0 ⟨0, [], [], 0, 0, 0, 0, 0⟩ (.slice none 0 0) from Cells.row g3)
    simp only [Nat.zero_add] at r1 r2 r3 r4 r5 r6 r7 r8
    have s0 : W3.cell? ⟨w.heap.size + 1, 0, none⟩ = some (.int .i64 0) := h3.cell rfl
    have s1 : W3.cell? ⟨w.heap.size + 1, 1, none⟩ = some (.int .i64 0) := h3.cell rfl
    have t0 : W3.cell? ⟨(w2.heap.size + 1), 0, none⟩ = some (.int .i64 (p : Nat)) := t3.cell rfl
    have t1 : W3.cell? ⟨(w2.heap.size + 1), 1, none⟩ = some (.int .i64 c) := t3.cell rfl
    have ne1 : (w2.heap.size + 1) ≠ w.heap.size := by omega
    have G3 := Lib.hid g3
    have H3 := Lib.hid h3
    have B3 := Lib.hid b3
    clear g3 h3 t3 b3
    go_region
    all_goals
      go_wp2_with fail
      obtain ⟨k1, k2, k3, k4, k5⟩ := both_rows_d G3.out H3.out (by omega) ⟨0, [], [], 0, 0, 0, 0, 0⟩ (.slice none 0 0) p c rfl
      exact fin_node 6 7 8 rfl rfl rfl k1 k2 ⟨rfl, B3.out.trans (k5 _ (Nat.le_refl _) (by omega))⟩
  | ok m next =>
    obtain ⟨u1, u2, u3⟩ := gx m next rfl
    have hr : bindP (stF f T next (d + 1)) (fun s b =>
          if isT T a sWhile then some (.ok (.mk (madeH T 10 a b) [m, s]) b)
          else if isT T b sElse then
            bindP (stF f T (b + 1) (d + 1)) fun e m' => some (.ok (.mk (madeH T 9 a m') [m, s, e]) m')
          else some (.ok (.mk (madeH T 9 a b) [m, s]) b)) = some r := hr
    obtain ⟨y, hy⟩ : ∃ y, stF f T next (d + 1) = y := ⟨_, rfl⟩
    have gy := ((st_ok HG.out.e f).st next (d + 1) u2).2
    rw [hy] at hr gy
    cases y with
    | none => cases hr
    | some y =>
    have CY := Lib.hid (fun W hW => (Ih.out f (Nat.le_refl _)).st next (d + 1) y W hy u2 (by omega) (HT.out W hW))
    clear hy
    obtain ⟨ka, kn, kc, F, rfl, hsup⟩ := hni
    have HS := Lib.hid hsup
    have p1 : decide ((-1 : Int) ≥ 0) = false := by decide
    clear hsup
    go_wp2_with fail
    refine calls_gen (fun W => RowAt W w.heap.size 55 #[.int .i64 0, .string ⟨#[]⟩, .string ⟨#[]⟩, .int .i64 0, .int .i64 0, .int .i64 0, .int .i64 0, .int .i64 0, .slice none 0 0] ∧ RowAt W (w.heap.size + 1) 68 #[.int .i64 0, .int .i64 0] ∧ RowAt W w2.heap.size 55 #[.int .i64 m.hd.kind, .string (bs m.hd.text), .string (bs m.hd.type), .int .i64 m.hd.n, .int .i64 m.hd.fr, .int .i64 m.hd.to_, .int .i64 m.hd.at_, .int .i64 m.hd.tat, .slice ka kn kc] ∧ Below w2.heap.size w2 W) ⟨(RG2.out.alloc _).alloc _, (RH2.out.alloc _).alloc _, (row_new rfl).alloc _, ((Below.refl _ _).alloc (Nat.le_refl _) _).alloc (by simp) _⟩ ?_
    rintro W3 ⟨g3, h3, m3, b3⟩
    have RG3 := Lib.hid g3
    have RH3 := Lib.hid h3
    have RM3 := Lib.hid m3
    have B3 := Lib.hid (B2.out.trans (b3.mono B2.out.size))
    have S3 := Lib.hid (HS.out.below b3)
    have b23 := Lib.hid b3
    have hs3 := b3.size
    have hm3 := m3.lt
    clear g3 h3 m3 b3
    refine (CY.out W3 B3.out).mono ?_
    rintro e w4 ⟨hni, b4⟩
    have b34 := Lib.hid b4
    have RG4 := Lib.hid (RG3.out.later b4)
    have RH4 := Lib.hid (RH3.out.later b4)
    have B4 := Lib.hid (B3.out.trans (b4.mono B3.out.size))
    have hs4 := b4.size
    clear b4
    have RC4 := Lib.hid (RM3.out.later b34.out)
    have T4 := Lib.hid (S3.out.below b34.out)
    cases y with
    | bad p c =>
      obtain rfl : PR.bad p c = r := Option.some.inj hr
      obtain rfl := hni
      have p1 : decide ((p : Int) ≥ 0) = true := decide_eq_true (by omega)
      have p2 : decide ((0 : Int) ≤ (p : Int)) = true := decide_eq_true (by omega)
      go_wp2_with fail
      refine wp_gen (fun W => RowAt W w.heap.size 55 #[.int .i64 0, .string ⟨#[]⟩, .string ⟨#[]⟩, .int .i64 0, .int .i64 0, .int .i64 0, .int .i64 0, .int .i64 0, .slice none 0 0] ∧ RowAt W (w.heap.size + 1) 68 #[.int .i64 0, .int .i64 0] ∧ RowAt W (w4.heap.size + 1) 68 #[.int .i64 (p : Nat), .int .i64 c] ∧ Below w.heap.size w W) ⟨(RG4.out.alloc _).alloc _, (RH4.out.alloc _).alloc _, row_new (by simp), (B4.out.alloc (by omega) _).alloc (by simp; omega) _⟩ ?_
      rintro W3 ⟨g3, h3, t3, b3⟩
      have z0 := g3.frozen 0
      have z1 := g3.frozen 1
      have z2 := g3.frozen 2
      have z3 := g3.frozen 3
      have z4 := g3.frozen 4
      have z5 := g3.frozen 5
      have z6 := g3.frozen 6
      have z7 := g3.frozen 7
      have z8 := g3.frozen 8
      have y0 := h3.frozen 0
      have y1 := h3.frozen 1
      obtain ⟨r0, r1, r2, r3, r4, r5, r6, r7, r8⟩ := (show Cells W3 w.heap.size 0 ⟨0, [], [], 0, 0, 0, 0, 0⟩ (.slice none 0 0) from Cells.row g3)
      simp only [Nat.zero_add] at r1 r2 r3 r4 r5 r6 r7 r8
      have s0 : W3.cell? ⟨w.heap.size + 1, 0, none⟩ = some (.int .i64 0) := h3.cell rfl
      have s1 : W3.cell? ⟨w.heap.size + 1, 1, none⟩ = some (.int .i64 0) := h3.cell rfl
      have t0 : W3.cell? ⟨(w4.heap.size + 1), 0, none⟩ = some (.int .i64 (p : Nat)) := t3.cell rfl
      have t1 : W3.cell? ⟨(w4.heap.size + 1), 1, none⟩ = some (.int .i64 c) := t3.cell rfl
      have ne1 : (w4.heap.size + 1) ≠ w.heap.size := by omega
      have G3 := Lib.hid g3
      have H3 := Lib.hid h3
      have B3 := Lib.hid b3
      clear g3 h3 t3 b3
      go_region
      all_goals
        go_wp2_with fail
        obtain ⟨k1, k2, k3, k4, k5⟩ := both_rows_d G3.out H3.out (by omega) ⟨0, [], [], 0, 0, 0, 0, 0⟩ (.slice none 0 0) p c rfl
        exact fin_node 6 7 8 rfl rfl rfl k1 k2 ⟨rfl, B3.out.trans (k5 _ (Nat.le_refl _) (by omega))⟩
    | ok m2 b =>
      obtain ⟨v1, v2, v3⟩ := gy m2 b rfl
      have hr : (if isT T a sWhile = true then some (PR.ok (.mk (madeH T 10 a b) [m, m2]) b)
          else if isT T b sElse = true then
            bindP (stF f T (b + 1) (d + 1)) (fun e m' => some (.ok (.mk (madeH T 9 a m') [m, m2, e]) m'))
          else some (.ok (.mk (madeH T 9 a b) [m, m2]) b)) = some r := hr
      obtain ⟨kb, ln, lc, F2, rfl, hsup⟩ := hni
      have HS2 := Lib.hid hsup
      have p1 : decide ((-1 : Int) ≥ 0) = false := by decide
      clear hsup
      go_upto_region 7 with fail
      refine wp_gen (fun W => RowAt W w.heap.size 55 #[.int .i64 0, .string ⟨#[]⟩, .string ⟨#[]⟩, .int .i64 0, .int .i64 0, .int .i64 0, .int .i64 0, .int .i64 0, .slice none 0 0] ∧ RowAt W (w.heap.size + 1) 68 #[.int .i64 0, .int .i64 0] ∧ RowAt W w4.heap.size 55 #[.int .i64 m2.hd.kind, .string (bs m2.hd.text), .string (bs m2.hd.type), .int .i64 m2.hd.n, .int .i64 m2.hd.fr, .int .i64 m2.hd.to_, .int .i64 m2.hd.at_, .int .i64 m2.hd.tat, .slice kb ln lc] ∧ RowAt W w2.heap.size 55 #[.int .i64 m.hd.kind, .string (bs m.hd.text), .string (bs m.hd.type), .int .i64 m.hd.n, .int .i64 m.hd.fr, .int .i64 m.hd.to_, .int .i64 m.hd.at_, .int .i64 m.hd.tat, .slice ka kn kc] ∧ Below w4.heap.size w4 W) ⟨(RG4.out.alloc _).alloc _, (RH4.out.alloc _).alloc _, (row_new rfl).alloc _, (RC4.out.alloc _).alloc _, ((Below.refl _ _).alloc (Nat.le_refl _) _).alloc (by simp) _⟩ ?_
      rintro W5 ⟨g5, h5, m5, x0, b5⟩
      have RG5 := Lib.hid g5
      have RH5 := Lib.hid h5
      have RM5 := Lib.hid m5
      have RC5 := Lib.hid x0
      have B5 := Lib.hid (B4.out.trans (b5.mono B4.out.size))
      have S5 := Lib.hid (HS2.out.below b5)
      have b45 := Lib.hid b5
      have hs5 := b5.size
      have hm5 := m5.lt
      clear g5 h5 m5 x0 b5
      have T5 := Lib.hid (T4.out.below b45.out)
      obtain ⟨d0, d1, d2, d3, d4, d5, d6, d7, d8⟩ := (show Cells W5 w2.heap.size 0 m.hd (.slice ka kn kc) from Cells.row RC5.out)
      simp only [Nat.zero_add] at d1 d2 d3 d4 d5 d6 d7 d8
      obtain ⟨e0, e1, e2, e3, e4, e5, e6, e7, e8⟩ := (show Cells W5 w4.heap.size 0 m2.hd (.slice kb ln lc) from Cells.row RM5.out)
      simp only [Nat.zero_add] at e1 e2 e3 e4 e5 e6 e7 e8
      go_wp2_with fail
      refine calls_gen (fun W => RowAt W w.heap.size 55 #[.int .i64 0, .string ⟨#[]⟩, .string ⟨#[]⟩, .int .i64 0, .int .i64 0, .int .i64 0, .int .i64 0, .int .i64 0, .slice none 0 0] ∧ RowAt W (w.heap.size + 1) 68 #[.int .i64 0, .int .i64 0] ∧ RowAt W W5.heap.size 55 #[.int .i64 m.hd.kind, .string (bs m.hd.text), .string (bs m.hd.type), .int .i64 m.hd.n, .int .i64 m.hd.fr, .int .i64 m.hd.to_, .int .i64 m.hd.at_, .int .i64 m.hd.tat, .slice ka kn kc, .int .i64 m2.hd.kind, .string (bs m2.hd.text), .string (bs m2.hd.type), .int .i64 m2.hd.n, .int .i64 m2.hd.fr, .int .i64 m2.hd.to_, .int .i64 m2.hd.at_, .int .i64 m2.hd.tat, .slice kb ln lc] ∧ Below W5.heap.size W5 W ∧ W5.heap.size + 1 ≤ W.heap.size) ⟨RG5.out.alloc _, RH5.out.alloc _, row_new rfl, (Below.refl _ _).alloc (Nat.le_refl _) _, by simp⟩ ?_
      rintro W6 ⟨g6, h6, v6, b6, l6⟩
      have RG6 := Lib.hid g6
      have RH6 := Lib.hid h6
      have B6 := Lib.hid (B5.out.trans (b6.mono B5.out.size))
      have b56 := Lib.hid b6
      have hs6 := l6
      have OQ6 : Hid (OwnQ (fun _ => True) W1.heap.size W6 (.slice (some ⟨W5.heap.size, 0, none⟩) 2 2) [(m, Value.slice ka kn kc), (m2, Value.slice kb ln lc)]) := Lib.hid (own_q (P := fun _ => True) (base := W1.heap.size) (ps := [(m, Value.slice ka kn kc), (m2, Value.slice kb ln lc)]) v6 (by omega) (by show 2 ≤ maxLen; unfold maxLen; omega) trivial (fun p hp => by
        rcases List.mem_cons.1 hp with rfl | hp
        · exact ⟨_, sup_low (T5.out.below b56.out) (by omega), fun b hb => ⟨by have := (T5.out.1 b hb).2; omega, trivial⟩⟩
        ·
          obtain rfl := List.mem_singleton.1 hp
          exact ⟨_, sup_low (S5.out.below b56.out) (by omega), fun b hb => ⟨by have := (S5.out.1 b hb).2; omega, trivial⟩⟩
      ))
      clear g6 h6 v6 b6 l6 d0 d1 d2 d3 d4 d5 d6 d7 d8 e0 e1 e2 e3 e4 e5 e6 e7 e8
      cases q1 : isT T a sWhile with
      | true =>
        rw [q1, if_pos rfl] at hr
        obtain rfl := Option.some.inj hr
        refine (is_at (s := ⟨#[119, 104, 105, 108, 101]⟩) (HT.out W6 B6.out) q1).mono ?_
        rintro e w' ⟨rfl, hw⟩
        have hw := hw.symm
        subst hw
        go_wp2_with fail
        obtain ⟨F', s1, -⟩ := OQ6.out.kids
        refine (made_at (.slice (some ⟨tb, to_, none⟩) T.length cv) (some ⟨W5.heap.size, 0, none⟩) 2 2 T HG.out 10 a (b) (by omega) (by omega) (by omega) W6 (HT.out W6 B6.out)).mono ?_
        rintro e w8 ⟨rfl, b8⟩
        have RG8 := Lib.hid (RG6.out.later b8)
        have RH8 := Lib.hid (RH6.out.later b8)
        have B8 := Lib.hid (B6.out.trans (b8.mono B6.out.size))
        have S8 := Lib.hid (s1.below b8)
        clear b8 s1
        go_wp2_with fail
        refine (fine_any _).mono ?_
        rintro e w9 ⟨rfl, b9⟩
        have RG9 := RG8.out.later b9
        have RH9 := RH8.out.later b9
        have B9 := Lib.hid (B8.out.trans (b9.mono B8.out.size))
        have S9 := Lib.hid (S8.out.below b9)
        have z0 := RG9.frozen 0
        have z1 := RG9.frozen 1
        have z2 := RG9.frozen 2
        have z3 := RG9.frozen 3
        have z4 := RG9.frozen 4
        have z5 := RG9.frozen 5
        have z6 := RG9.frozen 6
        have z7 := RG9.frozen 7
        have z8 := RG9.frozen 8
        have y0 := RH9.frozen 0
        have y1 := RH9.frozen 1
        obtain ⟨r0, r1, r2, r3, r4, r5, r6, r7, r8⟩ := (show Cells w9 w.heap.size 0 ⟨0, [], [], 0, 0, 0, 0, 0⟩ (.slice none 0 0) from Cells.row RG9)
        simp only [Nat.zero_add] at r1 r2 r3 r4 r5 r6 r7 r8
        have s0 : w9.cell? ⟨w.heap.size + 1, 0, none⟩ = some (.int .i64 0) := RH9.cell rfl
        have s1 : w9.cell? ⟨w.heap.size + 1, 1, none⟩ = some (.int .i64 0) := RH9.cell rfl
        have RG9' := Lib.hid RG9
        have RH9' := Lib.hid RH9
        clear RG9 RH9 b9
        go_wp2_with fail
        obtain ⟨k1, k2, k3, k4, k5⟩ := both_rows RG9'.out RH9'.out (by omega) (madeH T 10 a (b)) (.slice (some ⟨W5.heap.size, 0, none⟩) 2 2) (-1) 0 rfl
        exact fin_node 6 7 8 rfl rfl rfl k1 k2 ⟨⟨(some ⟨W5.heap.size, 0, none⟩), 2, 2, F', rfl, sup_past S9.out k3 k4 (by omega) (by omega) B1.out.size⟩, B9.out.trans (k5 _ (Nat.le_refl _) (by omega))⟩
      | false =>
      rw [q1, if_neg (by decide)] at hr
      cases q2 : isT T b sElse with
      | false =>
        rw [q2, if_neg (by decide)] at hr
        obtain rfl := Option.some.inj hr
        refine (is_at (s := ⟨#[119, 104, 105, 108, 101]⟩) (HT.out W6 B6.out) q1).mono ?_
        rintro e w' ⟨rfl, hw⟩
        have hw := hw.symm
        subst hw
        go_wp2_with fail
        refine (is_at (s := ⟨#[101, 108, 115, 101]⟩) (HT.out W6 B6.out) q2).mono ?_
        rintro e w' ⟨rfl, hw⟩
        have hw := hw.symm
        subst hw
        go_wp2_with fail
        obtain ⟨F', s1, -⟩ := OQ6.out.kids
        refine (made_at (.slice (some ⟨tb, to_, none⟩) T.length cv) (some ⟨W5.heap.size, 0, none⟩) 2 2 T HG.out 9 a (b) (by omega) (by omega) (by omega) W6 (HT.out W6 B6.out)).mono ?_
        rintro e w8 ⟨rfl, b8⟩
        have RG8 := Lib.hid (RG6.out.later b8)
        have RH8 := Lib.hid (RH6.out.later b8)
        have B8 := Lib.hid (B6.out.trans (b8.mono B6.out.size))
        have S8 := Lib.hid (s1.below b8)
        clear b8 s1
        go_wp2_with fail
        refine (fine_any _).mono ?_
        rintro e w9 ⟨rfl, b9⟩
        have RG9 := RG8.out.later b9
        have RH9 := RH8.out.later b9
        have B9 := Lib.hid (B8.out.trans (b9.mono B8.out.size))
        have S9 := Lib.hid (S8.out.below b9)
        have z0 := RG9.frozen 0
        have z1 := RG9.frozen 1
        have z2 := RG9.frozen 2
        have z3 := RG9.frozen 3
        have z4 := RG9.frozen 4
        have z5 := RG9.frozen 5
        have z6 := RG9.frozen 6
        have z7 := RG9.frozen 7
        have z8 := RG9.frozen 8
        have y0 := RH9.frozen 0
        have y1 := RH9.frozen 1
        obtain ⟨r0, r1, r2, r3, r4, r5, r6, r7, r8⟩ := (show Cells w9 w.heap.size 0 ⟨0, [], [], 0, 0, 0, 0, 0⟩ (.slice none 0 0) from Cells.row RG9)
        simp only [Nat.zero_add] at r1 r2 r3 r4 r5 r6 r7 r8
        have s0 : w9.cell? ⟨w.heap.size + 1, 0, none⟩ = some (.int .i64 0) := RH9.cell rfl
        have s1 : w9.cell? ⟨w.heap.size + 1, 1, none⟩ = some (.int .i64 0) := RH9.cell rfl
        have RG9' := Lib.hid RG9
        have RH9' := Lib.hid RH9
        clear RG9 RH9 b9
        go_wp2_with fail
        obtain ⟨k1, k2, k3, k4, k5⟩ := both_rows RG9'.out RH9'.out (by omega) (madeH T 9 a (b)) (.slice (some ⟨W5.heap.size, 0, none⟩) 2 2) (-1) 0 rfl
        exact fin_node 6 7 8 rfl rfl rfl k1 k2 ⟨⟨(some ⟨W5.heap.size, 0, none⟩), 2, 2, F', rfl, sup_past S9.out k3 k4 (by omega) (by omega) B1.out.size⟩, B9.out.trans (k5 _ (Nat.le_refl _) (by omega))⟩
      | true =>
        rw [q2, if_pos rfl] at hr
        have hn1 : b + 1 < T.length := isT_lt HG.out.e q2
        obtain ⟨z, hz⟩ : ∃ z, stF f T (b + 1) (d + 1) = z := ⟨_, rfl⟩
        have gz := ((st_ok HG.out.e f).st (b + 1) (d + 1) hn1).2
        rw [hz] at hr gz
        cases z with
        | none => cases hr
        | some z =>
        have CZ := Lib.hid (fun W hW => (Ih.out f (Nat.le_refl _)).st (b + 1) (d + 1) z W hz hn1 (by omega) (HT.out W hW))
        clear hz
        refine (is_at (s := ⟨#[119, 104, 105, 108, 101]⟩) (HT.out W6 B6.out) q1).mono ?_
        rintro e w' ⟨rfl, hw⟩
        have hw := hw.symm
        subst hw
        go_wp2_with fail
        refine (is_at (s := ⟨#[101, 108, 115, 101]⟩) (HT.out W6 B6.out) q2).mono ?_
        rintro e w' ⟨rfl, hw⟩
        have hw := hw.symm
        subst hw
        go_wp2_with fail
        refine (CZ.out W6 B6.out).mono ?_
        rintro e w17 ⟨hni, b17⟩
        have b617 := Lib.hid b17
        have RG17 := Lib.hid (RG6.out.later b17)
        have RH17 := Lib.hid (RH6.out.later b17)
        have B17 := Lib.hid (B6.out.trans (b17.mono B6.out.size))
        have hs17 := b17.size
        clear b17
        cases z with
        | bad p c =>
          obtain rfl : PR.bad p c = r := Option.some.inj hr
          obtain rfl := hni
          have p1 : decide ((p : Int) ≥ 0) = true := decide_eq_true (by omega)
          have p2 : decide ((0 : Int) ≤ (p : Int)) = true := decide_eq_true (by omega)
          go_wp2_with fail
          refine wp_gen (fun W => RowAt W w.heap.size 55 #[.int .i64 0, .string ⟨#[]⟩, .string ⟨#[]⟩, .int .i64 0, .int .i64 0, .int .i64 0, .int .i64 0, .int .i64 0, .slice none 0 0] ∧ RowAt W (w.heap.size + 1) 68 #[.int .i64 0, .int .i64 0] ∧ RowAt W (w17.heap.size + 1) 68 #[.int .i64 (p : Nat), .int .i64 c] ∧ Below w.heap.size w W) ⟨(RG17.out.alloc _).alloc _, (RH17.out.alloc _).alloc _, row_new (by simp), (B17.out.alloc (by omega) _).alloc (by simp; omega) _⟩ ?_
          rintro W3 ⟨g3, h3, t3, b3⟩
          have z0 := g3.frozen 0
          have z1 := g3.frozen 1
          have z2 := g3.frozen 2
          have z3 := g3.frozen 3
          have z4 := g3.frozen 4
          have z5 := g3.frozen 5
          have z6 := g3.frozen 6
          have z7 := g3.frozen 7
          have z8 := g3.frozen 8
          have y0 := h3.frozen 0
          have y1 := h3.frozen 1
          obtain ⟨r0, r1, r2, r3, r4, r5, r6, r7, r8⟩ := (show Cells W3 w.heap.size 0 ⟨0, [], [], 0, 0, 0, 0, 0⟩ (.slice none 0 0) from Cells.row g3)
          simp only [Nat.zero_add] at r1 r2 r3 r4 r5 r6 r7 r8
          have s0 : W3.cell? ⟨w.heap.size + 1, 0, none⟩ = some (.int .i64 0) := h3.cell rfl
          have s1 : W3.cell? ⟨w.heap.size + 1, 1, none⟩ = some (.int .i64 0) := h3.cell rfl
          have t0 : W3.cell? ⟨(w17.heap.size + 1), 0, none⟩ = some (.int .i64 (p : Nat)) := t3.cell rfl
          have t1 : W3.cell? ⟨(w17.heap.size + 1), 1, none⟩ = some (.int .i64 c) := t3.cell rfl
          have ne1 : (w17.heap.size + 1) ≠ w.heap.size := by omega
          have G3 := Lib.hid g3
          have H3 := Lib.hid h3
          have B3 := Lib.hid b3
          clear g3 h3 t3 b3
          go_region
          all_goals
            go_wp2_with fail
            obtain ⟨k1, k2, k3, k4, k5⟩ := both_rows_d G3.out H3.out (by omega) ⟨0, [], [], 0, 0, 0, 0, 0⟩ (.slice none 0 0) p c rfl
            exact fin_node 6 7 8 rfl rfl rfl k1 k2 ⟨rfl, B3.out.trans (k5 _ (Nat.le_refl _) (by omega))⟩
        | ok m3 e3 =>
          obtain ⟨t1, t2, t3⟩ := gz m3 e3 rfl
          have hr : some (PR.ok (.mk (madeH T 9 a e3) [m, m2, m3]) e3) = some r := hr
          obtain rfl := Option.some.inj hr
          have OQ17 := Lib.hid (OQ6.out.below b617.out)
          obtain ⟨kd, nd, cd, F3, rfl, hsup⟩ := hni
          have HS3 := Lib.hid hsup
          have p1 : decide ((-1 : Int) ≥ 0) = false := by decide
          clear hsup
          go_upto_region 14 with fail
          refine wp_gen (fun W => RowAt W w.heap.size 55 #[.int .i64 0, .string ⟨#[]⟩, .string ⟨#[]⟩, .int .i64 0, .int .i64 0, .int .i64 0, .int .i64 0, .int .i64 0, .slice none 0 0] ∧ RowAt W (w.heap.size + 1) 68 #[.int .i64 0, .int .i64 0] ∧ RowAt W w17.heap.size 55 #[.int .i64 m3.hd.kind, .string (bs m3.hd.text), .string (bs m3.hd.type), .int .i64 m3.hd.n, .int .i64 m3.hd.fr, .int .i64 m3.hd.to_, .int .i64 m3.hd.at_, .int .i64 m3.hd.tat, .slice kd nd cd] ∧ Below w17.heap.size w17 W) ⟨(RG17.out.alloc _).alloc _, (RH17.out.alloc _).alloc _, (row_new rfl).alloc _, ((Below.refl _ _).alloc (Nat.le_refl _) _).alloc (by simp) _⟩ ?_
          rintro W18 ⟨g18, h18, m18, b18⟩
          have RG18 := Lib.hid g18
          have RH18 := Lib.hid h18
          have RM18 := Lib.hid m18
          have B18 := Lib.hid (B17.out.trans (b18.mono B17.out.size))
          have S18 := Lib.hid (HS3.out.below b18)
          have b1718 := Lib.hid b18
          have hs18 := b18.size
          have hm18 := m18.lt
          clear g18 h18 m18 b18
          have OQ18 := Lib.hid (OQ17.out.below b1718.out)
          obtain ⟨d0, d1, d2, d3, d4, d5, d6, d7, d8⟩ := (show Cells W18 w17.heap.size 0 m3.hd (.slice kd nd cd) from Cells.row RM18.out)
          simp only [Nat.zero_add] at d1 d2 d3 d4 d5 d6 d7 d8
          obtain ⟨A, hA⟩ : ∃ A, Hid (W18.alloc (.cells #[.int .i64 m3.hd.kind, .string (bs m3.hd.text), .string (bs m3.hd.type), .int .i64 m3.hd.n, .int .i64 m3.hd.fr, .int .i64 m3.hd.to_, .int .i64 m3.hd.at_, .int .i64 m3.hd.tat, .slice kd nd cd] 55) = A) := ⟨_, Lib.hid rfl⟩
          have bA : Hid (Below W18.heap.size W18 A) := by rw [← hA.out]; exact Lib.hid ((Below.refl _ _).alloc (Nat.le_refl _) _)
          have hsA : A.heap.size = W18.heap.size + 1 := by rw [← hA.out]; simp
          have OA := Lib.hid (OQ18.out.below bA.out)
          have XA : Hid (OwnS (W6.heap.size) A (.slice (some ⟨W18.heap.size, 0, none⟩) 1 1) [(m3, Value.slice kd nd cd)]) := Lib.hid (own_build (ps := [(m3, Value.slice kd nd cd)]) (by rw [← hA.out]; exact row_new rfl) (by omega) (by show 1 ≤ maxLen; unfold maxLen; omega) (fun p hp => by
            obtain rfl := List.mem_singleton.1 hp
            exact ⟨_, S18.out.below bA.out, fun b hb => by have := (S18.out.1 b hb).2; omega⟩))
          have hlo6 : Hid (∀ b, (Value.slice (some ⟨W5.heap.size, 0, none⟩) 2 2).ownBlock = some b → b < W6.heap.size) := Lib.hid (fun b hb => by have h9 : W5.heap.size = b := Option.some.inj hb; omega)
          have hPl6 : Hid (∀ b : Nat, W6.heap.size ≤ b → True) := Lib.hid (fun b hb => trivial)
          have RGA := Lib.hid (RG18.out.later bA.out)
          have RHA := Lib.hid (RH18.out.later bA.out)
          have BA := Lib.hid (B18.out.trans (bA.out.mono B18.out.size))
          go_wp2_with (at_builtin; rw [hA.out]; refine wpList_append_q (w := A) (base := W1.heap.size) (lo := W6.heap.size) (P := fun _ => True) rfl _ _ rfl (Value.slice (some ⟨W5.heap.size, 0, none⟩) 2 2) (.slice (some ⟨W18.heap.size, 0, none⟩) 1 1) [(m, Value.slice ka kn kc), (m2, Value.slice kb ln lc)] [(m3, Value.slice kd nd cd)] rfl OA.out rfl XA.out hlo6.out hPl6.out (by omega) (by simp only [List.length_cons, List.length_nil]; omega) ?_; intro a7 n7 c7 w7 oq7 hg70)
          have hg7 : A.grownBy w7 (Value.slice (some ⟨W5.heap.size, 0, none⟩) 2 2).ownBlock := hg70
          clear hg70
          have OQ7 := Lib.hid oq7
          have hkb : Hid (∀ b, (Value.slice (some ⟨W5.heap.size, 0, none⟩) 2 2).ownBlock = some b → W1.heap.size ≤ b) := Lib.hid (fun b hb => (OQ18.out.row.lt b hb).1)
          have RG7 := Lib.hid (RowAt.same RGA.out (hg7.block _ RGA.out.lt (fun e => by have h9 := hkb.out _ e.symm; have h8 := B1.out.size; omega)))
          have RH7 := Lib.hid (RowAt.same RHA.out (hg7.block _ RHA.out.lt (fun e => by have h9 := hkb.out _ e.symm; have h8 := B1.out.size; omega)))
          have B7 := Lib.hid (BA.out.grown hg7 (by have := BA.out.size; omega) (fun k e => by have h9 := hkb.out _ e; have h8 := B1.out.size; omega))
          have hs7 := hg7.size
          clear oq7 hg7 d0 d1 d2 d3 d4 d5 d6 d7 d8
          obtain ⟨F', s1, -⟩ := OQ7.out.kids
          refine (made_at (.slice (some ⟨tb, to_, none⟩) T.length cv) a7 n7 c7 T HG.out 9 a (e3) (by omega) (by omega) (by omega) w7 (HT.out w7 B7.out)).mono ?_
          rintro e w8 ⟨rfl, b8⟩
          have RG8 := Lib.hid (RG7.out.later b8)
          have RH8 := Lib.hid (RH7.out.later b8)
          have B8 := Lib.hid (B7.out.trans (b8.mono B7.out.size))
          have S8 := Lib.hid (s1.below b8)
          clear b8 s1
          go_wp2_with fail
          refine (fine_any _).mono ?_
          rintro e w9 ⟨rfl, b9⟩
          have RG9 := RG8.out.later b9
          have RH9 := RH8.out.later b9
          have B9 := Lib.hid (B8.out.trans (b9.mono B8.out.size))
          have S9 := Lib.hid (S8.out.below b9)
          have z0 := RG9.frozen 0
          have z1 := RG9.frozen 1
          have z2 := RG9.frozen 2
          have z3 := RG9.frozen 3
          have z4 := RG9.frozen 4
          have z5 := RG9.frozen 5
          have z6 := RG9.frozen 6
          have z7 := RG9.frozen 7
          have z8 := RG9.frozen 8
          have y0 := RH9.frozen 0
          have y1 := RH9.frozen 1
          obtain ⟨r0, r1, r2, r3, r4, r5, r6, r7, r8⟩ := (show Cells w9 w.heap.size 0 ⟨0, [], [], 0, 0, 0, 0, 0⟩ (.slice none 0 0) from Cells.row RG9)
          simp only [Nat.zero_add] at r1 r2 r3 r4 r5 r6 r7 r8
          have s0 : w9.cell? ⟨w.heap.size + 1, 0, none⟩ = some (.int .i64 0) := RH9.cell rfl
          have s1 : w9.cell? ⟨w.heap.size + 1, 1, none⟩ = some (.int .i64 0) := RH9.cell rfl
          have RG9' := Lib.hid RG9
          have RH9' := Lib.hid RH9
          clear RG9 RH9 b9
          go_wp2_with fail
          obtain ⟨k1, k2, k3, k4, k5⟩ := both_rows RG9'.out RH9'.out (by omega) (madeH T 9 a (e3)) (.slice a7 n7 c7) (-1) 0 rfl
          exact fin_node 6 7 8 rfl rfl rfl k1 k2 ⟨⟨a7, n7, c7, F', rfl, sup_past S9.out k3 k4 (by omega) (by omega) B1.out.size⟩, B9.out.trans (k5 _ (Nat.le_refl _) (by omega))⟩
end Go.Proofs.YtbnbmjdjkadgoaaDoor.X
