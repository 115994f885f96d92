/-
  For the laws on the parser: members. Condition: the tokens are a text's.
-/
import Derived.Test.YtbnbmjdjkadgoaaDoorXSd
namespace Go.Proofs.YtbnbmjdjkadgoaaDoor.X
open Go.RowKit Go.Shelf
set_option linter.unusedSimpArgs false
set_option linter.unusedVariables false

theorem own_to_q {base : Nat} {W : World} {v : Value} {ps : List Pr} (h : OwnS base W v ps) : OwnQ (fun _ => True) base W v ps :=
  ⟨h.1, h.2.1, fun _ _ => trivial, fun p hp => by obtain ⟨F, h1, h2⟩ := h.2.2 p hp; exact ⟨F, h1, fun b hb => ⟨h2 b hb, trivial⟩⟩⟩
set_option maxRecDepth 100000 in
set_option maxHeartbeats 16000000 in
theorem member_any (v : Value) (T : List Tk) (hT : GoodT T) (f : Nat) (a : Nat) (r : PR Nd) (w : World) (hr : memF f T a = some r) (ha : a < T.length) (h : Toks w v T) :
    Calls Tryd.prog 44 #[v, .int .i64 (a : Nat)] w fun e w' => NodeIs r w.heap.size e w' ∧ Below w.heap.size w w' := by
  have PA := Lib.hid (params_any v T hT f)
  have BL := Lib.hid (st_spec v T hT f).blk
  have HT := Lib.hid (fun W (hW : Below w.heap.size w W) => h.below hW)
  have HG := Lib.hid hT
  have hTl := hT.len
  obtain ⟨tb, to_, cv, rfl, -, -, hcell⟩ := h.fix hT.e.pos
  have HC := Lib.hid hcell
  clear h hcell
  clear hT
  unfold memF at hr
  cases q1 : isT T a sStatic with
  | true =>
    rw [q1, if_pos rfl] at hr
    have hab : a + 1 < T.length := isT_lt HG.out.e q1
    obtain ⟨b, hb⟩ : ∃ b, a + 1 = b := ⟨_, rfl⟩
    have hcast : (a : Int) + 1 = (b : Nat) := by omega
    rw [hb] at hr hab
    unfold memAtF at hr
    cases q2 : kindT T b with
    | false =>
      rw [q2, if_neg (by decide)] at hr
      obtain rfl := Option.some.inj hr
      go_enter Tryd.func44, Tryd.ntmps44
      go_wp2_with fail
      refine calls_gen (fun W => RowAt W w.heap.size 55 #[.int .i64 0, .string ⟨#[]⟩, .string ⟨#[]⟩, .int .i64 0, .int .i64 0, .int .i64 0, .int .i64 0, .int .i64 0, .slice none 0 0] ∧ RowAt W (w.heap.size + 1) 68 #[.int .i64 0, .int .i64 0] ∧ Below w.heap.size w W) ⟨(row_new rfl).alloc _, row_new (by simp), ((Below.refl _ w).alloc (Nat.le_refl _) _).alloc (by simp) _⟩ ?_
      rintro W1 ⟨g1, h1, b1⟩
      have RG1 := Lib.hid g1
      have RH1 := Lib.hid h1
      have B1 := Lib.hid b1
      have hlt1 := h1.lt
      clear g1 h1 b1
      refine (is_at (s := ⟨#[115, 116, 97, 116, 105, 99]⟩) (HT.out W1 B1.out) q1).mono ?_
      rintro e w' ⟨rfl, hw⟩
      have hw := hw.symm
      subst hw
      go_wp2_with fail
      refine (kind_at (HT.out W1 B1.out) q2).mono ?_
      rintro e w' ⟨rfl, hw⟩
      have hw := hw.symm
      subst hw
      go_wp2_with fail
      refine (syntax_any _ _).mono ?_
      rintro e w9 ⟨rfl, b9⟩
      have RG9 := RG1.out.later b9
      have RH9 := RH1.out.later b9
      have B9 := B1.out.trans (b9.mono B1.out.size)
      have z0 := RG9.frozen 0
      have z1 := RG9.frozen 1
      have z2 := RG9.frozen 2
      have z3 := RG9.frozen 3
      have z4 := RG9.frozen 4
      have z5 := RG9.frozen 5
      have z6 := RG9.frozen 6
      have z7 := RG9.frozen 7
      have z8 := RG9.frozen 8
      have y0 := RH9.frozen 0
      have y1 := RH9.frozen 1
      obtain ⟨r0, r1, r2, r3, r4, r5, r6, r7, r8⟩ := (show Cells w9 w.heap.size 0 ⟨0, [], [], 0, 0, 0, 0, 0⟩ (.slice none 0 0) from Cells.row RG9)
      simp only [Nat.zero_add] at r1 r2 r3 r4 r5 r6 r7 r8
      have s0 : w9.cell? ⟨w.heap.size + 1, 0, none⟩ = some (.int .i64 0) := RH9.cell rfl
      have s1 : w9.cell? ⟨w.heap.size + 1, 1, none⟩ = some (.int .i64 0) := RH9.cell rfl
      have RG9' := Lib.hid RG9
      have RH9' := Lib.hid RH9
      have B9' := Lib.hid B9
      clear RG9 RH9 B9 b9
      go_wp2_with fail
      obtain ⟨k1, k2, k3, k4, k5⟩ := both_rows RG9'.out RH9'.out (by omega) ⟨0, [], [], 0, 0, 0, 0, 0⟩ (.slice none 0 0) ((b : Nat) : Int) 120 rfl
      exact fin_node 4 5 6 rfl rfl rfl k1 k2 ⟨rfl, B9'.out.trans (k5 _ (Nat.le_refl _) (by omega))⟩
    | true =>
    rw [q2, if_pos rfl] at hr
    cases q3 : nmT T (b + 1) with
    | false =>
      rw [q3, if_neg (by decide)] at hr
      obtain rfl := Option.some.inj hr
      go_enter Tryd.func44, Tryd.ntmps44
      go_wp2_with fail
      refine calls_gen (fun W => RowAt W w.heap.size 55 #[.int .i64 0, .string ⟨#[]⟩, .string ⟨#[]⟩, .int .i64 0, .int .i64 0, .int .i64 0, .int .i64 0, .int .i64 0, .slice none 0 0] ∧ RowAt W (w.heap.size + 1) 68 #[.int .i64 0, .int .i64 0] ∧ Below w.heap.size w W) ⟨(row_new rfl).alloc _, row_new (by simp), ((Below.refl _ w).alloc (Nat.le_refl _) _).alloc (by simp) _⟩ ?_
      rintro W1 ⟨g1, h1, b1⟩
      have RG1 := Lib.hid g1
      have RH1 := Lib.hid h1
      have B1 := Lib.hid b1
      have hlt1 := h1.lt
      clear g1 h1 b1
      refine (is_at (s := ⟨#[115, 116, 97, 116, 105, 99]⟩) (HT.out W1 B1.out) q1).mono ?_
      rintro e w' ⟨rfl, hw⟩
      have hw := hw.symm
      subst hw
      go_wp2_with fail
      refine (kind_at (HT.out W1 B1.out) q2).mono ?_
      rintro e w' ⟨rfl, hw⟩
      have hw := hw.symm
      subst hw
      go_wp2_with fail
      refine (name_1 (HT.out W1 B1.out) q3).mono ?_
      rintro e w' ⟨rfl, hw⟩
      have hw := hw.symm
      subst hw
      go_wp2_with fail
      refine (syntax_any _ _).mono ?_
      rintro e w9 ⟨rfl, b9⟩
      have RG9 := RG1.out.later b9
      have RH9 := RH1.out.later b9
      have B9 := B1.out.trans (b9.mono B1.out.size)
      have z0 := RG9.frozen 0
      have z1 := RG9.frozen 1
      have z2 := RG9.frozen 2
      have z3 := RG9.frozen 3
      have z4 := RG9.frozen 4
      have z5 := RG9.frozen 5
      have z6 := RG9.frozen 6
      have z7 := RG9.frozen 7
      have z8 := RG9.frozen 8
      have y0 := RH9.frozen 0
      have y1 := RH9.frozen 1
      obtain ⟨r0, r1, r2, r3, r4, r5, r6, r7, r8⟩ := (show Cells w9 w.heap.size 0 ⟨0, [], [], 0, 0, 0, 0, 0⟩ (.slice none 0 0) from Cells.row RG9)
      simp only [Nat.zero_add] at r1 r2 r3 r4 r5 r6 r7 r8
      have s0 : w9.cell? ⟨w.heap.size + 1, 0, none⟩ = some (.int .i64 0) := RH9.cell rfl
      have s1 : w9.cell? ⟨w.heap.size + 1, 1, none⟩ = some (.int .i64 0) := RH9.cell rfl
      have RG9' := Lib.hid RG9
      have RH9' := Lib.hid RH9
      have B9' := Lib.hid B9
      clear RG9 RH9 B9 b9
      go_wp2_with fail
      obtain ⟨k1, k2, k3, k4, k5⟩ := both_rows RG9'.out RH9'.out (by omega) ⟨0, [], [], 0, 0, 0, 0, 0⟩ (.slice none 0 0) ((b + 1 : Nat) : Int) 120 rfl
      exact fin_node 4 5 6 rfl rfl rfl k1 k2 ⟨rfl, B9'.out.trans (k5 _ (Nat.le_refl _) (by omega))⟩
    | true =>
    rw [q3, if_pos rfl] at hr
    have hb2 : b + 2 < T.length := nmT_lt HG.out.e q3
    cases q4 : isT T (b + 2) sSemi with
    | true =>
      rw [q4, if_pos rfl] at hr
      have hb3 : b + 3 < T.length := isT_lt HG.out.e q4
      cases q5 : isT T b sVoid with
      | true =>
        rw [q5, if_pos rfl] at hr
        obtain rfl := Option.some.inj hr
        go_enter Tryd.func44, Tryd.ntmps44
        go_wp2_with fail
        refine calls_gen (fun W => RowAt W w.heap.size 55 #[.int .i64 0, .string ⟨#[]⟩, .string ⟨#[]⟩, .int .i64 0, .int .i64 0, .int .i64 0, .int .i64 0, .int .i64 0, .slice none 0 0] ∧ RowAt W (w.heap.size + 1) 68 #[.int .i64 0, .int .i64 0] ∧ Below w.heap.size w W) ⟨(row_new rfl).alloc _, row_new (by simp), ((Below.refl _ w).alloc (Nat.le_refl _) _).alloc (by simp) _⟩ ?_
        rintro W1 ⟨g1, h1, b1⟩
        have RG1 := Lib.hid g1
        have RH1 := Lib.hid h1
        have B1 := Lib.hid b1
        have hlt1 := h1.lt
        clear g1 h1 b1
        refine (is_at (s := ⟨#[115, 116, 97, 116, 105, 99]⟩) (HT.out W1 B1.out) q1).mono ?_
        rintro e w' ⟨rfl, hw⟩
        have hw := hw.symm
        subst hw
        go_wp2_with fail
        refine (kind_at (HT.out W1 B1.out) q2).mono ?_
        rintro e w' ⟨rfl, hw⟩
        have hw := hw.symm
        subst hw
        go_wp2_with fail
        refine (name_1 (HT.out W1 B1.out) q3).mono ?_
        rintro e w' ⟨rfl, hw⟩
        have hw := hw.symm
        subst hw
        go_wp2_with fail
        refine (is_2 (s := ⟨#[59]⟩) (HT.out W1 B1.out) q4).mono ?_
        rintro e w' ⟨rfl, hw⟩
        have hw := hw.symm
        subst hw
        go_wp2_with fail
        refine (is_at (s := ⟨#[118, 111, 105, 100]⟩) (HT.out W1 B1.out) q5).mono ?_
        rintro e w' ⟨rfl, hw⟩
        have hw := hw.symm
        subst hw
        go_wp2_with fail
        refine (syntax_any _ _).mono ?_
        rintro e w9 ⟨rfl, b9⟩
        have RG9 := RG1.out.later b9
        have RH9 := RH1.out.later b9
        have B9 := B1.out.trans (b9.mono B1.out.size)
        have z0 := RG9.frozen 0
        have z1 := RG9.frozen 1
        have z2 := RG9.frozen 2
        have z3 := RG9.frozen 3
        have z4 := RG9.frozen 4
        have z5 := RG9.frozen 5
        have z6 := RG9.frozen 6
        have z7 := RG9.frozen 7
        have z8 := RG9.frozen 8
        have y0 := RH9.frozen 0
        have y1 := RH9.frozen 1
        obtain ⟨r0, r1, r2, r3, r4, r5, r6, r7, r8⟩ := (show Cells w9 w.heap.size 0 ⟨0, [], [], 0, 0, 0, 0, 0⟩ (.slice none 0 0) from Cells.row RG9)
        simp only [Nat.zero_add] at r1 r2 r3 r4 r5 r6 r7 r8
        have s0 : w9.cell? ⟨w.heap.size + 1, 0, none⟩ = some (.int .i64 0) := RH9.cell rfl
        have s1 : w9.cell? ⟨w.heap.size + 1, 1, none⟩ = some (.int .i64 0) := RH9.cell rfl
        have RG9' := Lib.hid RG9
        have RH9' := Lib.hid RH9
        have B9' := Lib.hid B9
        clear RG9 RH9 B9 b9
        go_wp2_with fail
        obtain ⟨k1, k2, k3, k4, k5⟩ := both_rows RG9'.out RH9'.out (by omega) ⟨0, [], [], 0, 0, 0, 0, 0⟩ (.slice none 0 0) ((b + 2 : Nat) : Int) 120 rfl
        exact fin_node 4 5 6 rfl rfl rfl k1 k2 ⟨rfl, B9'.out.trans (k5 _ (Nat.le_refl _) (by omega))⟩
      | false =>
        rw [q5, if_neg (by decide)] at hr
        have hr : some (PR.ok (Nd.mk { typedH T (madeH T 2 a (b + 3)) b with n := 1 } []) (b + 3)) = some r := hr
        obtain ⟨m, hm⟩ : ∃ m, (Nd.mk { typedH T (madeH T 2 a (b + 3)) b with n := 1 } []) = m := ⟨_, rfl⟩
        rw [hm] at hr
        obtain rfl := Option.some.inj hr
        go_enter Tryd.func44, Tryd.ntmps44
        go_wp2_with fail
        refine calls_gen (fun W => RowAt W w.heap.size 55 #[.int .i64 0, .string ⟨#[]⟩, .string ⟨#[]⟩, .int .i64 0, .int .i64 0, .int .i64 0, .int .i64 0, .int .i64 0, .slice none 0 0] ∧ RowAt W (w.heap.size + 1) 68 #[.int .i64 0, .int .i64 0] ∧ Below w.heap.size w W) ⟨(row_new rfl).alloc _, row_new (by simp), ((Below.refl _ w).alloc (Nat.le_refl _) _).alloc (by simp) _⟩ ?_
        rintro W1 ⟨g1, h1, b1⟩
        have RG1 := Lib.hid g1
        have RH1 := Lib.hid h1
        have B1 := Lib.hid b1
        have hlt1 := h1.lt
        clear g1 h1 b1
        refine (is_at (s := ⟨#[115, 116, 97, 116, 105, 99]⟩) (HT.out W1 B1.out) q1).mono ?_
        rintro e w' ⟨rfl, hw⟩
        have hw := hw.symm
        subst hw
        go_wp2_with fail
        refine (kind_at (HT.out W1 B1.out) q2).mono ?_
        rintro e w' ⟨rfl, hw⟩
        have hw := hw.symm
        subst hw
        go_wp2_with fail
        refine (name_1 (HT.out W1 B1.out) q3).mono ?_
        rintro e w' ⟨rfl, hw⟩
        have hw := hw.symm
        subst hw
        go_wp2_with fail
        refine (is_2 (s := ⟨#[59]⟩) (HT.out W1 B1.out) q4).mono ?_
        rintro e w' ⟨rfl, hw⟩
        have hw := hw.symm
        subst hw
        go_wp2_with fail
        refine (is_at (s := ⟨#[118, 111, 105, 100]⟩) (HT.out W1 B1.out) q5).mono ?_
        rintro e w' ⟨rfl, hw⟩
        have hw := hw.symm
        subst hw
        go_wp2_with fail
        obtain ⟨F, hF⟩ : ∃ F, Sup W1 W1.heap.size [] (.slice none 0 0) F := ⟨fun _ => False, nofun, fun V _ => KidsAt.nil V⟩
        have SF := Lib.hid hF
        refine (made_at (.slice (some ⟨tb, to_, none⟩) T.length cv) none 0 0 T HG.out 2 a (b + 3) (by omega) (by omega) (by omega) W1 (HT.out W1 B1.out)).mono ?_
        rintro e w8 ⟨rfl, b8⟩
        have RG8 := Lib.hid (RG1.out.later b8)
        have RH8 := Lib.hid (RH1.out.later b8)
        have B8 := Lib.hid (B1.out.trans (b8.mono B1.out.size))
        have S8 := Lib.hid (SF.out.below b8)
        have hs8 := b8.size
        clear b8
        go_wp2_with fail
        refine (typed_any (.slice (some ⟨tb, to_, none⟩) T.length cv) (madeH T 2 a (b + 3)) none 0 0 T b (by omega) (by omega) w8 (HT.out w8 B8.out)).mono ?_
        rintro e wt ⟨rfl, bt⟩
        have RGt := Lib.hid (RG8.out.later bt)
        have RHt := Lib.hid (RH8.out.later bt)
        have Bt := Lib.hid (B8.out.trans (bt.mono B8.out.size))
        have St := Lib.hid (S8.out.below bt)
        have hst := bt.size
        clear bt
        obtain ⟨P, hP⟩ : ∃ P, wt.heap.size = P := ⟨_, rfl⟩
        have hPl : w.heap.size + 2 ≤ P := by have := B1.out.size; omega
        go_upto_region 29 with fail
        refine wp_gen (fun W => RowAt W w.heap.size 55 #[.int .i64 0, .string ⟨#[]⟩, .string ⟨#[]⟩, .int .i64 0, .int .i64 0, .int .i64 0, .int .i64 0, .int .i64 0, .slice none 0 0] ∧ RowAt W (w.heap.size + 1) 68 #[.int .i64 0, .int .i64 0] ∧ RowAt W wt.heap.size 55 ((typedH T (madeH T 2 a (b + 3)) b).vals (.slice none 0 0)) ∧ Sup W W1.heap.size [] (.slice none 0 0) F ∧ Below w.heap.size w W) ⟨RGt.out.alloc _, RHt.out.alloc _, row_new rfl, St.out.below ((Below.refl _ _).alloc (Nat.le_refl _) _), Bt.out.alloc (by omega) _⟩ ?_
        rintro W9 ⟨g3, h3, m3, s3, b3⟩
        have hFP : Hid (∀ b, F b → b ≠ P) := Lib.hid (fun b hb => by have := (St.out.1 b hb).2; omega)
        rw [hP] at m3
        have RGz := Lib.hid g3
        have RHz := Lib.hid h3
        have RM3 := Lib.hid m3
        have Sz := Lib.hid (And.intro s3 hFP.out)
        have Bz := Lib.hid b3
        clear g3 h3 m3 s3 b3
        have z3 := RM3.out.frozen 3
        have c3 : W9.cell? ⟨P, 3, none⟩ = some (.int .i64 (typedH T (madeH T 2 a (b + 3)) b).n) := RM3.out.cell rfl
        go_upto_region 31 with fail
        refine wp_gen (fun W => RowAt W w.heap.size 55 #[.int .i64 0, .string ⟨#[]⟩, .string ⟨#[]⟩, .int .i64 0, .int .i64 0, .int .i64 0, .int .i64 0, .int .i64 0, .slice none 0 0] ∧ RowAt W (w.heap.size + 1) 68 #[.int .i64 0, .int .i64 0] ∧ RowAt W P 55 #[.int .i64 m.hd.kind, .string (bs m.hd.text), .string (bs m.hd.type), .int .i64 m.hd.n, .int .i64 m.hd.fr, .int .i64 m.hd.to_, .int .i64 m.hd.at_, .int .i64 m.hd.tat, .slice none 0 0] ∧ Sup W W1.heap.size [] (.slice none 0 0) F ∧ Below w.heap.size w W) ⟨RGz.out.other (by omega) 3 _, RHz.out.other (by omega) 3 _, by rw [← hm]; exact set_n RM3.out 1, Sz.out.1.keep (by simp [World.setCell]) (fun b hb => Below.heap_setCell _ _ _ b (by show b ≠ P; exact Sz.out.2 b hb)), Bz.out.setCell (p := ⟨P, 3, none⟩) (by show w.heap.size ≤ P; omega) _⟩ ?_
        rintro WX ⟨g3, h3, m3, s3, b3⟩
        have RGy := Lib.hid g3
        have RHy := Lib.hid h3
        have RMy := Lib.hid m3
        have SS : Hid (Sup WX W1.heap.size m.kids (.slice none 0 0) F) := Lib.hid (by rw [← hm]; exact s3)
        have By := Lib.hid b3
        clear g3 h3 m3 s3 b3
        have hne1 : P ≠ w.heap.size := by omega
        have hne2 : P ≠ w.heap.size + 1 := by omega
        have z0 := RGy.out.frozen 0
        have z1 := RGy.out.frozen 1
        have z2 := RGy.out.frozen 2
        have z3 := RGy.out.frozen 3
        have z4 := RGy.out.frozen 4
        have z5 := RGy.out.frozen 5
        have z6 := RGy.out.frozen 6
        have z7 := RGy.out.frozen 7
        have z8 := RGy.out.frozen 8
        have y0 := RHy.out.frozen 0
        have y1 := RHy.out.frozen 1
        obtain ⟨r0, r1, r2, r3, r4, r5, r6, r7, r8⟩ := (show Cells WX w.heap.size 0 ⟨0, [], [], 0, 0, 0, 0, 0⟩ (.slice none 0 0) from Cells.row RGy.out)
        simp only [Nat.zero_add] at r1 r2 r3 r4 r5 r6 r7 r8
        have s0 : WX.cell? ⟨w.heap.size + 1, 0, none⟩ = some (.int .i64 0) := RHy.out.cell rfl
        have s1 : WX.cell? ⟨w.heap.size + 1, 1, none⟩ = some (.int .i64 0) := RHy.out.cell rfl
        have F0 : Hid (WX.cell? ⟨P, 0, none⟩ = some (.int .i64 m.hd.kind) ∧ WX.cell? ⟨P, 1, none⟩ = some (.string (bs m.hd.text)) ∧ WX.cell? ⟨P, 2, none⟩ = some (.string (bs m.hd.type)) ∧ WX.cell? ⟨P, 3, none⟩ = some (.int .i64 m.hd.n) ∧ WX.cell? ⟨P, 4, none⟩ = some (.int .i64 m.hd.fr) ∧ WX.cell? ⟨P, 5, none⟩ = some (.int .i64 m.hd.to_) ∧ WX.cell? ⟨P, 6, none⟩ = some (.int .i64 m.hd.at_) ∧ WX.cell? ⟨P, 7, none⟩ = some (.int .i64 m.hd.tat) ∧ WX.cell? ⟨P, 8, none⟩ = some (.slice none 0 0)) := Lib.hid ⟨RMy.out.cell rfl, RMy.out.cell rfl, RMy.out.cell rfl, RMy.out.cell rfl, RMy.out.cell rfl, RMy.out.cell rfl, RMy.out.cell rfl, RMy.out.cell rfl, RMy.out.cell rfl⟩
        have FD : Hid (WX.drew.cell? ⟨P, 0, none⟩ = some (.int .i64 m.hd.kind) ∧ WX.drew.cell? ⟨P, 1, none⟩ = some (.string (bs m.hd.text)) ∧ WX.drew.cell? ⟨P, 2, none⟩ = some (.string (bs m.hd.type)) ∧ WX.drew.cell? ⟨P, 3, none⟩ = some (.int .i64 m.hd.n) ∧ WX.drew.cell? ⟨P, 4, none⟩ = some (.int .i64 m.hd.fr) ∧ WX.drew.cell? ⟨P, 5, none⟩ = some (.int .i64 m.hd.to_) ∧ WX.drew.cell? ⟨P, 6, none⟩ = some (.int .i64 m.hd.at_) ∧ WX.drew.cell? ⟨P, 7, none⟩ = some (.int .i64 m.hd.tat) ∧ WX.drew.cell? ⟨P, 8, none⟩ = some (.slice none 0 0)) := Lib.hid F0.out
        have RGd : Hid (RowAt WX.drew w.heap.size 55 #[.int .i64 0, .string ⟨#[]⟩, .string ⟨#[]⟩, .int .i64 0, .int .i64 0, .int .i64 0, .int .i64 0, .int .i64 0, .slice none 0 0]) := Lib.hid RGy.out
        have RHd : Hid (RowAt WX.drew (w.heap.size + 1) 68 #[.int .i64 0, .int .i64 0]) := Lib.hid RHy.out
        have RMd : Hid (RowAt WX.drew P 55 #[.int .i64 m.hd.kind, .string (bs m.hd.text), .string (bs m.hd.type), .int .i64 m.hd.n, .int .i64 m.hd.fr, .int .i64 m.hd.to_, .int .i64 m.hd.at_, .int .i64 m.hd.tat, .slice none 0 0]) := Lib.hid RMy.out
        have BDd : Hid (Below w.heap.size w WX.drew) := Lib.hid (below_drew By.out)
        have SDd : Hid (Sup WX.drew W1.heap.size m.kids (.slice none 0 0) F) := Lib.hid (SS.out.below (below_drew (Below.refl _ _)))
        go_region_held3 (fun W => W.cell? ⟨P, 0, none⟩ = some (.int .i64 m.hd.kind) ∧ W.cell? ⟨P, 1, none⟩ = some (.string (bs m.hd.text)) ∧ W.cell? ⟨P, 2, none⟩ = some (.string (bs m.hd.type)) ∧ W.cell? ⟨P, 3, none⟩ = some (.int .i64 m.hd.n) ∧ W.cell? ⟨P, 4, none⟩ = some (.int .i64 m.hd.fr) ∧ W.cell? ⟨P, 5, none⟩ = some (.int .i64 m.hd.to_) ∧ W.cell? ⟨P, 6, none⟩ = some (.int .i64 m.hd.at_) ∧ W.cell? ⟨P, 7, none⟩ = some (.int .i64 m.hd.tat) ∧ W.cell? ⟨P, 8, none⟩ = some (.slice none 0 0))
          (first | (with_reducible exact F0.out) | (with_reducible exact FD.out) | (with_reducible exact F5.out) | (with_reducible exact F6.out) | (with_reducible exact F7.out))
          (first | (go_at_call 46; ((with_reducible refine (fine_any _).mono ?_); rintro e wf ⟨rfl, bf⟩; have R5 := RMd.out.later bf; have F5 := Lib.hid (show wf.cell? ⟨P, 0, none⟩ = some (.int .i64 m.hd.kind) ∧ wf.cell? ⟨P, 1, none⟩ = some (.string (bs m.hd.text)) ∧ wf.cell? ⟨P, 2, none⟩ = some (.string (bs m.hd.type)) ∧ wf.cell? ⟨P, 3, none⟩ = some (.int .i64 m.hd.n) ∧ wf.cell? ⟨P, 4, none⟩ = some (.int .i64 m.hd.fr) ∧ wf.cell? ⟨P, 5, none⟩ = some (.int .i64 m.hd.to_) ∧ wf.cell? ⟨P, 6, none⟩ = some (.int .i64 m.hd.at_) ∧ wf.cell? ⟨P, 7, none⟩ = some (.int .i64 m.hd.tat) ∧ wf.cell? ⟨P, 8, none⟩ = some (.slice none 0 0) from ⟨R5.cell rfl, R5.cell rfl, R5.cell rfl, R5.cell rfl, R5.cell rfl, R5.cell rfl, R5.cell rfl, R5.cell rfl, R5.cell rfl⟩); have RGf := Lib.hid (RGd.out.later bf); have RHf := Lib.hid (RHd.out.later bf); have F6 := Lib.hid (nineC (RowAt.same R5 ((nine RGf.out m.hd (.slice none 0 0)).2.other P (by omega)))); have N9 := (nine RGf.out m.hd (.slice none 0 0)).2; have F7 := Lib.hid (nineC (((RowAt.same R5 (N9.other P (by omega))).other (c := w.heap.size + 1) (by omega) 0 (.int .i64 (-1))).other (c := w.heap.size + 1) (by omega) 1 (.int .i64 0))); clear N9; have Bf := Lib.hid (BDd.out.trans (bf.mono BDd.out.size)); have Sf := Lib.hid (SDd.out.below bf); have z0 := RGf.out.frozen 0; have z1 := RGf.out.frozen 1; have z2 := RGf.out.frozen 2; have z3 := RGf.out.frozen 3; have z4 := RGf.out.frozen 4; have z5 := RGf.out.frozen 5; have z6 := RGf.out.frozen 6; have z7 := RGf.out.frozen 7; have z8 := RGf.out.frozen 8; have y0 := RHf.out.frozen 0; have y1 := RHf.out.frozen 1; obtain ⟨r0, r1, r2, r3, r4, r5, r6, r7, r8⟩ := (show Cells wf w.heap.size 0 ⟨0, [], [], 0, 0, 0, 0, 0⟩ (.slice none 0 0) from Cells.row RGf.out); simp only [Nat.zero_add] at r1 r2 r3 r4 r5 r6 r7 r8; have s0 : wf.cell? ⟨w.heap.size + 1, 0, none⟩ = some (.int .i64 0) := RHf.out.cell rfl; have s1 : wf.cell? ⟨w.heap.size + 1, 1, none⟩ = some (.int .i64 0) := RHf.out.cell rfl; clear bf R5)))
        all_goals
          go_wp2_with fail
          obtain ⟨k1, k2, k3, k4, k5⟩ := both_rows RGf.out RHf.out (by omega) m.hd (.slice none 0 0) (-1) 0 rfl
          refine fin_node 4 5 6 rfl rfl rfl k1 k2 ⟨⟨none, 0, 0, F, rfl, sup_past Sf.out k3 k4 (by omega) (by omega) B1.out.size⟩, Bf.out.trans (k5 _ (Nat.le_refl _) (by omega))⟩
    | false =>
    rw [q4, if_neg (by decide)] at hr
    cases q6 : isT T (b + 2) sL with
    | false =>
      rw [q6, if_neg (by decide)] at hr
      obtain rfl := Option.some.inj hr
      go_enter Tryd.func44, Tryd.ntmps44
      go_wp2_with fail
      refine calls_gen (fun W => RowAt W w.heap.size 55 #[.int .i64 0, .string ⟨#[]⟩, .string ⟨#[]⟩, .int .i64 0, .int .i64 0, .int .i64 0, .int .i64 0, .int .i64 0, .slice none 0 0] ∧ RowAt W (w.heap.size + 1) 68 #[.int .i64 0, .int .i64 0] ∧ Below w.heap.size w W) ⟨(row_new rfl).alloc _, row_new (by simp), ((Below.refl _ w).alloc (Nat.le_refl _) _).alloc (by simp) _⟩ ?_
      rintro W1 ⟨g1, h1, b1⟩
      have RG1 := Lib.hid g1
      have RH1 := Lib.hid h1
      have B1 := Lib.hid b1
      have hlt1 := h1.lt
      clear g1 h1 b1
      refine (is_at (s := ⟨#[115, 116, 97, 116, 105, 99]⟩) (HT.out W1 B1.out) q1).mono ?_
      rintro e w' ⟨rfl, hw⟩
      have hw := hw.symm
      subst hw
      go_wp2_with fail
      refine (kind_at (HT.out W1 B1.out) q2).mono ?_
      rintro e w' ⟨rfl, hw⟩
      have hw := hw.symm
      subst hw
      go_wp2_with fail
      refine (name_1 (HT.out W1 B1.out) q3).mono ?_
      rintro e w' ⟨rfl, hw⟩
      have hw := hw.symm
      subst hw
      go_wp2_with fail
      refine (is_2 (s := ⟨#[59]⟩) (HT.out W1 B1.out) q4).mono ?_
      rintro e w' ⟨rfl, hw⟩
      have hw := hw.symm
      subst hw
      go_wp2_with fail
      refine (is_2 (s := ⟨#[40]⟩) (HT.out W1 B1.out) q6).mono ?_
      rintro e w' ⟨rfl, hw⟩
      have hw := hw.symm
      subst hw
      go_wp2_with fail
      refine (syntax_any _ _).mono ?_
      rintro e w9 ⟨rfl, b9⟩
      have RG9 := RG1.out.later b9
      have RH9 := RH1.out.later b9
      have B9 := B1.out.trans (b9.mono B1.out.size)
      have z0 := RG9.frozen 0
      have z1 := RG9.frozen 1
      have z2 := RG9.frozen 2
      have z3 := RG9.frozen 3
      have z4 := RG9.frozen 4
      have z5 := RG9.frozen 5
      have z6 := RG9.frozen 6
      have z7 := RG9.frozen 7
      have z8 := RG9.frozen 8
      have y0 := RH9.frozen 0
      have y1 := RH9.frozen 1
      obtain ⟨r0, r1, r2, r3, r4, r5, r6, r7, r8⟩ := (show Cells w9 w.heap.size 0 ⟨0, [], [], 0, 0, 0, 0, 0⟩ (.slice none 0 0) from Cells.row RG9)
      simp only [Nat.zero_add] at r1 r2 r3 r4 r5 r6 r7 r8
      have s0 : w9.cell? ⟨w.heap.size + 1, 0, none⟩ = some (.int .i64 0) := RH9.cell rfl
      have s1 : w9.cell? ⟨w.heap.size + 1, 1, none⟩ = some (.int .i64 0) := RH9.cell rfl
      have RG9' := Lib.hid RG9
      have RH9' := Lib.hid RH9
      have B9' := Lib.hid B9
      clear RG9 RH9 B9 b9
      go_wp2_with fail
      obtain ⟨k1, k2, k3, k4, k5⟩ := both_rows RG9'.out RH9'.out (by omega) ⟨0, [], [], 0, 0, 0, 0, 0⟩ (.slice none 0 0) ((b + 2 : Nat) : Int) 120 rfl
      exact fin_node 4 5 6 rfl rfl rfl k1 k2 ⟨rfl, B9'.out.trans (k5 _ (Nat.le_refl _) (by omega))⟩
    | true =>
      rw [q6, if_pos rfl] at hr
      have hb3 : b + 3 < T.length := isT_lt HG.out.e q6
      obtain ⟨x, hx⟩ : ∃ x, parF f T (b + 3) = x := ⟨_, rfl⟩
      have gx := (par_ok HG.out.e f (b + 3) hb3).2
      rw [hx] at hr gx
      cases x with
      | none => cases hr
      | some x =>
      have CP := Lib.hid (fun W hW => PA.out (b + 3) x W hx hb3 (HT.out W hW))
      clear hx
      go_enter Tryd.func44, Tryd.ntmps44
      go_wp2_with fail
      refine calls_gen (fun W => RowAt W w.heap.size 55 #[.int .i64 0, .string ⟨#[]⟩, .string ⟨#[]⟩, .int .i64 0, .int .i64 0, .int .i64 0, .int .i64 0, .int .i64 0, .slice none 0 0] ∧ RowAt W (w.heap.size + 1) 68 #[.int .i64 0, .int .i64 0] ∧ Below w.heap.size w W) ⟨(row_new rfl).alloc _, row_new (by simp), ((Below.refl _ w).alloc (Nat.le_refl _) _).alloc (by simp) _⟩ ?_
      rintro W1 ⟨g1, h1, b1⟩
      have RG1 := Lib.hid g1
      have RH1 := Lib.hid h1
      have B1 := Lib.hid b1
      have hlt1 := h1.lt
      clear g1 h1 b1
      refine (is_at (s := ⟨#[115, 116, 97, 116, 105, 99]⟩) (HT.out W1 B1.out) q1).mono ?_
      rintro e w' ⟨rfl, hw⟩
      have hw := hw.symm
      subst hw
      go_wp2_with fail
      refine (kind_at (HT.out W1 B1.out) q2).mono ?_
      rintro e w' ⟨rfl, hw⟩
      have hw := hw.symm
      subst hw
      go_wp2_with fail
      refine (name_1 (HT.out W1 B1.out) q3).mono ?_
      rintro e w' ⟨rfl, hw⟩
      have hw := hw.symm
      subst hw
      go_wp2_with fail
      refine (is_2 (s := ⟨#[59]⟩) (HT.out W1 B1.out) q4).mono ?_
      rintro e w' ⟨rfl, hw⟩
      have hw := hw.symm
      subst hw
      go_wp2_with fail
      refine (is_2 (s := ⟨#[40]⟩) (HT.out W1 B1.out) q6).mono ?_
      rintro e w' ⟨rfl, hw⟩
      have hw := hw.symm
      subst hw
      go_wp2_with fail
      refine (CP.out W1 B1.out).mono ?_
      rintro e w2 ⟨hli, b2⟩
      have RG2 := Lib.hid (RG1.out.later b2)
      have RH2 := Lib.hid (RH1.out.later b2)
      have B2 := Lib.hid (B1.out.trans (b2.mono B1.out.size))
      have hs2 := b2.size
      clear b2
      cases x with
      | bad p c =>
        obtain rfl : PR.bad p c = r := Option.some.inj hr
        obtain rfl := hli
        have p1 : decide ((p : Int) ≥ 0) = true := decide_eq_true (by omega)
        have p2 : decide ((0 : Int) ≤ (p : Int)) = true := decide_eq_true (by omega)
        go_wp2_with fail
        refine wp_gen (fun W => RowAt W w.heap.size 55 #[.int .i64 0, .string ⟨#[]⟩, .string ⟨#[]⟩, .int .i64 0, .int .i64 0, .int .i64 0, .int .i64 0, .int .i64 0, .slice none 0 0] ∧ RowAt W (w.heap.size + 1) 68 #[.int .i64 0, .int .i64 0] ∧ RowAt W w2.heap.size 68 #[.int .i64 (p : Nat), .int .i64 c] ∧ Below w.heap.size w W) ⟨RG2.out.alloc _, RH2.out.alloc _, row_new rfl, B2.out.alloc (by omega) _⟩ ?_
        rintro W3 ⟨g3, h3, t3, b3⟩
        have z0 := g3.frozen 0
        have z1 := g3.frozen 1
        have z2 := g3.frozen 2
        have z3 := g3.frozen 3
        have z4 := g3.frozen 4
        have z5 := g3.frozen 5
        have z6 := g3.frozen 6
        have z7 := g3.frozen 7
        have z8 := g3.frozen 8
        have y0 := h3.frozen 0
        have y1 := h3.frozen 1
        obtain ⟨r0, r1, r2, r3, r4, r5, r6, r7, r8⟩ := (show Cells W3 w.heap.size 0 ⟨0, [], [], 0, 0, 0, 0, 0⟩ (.slice none 0 0) from Cells.row g3)
        simp only [Nat.zero_add] at r1 r2 r3 r4 r5 r6 r7 r8
        have s0 : W3.cell? ⟨w.heap.size + 1, 0, none⟩ = some (.int .i64 0) := h3.cell rfl
        have s1 : W3.cell? ⟨w.heap.size + 1, 1, none⟩ = some (.int .i64 0) := h3.cell rfl
        have t0 : W3.cell? ⟨w2.heap.size, 0, none⟩ = some (.int .i64 (p : Nat)) := t3.cell rfl
        have t1 : W3.cell? ⟨w2.heap.size, 1, none⟩ = some (.int .i64 c) := t3.cell rfl
        have ne1 : w2.heap.size ≠ w.heap.size := by omega
        have G3 := Lib.hid g3
        have H3 := Lib.hid h3
        have B3 := Lib.hid b3
        clear g3 h3 t3 b3
        go_region
        all_goals
          go_wp2_with fail
          obtain ⟨k1, k2, k3, k4, k5⟩ := both_rows_d G3.out H3.out (by omega) ⟨0, [], [], 0, 0, 0, 0, 0⟩ (.slice none 0 0) p c rfl
          exact fin_node 4 5 6 rfl rfl rfl k1 k2 ⟨rfl, B3.out.trans (k5 _ (Nat.le_refl _) (by omega))⟩
      | ok l c =>
        obtain ⟨v1, v2, v3⟩ := gx l c rfl
        obtain ⟨vl, ps, rfl, ol, hl⟩ := hli
        obtain ⟨al, nl, cl, rfl⟩ := own_slice ol
        have O2 := Lib.hid ol
        have hpl : ps.length ≤ cntL l := by have h9 := cntL_len (ps.map (·.1)); rw [List.length_map, hl] at h9; exact h9
        clear ol
        have hr : bindP (blkF f T c 1) (fun x m => some (.ok (Nd.mk { typedH T (madeH T 3 a m) b with n := 1 } (l ++ [x])) m)) = some r := hr
        obtain ⟨y, hy⟩ : ∃ y, blkF f T c 1 = y := ⟨_, rfl⟩
        have gy := ((st_ok HG.out.e f).blk c 1 v2).2
        rw [hy] at hr gy
        cases y with
        | none => cases hr
        | some y =>
        have CB := Lib.hid (fun W hW => BL.out c 1 y W hy v2 (by omega) (HT.out W hW))
        clear hy
        have p1 : decide ((-1 : Int) ≥ 0) = false := by decide
        go_wp2_with fail
        refine calls_gen (fun W => RowAt W w.heap.size 55 #[.int .i64 0, .string ⟨#[]⟩, .string ⟨#[]⟩, .int .i64 0, .int .i64 0, .int .i64 0, .int .i64 0, .int .i64 0, .slice none 0 0] ∧ RowAt W (w.heap.size + 1) 68 #[.int .i64 0, .int .i64 0] ∧ Below w2.heap.size w2 W) ⟨RG2.out.alloc _, RH2.out.alloc _, (Below.refl _ _).alloc (Nat.le_refl _) _⟩ ?_
        rintro W3 ⟨g3, h3, b3⟩
        have RG3 := Lib.hid g3
        have RH3 := Lib.hid h3
        have B3 := Lib.hid (B2.out.trans (b3.mono B2.out.size))
        have O3 := Lib.hid (O2.out.below b3)
        have hs3 := b3.size
        clear g3 h3 b3
        refine (CB.out W3 B3.out).mono ?_
        rintro e w4 ⟨hni, b4⟩
        have b34 := Lib.hid b4
        have RG4 := Lib.hid (RG3.out.later b4)
        have RH4 := Lib.hid (RH3.out.later b4)
        have B4 := Lib.hid (B3.out.trans (b4.mono B3.out.size))
        have hs4 := b4.size
        clear b4
        have O4 := Lib.hid (O3.out.below b34.out)
        cases y with
        | bad p c =>
          obtain rfl : PR.bad p c = r := Option.some.inj hr
          obtain rfl := hni
          have p1 : decide ((p : Int) ≥ 0) = true := decide_eq_true (by omega)
          have p2 : decide ((0 : Int) ≤ (p : Int)) = true := decide_eq_true (by omega)
          go_wp2_with fail
          refine wp_gen (fun W => RowAt W w.heap.size 55 #[.int .i64 0, .string ⟨#[]⟩, .string ⟨#[]⟩, .int .i64 0, .int .i64 0, .int .i64 0, .int .i64 0, .int .i64 0, .slice none 0 0] ∧ RowAt W (w.heap.size + 1) 68 #[.int .i64 0, .int .i64 0] ∧ RowAt W (w4.heap.size + 1) 68 #[.int .i64 (p : Nat), .int .i64 c] ∧ Below w.heap.size w W) ⟨(RG4.out.alloc _).alloc _, (RH4.out.alloc _).alloc _, row_new (by simp), (B4.out.alloc (by omega) _).alloc (by simp; omega) _⟩ ?_
          rintro W3 ⟨g3, h3, t3, b3⟩
          have z0 := g3.frozen 0
          have z1 := g3.frozen 1
          have z2 := g3.frozen 2
          have z3 := g3.frozen 3
          have z4 := g3.frozen 4
          have z5 := g3.frozen 5
          have z6 := g3.frozen 6
          have z7 := g3.frozen 7
          have z8 := g3.frozen 8
          have y0 := h3.frozen 0
          have y1 := h3.frozen 1
          obtain ⟨r0, r1, r2, r3, r4, r5, r6, r7, r8⟩ := (show Cells W3 w.heap.size 0 ⟨0, [], [], 0, 0, 0, 0, 0⟩ (.slice none 0 0) from Cells.row g3)
          simp only [Nat.zero_add] at r1 r2 r3 r4 r5 r6 r7 r8
          have s0 : W3.cell? ⟨w.heap.size + 1, 0, none⟩ = some (.int .i64 0) := h3.cell rfl
          have s1 : W3.cell? ⟨w.heap.size + 1, 1, none⟩ = some (.int .i64 0) := h3.cell rfl
          have t0 : W3.cell? ⟨(w4.heap.size + 1), 0, none⟩ = some (.int .i64 (p : Nat)) := t3.cell rfl
          have t1 : W3.cell? ⟨(w4.heap.size + 1), 1, none⟩ = some (.int .i64 c) := t3.cell rfl
          have ne1 : (w4.heap.size + 1) ≠ w.heap.size := by omega
          have G3 := Lib.hid g3
          have H3 := Lib.hid h3
          have B3 := Lib.hid b3
          clear g3 h3 t3 b3
          go_region
          all_goals
            go_wp2_with fail
            obtain ⟨k1, k2, k3, k4, k5⟩ := both_rows_d G3.out H3.out (by omega) ⟨0, [], [], 0, 0, 0, 0, 0⟩ (.slice none 0 0) p c rfl
            exact fin_node 4 5 6 rfl rfl rfl k1 k2 ⟨rfl, B3.out.trans (k5 _ (Nat.le_refl _) (by omega))⟩
        | ok n1 e1 =>
          obtain ⟨t1, t2, t3⟩ := gy n1 e1 rfl
          have hr : some (PR.ok (Nd.mk { typedH T (madeH T 3 a e1) b with n := 1 } (l ++ [n1])) e1) = some r := hr
          obtain ⟨m, hm⟩ : ∃ m, (Nd.mk { typedH T (madeH T 3 a e1) b with n := 1 } (l ++ [n1])) = m := ⟨_, rfl⟩
          rw [hm] at hr
          obtain rfl := Option.some.inj hr
          obtain ⟨kb, ln, lc, F2, rfl, hsup⟩ := hni
          have HS2 := Lib.hid hsup
          have p1 : decide ((-1 : Int) ≥ 0) = false := by decide
          clear hsup
          go_upto_region 25 with fail
          refine wp_gen (fun W => RowAt W w.heap.size 55 #[.int .i64 0, .string ⟨#[]⟩, .string ⟨#[]⟩, .int .i64 0, .int .i64 0, .int .i64 0, .int .i64 0, .int .i64 0, .slice none 0 0] ∧ RowAt W (w.heap.size + 1) 68 #[.int .i64 0, .int .i64 0] ∧ RowAt W w4.heap.size 55 #[.int .i64 n1.hd.kind, .string (bs n1.hd.text), .string (bs n1.hd.type), .int .i64 n1.hd.n, .int .i64 n1.hd.fr, .int .i64 n1.hd.to_, .int .i64 n1.hd.at_, .int .i64 n1.hd.tat, .slice kb ln lc] ∧ Below w4.heap.size w4 W) ⟨(RG4.out.alloc _).alloc _, (RH4.out.alloc _).alloc _, (row_new rfl).alloc _, ((Below.refl _ _).alloc (Nat.le_refl _) _).alloc (by simp) _⟩ ?_
          rintro W5 ⟨g5, h5, m5, b5⟩
          have RG5 := Lib.hid g5
          have RH5 := Lib.hid h5
          have RM5 := Lib.hid m5
          have B5 := Lib.hid (B4.out.trans (b5.mono B4.out.size))
          have S5 := Lib.hid (HS2.out.below b5)
          have b45 := Lib.hid b5
          have hs5 := b5.size
          have hm5 := m5.lt
          clear g5 h5 m5 b5
          have OQ5 := Lib.hid (own_to_q (O4.out.below b45.out))
          obtain ⟨d0, d1, d2, d3, d4, d5, d6, d7, d8⟩ := (show Cells W5 w4.heap.size 0 n1.hd (.slice kb ln lc) from Cells.row RM5.out)
          simp only [Nat.zero_add] at d1 d2 d3 d4 d5 d6 d7 d8
          obtain ⟨A, hA⟩ : ∃ A, Hid (W5.alloc (.cells #[.int .i64 n1.hd.kind, .string (bs n1.hd.text), .string (bs n1.hd.type), .int .i64 n1.hd.n, .int .i64 n1.hd.fr, .int .i64 n1.hd.to_, .int .i64 n1.hd.at_, .int .i64 n1.hd.tat, .slice kb ln lc] 55) = A) := ⟨_, Lib.hid rfl⟩
          have bA : Hid (Below W5.heap.size W5 A) := by rw [← hA.out]; exact Lib.hid ((Below.refl _ _).alloc (Nat.le_refl _) _)
          have hsA : A.heap.size = W5.heap.size + 1 := by rw [← hA.out]; simp
          have OA := Lib.hid (OQ5.out.below bA.out)
          have XA : Hid (OwnS (W3.heap.size) A (.slice (some ⟨W5.heap.size, 0, none⟩) 1 1) [(n1, Value.slice kb ln lc)]) := Lib.hid (own_build (ps := [(n1, Value.slice kb ln lc)]) (by rw [← hA.out]; exact row_new rfl) (by omega) (by show 1 ≤ maxLen; unfold maxLen; omega) (fun p hp => by
            obtain rfl := List.mem_singleton.1 hp
            exact ⟨_, S5.out.below bA.out, fun b hb => by have := (S5.out.1 b hb).2; omega⟩))
          have hlo6 : Hid (∀ b, (Value.slice al nl cl).ownBlock = some b → b < W3.heap.size) := Lib.hid (fun b hb => by have h9 := (O2.out.1.lt b hb).2; omega)
          have hPl6 : Hid (∀ b : Nat, W3.heap.size ≤ b → True) := Lib.hid (fun b hb => trivial)
          have RGA := Lib.hid (RG5.out.later bA.out)
          have RHA := Lib.hid (RH5.out.later bA.out)
          have BA := Lib.hid (B5.out.trans (bA.out.mono B5.out.size))
          go_wp2_with (at_builtin; rw [hA.out]; refine wpList_append_q (w := A) (base := W1.heap.size) (lo := W3.heap.size) (P := fun _ => True) rfl _ _ rfl (Value.slice al nl cl) (.slice (some ⟨W5.heap.size, 0, none⟩) 1 1) ps [(n1, Value.slice kb ln lc)] rfl OA.out rfl XA.out hlo6.out hPl6.out (by omega) (by simp only [List.length_cons, List.length_nil]; omega) ?_; intro a7 n7 c7 w7 oq7 hg70)
          have hg7 : A.grownBy w7 (Value.slice al nl cl).ownBlock := hg70
          clear hg70
          have OQ7 := Lib.hid oq7
          have hkb : Hid (∀ b, (Value.slice al nl cl).ownBlock = some b → W1.heap.size ≤ b) := Lib.hid (fun b hb => (OQ5.out.row.lt b hb).1)
          have RG7 := Lib.hid (RowAt.same RGA.out (hg7.block _ RGA.out.lt (fun e => by have h9 := hkb.out _ e.symm; have h8 := B1.out.size; omega)))
          have RH7 := Lib.hid (RowAt.same RHA.out (hg7.block _ RHA.out.lt (fun e => by have h9 := hkb.out _ e.symm; have h8 := B1.out.size; omega)))
          have B7 := Lib.hid (BA.out.grown hg7 (by have := BA.out.size; omega) (fun k e => by have h9 := hkb.out _ e; have h8 := B1.out.size; omega))
          have hs7 := hg7.size
          clear oq7 hg7 d0 d1 d2 d3 d4 d5 d6 d7 d8
          obtain ⟨F, hF, -⟩ := OQ7.out.kids
          have hpm : (ps ++ [(n1, Value.slice kb ln lc)]).map (·.1) = l ++ [n1] := by rw [List.map_append, hl]; rfl
          rw [hpm] at hF
          have SF := Lib.hid hF
          refine (made_at (.slice (some ⟨tb, to_, none⟩) T.length cv) a7 n7 c7 T HG.out 3 a (e1) (by omega) (by omega) (by omega) w7 (HT.out w7 B7.out)).mono ?_
          rintro e w8 ⟨rfl, b8⟩
          have RG8 := Lib.hid (RG7.out.later b8)
          have RH8 := Lib.hid (RH7.out.later b8)
          have B8 := Lib.hid (B7.out.trans (b8.mono B7.out.size))
          have S8 := Lib.hid (SF.out.below b8)
          have hs8 := b8.size
          clear b8
          go_wp2_with fail
          refine (typed_any (.slice (some ⟨tb, to_, none⟩) T.length cv) (madeH T 3 a (e1)) a7 n7 c7 T b (by omega) (by omega) w8 (HT.out w8 B8.out)).mono ?_
          rintro e wt ⟨rfl, bt⟩
          have RGt := Lib.hid (RG8.out.later bt)
          have RHt := Lib.hid (RH8.out.later bt)
          have Bt := Lib.hid (B8.out.trans (bt.mono B8.out.size))
          have St := Lib.hid (S8.out.below bt)
          have hst := bt.size
          clear bt
          obtain ⟨P, hP⟩ : ∃ P, wt.heap.size = P := ⟨_, rfl⟩
          have hPl : w.heap.size + 2 ≤ P := by have := B1.out.size; omega
          go_upto_region 29 with fail
          refine wp_gen (fun W => RowAt W w.heap.size 55 #[.int .i64 0, .string ⟨#[]⟩, .string ⟨#[]⟩, .int .i64 0, .int .i64 0, .int .i64 0, .int .i64 0, .int .i64 0, .slice none 0 0] ∧ RowAt W (w.heap.size + 1) 68 #[.int .i64 0, .int .i64 0] ∧ RowAt W wt.heap.size 55 ((typedH T (madeH T 3 a (e1)) b).vals (.slice a7 n7 c7)) ∧ Sup W W1.heap.size (l ++ [n1]) (.slice a7 n7 c7) F ∧ Below w.heap.size w W) ⟨RGt.out.alloc _, RHt.out.alloc _, row_new rfl, St.out.below ((Below.refl _ _).alloc (Nat.le_refl _) _), Bt.out.alloc (by omega) _⟩ ?_
          rintro W9 ⟨g3, h3, m3, s3, b3⟩
          have hFP : Hid (∀ b, F b → b ≠ P) := Lib.hid (fun b hb => by have := (St.out.1 b hb).2; omega)
          rw [hP] at m3
          have RGz := Lib.hid g3
          have RHz := Lib.hid h3
          have RM3 := Lib.hid m3
          have Sz := Lib.hid (And.intro s3 hFP.out)
          have Bz := Lib.hid b3
          clear g3 h3 m3 s3 b3
          have z3 := RM3.out.frozen 3
          have c3 : W9.cell? ⟨P, 3, none⟩ = some (.int .i64 (typedH T (madeH T 3 a (e1)) b).n) := RM3.out.cell rfl
          go_upto_region 31 with fail
          refine wp_gen (fun W => RowAt W w.heap.size 55 #[.int .i64 0, .string ⟨#[]⟩, .string ⟨#[]⟩, .int .i64 0, .int .i64 0, .int .i64 0, .int .i64 0, .int .i64 0, .slice none 0 0] ∧ RowAt W (w.heap.size + 1) 68 #[.int .i64 0, .int .i64 0] ∧ RowAt W P 55 #[.int .i64 m.hd.kind, .string (bs m.hd.text), .string (bs m.hd.type), .int .i64 m.hd.n, .int .i64 m.hd.fr, .int .i64 m.hd.to_, .int .i64 m.hd.at_, .int .i64 m.hd.tat, .slice a7 n7 c7] ∧ Sup W W1.heap.size (l ++ [n1]) (.slice a7 n7 c7) F ∧ Below w.heap.size w W) ⟨RGz.out.other (by omega) 3 _, RHz.out.other (by omega) 3 _, by rw [← hm]; exact set_n RM3.out 1, Sz.out.1.keep (by simp [World.setCell]) (fun b hb => Below.heap_setCell _ _ _ b (by show b ≠ P; exact Sz.out.2 b hb)), Bz.out.setCell (p := ⟨P, 3, none⟩) (by show w.heap.size ≤ P; omega) _⟩ ?_
          rintro WX ⟨g3, h3, m3, s3, b3⟩
          have RGy := Lib.hid g3
          have RHy := Lib.hid h3
          have RMy := Lib.hid m3
          have SS : Hid (Sup WX W1.heap.size m.kids (.slice a7 n7 c7) F) := Lib.hid (by rw [← hm]; exact s3)
          have By := Lib.hid b3
          clear g3 h3 m3 s3 b3
          have hne1 : P ≠ w.heap.size := by omega
          have hne2 : P ≠ w.heap.size + 1 := by omega
          have z0 := RGy.out.frozen 0
          have z1 := RGy.out.frozen 1
          have z2 := RGy.out.frozen 2
          have z3 := RGy.out.frozen 3
          have z4 := RGy.out.frozen 4
          have z5 := RGy.out.frozen 5
          have z6 := RGy.out.frozen 6
          have z7 := RGy.out.frozen 7
          have z8 := RGy.out.frozen 8
          have y0 := RHy.out.frozen 0
          have y1 := RHy.out.frozen 1
          obtain ⟨r0, r1, r2, r3, r4, r5, r6, r7, r8⟩ := (show Cells WX w.heap.size 0 ⟨0, [], [], 0, 0, 0, 0, 0⟩ (.slice none 0 0) from Cells.row RGy.out)
          simp only [Nat.zero_add] at r1 r2 r3 r4 r5 r6 r7 r8
          have s0 : WX.cell? ⟨w.heap.size + 1, 0, none⟩ = some (.int .i64 0) := RHy.out.cell rfl
          have s1 : WX.cell? ⟨w.heap.size + 1, 1, none⟩ = some (.int .i64 0) := RHy.out.cell rfl
          have F0 : Hid (WX.cell? ⟨P, 0, none⟩ = some (.int .i64 m.hd.kind) ∧ WX.cell? ⟨P, 1, none⟩ = some (.string (bs m.hd.text)) ∧ WX.cell? ⟨P, 2, none⟩ = some (.string (bs m.hd.type)) ∧ WX.cell? ⟨P, 3, none⟩ = some (.int .i64 m.hd.n) ∧ WX.cell? ⟨P, 4, none⟩ = some (.int .i64 m.hd.fr) ∧ WX.cell? ⟨P, 5, none⟩ = some (.int .i64 m.hd.to_) ∧ WX.cell? ⟨P, 6, none⟩ = some (.int .i64 m.hd.at_) ∧ WX.cell? ⟨P, 7, none⟩ = some (.int .i64 m.hd.tat) ∧ WX.cell? ⟨P, 8, none⟩ = some (.slice a7 n7 c7)) := Lib.hid ⟨RMy.out.cell rfl, RMy.out.cell rfl, RMy.out.cell rfl, RMy.out.cell rfl, RMy.out.cell rfl, RMy.out.cell rfl, RMy.out.cell rfl, RMy.out.cell rfl, RMy.out.cell rfl⟩
          have FD : Hid (WX.drew.cell? ⟨P, 0, none⟩ = some (.int .i64 m.hd.kind) ∧ WX.drew.cell? ⟨P, 1, none⟩ = some (.string (bs m.hd.text)) ∧ WX.drew.cell? ⟨P, 2, none⟩ = some (.string (bs m.hd.type)) ∧ WX.drew.cell? ⟨P, 3, none⟩ = some (.int .i64 m.hd.n) ∧ WX.drew.cell? ⟨P, 4, none⟩ = some (.int .i64 m.hd.fr) ∧ WX.drew.cell? ⟨P, 5, none⟩ = some (.int .i64 m.hd.to_) ∧ WX.drew.cell? ⟨P, 6, none⟩ = some (.int .i64 m.hd.at_) ∧ WX.drew.cell? ⟨P, 7, none⟩ = some (.int .i64 m.hd.tat) ∧ WX.drew.cell? ⟨P, 8, none⟩ = some (.slice a7 n7 c7)) := Lib.hid F0.out
          have RGd : Hid (RowAt WX.drew w.heap.size 55 #[.int .i64 0, .string ⟨#[]⟩, .string ⟨#[]⟩, .int .i64 0, .int .i64 0, .int .i64 0, .int .i64 0, .int .i64 0, .slice none 0 0]) := Lib.hid RGy.out
          have RHd : Hid (RowAt WX.drew (w.heap.size + 1) 68 #[.int .i64 0, .int .i64 0]) := Lib.hid RHy.out
          have RMd : Hid (RowAt WX.drew P 55 #[.int .i64 m.hd.kind, .string (bs m.hd.text), .string (bs m.hd.type), .int .i64 m.hd.n, .int .i64 m.hd.fr, .int .i64 m.hd.to_, .int .i64 m.hd.at_, .int .i64 m.hd.tat, .slice a7 n7 c7]) := Lib.hid RMy.out
          have BDd : Hid (Below w.heap.size w WX.drew) := Lib.hid (below_drew By.out)
          have SDd : Hid (Sup WX.drew W1.heap.size m.kids (.slice a7 n7 c7) F) := Lib.hid (SS.out.below (below_drew (Below.refl _ _)))
          go_region_held3 (fun W => W.cell? ⟨P, 0, none⟩ = some (.int .i64 m.hd.kind) ∧ W.cell? ⟨P, 1, none⟩ = some (.string (bs m.hd.text)) ∧ W.cell? ⟨P, 2, none⟩ = some (.string (bs m.hd.type)) ∧ W.cell? ⟨P, 3, none⟩ = some (.int .i64 m.hd.n) ∧ W.cell? ⟨P, 4, none⟩ = some (.int .i64 m.hd.fr) ∧ W.cell? ⟨P, 5, none⟩ = some (.int .i64 m.hd.to_) ∧ W.cell? ⟨P, 6, none⟩ = some (.int .i64 m.hd.at_) ∧ W.cell? ⟨P, 7, none⟩ = some (.int .i64 m.hd.tat) ∧ W.cell? ⟨P, 8, none⟩ = some (.slice a7 n7 c7))
            (first | (with_reducible exact F0.out) | (with_reducible exact FD.out) | (with_reducible exact F5.out) | (with_reducible exact F6.out) | (with_reducible exact F7.out))
            (first | (go_at_call 46; ((with_reducible refine (fine_any _).mono ?_); rintro e wf ⟨rfl, bf⟩; have R5 := RMd.out.later bf; have F5 := Lib.hid (show wf.cell? ⟨P, 0, none⟩ = some (.int .i64 m.hd.kind) ∧ wf.cell? ⟨P, 1, none⟩ = some (.string (bs m.hd.text)) ∧ wf.cell? ⟨P, 2, none⟩ = some (.string (bs m.hd.type)) ∧ wf.cell? ⟨P, 3, none⟩ = some (.int .i64 m.hd.n) ∧ wf.cell? ⟨P, 4, none⟩ = some (.int .i64 m.hd.fr) ∧ wf.cell? ⟨P, 5, none⟩ = some (.int .i64 m.hd.to_) ∧ wf.cell? ⟨P, 6, none⟩ = some (.int .i64 m.hd.at_) ∧ wf.cell? ⟨P, 7, none⟩ = some (.int .i64 m.hd.tat) ∧ wf.cell? ⟨P, 8, none⟩ = some (.slice a7 n7 c7) from ⟨R5.cell rfl, R5.cell rfl, R5.cell rfl, R5.cell rfl, R5.cell rfl, R5.cell rfl, R5.cell rfl, R5.cell rfl, R5.cell rfl⟩); have RGf := Lib.hid (RGd.out.later bf); have RHf := Lib.hid (RHd.out.later bf); have F6 := Lib.hid (nineC (RowAt.same R5 ((nine RGf.out m.hd (.slice a7 n7 c7)).2.other P (by omega)))); have N9 := (nine RGf.out m.hd (.slice a7 n7 c7)).2; have F7 := Lib.hid (nineC (((RowAt.same R5 (N9.other P (by omega))).other (c := w.heap.size + 1) (by omega) 0 (.int .i64 (-1))).other (c := w.heap.size + 1) (by omega) 1 (.int .i64 0))); clear N9; have Bf := Lib.hid (BDd.out.trans (bf.mono BDd.out.size)); have Sf := Lib.hid (SDd.out.below bf); have z0 := RGf.out.frozen 0; have z1 := RGf.out.frozen 1; have z2 := RGf.out.frozen 2; have z3 := RGf.out.frozen 3; have z4 := RGf.out.frozen 4; have z5 := RGf.out.frozen 5; have z6 := RGf.out.frozen 6; have z7 := RGf.out.frozen 7; have z8 := RGf.out.frozen 8; have y0 := RHf.out.frozen 0; have y1 := RHf.out.frozen 1; obtain ⟨r0, r1, r2, r3, r4, r5, r6, r7, r8⟩ := (show Cells wf w.heap.size 0 ⟨0, [], [], 0, 0, 0, 0, 0⟩ (.slice none 0 0) from Cells.row RGf.out); simp only [Nat.zero_add] at r1 r2 r3 r4 r5 r6 r7 r8; have s0 : wf.cell? ⟨w.heap.size + 1, 0, none⟩ = some (.int .i64 0) := RHf.out.cell rfl; have s1 : wf.cell? ⟨w.heap.size + 1, 1, none⟩ = some (.int .i64 0) := RHf.out.cell rfl; clear bf R5)))
          all_goals
            go_wp2_with fail
            obtain ⟨k1, k2, k3, k4, k5⟩ := both_rows RGf.out RHf.out (by omega) m.hd (.slice a7 n7 c7) (-1) 0 rfl
            refine fin_node 4 5 6 rfl rfl rfl k1 k2 ⟨⟨a7, n7, c7, F, rfl, sup_past Sf.out k3 k4 (by omega) (by omega) B1.out.size⟩, Bf.out.trans (k5 _ (Nat.le_refl _) (by omega))⟩
  | false =>
    rw [q1, if_neg (by decide)] at hr
    unfold memAtF at hr
    cases q2 : kindT T a with
    | false =>
      rw [q2, if_neg (by decide)] at hr
      obtain rfl := Option.some.inj hr
      go_enter Tryd.func44, Tryd.ntmps44
      go_wp2_with fail
      refine calls_gen (fun W => RowAt W w.heap.size 55 #[.int .i64 0, .string ⟨#[]⟩, .string ⟨#[]⟩, .int .i64 0, .int .i64 0, .int .i64 0, .int .i64 0, .int .i64 0, .slice none 0 0] ∧ RowAt W (w.heap.size + 1) 68 #[.int .i64 0, .int .i64 0] ∧ Below w.heap.size w W) ⟨(row_new rfl).alloc _, row_new (by simp), ((Below.refl _ w).alloc (Nat.le_refl _) _).alloc (by simp) _⟩ ?_
      rintro W1 ⟨g1, h1, b1⟩
      have RG1 := Lib.hid g1
      have RH1 := Lib.hid h1
      have B1 := Lib.hid b1
      have hlt1 := h1.lt
      clear g1 h1 b1
      refine (is_at (s := ⟨#[115, 116, 97, 116, 105, 99]⟩) (HT.out W1 B1.out) q1).mono ?_
      rintro e w' ⟨rfl, hw⟩
      have hw := hw.symm
      subst hw
      go_wp2_with fail
      refine (kind_at (HT.out W1 B1.out) q2).mono ?_
      rintro e w' ⟨rfl, hw⟩
      have hw := hw.symm
      subst hw
      go_wp2_with fail
      refine (syntax_any _ _).mono ?_
      rintro e w9 ⟨rfl, b9⟩
      have RG9 := RG1.out.later b9
      have RH9 := RH1.out.later b9
      have B9 := B1.out.trans (b9.mono B1.out.size)
      have z0 := RG9.frozen 0
      have z1 := RG9.frozen 1
      have z2 := RG9.frozen 2
      have z3 := RG9.frozen 3
      have z4 := RG9.frozen 4
      have z5 := RG9.frozen 5
      have z6 := RG9.frozen 6
      have z7 := RG9.frozen 7
      have z8 := RG9.frozen 8
      have y0 := RH9.frozen 0
      have y1 := RH9.frozen 1
      obtain ⟨r0, r1, r2, r3, r4, r5, r6, r7, r8⟩ := (show Cells w9 w.heap.size 0 ⟨0, [], [], 0, 0, 0, 0, 0⟩ (.slice none 0 0) from Cells.row RG9)
      simp only [Nat.zero_add] at r1 r2 r3 r4 r5 r6 r7 r8
      have s0 : w9.cell? ⟨w.heap.size + 1, 0, none⟩ = some (.int .i64 0) := RH9.cell rfl
      have s1 : w9.cell? ⟨w.heap.size + 1, 1, none⟩ = some (.int .i64 0) := RH9.cell rfl
      have RG9' := Lib.hid RG9
      have RH9' := Lib.hid RH9
      have B9' := Lib.hid B9
      clear RG9 RH9 B9 b9
      go_wp2_with fail
      obtain ⟨k1, k2, k3, k4, k5⟩ := both_rows RG9'.out RH9'.out (by omega) ⟨0, [], [], 0, 0, 0, 0, 0⟩ (.slice none 0 0) ((a : Nat) : Int) 120 rfl
      exact fin_node 4 5 6 rfl rfl rfl k1 k2 ⟨rfl, B9'.out.trans (k5 _ (Nat.le_refl _) (by omega))⟩
    | true =>
    rw [q2, if_pos rfl] at hr
    cases q3 : nmT T (a + 1) with
    | false =>
      rw [q3, if_neg (by decide)] at hr
      obtain rfl := Option.some.inj hr
      go_enter Tryd.func44, Tryd.ntmps44
      go_wp2_with fail
      refine calls_gen (fun W => RowAt W w.heap.size 55 #[.int .i64 0, .string ⟨#[]⟩, .string ⟨#[]⟩, .int .i64 0, .int .i64 0, .int .i64 0, .int .i64 0, .int .i64 0, .slice none 0 0] ∧ RowAt W (w.heap.size + 1) 68 #[.int .i64 0, .int .i64 0] ∧ Below w.heap.size w W) ⟨(row_new rfl).alloc _, row_new (by simp), ((Below.refl _ w).alloc (Nat.le_refl _) _).alloc (by simp) _⟩ ?_
      rintro W1 ⟨g1, h1, b1⟩
      have RG1 := Lib.hid g1
      have RH1 := Lib.hid h1
      have B1 := Lib.hid b1
      have hlt1 := h1.lt
      clear g1 h1 b1
      refine (is_at (s := ⟨#[115, 116, 97, 116, 105, 99]⟩) (HT.out W1 B1.out) q1).mono ?_
      rintro e w' ⟨rfl, hw⟩
      have hw := hw.symm
      subst hw
      go_wp2_with fail
      refine (kind_at (HT.out W1 B1.out) q2).mono ?_
      rintro e w' ⟨rfl, hw⟩
      have hw := hw.symm
      subst hw
      go_wp2_with fail
      refine (name_1 (HT.out W1 B1.out) q3).mono ?_
      rintro e w' ⟨rfl, hw⟩
      have hw := hw.symm
      subst hw
      go_wp2_with fail
      refine (syntax_any _ _).mono ?_
      rintro e w9 ⟨rfl, b9⟩
      have RG9 := RG1.out.later b9
      have RH9 := RH1.out.later b9
      have B9 := B1.out.trans (b9.mono B1.out.size)
      have z0 := RG9.frozen 0
      have z1 := RG9.frozen 1
      have z2 := RG9.frozen 2
      have z3 := RG9.frozen 3
      have z4 := RG9.frozen 4
      have z5 := RG9.frozen 5
      have z6 := RG9.frozen 6
      have z7 := RG9.frozen 7
      have z8 := RG9.frozen 8
      have y0 := RH9.frozen 0
      have y1 := RH9.frozen 1
      obtain ⟨r0, r1, r2, r3, r4, r5, r6, r7, r8⟩ := (show Cells w9 w.heap.size 0 ⟨0, [], [], 0, 0, 0, 0, 0⟩ (.slice none 0 0) from Cells.row RG9)
      simp only [Nat.zero_add] at r1 r2 r3 r4 r5 r6 r7 r8
      have s0 : w9.cell? ⟨w.heap.size + 1, 0, none⟩ = some (.int .i64 0) := RH9.cell rfl
      have s1 : w9.cell? ⟨w.heap.size + 1, 1, none⟩ = some (.int .i64 0) := RH9.cell rfl
      have RG9' := Lib.hid RG9
      have RH9' := Lib.hid RH9
      have B9' := Lib.hid B9
      clear RG9 RH9 B9 b9
      go_wp2_with fail
      obtain ⟨k1, k2, k3, k4, k5⟩ := both_rows RG9'.out RH9'.out (by omega) ⟨0, [], [], 0, 0, 0, 0, 0⟩ (.slice none 0 0) ((a + 1 : Nat) : Int) 120 rfl
      exact fin_node 4 5 6 rfl rfl rfl k1 k2 ⟨rfl, B9'.out.trans (k5 _ (Nat.le_refl _) (by omega))⟩
    | true =>
    rw [q3, if_pos rfl] at hr
    have hb2 : a + 2 < T.length := nmT_lt HG.out.e q3
    cases q4 : isT T (a + 2) sSemi with
    | true =>
      rw [q4, if_pos rfl] at hr
      have hb3 : a + 3 < T.length := isT_lt HG.out.e q4
      cases q5 : isT T a sVoid with
      | true =>
        rw [q5, if_pos rfl] at hr
        obtain rfl := Option.some.inj hr
        go_enter Tryd.func44, Tryd.ntmps44
        go_wp2_with fail
        refine calls_gen (fun W => RowAt W w.heap.size 55 #[.int .i64 0, .string ⟨#[]⟩, .string ⟨#[]⟩, .int .i64 0, .int .i64 0, .int .i64 0, .int .i64 0, .int .i64 0, .slice none 0 0] ∧ RowAt W (w.heap.size + 1) 68 #[.int .i64 0, .int .i64 0] ∧ Below w.heap.size w W) ⟨(row_new rfl).alloc _, row_new (by simp), ((Below.refl _ w).alloc (Nat.le_refl _) _).alloc (by simp) _⟩ ?_
        rintro W1 ⟨g1, h1, b1⟩
        have RG1 := Lib.hid g1
        have RH1 := Lib.hid h1
        have B1 := Lib.hid b1
        have hlt1 := h1.lt
        clear g1 h1 b1
        refine (is_at (s := ⟨#[115, 116, 97, 116, 105, 99]⟩) (HT.out W1 B1.out) q1).mono ?_
        rintro e w' ⟨rfl, hw⟩
        have hw := hw.symm
        subst hw
        go_wp2_with fail
        refine (kind_at (HT.out W1 B1.out) q2).mono ?_
        rintro e w' ⟨rfl, hw⟩
        have hw := hw.symm
        subst hw
        go_wp2_with fail
        refine (name_1 (HT.out W1 B1.out) q3).mono ?_
        rintro e w' ⟨rfl, hw⟩
        have hw := hw.symm
        subst hw
        go_wp2_with fail
        refine (is_2 (s := ⟨#[59]⟩) (HT.out W1 B1.out) q4).mono ?_
        rintro e w' ⟨rfl, hw⟩
        have hw := hw.symm
        subst hw
        go_wp2_with fail
        refine (is_at (s := ⟨#[118, 111, 105, 100]⟩) (HT.out W1 B1.out) q5).mono ?_
        rintro e w' ⟨rfl, hw⟩
        have hw := hw.symm
        subst hw
        go_wp2_with fail
        refine (syntax_any _ _).mono ?_
        rintro e w9 ⟨rfl, b9⟩
        have RG9 := RG1.out.later b9
        have RH9 := RH1.out.later b9
        have B9 := B1.out.trans (b9.mono B1.out.size)
        have z0 := RG9.frozen 0
        have z1 := RG9.frozen 1
        have z2 := RG9.frozen 2
        have z3 := RG9.frozen 3
        have z4 := RG9.frozen 4
        have z5 := RG9.frozen 5
        have z6 := RG9.frozen 6
        have z7 := RG9.frozen 7
        have z8 := RG9.frozen 8
        have y0 := RH9.frozen 0
        have y1 := RH9.frozen 1
        obtain ⟨r0, r1, r2, r3, r4, r5, r6, r7, r8⟩ := (show Cells w9 w.heap.size 0 ⟨0, [], [], 0, 0, 0, 0, 0⟩ (.slice none 0 0) from Cells.row RG9)
        simp only [Nat.zero_add] at r1 r2 r3 r4 r5 r6 r7 r8
        have s0 : w9.cell? ⟨w.heap.size + 1, 0, none⟩ = some (.int .i64 0) := RH9.cell rfl
        have s1 : w9.cell? ⟨w.heap.size + 1, 1, none⟩ = some (.int .i64 0) := RH9.cell rfl
        have RG9' := Lib.hid RG9
        have RH9' := Lib.hid RH9
        have B9' := Lib.hid B9
        clear RG9 RH9 B9 b9
        go_wp2_with fail
        obtain ⟨k1, k2, k3, k4, k5⟩ := both_rows RG9'.out RH9'.out (by omega) ⟨0, [], [], 0, 0, 0, 0, 0⟩ (.slice none 0 0) ((a + 2 : Nat) : Int) 120 rfl
        exact fin_node 4 5 6 rfl rfl rfl k1 k2 ⟨rfl, B9'.out.trans (k5 _ (Nat.le_refl _) (by omega))⟩
      | false =>
        rw [q5, if_neg (by decide)] at hr
        have hr : some (PR.ok (Nd.mk { typedH T (madeH T 2 a (a + 3)) a with n := 0 } []) (a + 3)) = some r := hr
        obtain ⟨m, hm⟩ : ∃ m, (Nd.mk { typedH T (madeH T 2 a (a + 3)) a with n := 0 } []) = m := ⟨_, rfl⟩
        rw [hm] at hr
        obtain rfl := Option.some.inj hr
        go_enter Tryd.func44, Tryd.ntmps44
        go_wp2_with fail
        refine calls_gen (fun W => RowAt W w.heap.size 55 #[.int .i64 0, .string ⟨#[]⟩, .string ⟨#[]⟩, .int .i64 0, .int .i64 0, .int .i64 0, .int .i64 0, .int .i64 0, .slice none 0 0] ∧ RowAt W (w.heap.size + 1) 68 #[.int .i64 0, .int .i64 0] ∧ Below w.heap.size w W) ⟨(row_new rfl).alloc _, row_new (by simp), ((Below.refl _ w).alloc (Nat.le_refl _) _).alloc (by simp) _⟩ ?_
        rintro W1 ⟨g1, h1, b1⟩
        have RG1 := Lib.hid g1
        have RH1 := Lib.hid h1
        have B1 := Lib.hid b1
        have hlt1 := h1.lt
        clear g1 h1 b1
        refine (is_at (s := ⟨#[115, 116, 97, 116, 105, 99]⟩) (HT.out W1 B1.out) q1).mono ?_
        rintro e w' ⟨rfl, hw⟩
        have hw := hw.symm
        subst hw
        go_wp2_with fail
        refine (kind_at (HT.out W1 B1.out) q2).mono ?_
        rintro e w' ⟨rfl, hw⟩
        have hw := hw.symm
        subst hw
        go_wp2_with fail
        refine (name_1 (HT.out W1 B1.out) q3).mono ?_
        rintro e w' ⟨rfl, hw⟩
        have hw := hw.symm
        subst hw
        go_wp2_with fail
        refine (is_2 (s := ⟨#[59]⟩) (HT.out W1 B1.out) q4).mono ?_
        rintro e w' ⟨rfl, hw⟩
        have hw := hw.symm
        subst hw
        go_wp2_with fail
        refine (is_at (s := ⟨#[118, 111, 105, 100]⟩) (HT.out W1 B1.out) q5).mono ?_
        rintro e w' ⟨rfl, hw⟩
        have hw := hw.symm
        subst hw
        go_wp2_with fail
        obtain ⟨F, hF⟩ : ∃ F, Sup W1 W1.heap.size [] (.slice none 0 0) F := ⟨fun _ => False, nofun, fun V _ => KidsAt.nil V⟩
        have SF := Lib.hid hF
        refine (made_at (.slice (some ⟨tb, to_, none⟩) T.length cv) none 0 0 T HG.out 2 a (a + 3) (by omega) (by omega) (by omega) W1 (HT.out W1 B1.out)).mono ?_
        rintro e w8 ⟨rfl, b8⟩
        have RG8 := Lib.hid (RG1.out.later b8)
        have RH8 := Lib.hid (RH1.out.later b8)
        have B8 := Lib.hid (B1.out.trans (b8.mono B1.out.size))
        have S8 := Lib.hid (SF.out.below b8)
        have hs8 := b8.size
        clear b8
        go_wp2_with fail
        refine (typed_any (.slice (some ⟨tb, to_, none⟩) T.length cv) (madeH T 2 a (a + 3)) none 0 0 T a (by omega) (by omega) w8 (HT.out w8 B8.out)).mono ?_
        rintro e wt ⟨rfl, bt⟩
        have RGt := Lib.hid (RG8.out.later bt)
        have RHt := Lib.hid (RH8.out.later bt)
        have Bt := Lib.hid (B8.out.trans (bt.mono B8.out.size))
        have St := Lib.hid (S8.out.below bt)
        have hst := bt.size
        clear bt
        obtain ⟨P, hP⟩ : ∃ P, wt.heap.size = P := ⟨_, rfl⟩
        have hPl : w.heap.size + 2 ≤ P := by have := B1.out.size; omega
        go_upto_region 29 with fail
        refine wp_gen (fun W => RowAt W w.heap.size 55 #[.int .i64 0, .string ⟨#[]⟩, .string ⟨#[]⟩, .int .i64 0, .int .i64 0, .int .i64 0, .int .i64 0, .int .i64 0, .slice none 0 0] ∧ RowAt W (w.heap.size + 1) 68 #[.int .i64 0, .int .i64 0] ∧ RowAt W wt.heap.size 55 ((typedH T (madeH T 2 a (a + 3)) a).vals (.slice none 0 0)) ∧ Sup W W1.heap.size [] (.slice none 0 0) F ∧ Below w.heap.size w W) ⟨RGt.out.alloc _, RHt.out.alloc _, row_new rfl, St.out.below ((Below.refl _ _).alloc (Nat.le_refl _) _), Bt.out.alloc (by omega) _⟩ ?_
        rintro W9 ⟨g3, h3, m3, s3, b3⟩
        have hFP : Hid (∀ b, F b → b ≠ P) := Lib.hid (fun b hb => by have := (St.out.1 b hb).2; omega)
        rw [hP] at m3
        have RGz := Lib.hid g3
        have RHz := Lib.hid h3
        have RM3 := Lib.hid m3
        have Sz := Lib.hid (And.intro s3 hFP.out)
        have Bz := Lib.hid b3
        clear g3 h3 m3 s3 b3
        go_upto_region 31 with fail
        refine wp_gen (fun W => RowAt W w.heap.size 55 #[.int .i64 0, .string ⟨#[]⟩, .string ⟨#[]⟩, .int .i64 0, .int .i64 0, .int .i64 0, .int .i64 0, .int .i64 0, .slice none 0 0] ∧ RowAt W (w.heap.size + 1) 68 #[.int .i64 0, .int .i64 0] ∧ RowAt W P 55 #[.int .i64 m.hd.kind, .string (bs m.hd.text), .string (bs m.hd.type), .int .i64 m.hd.n, .int .i64 m.hd.fr, .int .i64 m.hd.to_, .int .i64 m.hd.at_, .int .i64 m.hd.tat, .slice none 0 0] ∧ Sup W W1.heap.size [] (.slice none 0 0) F ∧ Below w.heap.size w W) ⟨RGz.out, RHz.out, by rw [← hm]; exact RM3.out, Sz.out.1, Bz.out⟩ ?_
        rintro WX ⟨g3, h3, m3, s3, b3⟩
        have RGy := Lib.hid g3
        have RHy := Lib.hid h3
        have RMy := Lib.hid m3
        have SS : Hid (Sup WX W1.heap.size m.kids (.slice none 0 0) F) := Lib.hid (by rw [← hm]; exact s3)
        have By := Lib.hid b3
        clear g3 h3 m3 s3 b3
        have hne1 : P ≠ w.heap.size := by omega
        have hne2 : P ≠ w.heap.size + 1 := by omega
        have z0 := RGy.out.frozen 0
        have z1 := RGy.out.frozen 1
        have z2 := RGy.out.frozen 2
        have z3 := RGy.out.frozen 3
        have z4 := RGy.out.frozen 4
        have z5 := RGy.out.frozen 5
        have z6 := RGy.out.frozen 6
        have z7 := RGy.out.frozen 7
        have z8 := RGy.out.frozen 8
        have y0 := RHy.out.frozen 0
        have y1 := RHy.out.frozen 1
        obtain ⟨r0, r1, r2, r3, r4, r5, r6, r7, r8⟩ := (show Cells WX w.heap.size 0 ⟨0, [], [], 0, 0, 0, 0, 0⟩ (.slice none 0 0) from Cells.row RGy.out)
        simp only [Nat.zero_add] at r1 r2 r3 r4 r5 r6 r7 r8
        have s0 : WX.cell? ⟨w.heap.size + 1, 0, none⟩ = some (.int .i64 0) := RHy.out.cell rfl
        have s1 : WX.cell? ⟨w.heap.size + 1, 1, none⟩ = some (.int .i64 0) := RHy.out.cell rfl
        have F0 : Hid (WX.cell? ⟨P, 0, none⟩ = some (.int .i64 m.hd.kind) ∧ WX.cell? ⟨P, 1, none⟩ = some (.string (bs m.hd.text)) ∧ WX.cell? ⟨P, 2, none⟩ = some (.string (bs m.hd.type)) ∧ WX.cell? ⟨P, 3, none⟩ = some (.int .i64 m.hd.n) ∧ WX.cell? ⟨P, 4, none⟩ = some (.int .i64 m.hd.fr) ∧ WX.cell? ⟨P, 5, none⟩ = some (.int .i64 m.hd.to_) ∧ WX.cell? ⟨P, 6, none⟩ = some (.int .i64 m.hd.at_) ∧ WX.cell? ⟨P, 7, none⟩ = some (.int .i64 m.hd.tat) ∧ WX.cell? ⟨P, 8, none⟩ = some (.slice none 0 0)) := Lib.hid ⟨RMy.out.cell rfl, RMy.out.cell rfl, RMy.out.cell rfl, RMy.out.cell rfl, RMy.out.cell rfl, RMy.out.cell rfl, RMy.out.cell rfl, RMy.out.cell rfl, RMy.out.cell rfl⟩
        have FD : Hid (WX.drew.cell? ⟨P, 0, none⟩ = some (.int .i64 m.hd.kind) ∧ WX.drew.cell? ⟨P, 1, none⟩ = some (.string (bs m.hd.text)) ∧ WX.drew.cell? ⟨P, 2, none⟩ = some (.string (bs m.hd.type)) ∧ WX.drew.cell? ⟨P, 3, none⟩ = some (.int .i64 m.hd.n) ∧ WX.drew.cell? ⟨P, 4, none⟩ = some (.int .i64 m.hd.fr) ∧ WX.drew.cell? ⟨P, 5, none⟩ = some (.int .i64 m.hd.to_) ∧ WX.drew.cell? ⟨P, 6, none⟩ = some (.int .i64 m.hd.at_) ∧ WX.drew.cell? ⟨P, 7, none⟩ = some (.int .i64 m.hd.tat) ∧ WX.drew.cell? ⟨P, 8, none⟩ = some (.slice none 0 0)) := Lib.hid F0.out
        have RGd : Hid (RowAt WX.drew w.heap.size 55 #[.int .i64 0, .string ⟨#[]⟩, .string ⟨#[]⟩, .int .i64 0, .int .i64 0, .int .i64 0, .int .i64 0, .int .i64 0, .slice none 0 0]) := Lib.hid RGy.out
        have RHd : Hid (RowAt WX.drew (w.heap.size + 1) 68 #[.int .i64 0, .int .i64 0]) := Lib.hid RHy.out
        have RMd : Hid (RowAt WX.drew P 55 #[.int .i64 m.hd.kind, .string (bs m.hd.text), .string (bs m.hd.type), .int .i64 m.hd.n, .int .i64 m.hd.fr, .int .i64 m.hd.to_, .int .i64 m.hd.at_, .int .i64 m.hd.tat, .slice none 0 0]) := Lib.hid RMy.out
        have BDd : Hid (Below w.heap.size w WX.drew) := Lib.hid (below_drew By.out)
        have SDd : Hid (Sup WX.drew W1.heap.size m.kids (.slice none 0 0) F) := Lib.hid (SS.out.below (below_drew (Below.refl _ _)))
        go_region_held3 (fun W => W.cell? ⟨P, 0, none⟩ = some (.int .i64 m.hd.kind) ∧ W.cell? ⟨P, 1, none⟩ = some (.string (bs m.hd.text)) ∧ W.cell? ⟨P, 2, none⟩ = some (.string (bs m.hd.type)) ∧ W.cell? ⟨P, 3, none⟩ = some (.int .i64 m.hd.n) ∧ W.cell? ⟨P, 4, none⟩ = some (.int .i64 m.hd.fr) ∧ W.cell? ⟨P, 5, none⟩ = some (.int .i64 m.hd.to_) ∧ W.cell? ⟨P, 6, none⟩ = some (.int .i64 m.hd.at_) ∧ W.cell? ⟨P, 7, none⟩ = some (.int .i64 m.hd.tat) ∧ W.cell? ⟨P, 8, none⟩ = some (.slice none 0 0))
          (first | (with_reducible exact F0.out) | (with_reducible exact FD.out) | (with_reducible exact F5.out) | (with_reducible exact F6.out) | (with_reducible exact F7.out))
          (first | (go_at_call 46; ((with_reducible refine (fine_any _).mono ?_); rintro e wf ⟨rfl, bf⟩; have R5 := RMd.out.later bf; have F5 := Lib.hid (show wf.cell? ⟨P, 0, none⟩ = some (.int .i64 m.hd.kind) ∧ wf.cell? ⟨P, 1, none⟩ = some (.string (bs m.hd.text)) ∧ wf.cell? ⟨P, 2, none⟩ = some (.string (bs m.hd.type)) ∧ wf.cell? ⟨P, 3, none⟩ = some (.int .i64 m.hd.n) ∧ wf.cell? ⟨P, 4, none⟩ = some (.int .i64 m.hd.fr) ∧ wf.cell? ⟨P, 5, none⟩ = some (.int .i64 m.hd.to_) ∧ wf.cell? ⟨P, 6, none⟩ = some (.int .i64 m.hd.at_) ∧ wf.cell? ⟨P, 7, none⟩ = some (.int .i64 m.hd.tat) ∧ wf.cell? ⟨P, 8, none⟩ = some (.slice none 0 0) from ⟨R5.cell rfl, R5.cell rfl, R5.cell rfl, R5.cell rfl, R5.cell rfl, R5.cell rfl, R5.cell rfl, R5.cell rfl, R5.cell rfl⟩); have RGf := Lib.hid (RGd.out.later bf); have RHf := Lib.hid (RHd.out.later bf); have F6 := Lib.hid (nineC (RowAt.same R5 ((nine RGf.out m.hd (.slice none 0 0)).2.other P (by omega)))); have N9 := (nine RGf.out m.hd (.slice none 0 0)).2; have F7 := Lib.hid (nineC (((RowAt.same R5 (N9.other P (by omega))).other (c := w.heap.size + 1) (by omega) 0 (.int .i64 (-1))).other (c := w.heap.size + 1) (by omega) 1 (.int .i64 0))); clear N9; have Bf := Lib.hid (BDd.out.trans (bf.mono BDd.out.size)); have Sf := Lib.hid (SDd.out.below bf); have z0 := RGf.out.frozen 0; have z1 := RGf.out.frozen 1; have z2 := RGf.out.frozen 2; have z3 := RGf.out.frozen 3; have z4 := RGf.out.frozen 4; have z5 := RGf.out.frozen 5; have z6 := RGf.out.frozen 6; have z7 := RGf.out.frozen 7; have z8 := RGf.out.frozen 8; have y0 := RHf.out.frozen 0; have y1 := RHf.out.frozen 1; obtain ⟨r0, r1, r2, r3, r4, r5, r6, r7, r8⟩ := (show Cells wf w.heap.size 0 ⟨0, [], [], 0, 0, 0, 0, 0⟩ (.slice none 0 0) from Cells.row RGf.out); simp only [Nat.zero_add] at r1 r2 r3 r4 r5 r6 r7 r8; have s0 : wf.cell? ⟨w.heap.size + 1, 0, none⟩ = some (.int .i64 0) := RHf.out.cell rfl; have s1 : wf.cell? ⟨w.heap.size + 1, 1, none⟩ = some (.int .i64 0) := RHf.out.cell rfl; clear bf R5)))
        all_goals
          go_wp2_with fail
          obtain ⟨k1, k2, k3, k4, k5⟩ := both_rows RGf.out RHf.out (by omega) m.hd (.slice none 0 0) (-1) 0 rfl
          refine fin_node 4 5 6 rfl rfl rfl k1 k2 ⟨⟨none, 0, 0, F, rfl, sup_past Sf.out k3 k4 (by omega) (by omega) B1.out.size⟩, Bf.out.trans (k5 _ (Nat.le_refl _) (by omega))⟩
    | false =>
    rw [q4, if_neg (by decide)] at hr
    cases q6 : isT T (a + 2) sL with
    | false =>
      rw [q6, if_neg (by decide)] at hr
      obtain rfl := Option.some.inj hr
      go_enter Tryd.func44, Tryd.ntmps44
      go_wp2_with fail
      refine calls_gen (fun W => RowAt W w.heap.size 55 #[.int .i64 0, .string ⟨#[]⟩, .string ⟨#[]⟩, .int .i64 0, .int .i64 0, .int .i64 0, .int .i64 0, .int .i64 0, .slice none 0 0] ∧ RowAt W (w.heap.size + 1) 68 #[.int .i64 0, .int .i64 0] ∧ Below w.heap.size w W) ⟨(row_new rfl).alloc _, row_new (by simp), ((Below.refl _ w).alloc (Nat.le_refl _) _).alloc (by simp) _⟩ ?_
      rintro W1 ⟨g1, h1, b1⟩
      have RG1 := Lib.hid g1
      have RH1 := Lib.hid h1
      have B1 := Lib.hid b1
      have hlt1 := h1.lt
      clear g1 h1 b1
      refine (is_at (s := ⟨#[115, 116, 97, 116, 105, 99]⟩) (HT.out W1 B1.out) q1).mono ?_
      rintro e w' ⟨rfl, hw⟩
      have hw := hw.symm
      subst hw
      go_wp2_with fail
      refine (kind_at (HT.out W1 B1.out) q2).mono ?_
      rintro e w' ⟨rfl, hw⟩
      have hw := hw.symm
      subst hw
      go_wp2_with fail
      refine (name_1 (HT.out W1 B1.out) q3).mono ?_
      rintro e w' ⟨rfl, hw⟩
      have hw := hw.symm
      subst hw
      go_wp2_with fail
      refine (is_2 (s := ⟨#[59]⟩) (HT.out W1 B1.out) q4).mono ?_
      rintro e w' ⟨rfl, hw⟩
      have hw := hw.symm
      subst hw
      go_wp2_with fail
      refine (is_2 (s := ⟨#[40]⟩) (HT.out W1 B1.out) q6).mono ?_
      rintro e w' ⟨rfl, hw⟩
      have hw := hw.symm
      subst hw
      go_wp2_with fail
      refine (syntax_any _ _).mono ?_
      rintro e w9 ⟨rfl, b9⟩
      have RG9 := RG1.out.later b9
      have RH9 := RH1.out.later b9
      have B9 := B1.out.trans (b9.mono B1.out.size)
      have z0 := RG9.frozen 0
      have z1 := RG9.frozen 1
      have z2 := RG9.frozen 2
      have z3 := RG9.frozen 3
      have z4 := RG9.frozen 4
      have z5 := RG9.frozen 5
      have z6 := RG9.frozen 6
      have z7 := RG9.frozen 7
      have z8 := RG9.frozen 8
      have y0 := RH9.frozen 0
      have y1 := RH9.frozen 1
      obtain ⟨r0, r1, r2, r3, r4, r5, r6, r7, r8⟩ := (show Cells w9 w.heap.size 0 ⟨0, [], [], 0, 0, 0, 0, 0⟩ (.slice none 0 0) from Cells.row RG9)
      simp only [Nat.zero_add] at r1 r2 r3 r4 r5 r6 r7 r8
      have s0 : w9.cell? ⟨w.heap.size + 1, 0, none⟩ = some (.int .i64 0) := RH9.cell rfl
      have s1 : w9.cell? ⟨w.heap.size + 1, 1, none⟩ = some (.int .i64 0) := RH9.cell rfl
      have RG9' := Lib.hid RG9
      have RH9' := Lib.hid RH9
      have B9' := Lib.hid B9
      clear RG9 RH9 B9 b9
      go_wp2_with fail
      obtain ⟨k1, k2, k3, k4, k5⟩ := both_rows RG9'.out RH9'.out (by omega) ⟨0, [], [], 0, 0, 0, 0, 0⟩ (.slice none 0 0) ((a + 2 : Nat) : Int) 120 rfl
      exact fin_node 4 5 6 rfl rfl rfl k1 k2 ⟨rfl, B9'.out.trans (k5 _ (Nat.le_refl _) (by omega))⟩
    | true =>
      rw [q6, if_pos rfl] at hr
      have hb3 : a + 3 < T.length := isT_lt HG.out.e q6
      obtain ⟨x, hx⟩ : ∃ x, parF f T (a + 3) = x := ⟨_, rfl⟩
      have gx := (par_ok HG.out.e f (a + 3) hb3).2
      rw [hx] at hr gx
      cases x with
      | none => cases hr
      | some x =>
      have CP := Lib.hid (fun W hW => PA.out (a + 3) x W hx hb3 (HT.out W hW))
      clear hx
      go_enter Tryd.func44, Tryd.ntmps44
      go_wp2_with fail
      refine calls_gen (fun W => RowAt W w.heap.size 55 #[.int .i64 0, .string ⟨#[]⟩, .string ⟨#[]⟩, .int .i64 0, .int .i64 0, .int .i64 0, .int .i64 0, .int .i64 0, .slice none 0 0] ∧ RowAt W (w.heap.size + 1) 68 #[.int .i64 0, .int .i64 0] ∧ Below w.heap.size w W) ⟨(row_new rfl).alloc _, row_new (by simp), ((Below.refl _ w).alloc (Nat.le_refl _) _).alloc (by simp) _⟩ ?_
      rintro W1 ⟨g1, h1, b1⟩
      have RG1 := Lib.hid g1
      have RH1 := Lib.hid h1
      have B1 := Lib.hid b1
      have hlt1 := h1.lt
      clear g1 h1 b1
      refine (is_at (s := ⟨#[115, 116, 97, 116, 105, 99]⟩) (HT.out W1 B1.out) q1).mono ?_
      rintro e w' ⟨rfl, hw⟩
      have hw := hw.symm
      subst hw
      go_wp2_with fail
      refine (kind_at (HT.out W1 B1.out) q2).mono ?_
      rintro e w' ⟨rfl, hw⟩
      have hw := hw.symm
      subst hw
      go_wp2_with fail
      refine (name_1 (HT.out W1 B1.out) q3).mono ?_
      rintro e w' ⟨rfl, hw⟩
      have hw := hw.symm
      subst hw
      go_wp2_with fail
      refine (is_2 (s := ⟨#[59]⟩) (HT.out W1 B1.out) q4).mono ?_
      rintro e w' ⟨rfl, hw⟩
      have hw := hw.symm
      subst hw
      go_wp2_with fail
      refine (is_2 (s := ⟨#[40]⟩) (HT.out W1 B1.out) q6).mono ?_
      rintro e w' ⟨rfl, hw⟩
      have hw := hw.symm
      subst hw
      go_wp2_with fail
      refine (CP.out W1 B1.out).mono ?_
      rintro e w2 ⟨hli, b2⟩
      have RG2 := Lib.hid (RG1.out.later b2)
      have RH2 := Lib.hid (RH1.out.later b2)
      have B2 := Lib.hid (B1.out.trans (b2.mono B1.out.size))
      have hs2 := b2.size
      clear b2
      cases x with
      | bad p c =>
        obtain rfl : PR.bad p c = r := Option.some.inj hr
        obtain rfl := hli
        have p1 : decide ((p : Int) ≥ 0) = true := decide_eq_true (by omega)
        have p2 : decide ((0 : Int) ≤ (p : Int)) = true := decide_eq_true (by omega)
        go_wp2_with fail
        refine wp_gen (fun W => RowAt W w.heap.size 55 #[.int .i64 0, .string ⟨#[]⟩, .string ⟨#[]⟩, .int .i64 0, .int .i64 0, .int .i64 0, .int .i64 0, .int .i64 0, .slice none 0 0] ∧ RowAt W (w.heap.size + 1) 68 #[.int .i64 0, .int .i64 0] ∧ RowAt W w2.heap.size 68 #[.int .i64 (p : Nat), .int .i64 c] ∧ Below w.heap.size w W) ⟨RG2.out.alloc _, RH2.out.alloc _, row_new rfl, B2.out.alloc (by omega) _⟩ ?_
        rintro W3 ⟨g3, h3, t3, b3⟩
        have z0 := g3.frozen 0
        have z1 := g3.frozen 1
        have z2 := g3.frozen 2
        have z3 := g3.frozen 3
        have z4 := g3.frozen 4
        have z5 := g3.frozen 5
        have z6 := g3.frozen 6
        have z7 := g3.frozen 7
        have z8 := g3.frozen 8
        have y0 := h3.frozen 0
        have y1 := h3.frozen 1
        obtain ⟨r0, r1, r2, r3, r4, r5, r6, r7, r8⟩ := (show Cells W3 w.heap.size 0 ⟨0, [], [], 0, 0, 0, 0, 0⟩ (.slice none 0 0) from Cells.row g3)
        simp only [Nat.zero_add] at r1 r2 r3 r4 r5 r6 r7 r8
        have s0 : W3.cell? ⟨w.heap.size + 1, 0, none⟩ = some (.int .i64 0) := h3.cell rfl
        have s1 : W3.cell? ⟨w.heap.size + 1, 1, none⟩ = some (.int .i64 0) := h3.cell rfl
        have t0 : W3.cell? ⟨w2.heap.size, 0, none⟩ = some (.int .i64 (p : Nat)) := t3.cell rfl
        have t1 : W3.cell? ⟨w2.heap.size, 1, none⟩ = some (.int .i64 c) := t3.cell rfl
        have ne1 : w2.heap.size ≠ w.heap.size := by omega
        have G3 := Lib.hid g3
        have H3 := Lib.hid h3
        have B3 := Lib.hid b3
        clear g3 h3 t3 b3
        go_region
        all_goals
          go_wp2_with fail
          obtain ⟨k1, k2, k3, k4, k5⟩ := both_rows_d G3.out H3.out (by omega) ⟨0, [], [], 0, 0, 0, 0, 0⟩ (.slice none 0 0) p c rfl
          exact fin_node 4 5 6 rfl rfl rfl k1 k2 ⟨rfl, B3.out.trans (k5 _ (Nat.le_refl _) (by omega))⟩
      | ok l c =>
        obtain ⟨v1, v2, v3⟩ := gx l c rfl
        obtain ⟨vl, ps, rfl, ol, hl⟩ := hli
        obtain ⟨al, nl, cl, rfl⟩ := own_slice ol
        have O2 := Lib.hid ol
        have hpl : ps.length ≤ cntL l := by have h9 := cntL_len (ps.map (·.1)); rw [List.length_map, hl] at h9; exact h9
        clear ol
        have hr : bindP (blkF f T c 1) (fun x m => some (.ok (Nd.mk { typedH T (madeH T 3 a m) a with n := 0 } (l ++ [x])) m)) = some r := hr
        obtain ⟨y, hy⟩ : ∃ y, blkF f T c 1 = y := ⟨_, rfl⟩
        have gy := ((st_ok HG.out.e f).blk c 1 v2).2
        rw [hy] at hr gy
        cases y with
        | none => cases hr
        | some y =>
        have CB := Lib.hid (fun W hW => BL.out c 1 y W hy v2 (by omega) (HT.out W hW))
        clear hy
        have p1 : decide ((-1 : Int) ≥ 0) = false := by decide
        go_wp2_with fail
        refine calls_gen (fun W => RowAt W w.heap.size 55 #[.int .i64 0, .string ⟨#[]⟩, .string ⟨#[]⟩, .int .i64 0, .int .i64 0, .int .i64 0, .int .i64 0, .int .i64 0, .slice none 0 0] ∧ RowAt W (w.heap.size + 1) 68 #[.int .i64 0, .int .i64 0] ∧ Below w2.heap.size w2 W) ⟨RG2.out.alloc _, RH2.out.alloc _, (Below.refl _ _).alloc (Nat.le_refl _) _⟩ ?_
        rintro W3 ⟨g3, h3, b3⟩
        have RG3 := Lib.hid g3
        have RH3 := Lib.hid h3
        have B3 := Lib.hid (B2.out.trans (b3.mono B2.out.size))
        have O3 := Lib.hid (O2.out.below b3)
        have hs3 := b3.size
        clear g3 h3 b3
        refine (CB.out W3 B3.out).mono ?_
        rintro e w4 ⟨hni, b4⟩
        have b34 := Lib.hid b4
        have RG4 := Lib.hid (RG3.out.later b4)
        have RH4 := Lib.hid (RH3.out.later b4)
        have B4 := Lib.hid (B3.out.trans (b4.mono B3.out.size))
        have hs4 := b4.size
        clear b4
        have O4 := Lib.hid (O3.out.below b34.out)
        cases y with
        | bad p c =>
          obtain rfl : PR.bad p c = r := Option.some.inj hr
          obtain rfl := hni
          have p1 : decide ((p : Int) ≥ 0) = true := decide_eq_true (by omega)
          have p2 : decide ((0 : Int) ≤ (p : Int)) = true := decide_eq_true (by omega)
          go_wp2_with fail
          refine wp_gen (fun W => RowAt W w.heap.size 55 #[.int .i64 0, .string ⟨#[]⟩, .string ⟨#[]⟩, .int .i64 0, .int .i64 0, .int .i64 0, .int .i64 0, .int .i64 0, .slice none 0 0] ∧ RowAt W (w.heap.size + 1) 68 #[.int .i64 0, .int .i64 0] ∧ RowAt W (w4.heap.size + 1) 68 #[.int .i64 (p : Nat), .int .i64 c] ∧ Below w.heap.size w W) ⟨(RG4.out.alloc _).alloc _, (RH4.out.alloc _).alloc _, row_new (by simp), (B4.out.alloc (by omega) _).alloc (by simp; omega) _⟩ ?_
          rintro W3 ⟨g3, h3, t3, b3⟩
          have z0 := g3.frozen 0
          have z1 := g3.frozen 1
          have z2 := g3.frozen 2
          have z3 := g3.frozen 3
          have z4 := g3.frozen 4
          have z5 := g3.frozen 5
          have z6 := g3.frozen 6
          have z7 := g3.frozen 7
          have z8 := g3.frozen 8
          have y0 := h3.frozen 0
          have y1 := h3.frozen 1
          obtain ⟨r0, r1, r2, r3, r4, r5, r6, r7, r8⟩ := (show Cells W3 w.heap.size 0 ⟨0, [], [], 0, 0, 0, 0, 0⟩ (.slice none 0 0) from Cells.row g3)
          simp only [Nat.zero_add] at r1 r2 r3 r4 r5 r6 r7 r8
          have s0 : W3.cell? ⟨w.heap.size + 1, 0, none⟩ = some (.int .i64 0) := h3.cell rfl
          have s1 : W3.cell? ⟨w.heap.size + 1, 1, none⟩ = some (.int .i64 0) := h3.cell rfl
          have t0 : W3.cell? ⟨(w4.heap.size + 1), 0, none⟩ = some (.int .i64 (p : Nat)) := t3.cell rfl
          have t1 : W3.cell? ⟨(w4.heap.size + 1), 1, none⟩ = some (.int .i64 c) := t3.cell rfl
          have ne1 : (w4.heap.size + 1) ≠ w.heap.size := by omega
          have G3 := Lib.hid g3
          have H3 := Lib.hid h3
          have B3 := Lib.hid b3
          clear g3 h3 t3 b3
          go_region
          all_goals
            go_wp2_with fail
            obtain ⟨k1, k2, k3, k4, k5⟩ := both_rows_d G3.out H3.out (by omega) ⟨0, [], [], 0, 0, 0, 0, 0⟩ (.slice none 0 0) p c rfl
            exact fin_node 4 5 6 rfl rfl rfl k1 k2 ⟨rfl, B3.out.trans (k5 _ (Nat.le_refl _) (by omega))⟩
        | ok n1 e1 =>
          obtain ⟨t1, t2, t3⟩ := gy n1 e1 rfl
          have hr : some (PR.ok (Nd.mk { typedH T (madeH T 3 a e1) a with n := 0 } (l ++ [n1])) e1) = some r := hr
          obtain ⟨m, hm⟩ : ∃ m, (Nd.mk { typedH T (madeH T 3 a e1) a with n := 0 } (l ++ [n1])) = m := ⟨_, rfl⟩
          rw [hm] at hr
          obtain rfl := Option.some.inj hr
          obtain ⟨kb, ln, lc, F2, rfl, hsup⟩ := hni
          have HS2 := Lib.hid hsup
          have p1 : decide ((-1 : Int) ≥ 0) = false := by decide
          clear hsup
          go_upto_region 25 with fail
          refine wp_gen (fun W => RowAt W w.heap.size 55 #[.int .i64 0, .string ⟨#[]⟩, .string ⟨#[]⟩, .int .i64 0, .int .i64 0, .int .i64 0, .int .i64 0, .int .i64 0, .slice none 0 0] ∧ RowAt W (w.heap.size + 1) 68 #[.int .i64 0, .int .i64 0] ∧ RowAt W w4.heap.size 55 #[.int .i64 n1.hd.kind, .string (bs n1.hd.text), .string (bs n1.hd.type), .int .i64 n1.hd.n, .int .i64 n1.hd.fr, .int .i64 n1.hd.to_, .int .i64 n1.hd.at_, .int .i64 n1.hd.tat, .slice kb ln lc] ∧ Below w4.heap.size w4 W) ⟨(RG4.out.alloc _).alloc _, (RH4.out.alloc _).alloc _, (row_new rfl).alloc _, ((Below.refl _ _).alloc (Nat.le_refl _) _).alloc (by simp) _⟩ ?_
          rintro W5 ⟨g5, h5, m5, b5⟩
          have RG5 := Lib.hid g5
          have RH5 := Lib.hid h5
          have RM5 := Lib.hid m5
          have B5 := Lib.hid (B4.out.trans (b5.mono B4.out.size))
          have S5 := Lib.hid (HS2.out.below b5)
          have b45 := Lib.hid b5
          have hs5 := b5.size
          have hm5 := m5.lt
          clear g5 h5 m5 b5
          have OQ5 := Lib.hid (own_to_q (O4.out.below b45.out))
          obtain ⟨d0, d1, d2, d3, d4, d5, d6, d7, d8⟩ := (show Cells W5 w4.heap.size 0 n1.hd (.slice kb ln lc) from Cells.row RM5.out)
          simp only [Nat.zero_add] at d1 d2 d3 d4 d5 d6 d7 d8
          obtain ⟨A, hA⟩ : ∃ A, Hid (W5.alloc (.cells #[.int .i64 n1.hd.kind, .string (bs n1.hd.text), .string (bs n1.hd.type), .int .i64 n1.hd.n, .int .i64 n1.hd.fr, .int .i64 n1.hd.to_, .int .i64 n1.hd.at_, .int .i64 n1.hd.tat, .slice kb ln lc] 55) = A) := ⟨_, Lib.hid rfl⟩
          have bA : Hid (Below W5.heap.size W5 A) := by rw [← hA.out]; exact Lib.hid ((Below.refl _ _).alloc (Nat.le_refl _) _)
          have hsA : A.heap.size = W5.heap.size + 1 := by rw [← hA.out]; simp
          have OA := Lib.hid (OQ5.out.below bA.out)
          have XA : Hid (OwnS (W3.heap.size) A (.slice (some ⟨W5.heap.size, 0, none⟩) 1 1) [(n1, Value.slice kb ln lc)]) := Lib.hid (own_build (ps := [(n1, Value.slice kb ln lc)]) (by rw [← hA.out]; exact row_new rfl) (by omega) (by show 1 ≤ maxLen; unfold maxLen; omega) (fun p hp => by
            obtain rfl := List.mem_singleton.1 hp
            exact ⟨_, S5.out.below bA.out, fun b hb => by have := (S5.out.1 b hb).2; omega⟩))
          have hlo6 : Hid (∀ b, (Value.slice al nl cl).ownBlock = some b → b < W3.heap.size) := Lib.hid (fun b hb => by have h9 := (O2.out.1.lt b hb).2; omega)
          have hPl6 : Hid (∀ b : Nat, W3.heap.size ≤ b → True) := Lib.hid (fun b hb => trivial)
          have RGA := Lib.hid (RG5.out.later bA.out)
          have RHA := Lib.hid (RH5.out.later bA.out)
          have BA := Lib.hid (B5.out.trans (bA.out.mono B5.out.size))
          go_wp2_with (at_builtin; rw [hA.out]; refine wpList_append_q (w := A) (base := W1.heap.size) (lo := W3.heap.size) (P := fun _ => True) rfl _ _ rfl (Value.slice al nl cl) (.slice (some ⟨W5.heap.size, 0, none⟩) 1 1) ps [(n1, Value.slice kb ln lc)] rfl OA.out rfl XA.out hlo6.out hPl6.out (by omega) (by simp only [List.length_cons, List.length_nil]; omega) ?_; intro a7 n7 c7 w7 oq7 hg70)
          have hg7 : A.grownBy w7 (Value.slice al nl cl).ownBlock := hg70
          clear hg70
          have OQ7 := Lib.hid oq7
          have hkb : Hid (∀ b, (Value.slice al nl cl).ownBlock = some b → W1.heap.size ≤ b) := Lib.hid (fun b hb => (OQ5.out.row.lt b hb).1)
          have RG7 := Lib.hid (RowAt.same RGA.out (hg7.block _ RGA.out.lt (fun e => by have h9 := hkb.out _ e.symm; have h8 := B1.out.size; omega)))
          have RH7 := Lib.hid (RowAt.same RHA.out (hg7.block _ RHA.out.lt (fun e => by have h9 := hkb.out _ e.symm; have h8 := B1.out.size; omega)))
          have B7 := Lib.hid (BA.out.grown hg7 (by have := BA.out.size; omega) (fun k e => by have h9 := hkb.out _ e; have h8 := B1.out.size; omega))
          have hs7 := hg7.size
          clear oq7 hg7 d0 d1 d2 d3 d4 d5 d6 d7 d8
          obtain ⟨F, hF, -⟩ := OQ7.out.kids
          have hpm : (ps ++ [(n1, Value.slice kb ln lc)]).map (·.1) = l ++ [n1] := by rw [List.map_append, hl]; rfl
          rw [hpm] at hF
          have SF := Lib.hid hF
          refine (made_at (.slice (some ⟨tb, to_, none⟩) T.length cv) a7 n7 c7 T HG.out 3 a (e1) (by omega) (by omega) (by omega) w7 (HT.out w7 B7.out)).mono ?_
          rintro e w8 ⟨rfl, b8⟩
          have RG8 := Lib.hid (RG7.out.later b8)
          have RH8 := Lib.hid (RH7.out.later b8)
          have B8 := Lib.hid (B7.out.trans (b8.mono B7.out.size))
          have S8 := Lib.hid (SF.out.below b8)
          have hs8 := b8.size
          clear b8
          go_wp2_with fail
          refine (typed_any (.slice (some ⟨tb, to_, none⟩) T.length cv) (madeH T 3 a (e1)) a7 n7 c7 T a (by omega) (by omega) w8 (HT.out w8 B8.out)).mono ?_
          rintro e wt ⟨rfl, bt⟩
          have RGt := Lib.hid (RG8.out.later bt)
          have RHt := Lib.hid (RH8.out.later bt)
          have Bt := Lib.hid (B8.out.trans (bt.mono B8.out.size))
          have St := Lib.hid (S8.out.below bt)
          have hst := bt.size
          clear bt
          obtain ⟨P, hP⟩ : ∃ P, wt.heap.size = P := ⟨_, rfl⟩
          have hPl : w.heap.size + 2 ≤ P := by have := B1.out.size; omega
          go_upto_region 29 with fail
          refine wp_gen (fun W => RowAt W w.heap.size 55 #[.int .i64 0, .string ⟨#[]⟩, .string ⟨#[]⟩, .int .i64 0, .int .i64 0, .int .i64 0, .int .i64 0, .int .i64 0, .slice none 0 0] ∧ RowAt W (w.heap.size + 1) 68 #[.int .i64 0, .int .i64 0] ∧ RowAt W wt.heap.size 55 ((typedH T (madeH T 3 a (e1)) a).vals (.slice a7 n7 c7)) ∧ Sup W W1.heap.size (l ++ [n1]) (.slice a7 n7 c7) F ∧ Below w.heap.size w W) ⟨RGt.out.alloc _, RHt.out.alloc _, row_new rfl, St.out.below ((Below.refl _ _).alloc (Nat.le_refl _) _), Bt.out.alloc (by omega) _⟩ ?_
          rintro W9 ⟨g3, h3, m3, s3, b3⟩
          have hFP : Hid (∀ b, F b → b ≠ P) := Lib.hid (fun b hb => by have := (St.out.1 b hb).2; omega)
          rw [hP] at m3
          have RGz := Lib.hid g3
          have RHz := Lib.hid h3
          have RM3 := Lib.hid m3
          have Sz := Lib.hid (And.intro s3 hFP.out)
          have Bz := Lib.hid b3
          clear g3 h3 m3 s3 b3
          go_upto_region 31 with fail
          refine wp_gen (fun W => RowAt W w.heap.size 55 #[.int .i64 0, .string ⟨#[]⟩, .string ⟨#[]⟩, .int .i64 0, .int .i64 0, .int .i64 0, .int .i64 0, .int .i64 0, .slice none 0 0] ∧ RowAt W (w.heap.size + 1) 68 #[.int .i64 0, .int .i64 0] ∧ RowAt W P 55 #[.int .i64 m.hd.kind, .string (bs m.hd.text), .string (bs m.hd.type), .int .i64 m.hd.n, .int .i64 m.hd.fr, .int .i64 m.hd.to_, .int .i64 m.hd.at_, .int .i64 m.hd.tat, .slice a7 n7 c7] ∧ Sup W W1.heap.size (l ++ [n1]) (.slice a7 n7 c7) F ∧ Below w.heap.size w W) ⟨RGz.out, RHz.out, by rw [← hm]; exact RM3.out, Sz.out.1, Bz.out⟩ ?_
          rintro WX ⟨g3, h3, m3, s3, b3⟩
          have RGy := Lib.hid g3
          have RHy := Lib.hid h3
          have RMy := Lib.hid m3
          have SS : Hid (Sup WX W1.heap.size m.kids (.slice a7 n7 c7) F) := Lib.hid (by rw [← hm]; exact s3)
          have By := Lib.hid b3
          clear g3 h3 m3 s3 b3
          have hne1 : P ≠ w.heap.size := by omega
          have hne2 : P ≠ w.heap.size + 1 := by omega
          have z0 := RGy.out.frozen 0
          have z1 := RGy.out.frozen 1
          have z2 := RGy.out.frozen 2
          have z3 := RGy.out.frozen 3
          have z4 := RGy.out.frozen 4
          have z5 := RGy.out.frozen 5
          have z6 := RGy.out.frozen 6
          have z7 := RGy.out.frozen 7
          have z8 := RGy.out.frozen 8
          have y0 := RHy.out.frozen 0
          have y1 := RHy.out.frozen 1
          obtain ⟨r0, r1, r2, r3, r4, r5, r6, r7, r8⟩ := (show Cells WX w.heap.size 0 ⟨0, [], [], 0, 0, 0, 0, 0⟩ (.slice none 0 0) from Cells.row RGy.out)
          simp only [Nat.zero_add] at r1 r2 r3 r4 r5 r6 r7 r8
          have s0 : WX.cell? ⟨w.heap.size + 1, 0, none⟩ = some (.int .i64 0) := RHy.out.cell rfl
          have s1 : WX.cell? ⟨w.heap.size + 1, 1, none⟩ = some (.int .i64 0) := RHy.out.cell rfl
          have F0 : Hid (WX.cell? ⟨P, 0, none⟩ = some (.int .i64 m.hd.kind) ∧ WX.cell? ⟨P, 1, none⟩ = some (.string (bs m.hd.text)) ∧ WX.cell? ⟨P, 2, none⟩ = some (.string (bs m.hd.type)) ∧ WX.cell? ⟨P, 3, none⟩ = some (.int .i64 m.hd.n) ∧ WX.cell? ⟨P, 4, none⟩ = some (.int .i64 m.hd.fr) ∧ WX.cell? ⟨P, 5, none⟩ = some (.int .i64 m.hd.to_) ∧ WX.cell? ⟨P, 6, none⟩ = some (.int .i64 m.hd.at_) ∧ WX.cell? ⟨P, 7, none⟩ = some (.int .i64 m.hd.tat) ∧ WX.cell? ⟨P, 8, none⟩ = some (.slice a7 n7 c7)) := Lib.hid ⟨RMy.out.cell rfl, RMy.out.cell rfl, RMy.out.cell rfl, RMy.out.cell rfl, RMy.out.cell rfl, RMy.out.cell rfl, RMy.out.cell rfl, RMy.out.cell rfl, RMy.out.cell rfl⟩
          have FD : Hid (WX.drew.cell? ⟨P, 0, none⟩ = some (.int .i64 m.hd.kind) ∧ WX.drew.cell? ⟨P, 1, none⟩ = some (.string (bs m.hd.text)) ∧ WX.drew.cell? ⟨P, 2, none⟩ = some (.string (bs m.hd.type)) ∧ WX.drew.cell? ⟨P, 3, none⟩ = some (.int .i64 m.hd.n) ∧ WX.drew.cell? ⟨P, 4, none⟩ = some (.int .i64 m.hd.fr) ∧ WX.drew.cell? ⟨P, 5, none⟩ = some (.int .i64 m.hd.to_) ∧ WX.drew.cell? ⟨P, 6, none⟩ = some (.int .i64 m.hd.at_) ∧ WX.drew.cell? ⟨P, 7, none⟩ = some (.int .i64 m.hd.tat) ∧ WX.drew.cell? ⟨P, 8, none⟩ = some (.slice a7 n7 c7)) := Lib.hid F0.out
          have RGd : Hid (RowAt WX.drew w.heap.size 55 #[.int .i64 0, .string ⟨#[]⟩, .string ⟨#[]⟩, .int .i64 0, .int .i64 0, .int .i64 0, .int .i64 0, .int .i64 0, .slice none 0 0]) := Lib.hid RGy.out
          have RHd : Hid (RowAt WX.drew (w.heap.size + 1) 68 #[.int .i64 0, .int .i64 0]) := Lib.hid RHy.out
          have RMd : Hid (RowAt WX.drew P 55 #[.int .i64 m.hd.kind, .string (bs m.hd.text), .string (bs m.hd.type), .int .i64 m.hd.n, .int .i64 m.hd.fr, .int .i64 m.hd.to_, .int .i64 m.hd.at_, .int .i64 m.hd.tat, .slice a7 n7 c7]) := Lib.hid RMy.out
          have BDd : Hid (Below w.heap.size w WX.drew) := Lib.hid (below_drew By.out)
          have SDd : Hid (Sup WX.drew W1.heap.size m.kids (.slice a7 n7 c7) F) := Lib.hid (SS.out.below (below_drew (Below.refl _ _)))
          go_region_held3 (fun W => W.cell? ⟨P, 0, none⟩ = some (.int .i64 m.hd.kind) ∧ W.cell? ⟨P, 1, none⟩ = some (.string (bs m.hd.text)) ∧ W.cell? ⟨P, 2, none⟩ = some (.string (bs m.hd.type)) ∧ W.cell? ⟨P, 3, none⟩ = some (.int .i64 m.hd.n) ∧ W.cell? ⟨P, 4, none⟩ = some (.int .i64 m.hd.fr) ∧ W.cell? ⟨P, 5, none⟩ = some (.int .i64 m.hd.to_) ∧ W.cell? ⟨P, 6, none⟩ = some (.int .i64 m.hd.at_) ∧ W.cell? ⟨P, 7, none⟩ = some (.int .i64 m.hd.tat) ∧ W.cell? ⟨P, 8, none⟩ = some (.slice a7 n7 c7))
            (first | (with_reducible exact F0.out) | (with_reducible exact FD.out) | (with_reducible exact F5.out) | (with_reducible exact F6.out) | (with_reducible exact F7.out))
            (first | (go_at_call 46; ((with_reducible refine (fine_any _).mono ?_); rintro e wf ⟨rfl, bf⟩; have R5 := RMd.out.later bf; have F5 := Lib.hid (show wf.cell? ⟨P, 0, none⟩ = some (.int .i64 m.hd.kind) ∧ wf.cell? ⟨P, 1, none⟩ = some (.string (bs m.hd.text)) ∧ wf.cell? ⟨P, 2, none⟩ = some (.string (bs m.hd.type)) ∧ wf.cell? ⟨P, 3, none⟩ = some (.int .i64 m.hd.n) ∧ wf.cell? ⟨P, 4, none⟩ = some (.int .i64 m.hd.fr) ∧ wf.cell? ⟨P, 5, none⟩ = some (.int .i64 m.hd.to_) ∧ wf.cell? ⟨P, 6, none⟩ = some (.int .i64 m.hd.at_) ∧ wf.cell? ⟨P, 7, none⟩ = some (.int .i64 m.hd.tat) ∧ wf.cell? ⟨P, 8, none⟩ = some (.slice a7 n7 c7) from ⟨R5.cell rfl, R5.cell rfl, R5.cell rfl, R5.cell rfl, R5.cell rfl, R5.cell rfl, R5.cell rfl, R5.cell rfl, R5.cell rfl⟩); have RGf := Lib.hid (RGd.out.later bf); have RHf := Lib.hid (RHd.out.later bf); have F6 := Lib.hid (nineC (RowAt.same R5 ((nine RGf.out m.hd (.slice a7 n7 c7)).2.other P (by omega)))); have N9 := (nine RGf.out m.hd (.slice a7 n7 c7)).2; have F7 := Lib.hid (nineC (((RowAt.same R5 (N9.other P (by omega))).other (c := w.heap.size + 1) (by omega) 0 (.int .i64 (-1))).other (c := w.heap.size + 1) (by omega) 1 (.int .i64 0))); clear N9; have Bf := Lib.hid (BDd.out.trans (bf.mono BDd.out.size)); have Sf := Lib.hid (SDd.out.below bf); have z0 := RGf.out.frozen 0; have z1 := RGf.out.frozen 1; have z2 := RGf.out.frozen 2; have z3 := RGf.out.frozen 3; have z4 := RGf.out.frozen 4; have z5 := RGf.out.frozen 5; have z6 := RGf.out.frozen 6; have z7 := RGf.out.frozen 7; have z8 := RGf.out.frozen 8; have y0 := RHf.out.frozen 0; have y1 := RHf.out.frozen 1; obtain ⟨r0, r1, r2, r3, r4, r5, r6, r7, r8⟩ := (show Cells wf w.heap.size 0 ⟨0, [], [], 0, 0, 0, 0, 0⟩ (.slice none 0 0) from Cells.row RGf.out); simp only [Nat.zero_add] at r1 r2 r3 r4 r5 r6 r7 r8; have s0 : wf.cell? ⟨w.heap.size + 1, 0, none⟩ = some (.int .i64 0) := RHf.out.cell rfl; have s1 : wf.cell? ⟨w.heap.size + 1, 1, none⟩ = some (.int .i64 0) := RHf.out.cell rfl; clear bf R5)))
          all_goals
            go_wp2_with fail
            obtain ⟨k1, k2, k3, k4, k5⟩ := both_rows RGf.out RHf.out (by omega) m.hd (.slice a7 n7 c7) (-1) 0 rfl
            refine fin_node 4 5 6 rfl rfl rfl k1 k2 ⟨⟨a7, n7, c7, F, rfl, sup_past Sf.out k3 k4 (by omega) (by omega) B1.out.size⟩, Bf.out.trans (k5 _ (Nat.le_refl _) (by omega))⟩
end Go.Proofs.YtbnbmjdjkadgoaaDoor.X
