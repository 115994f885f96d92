/-
  For the laws on the parser: the smallest expressions. Condition: the tokens are a text's.
-/
import Derived.Test.YtbnbmjdjkadgoaaDoorXRh
namespace Go.Proofs.YtbnbmjdjkadgoaaDoor.X
open Go.RowKit Go.Shelf
set_option linter.unusedSimpArgs false
set_option linter.unusedVariables false

theorem set_n {U : World} {D : Nat} {h : Hd} {kv : Value} (R : RowAt U D 55 (h.vals kv)) (n : Int) : RowAt (U.setCell ⟨D, 3, none⟩ (.int .i64 n)) D 55 (({ h with n := n } : Hd).vals kv) := by
  have R9 := R.set 3 (.int .i64 n)
  simp only [Hd.vals, List.setIfInBounds_toArray, List.set_cons_zero, List.set_cons_succ] at R9 ⊢
  exact R9
theorem set_kind {U : World} {D : Nat} {h : Hd} {kv : Value} (R : RowAt U D 55 (h.vals kv)) (n : Int) : RowAt (U.setCell ⟨D, 0, none⟩ (.int .i64 n)) D 55 (({ h with kind := n } : Hd).vals kv) := by
  have R9 := R.set 0 (.int .i64 n)
  simp only [Hd.vals, List.setIfInBounds_toArray, List.set_cons_zero, List.set_cons_succ] at R9 ⊢
  exact R9
theorem set_to {U : World} {D : Nat} {h : Hd} {kv : Value} (R : RowAt U D 55 (h.vals kv)) (n : Int) : RowAt (U.setCell ⟨D, 5, none⟩ (.int .i64 n)) D 55 (({ h with to_ := n } : Hd).vals kv) := by
  have R9 := R.set 5 (.int .i64 n)
  simp only [Hd.vals, List.setIfInBounds_toArray, List.set_cons_zero, List.set_cons_succ] at R9 ⊢
  exact R9
theorem set_kids {U : World} {D : Nat} {h : Hd} {kv : Value} (R : RowAt U D 55 (h.vals kv)) (kv' : Value) : RowAt (U.setCell ⟨D, 8, none⟩ kv') D 55 (h.vals kv') := by
  have R9 := R.set 8 kv'
  simp only [Hd.vals, List.setIfInBounds_toArray, List.set_cons_zero, List.set_cons_succ] at R9 ⊢
  exact R9
theorem own_slice {base : Nat} {W : World} {v : Value} {ps : List Pr} (h : OwnS base W v ps) : ∃ a n c, v = .slice a n c := by
  rcases h.1.2 with ⟨rfl, -⟩ | ⟨g, cap, cur, rfl, -⟩
  · exact ⟨_, _, _, rfl⟩
  · exact ⟨_, _, _, rfl⟩
theorem end_at (v : Value) (T : List Tk) (hT : GoodT T) (b : Nat) (hb1 : 1 ≤ b) (hb : b ≤ T.length) (w : World) (h : Toks w v T) : Calls Tryd.prog 59 #[v, .int .i64 (b : Nat)] w fun e w' => e = .returned (.int .i64 (endT T b)) ∧ Below w.heap.size w w' := by
  obtain ⟨b0, rfl⟩ : ∃ b0, b = b0 + 1 := ⟨b - 1, by omega⟩
  exact end_any v T hT b0 (by omega) w h
set_option maxRecDepth 100000 in
set_option maxHeartbeats 16000000 in
theorem primary_any (v : Value) (T : List Tk) (hT : GoodT T) (f : Nat) (ih : ∀ f', f' ≤ f → ExSpec v T f') (a d : Nat) (r : PR Nd) (w : World) (hr : primF (f + 1) T a d = some r) (ha : a < T.length) (hd : d ≤ 80) (h : Toks w v T) :
    Calls Tryd.prog 87 #[v, .int .i64 (a : Nat), .int .i64 (d : Nat)] w fun e w' => NodeIs r w.heap.size e w' ∧ Below w.heap.size w w' := by
  unfold primF at hr
  by_cases hk : (tokT T a).kind = 2
  · rw [if_pos hk] at hr
    obtain rfl := Option.some.inj hr
    exact prim_num v T hT a d w hk ha hd h
  rw [if_neg hk] at hr
  have HT := Lib.hid (fun W (hW : Below w.heap.size w W) => h.below hW)
  have HG := Lib.hid hT
  have hTl := hT.len
  obtain ⟨tb, to_, cv, rfl, -, -, hcell⟩ := h.fix hT.e.pos
  have HC := Lib.hid hcell
  clear h hcell
  have Ih := Lib.hid ih
  clear ih hT
  cases q1 : isT T a sTrue with
  | true =>
    rw [q1, if_pos rfl] at hr
    obtain ⟨m, hm⟩ : ∃ m, (Nd.mk { madeH T 14 a (a + 1) with n := 1 } []) = m := ⟨_, rfl⟩
    rw [hm] at hr
    obtain rfl := Option.some.inj hr
    go_enter Tryd.func87, Tryd.ntmps87
    go_upto_region 1 with fail
    refine wp_gen (fun W => RowAt W w.heap.size 55 #[.int .i64 0, .string ⟨#[]⟩, .string ⟨#[]⟩, .int .i64 0, .int .i64 0, .int .i64 0, .int .i64 0, .int .i64 0, .slice none 0 0] ∧ RowAt W (w.heap.size + 1) 68 #[.int .i64 0, .int .i64 0] ∧ Below w.heap.size w W) ⟨(row_new rfl).alloc _, row_new (by simp), ((Below.refl _ w).alloc (Nat.le_refl _) _).alloc (by simp) _⟩ ?_
    rintro W1 ⟨g1, h1, b1⟩
    have RG1 := Lib.hid g1
    have RH1 := Lib.hid h1
    have B1 := Lib.hid b1
    have hlt1 := h1.lt
    clear g1 h1 b1
    have tk0 := (HC.out W1 B1.out a ha).1
    have e0 : ((tokT T a).kind == 2) = false := by simpa using hk
    have i1 : (0 : Int) ≤ (a : Int) := by omega
    have i2 : (a : Int) < (T.length : Int) := by omega
    go_wp2_with fail
    refine (is_at (s := ⟨#[116, 114, 117, 101]⟩) (HT.out W1 B1.out) q1).mono ?_
    rintro e w' ⟨rfl, hw⟩
    have hw := hw.symm
    subst hw
    go_wp2_with fail
    refine (made_at (.slice (some ⟨tb, to_, none⟩) T.length cv) none 0 0 T HG.out 14 a (a + 1) ha (by omega) (by omega) W1 (HT.out W1 B1.out)).mono ?_
    rintro e w8 ⟨rfl, b8⟩
    have RG8 := Lib.hid (RG1.out.later b8)
    have RH8 := Lib.hid (RH1.out.later b8)
    have B8 := Lib.hid (B1.out.trans (b8.mono B1.out.size))
    have hs8 := b8.size
    clear b8
    obtain ⟨P, hP⟩ : ∃ P, w8.heap.size = P := ⟨_, rfl⟩
    have hPl : Hid (w.heap.size + 2 ≤ P) := Lib.hid (by omega)
    go_upto_region 10 with fail
    refine wp_gen (fun W => RowAt W w.heap.size 55 #[.int .i64 0, .string ⟨#[]⟩, .string ⟨#[]⟩, .int .i64 0, .int .i64 0, .int .i64 0, .int .i64 0, .int .i64 0, .slice none 0 0] ∧ RowAt W (w.heap.size + 1) 68 #[.int .i64 0, .int .i64 0] ∧ RowAt W w8.heap.size 55 ((madeH T 14 a (a + 1)).vals (.slice none 0 0)) ∧ Below w.heap.size w W) ⟨RG8.out.alloc _, RH8.out.alloc _, row_new rfl, B8.out.alloc (by omega) _⟩ ?_
    rintro W3 ⟨g3, h3, m3, b3⟩
    rw [hP] at m3
    have RG3 := Lib.hid g3
    have RH3 := Lib.hid h3
    have RM3 := Lib.hid m3
    have B3 := Lib.hid b3
    clear g3 h3 m3 b3
    have z3 := RM3.out.frozen 3
    have c3 : W3.cell? ⟨P, 3, none⟩ = some (.int .i64 (madeH T 14 a (a + 1)).n) := RM3.out.cell rfl
    have hPG : Hid (P ≠ w.heap.size ∧ P ≠ w.heap.size + 1) := Lib.hid (by have := hPl.out; omega)
    go_upto_region 11 with fail
    refine wp_gen (fun W => RowAt W w.heap.size 55 #[.int .i64 0, .string ⟨#[]⟩, .string ⟨#[]⟩, .int .i64 0, .int .i64 0, .int .i64 0, .int .i64 0, .int .i64 0, .slice none 0 0] ∧ RowAt W (w.heap.size + 1) 68 #[.int .i64 0, .int .i64 0] ∧ RowAt W P 55 (({ madeH T 14 a (a + 1) with n := 1 } : Hd).vals (.slice none 0 0)) ∧ Below w.heap.size w W) ⟨RG3.out.other hPG.out.1.symm 3 _, RH3.out.other hPG.out.2.symm 3 _, set_n RM3.out 1, B3.out.setCell (p := ⟨P, 3, none⟩) (by have := hPl.out; show w.heap.size ≤ P; omega) _⟩ ?_
    rintro W4 ⟨g3, h3, m3, b3⟩
    have RG4 := Lib.hid g3
    have RH4 := Lib.hid h3
    have RM4 := Lib.hid m3
    have B4 := Lib.hid b3
    clear g3 h3 m3 b3
    have hPl2 := hPl.out
    have hne1 : P ≠ w.heap.size := by omega
    have hne2 : P ≠ w.heap.size + 1 := by omega
    have SS : Hid (Sup W4 W1.heap.size m.kids (.slice none 0 0) (fun _ => False)) := Lib.hid (by rw [← hm]; exact ⟨nofun, fun V _ => KidsAt.nil V⟩)
    have RMm : Hid (RowAt W4 P 55 #[.int .i64 m.hd.kind, .string (bs m.hd.text), .string (bs m.hd.type), .int .i64 m.hd.n, .int .i64 m.hd.fr, .int .i64 m.hd.to_, .int .i64 m.hd.at_, .int .i64 m.hd.tat, .slice none 0 0]) := Lib.hid (by rw [← hm]; exact RM4.out)
    have iw : Hid (IntKind.i64.wrap ((a : Int) + 1) = (a : Int) + 1) := Lib.hid (Go.IntWalk.i64_in _ (by omega))
    have z0 := RG4.out.frozen 0
    have z1 := RG4.out.frozen 1
    have z2 := RG4.out.frozen 2
    have z3 := RG4.out.frozen 3
    have z4 := RG4.out.frozen 4
    have z5 := RG4.out.frozen 5
    have z6 := RG4.out.frozen 6
    have z7 := RG4.out.frozen 7
    have z8 := RG4.out.frozen 8
    have y0 := RH4.out.frozen 0
    have y1 := RH4.out.frozen 1
    obtain ⟨r0, r1, r2, r3, r4, r5, r6, r7, r8⟩ := (show Cells W4 w.heap.size 0 ⟨0, [], [], 0, 0, 0, 0, 0⟩ (.slice none 0 0) from Cells.row RG4.out)
    simp only [Nat.zero_add] at r1 r2 r3 r4 r5 r6 r7 r8
    have s0 : W4.cell? ⟨w.heap.size + 1, 0, none⟩ = some (.int .i64 0) := RH4.out.cell rfl
    have s1 : W4.cell? ⟨w.heap.size + 1, 1, none⟩ = some (.int .i64 0) := RH4.out.cell rfl
    have F0 : Hid (W4.cell? ⟨P, 0, none⟩ = some (.int .i64 m.hd.kind) ∧ W4.cell? ⟨P, 1, none⟩ = some (.string (bs m.hd.text)) ∧ W4.cell? ⟨P, 2, none⟩ = some (.string (bs m.hd.type)) ∧ W4.cell? ⟨P, 3, none⟩ = some (.int .i64 m.hd.n) ∧ W4.cell? ⟨P, 4, none⟩ = some (.int .i64 m.hd.fr) ∧ W4.cell? ⟨P, 5, none⟩ = some (.int .i64 m.hd.to_) ∧ W4.cell? ⟨P, 6, none⟩ = some (.int .i64 m.hd.at_) ∧ W4.cell? ⟨P, 7, none⟩ = some (.int .i64 m.hd.tat) ∧ W4.cell? ⟨P, 8, none⟩ = some (.slice none 0 0)) := Lib.hid ⟨RMm.out.cell rfl, RMm.out.cell rfl, RMm.out.cell rfl, RMm.out.cell rfl, RMm.out.cell rfl, RMm.out.cell rfl, RMm.out.cell rfl, RMm.out.cell rfl, RMm.out.cell rfl⟩
    have FD : Hid (W4.drew.cell? ⟨P, 0, none⟩ = some (.int .i64 m.hd.kind) ∧ W4.drew.cell? ⟨P, 1, none⟩ = some (.string (bs m.hd.text)) ∧ W4.drew.cell? ⟨P, 2, none⟩ = some (.string (bs m.hd.type)) ∧ W4.drew.cell? ⟨P, 3, none⟩ = some (.int .i64 m.hd.n) ∧ W4.drew.cell? ⟨P, 4, none⟩ = some (.int .i64 m.hd.fr) ∧ W4.drew.cell? ⟨P, 5, none⟩ = some (.int .i64 m.hd.to_) ∧ W4.drew.cell? ⟨P, 6, none⟩ = some (.int .i64 m.hd.at_) ∧ W4.drew.cell? ⟨P, 7, none⟩ = some (.int .i64 m.hd.tat) ∧ W4.drew.cell? ⟨P, 8, none⟩ = some (.slice none 0 0)) := Lib.hid F0.out
    have RGd : Hid (RowAt W4.drew w.heap.size 55 #[.int .i64 0, .string ⟨#[]⟩, .string ⟨#[]⟩, .int .i64 0, .int .i64 0, .int .i64 0, .int .i64 0, .int .i64 0, .slice none 0 0]) := Lib.hid RG4.out
    have RHd : Hid (RowAt W4.drew (w.heap.size + 1) 68 #[.int .i64 0, .int .i64 0]) := Lib.hid RH4.out
    have RMd : Hid (RowAt W4.drew P 55 #[.int .i64 m.hd.kind, .string (bs m.hd.text), .string (bs m.hd.type), .int .i64 m.hd.n, .int .i64 m.hd.fr, .int .i64 m.hd.to_, .int .i64 m.hd.at_, .int .i64 m.hd.tat, .slice none 0 0]) := Lib.hid RMm.out
    have BDd : Hid (Below w.heap.size w W4.drew) := Lib.hid (below_drew B4.out)
    have SDd : Hid (Sup W4.drew W1.heap.size m.kids (.slice none 0 0) (fun _ => False)) := Lib.hid (SS.out.below (below_drew (Below.refl _ _)))
    go_region_held3 (fun W => W.cell? ⟨P, 0, none⟩ = some (.int .i64 m.hd.kind) ∧ W.cell? ⟨P, 1, none⟩ = some (.string (bs m.hd.text)) ∧ W.cell? ⟨P, 2, none⟩ = some (.string (bs m.hd.type)) ∧ W.cell? ⟨P, 3, none⟩ = some (.int .i64 m.hd.n) ∧ W.cell? ⟨P, 4, none⟩ = some (.int .i64 m.hd.fr) ∧ W.cell? ⟨P, 5, none⟩ = some (.int .i64 m.hd.to_) ∧ W.cell? ⟨P, 6, none⟩ = some (.int .i64 m.hd.at_) ∧ W.cell? ⟨P, 7, none⟩ = some (.int .i64 m.hd.tat) ∧ W.cell? ⟨P, 8, none⟩ = some (.slice none 0 0))
      (first | (with_reducible exact F0.out) | (with_reducible exact FD.out) | (with_reducible exact F5.out) | (with_reducible exact F6.out) | (with_reducible exact F7.out))
      (first | (go_at_call 46; ((with_reducible refine (fine_any _).mono ?_); rintro e wf ⟨rfl, bf⟩; have R5 := RMd.out.later bf; have F5 := Lib.hid (show wf.cell? ⟨P, 0, none⟩ = some (.int .i64 m.hd.kind) ∧ wf.cell? ⟨P, 1, none⟩ = some (.string (bs m.hd.text)) ∧ wf.cell? ⟨P, 2, none⟩ = some (.string (bs m.hd.type)) ∧ wf.cell? ⟨P, 3, none⟩ = some (.int .i64 m.hd.n) ∧ wf.cell? ⟨P, 4, none⟩ = some (.int .i64 m.hd.fr) ∧ wf.cell? ⟨P, 5, none⟩ = some (.int .i64 m.hd.to_) ∧ wf.cell? ⟨P, 6, none⟩ = some (.int .i64 m.hd.at_) ∧ wf.cell? ⟨P, 7, none⟩ = some (.int .i64 m.hd.tat) ∧ wf.cell? ⟨P, 8, none⟩ = some (.slice none 0 0) from ⟨R5.cell rfl, R5.cell rfl, R5.cell rfl, R5.cell rfl, R5.cell rfl, R5.cell rfl, R5.cell rfl, R5.cell rfl, R5.cell rfl⟩); have RGf := Lib.hid (RGd.out.later bf); have RHf := Lib.hid (RHd.out.later bf); have F6 := Lib.hid (nineC (RowAt.same R5 ((nine RGf.out m.hd (.slice none 0 0)).2.other P (by omega)))); have N9 := (nine RGf.out m.hd (.slice none 0 0)).2; have F7 := Lib.hid (nineC (((RowAt.same R5 (N9.other P (by omega))).other (c := w.heap.size + 1) (by omega) 0 (.int .i64 (-1))).other (c := w.heap.size + 1) (by omega) 1 (.int .i64 0))); clear N9; have Bf := Lib.hid (BDd.out.trans (bf.mono BDd.out.size)); have Sf := Lib.hid (SDd.out.below bf); have z0 := RGf.out.frozen 0; have z1 := RGf.out.frozen 1; have z2 := RGf.out.frozen 2; have z3 := RGf.out.frozen 3; have z4 := RGf.out.frozen 4; have z5 := RGf.out.frozen 5; have z6 := RGf.out.frozen 6; have z7 := RGf.out.frozen 7; have z8 := RGf.out.frozen 8; have y0 := RHf.out.frozen 0; have y1 := RHf.out.frozen 1; obtain ⟨r0, r1, r2, r3, r4, r5, r6, r7, r8⟩ := (show Cells wf w.heap.size 0 ⟨0, [], [], 0, 0, 0, 0, 0⟩ (.slice none 0 0) from Cells.row RGf.out); simp only [Nat.zero_add] at r1 r2 r3 r4 r5 r6 r7 r8; have s0 : wf.cell? ⟨w.heap.size + 1, 0, none⟩ = some (.int .i64 0) := RHf.out.cell rfl; have s1 : wf.cell? ⟨w.heap.size + 1, 1, none⟩ = some (.int .i64 0) := RHf.out.cell rfl; clear bf R5)))
    all_goals
      go_wp2_with fail
      obtain ⟨k1, k2, k3, k4, k5⟩ := both_rows RGf.out RHf.out (by omega) m.hd (.slice none 0 0) (-1) 0 rfl
      refine fin_node 6 7 8 rfl rfl rfl k1 k2 ⟨⟨none, 0, 0, (fun _ => False), (by show Ending.returned (.tuple #[_, .int .i64 (IntKind.i64.wrap ((a : Int) + 1)), _]) = _; rw [iw.out]; rfl), sup_past Sf.out k3 k4 (by omega) (by omega) B1.out.size⟩, Bf.out.trans (k5 _ (Nat.le_refl _) (by omega))⟩
  | false =>
  rw [q1, if_neg (by decide)] at hr
  cases q2 : isT T a sFalse with
  | true =>
    rw [q2, if_pos rfl] at hr
    obtain rfl := Option.some.inj hr
    go_enter Tryd.func87, Tryd.ntmps87
    go_upto_region 1 with fail
    refine wp_gen (fun W => RowAt W w.heap.size 55 #[.int .i64 0, .string ⟨#[]⟩, .string ⟨#[]⟩, .int .i64 0, .int .i64 0, .int .i64 0, .int .i64 0, .int .i64 0, .slice none 0 0] ∧ RowAt W (w.heap.size + 1) 68 #[.int .i64 0, .int .i64 0] ∧ Below w.heap.size w W) ⟨(row_new rfl).alloc _, row_new (by simp), ((Below.refl _ w).alloc (Nat.le_refl _) _).alloc (by simp) _⟩ ?_
    rintro W1 ⟨g1, h1, b1⟩
    have RG1 := Lib.hid g1
    have RH1 := Lib.hid h1
    have B1 := Lib.hid b1
    have hlt1 := h1.lt
    clear g1 h1 b1
    have tk0 := (HC.out W1 B1.out a ha).1
    have e0 : ((tokT T a).kind == 2) = false := by simpa using hk
    have i1 : (0 : Int) ≤ (a : Int) := by omega
    have i2 : (a : Int) < (T.length : Int) := by omega
    go_wp2_with fail
    refine (is_at (s := ⟨#[116, 114, 117, 101]⟩) (HT.out W1 B1.out) q1).mono ?_
    rintro e w' ⟨rfl, hw⟩
    have hw := hw.symm
    subst hw
    go_wp2_with fail
    refine (is_at (s := ⟨#[102, 97, 108, 115, 101]⟩) (HT.out W1 B1.out) q2).mono ?_
    rintro e w' ⟨rfl, hw⟩
    have hw := hw.symm
    subst hw
    go_wp2_with fail
    refine calls_gen (fun W => RowAt W w.heap.size 55 #[.int .i64 0, .string ⟨#[]⟩, .string ⟨#[]⟩, .int .i64 0, .int .i64 0, .int .i64 0, .int .i64 0, .int .i64 0, .slice none 0 0] ∧ RowAt W (w.heap.size + 1) 68 #[.int .i64 0, .int .i64 0] ∧ Below W1.heap.size W1 W) ⟨RG1.out, RH1.out, Below.refl _ _⟩ ?_
    rintro W7 ⟨g7, h7, b7⟩
    have B7 := Lib.hid (B1.out.trans (b7.mono B1.out.size))
    have hs7 := b7.size
    refine (made_at (.slice (some ⟨tb, to_, none⟩) T.length cv) none 0 0 T HG.out 14 a (a + 1) (by omega) (by omega) (by omega) W7 (HT.out W7 B7.out)).mono ?_
    rintro e w8 ⟨rfl, b8⟩
    have b78 := Lib.hid (b7.trans (b8.mono hs7))
    have RG8 := Lib.hid (g7.later b8)
    have RH8 := Lib.hid (h7.later b8)
    have B8 := Lib.hid (B7.out.trans (b8.mono B7.out.size))
    clear g7 h7 b7 b8
    go_wp2_with fail
    refine (fine_any _).mono ?_
    rintro e w9 ⟨rfl, b9⟩
    have RG9 := RG8.out.later b9
    have RH9 := RH8.out.later b9
    have B9 := Lib.hid (B8.out.trans (b9.mono B8.out.size))
    have b79 := Lib.hid (b78.out.trans (b9.mono b78.out.size))
    have z0 := RG9.frozen 0
    have z1 := RG9.frozen 1
    have z2 := RG9.frozen 2
    have z3 := RG9.frozen 3
    have z4 := RG9.frozen 4
    have z5 := RG9.frozen 5
    have z6 := RG9.frozen 6
    have z7 := RG9.frozen 7
    have z8 := RG9.frozen 8
    have y0 := RH9.frozen 0
    have y1 := RH9.frozen 1
    obtain ⟨r0, r1, r2, r3, r4, r5, r6, r7, r8⟩ := (show Cells w9 w.heap.size 0 ⟨0, [], [], 0, 0, 0, 0, 0⟩ (.slice none 0 0) from Cells.row RG9)
    simp only [Nat.zero_add] at r1 r2 r3 r4 r5 r6 r7 r8
    have s0 : w9.cell? ⟨w.heap.size + 1, 0, none⟩ = some (.int .i64 0) := RH9.cell rfl
    have s1 : w9.cell? ⟨w.heap.size + 1, 1, none⟩ = some (.int .i64 0) := RH9.cell rfl
    have RG9' := Lib.hid RG9
    have RH9' := Lib.hid RH9
    clear RG9 RH9 b9
    go_wp2_with fail
    obtain ⟨k1, k2, k3, k4, k5⟩ := both_rows RG9'.out RH9'.out (by omega) (madeH T 14 a (a + 1)) (.slice none 0 0) (-1) 0 rfl
    exact fin_node 6 7 8 rfl rfl rfl k1 k2 ⟨⟨none, 0, 0, fun _ => False, rfl, ⟨nofun, fun V _ => KidsAt.nil V⟩⟩, B9.out.trans (k5 _ (Nat.le_refl _) (by omega))⟩
  | false =>
  rw [q2, if_neg (by decide)] at hr
  cases q3 : isT T a sNull with
  | true =>
    rw [q3, if_pos rfl] at hr
    obtain rfl := Option.some.inj hr
    go_enter Tryd.func87, Tryd.ntmps87
    go_upto_region 1 with fail
    refine wp_gen (fun W => RowAt W w.heap.size 55 #[.int .i64 0, .string ⟨#[]⟩, .string ⟨#[]⟩, .int .i64 0, .int .i64 0, .int .i64 0, .int .i64 0, .int .i64 0, .slice none 0 0] ∧ RowAt W (w.heap.size + 1) 68 #[.int .i64 0, .int .i64 0] ∧ Below w.heap.size w W) ⟨(row_new rfl).alloc _, row_new (by simp), ((Below.refl _ w).alloc (Nat.le_refl _) _).alloc (by simp) _⟩ ?_
    rintro W1 ⟨g1, h1, b1⟩
    have RG1 := Lib.hid g1
    have RH1 := Lib.hid h1
    have B1 := Lib.hid b1
    have hlt1 := h1.lt
    clear g1 h1 b1
    have tk0 := (HC.out W1 B1.out a ha).1
    have e0 : ((tokT T a).kind == 2) = false := by simpa using hk
    have i1 : (0 : Int) ≤ (a : Int) := by omega
    have i2 : (a : Int) < (T.length : Int) := by omega
    go_wp2_with fail
    refine (is_at (s := ⟨#[116, 114, 117, 101]⟩) (HT.out W1 B1.out) q1).mono ?_
    rintro e w' ⟨rfl, hw⟩
    have hw := hw.symm
    subst hw
    go_wp2_with fail
    refine (is_at (s := ⟨#[102, 97, 108, 115, 101]⟩) (HT.out W1 B1.out) q2).mono ?_
    rintro e w' ⟨rfl, hw⟩
    have hw := hw.symm
    subst hw
    go_wp2_with fail
    refine (is_at (s := ⟨#[110, 117, 108, 108]⟩) (HT.out W1 B1.out) q3).mono ?_
    rintro e w' ⟨rfl, hw⟩
    have hw := hw.symm
    subst hw
    go_wp2_with fail
    refine calls_gen (fun W => RowAt W w.heap.size 55 #[.int .i64 0, .string ⟨#[]⟩, .string ⟨#[]⟩, .int .i64 0, .int .i64 0, .int .i64 0, .int .i64 0, .int .i64 0, .slice none 0 0] ∧ RowAt W (w.heap.size + 1) 68 #[.int .i64 0, .int .i64 0] ∧ Below W1.heap.size W1 W) ⟨RG1.out, RH1.out, Below.refl _ _⟩ ?_
    rintro W7 ⟨g7, h7, b7⟩
    have B7 := Lib.hid (B1.out.trans (b7.mono B1.out.size))
    have hs7 := b7.size
    refine (made_at (.slice (some ⟨tb, to_, none⟩) T.length cv) none 0 0 T HG.out 15 a (a + 1) (by omega) (by omega) (by omega) W7 (HT.out W7 B7.out)).mono ?_
    rintro e w8 ⟨rfl, b8⟩
    have b78 := Lib.hid (b7.trans (b8.mono hs7))
    have RG8 := Lib.hid (g7.later b8)
    have RH8 := Lib.hid (h7.later b8)
    have B8 := Lib.hid (B7.out.trans (b8.mono B7.out.size))
    clear g7 h7 b7 b8
    go_wp2_with fail
    refine (fine_any _).mono ?_
    rintro e w9 ⟨rfl, b9⟩
    have RG9 := RG8.out.later b9
    have RH9 := RH8.out.later b9
    have B9 := Lib.hid (B8.out.trans (b9.mono B8.out.size))
    have b79 := Lib.hid (b78.out.trans (b9.mono b78.out.size))
    have z0 := RG9.frozen 0
    have z1 := RG9.frozen 1
    have z2 := RG9.frozen 2
    have z3 := RG9.frozen 3
    have z4 := RG9.frozen 4
    have z5 := RG9.frozen 5
    have z6 := RG9.frozen 6
    have z7 := RG9.frozen 7
    have z8 := RG9.frozen 8
    have y0 := RH9.frozen 0
    have y1 := RH9.frozen 1
    obtain ⟨r0, r1, r2, r3, r4, r5, r6, r7, r8⟩ := (show Cells w9 w.heap.size 0 ⟨0, [], [], 0, 0, 0, 0, 0⟩ (.slice none 0 0) from Cells.row RG9)
    simp only [Nat.zero_add] at r1 r2 r3 r4 r5 r6 r7 r8
    have s0 : w9.cell? ⟨w.heap.size + 1, 0, none⟩ = some (.int .i64 0) := RH9.cell rfl
    have s1 : w9.cell? ⟨w.heap.size + 1, 1, none⟩ = some (.int .i64 0) := RH9.cell rfl
    have RG9' := Lib.hid RG9
    have RH9' := Lib.hid RH9
    clear RG9 RH9 b9
    go_wp2_with fail
    obtain ⟨k1, k2, k3, k4, k5⟩ := both_rows RG9'.out RH9'.out (by omega) (madeH T 15 a (a + 1)) (.slice none 0 0) (-1) 0 rfl
    exact fin_node 6 7 8 rfl rfl rfl k1 k2 ⟨⟨none, 0, 0, fun _ => False, rfl, ⟨nofun, fun V _ => KidsAt.nil V⟩⟩, B9.out.trans (k5 _ (Nat.le_refl _) (by omega))⟩
  | false =>
  rw [q3, if_neg (by decide)] at hr
  cases q4 : isT T a sThis with
  | true =>
    rw [q4, if_pos rfl] at hr
    obtain rfl := Option.some.inj hr
    go_enter Tryd.func87, Tryd.ntmps87
    go_upto_region 1 with fail
    refine wp_gen (fun W => RowAt W w.heap.size 55 #[.int .i64 0, .string ⟨#[]⟩, .string ⟨#[]⟩, .int .i64 0, .int .i64 0, .int .i64 0, .int .i64 0, .int .i64 0, .slice none 0 0] ∧ RowAt W (w.heap.size + 1) 68 #[.int .i64 0, .int .i64 0] ∧ Below w.heap.size w W) ⟨(row_new rfl).alloc _, row_new (by simp), ((Below.refl _ w).alloc (Nat.le_refl _) _).alloc (by simp) _⟩ ?_
    rintro W1 ⟨g1, h1, b1⟩
    have RG1 := Lib.hid g1
    have RH1 := Lib.hid h1
    have B1 := Lib.hid b1
    have hlt1 := h1.lt
    clear g1 h1 b1
    have tk0 := (HC.out W1 B1.out a ha).1
    have e0 : ((tokT T a).kind == 2) = false := by simpa using hk
    have i1 : (0 : Int) ≤ (a : Int) := by omega
    have i2 : (a : Int) < (T.length : Int) := by omega
    go_wp2_with fail
    refine (is_at (s := ⟨#[116, 114, 117, 101]⟩) (HT.out W1 B1.out) q1).mono ?_
    rintro e w' ⟨rfl, hw⟩
    have hw := hw.symm
    subst hw
    go_wp2_with fail
    refine (is_at (s := ⟨#[102, 97, 108, 115, 101]⟩) (HT.out W1 B1.out) q2).mono ?_
    rintro e w' ⟨rfl, hw⟩
    have hw := hw.symm
    subst hw
    go_wp2_with fail
    refine (is_at (s := ⟨#[110, 117, 108, 108]⟩) (HT.out W1 B1.out) q3).mono ?_
    rintro e w' ⟨rfl, hw⟩
    have hw := hw.symm
    subst hw
    go_wp2_with fail
    refine (is_at (s := ⟨#[116, 104, 105, 115]⟩) (HT.out W1 B1.out) q4).mono ?_
    rintro e w' ⟨rfl, hw⟩
    have hw := hw.symm
    subst hw
    go_wp2_with fail
    refine calls_gen (fun W => RowAt W w.heap.size 55 #[.int .i64 0, .string ⟨#[]⟩, .string ⟨#[]⟩, .int .i64 0, .int .i64 0, .int .i64 0, .int .i64 0, .int .i64 0, .slice none 0 0] ∧ RowAt W (w.heap.size + 1) 68 #[.int .i64 0, .int .i64 0] ∧ Below W1.heap.size W1 W) ⟨RG1.out, RH1.out, Below.refl _ _⟩ ?_
    rintro W7 ⟨g7, h7, b7⟩
    have B7 := Lib.hid (B1.out.trans (b7.mono B1.out.size))
    have hs7 := b7.size
    refine (made_at (.slice (some ⟨tb, to_, none⟩) T.length cv) none 0 0 T HG.out 16 a (a + 1) (by omega) (by omega) (by omega) W7 (HT.out W7 B7.out)).mono ?_
    rintro e w8 ⟨rfl, b8⟩
    have b78 := Lib.hid (b7.trans (b8.mono hs7))
    have RG8 := Lib.hid (g7.later b8)
    have RH8 := Lib.hid (h7.later b8)
    have B8 := Lib.hid (B7.out.trans (b8.mono B7.out.size))
    clear g7 h7 b7 b8
    go_wp2_with fail
    refine (fine_any _).mono ?_
    rintro e w9 ⟨rfl, b9⟩
    have RG9 := RG8.out.later b9
    have RH9 := RH8.out.later b9
    have B9 := Lib.hid (B8.out.trans (b9.mono B8.out.size))
    have b79 := Lib.hid (b78.out.trans (b9.mono b78.out.size))
    have z0 := RG9.frozen 0
    have z1 := RG9.frozen 1
    have z2 := RG9.frozen 2
    have z3 := RG9.frozen 3
    have z4 := RG9.frozen 4
    have z5 := RG9.frozen 5
    have z6 := RG9.frozen 6
    have z7 := RG9.frozen 7
    have z8 := RG9.frozen 8
    have y0 := RH9.frozen 0
    have y1 := RH9.frozen 1
    obtain ⟨r0, r1, r2, r3, r4, r5, r6, r7, r8⟩ := (show Cells w9 w.heap.size 0 ⟨0, [], [], 0, 0, 0, 0, 0⟩ (.slice none 0 0) from Cells.row RG9)
    simp only [Nat.zero_add] at r1 r2 r3 r4 r5 r6 r7 r8
    have s0 : w9.cell? ⟨w.heap.size + 1, 0, none⟩ = some (.int .i64 0) := RH9.cell rfl
    have s1 : w9.cell? ⟨w.heap.size + 1, 1, none⟩ = some (.int .i64 0) := RH9.cell rfl
    have RG9' := Lib.hid RG9
    have RH9' := Lib.hid RH9
    clear RG9 RH9 b9
    go_wp2_with fail
    obtain ⟨k1, k2, k3, k4, k5⟩ := both_rows RG9'.out RH9'.out (by omega) (madeH T 16 a (a + 1)) (.slice none 0 0) (-1) 0 rfl
    exact fin_node 6 7 8 rfl rfl rfl k1 k2 ⟨⟨none, 0, 0, fun _ => False, rfl, ⟨nofun, fun V _ => KidsAt.nil V⟩⟩, B9.out.trans (k5 _ (Nat.le_refl _) (by omega))⟩
  | false =>
  rw [q4, if_neg (by decide)] at hr
  cases q5 : isT T a sNew with
  | true =>
    rw [q5, if_pos rfl] at hr
    cases q7 : nmT T (a + 1) with
    | false =>
      rw [q7, if_neg (by decide)] at hr
      obtain rfl := Option.some.inj hr
      go_enter Tryd.func87, Tryd.ntmps87
      go_upto_region 1 with fail
      refine wp_gen (fun W => RowAt W w.heap.size 55 #[.int .i64 0, .string ⟨#[]⟩, .string ⟨#[]⟩, .int .i64 0, .int .i64 0, .int .i64 0, .int .i64 0, .int .i64 0, .slice none 0 0] ∧ RowAt W (w.heap.size + 1) 68 #[.int .i64 0, .int .i64 0] ∧ Below w.heap.size w W) ⟨(row_new rfl).alloc _, row_new (by simp), ((Below.refl _ w).alloc (Nat.le_refl _) _).alloc (by simp) _⟩ ?_
      rintro W1 ⟨g1, h1, b1⟩
      have RG1 := Lib.hid g1
      have RH1 := Lib.hid h1
      have B1 := Lib.hid b1
      have hlt1 := h1.lt
      clear g1 h1 b1
      have tk0 := (HC.out W1 B1.out a ha).1
      have e0 : ((tokT T a).kind == 2) = false := by simpa using hk
      have i1 : (0 : Int) ≤ (a : Int) := by omega
      have i2 : (a : Int) < (T.length : Int) := by omega
      go_wp2_with fail
      refine (is_at (s := ⟨#[116, 114, 117, 101]⟩) (HT.out W1 B1.out) q1).mono ?_
      rintro e w' ⟨rfl, hw⟩
      have hw := hw.symm
      subst hw
      go_wp2_with fail
      refine (is_at (s := ⟨#[102, 97, 108, 115, 101]⟩) (HT.out W1 B1.out) q2).mono ?_
      rintro e w' ⟨rfl, hw⟩
      have hw := hw.symm
      subst hw
      go_wp2_with fail
      refine (is_at (s := ⟨#[110, 117, 108, 108]⟩) (HT.out W1 B1.out) q3).mono ?_
      rintro e w' ⟨rfl, hw⟩
      have hw := hw.symm
      subst hw
      go_wp2_with fail
      refine (is_at (s := ⟨#[116, 104, 105, 115]⟩) (HT.out W1 B1.out) q4).mono ?_
      rintro e w' ⟨rfl, hw⟩
      have hw := hw.symm
      subst hw
      go_wp2_with fail
      refine (is_at (s := ⟨#[110, 101, 119]⟩) (HT.out W1 B1.out) q5).mono ?_
      rintro e w' ⟨rfl, hw⟩
      have hw := hw.symm
      subst hw
      go_wp2_with fail
      refine (name_1 (HT.out W1 B1.out) q7).mono ?_
      rintro e w' ⟨rfl, hw⟩
      have hw := hw.symm
      subst hw
      go_wp2_with fail
      refine (syntax_any _ _).mono ?_
      rintro e w9 ⟨rfl, b9⟩
      have RG9 := RG1.out.later b9
      have RH9 := RH1.out.later b9
      have B9 := B1.out.trans (b9.mono B1.out.size)
      have z0 := RG9.frozen 0
      have z1 := RG9.frozen 1
      have z2 := RG9.frozen 2
      have z3 := RG9.frozen 3
      have z4 := RG9.frozen 4
      have z5 := RG9.frozen 5
      have z6 := RG9.frozen 6
      have z7 := RG9.frozen 7
      have z8 := RG9.frozen 8
      have y0 := RH9.frozen 0
      have y1 := RH9.frozen 1
      obtain ⟨r0, r1, r2, r3, r4, r5, r6, r7, r8⟩ := (show Cells w9 w.heap.size 0 ⟨0, [], [], 0, 0, 0, 0, 0⟩ (.slice none 0 0) from Cells.row RG9)
      simp only [Nat.zero_add] at r1 r2 r3 r4 r5 r6 r7 r8
      have s0 : w9.cell? ⟨w.heap.size + 1, 0, none⟩ = some (.int .i64 0) := RH9.cell rfl
      have s1 : w9.cell? ⟨w.heap.size + 1, 1, none⟩ = some (.int .i64 0) := RH9.cell rfl
      have RG9' := Lib.hid RG9
      have RH9' := Lib.hid RH9
      have B9' := Lib.hid B9
      clear RG9 RH9 B9 b9
      go_wp2_with fail
      obtain ⟨k1, k2, k3, k4, k5⟩ := both_rows RG9'.out RH9'.out (by omega) ⟨0, [], [], 0, 0, 0, 0, 0⟩ (.slice none 0 0) ((a + 1 : Nat) : Int) 120 rfl
      exact fin_node 6 7 8 rfl rfl rfl k1 k2 ⟨rfl, B9'.out.trans (k5 _ (Nat.le_refl _) (by omega))⟩
    | true =>
    rw [q7, if_pos rfl] at hr
    cases q8 : isT T (a + 2) sL with
    | false =>
      rw [q8, if_neg (by decide)] at hr
      obtain rfl := Option.some.inj hr
      go_enter Tryd.func87, Tryd.ntmps87
      go_upto_region 1 with fail
      refine wp_gen (fun W => RowAt W w.heap.size 55 #[.int .i64 0, .string ⟨#[]⟩, .string ⟨#[]⟩, .int .i64 0, .int .i64 0, .int .i64 0, .int .i64 0, .int .i64 0, .slice none 0 0] ∧ RowAt W (w.heap.size + 1) 68 #[.int .i64 0, .int .i64 0] ∧ Below w.heap.size w W) ⟨(row_new rfl).alloc _, row_new (by simp), ((Below.refl _ w).alloc (Nat.le_refl _) _).alloc (by simp) _⟩ ?_
      rintro W1 ⟨g1, h1, b1⟩
      have RG1 := Lib.hid g1
      have RH1 := Lib.hid h1
      have B1 := Lib.hid b1
      have hlt1 := h1.lt
      clear g1 h1 b1
      have tk0 := (HC.out W1 B1.out a ha).1
      have e0 : ((tokT T a).kind == 2) = false := by simpa using hk
      have i1 : (0 : Int) ≤ (a : Int) := by omega
      have i2 : (a : Int) < (T.length : Int) := by omega
      go_wp2_with fail
      refine (is_at (s := ⟨#[116, 114, 117, 101]⟩) (HT.out W1 B1.out) q1).mono ?_
      rintro e w' ⟨rfl, hw⟩
      have hw := hw.symm
      subst hw
      go_wp2_with fail
      refine (is_at (s := ⟨#[102, 97, 108, 115, 101]⟩) (HT.out W1 B1.out) q2).mono ?_
      rintro e w' ⟨rfl, hw⟩
      have hw := hw.symm
      subst hw
      go_wp2_with fail
      refine (is_at (s := ⟨#[110, 117, 108, 108]⟩) (HT.out W1 B1.out) q3).mono ?_
      rintro e w' ⟨rfl, hw⟩
      have hw := hw.symm
      subst hw
      go_wp2_with fail
      refine (is_at (s := ⟨#[116, 104, 105, 115]⟩) (HT.out W1 B1.out) q4).mono ?_
      rintro e w' ⟨rfl, hw⟩
      have hw := hw.symm
      subst hw
      go_wp2_with fail
      refine (is_at (s := ⟨#[110, 101, 119]⟩) (HT.out W1 B1.out) q5).mono ?_
      rintro e w' ⟨rfl, hw⟩
      have hw := hw.symm
      subst hw
      go_wp2_with fail
      refine (name_1 (HT.out W1 B1.out) q7).mono ?_
      rintro e w' ⟨rfl, hw⟩
      have hw := hw.symm
      subst hw
      go_wp2_with fail
      refine (is_2 (s := ⟨#[40]⟩) (HT.out W1 B1.out) q8).mono ?_
      rintro e w' ⟨rfl, hw⟩
      have hw := hw.symm
      subst hw
      go_wp2_with fail
      refine (syntax_any _ _).mono ?_
      rintro e w9 ⟨rfl, b9⟩
      have RG9 := RG1.out.later b9
      have RH9 := RH1.out.later b9
      have B9 := B1.out.trans (b9.mono B1.out.size)
      have z0 := RG9.frozen 0
      have z1 := RG9.frozen 1
      have z2 := RG9.frozen 2
      have z3 := RG9.frozen 3
      have z4 := RG9.frozen 4
      have z5 := RG9.frozen 5
      have z6 := RG9.frozen 6
      have z7 := RG9.frozen 7
      have z8 := RG9.frozen 8
      have y0 := RH9.frozen 0
      have y1 := RH9.frozen 1
      obtain ⟨r0, r1, r2, r3, r4, r5, r6, r7, r8⟩ := (show Cells w9 w.heap.size 0 ⟨0, [], [], 0, 0, 0, 0, 0⟩ (.slice none 0 0) from Cells.row RG9)
      simp only [Nat.zero_add] at r1 r2 r3 r4 r5 r6 r7 r8
      have s0 : w9.cell? ⟨w.heap.size + 1, 0, none⟩ = some (.int .i64 0) := RH9.cell rfl
      have s1 : w9.cell? ⟨w.heap.size + 1, 1, none⟩ = some (.int .i64 0) := RH9.cell rfl
      have RG9' := Lib.hid RG9
      have RH9' := Lib.hid RH9
      have B9' := Lib.hid B9
      clear RG9 RH9 B9 b9
      go_wp2_with fail
      obtain ⟨k1, k2, k3, k4, k5⟩ := both_rows RG9'.out RH9'.out (by omega) ⟨0, [], [], 0, 0, 0, 0, 0⟩ (.slice none 0 0) ((a + 2 : Nat) : Int) 120 rfl
      exact fin_node 6 7 8 rfl rfl rfl k1 k2 ⟨rfl, B9'.out.trans (k5 _ (Nat.le_refl _) (by omega))⟩
    | true =>
    rw [q8, if_pos rfl] at hr
    cases q9 : isT T (a + 3) sR with
    | false =>
      rw [q9, if_neg (by decide)] at hr
      obtain rfl := Option.some.inj hr
      go_enter Tryd.func87, Tryd.ntmps87
      go_upto_region 1 with fail
      refine wp_gen (fun W => RowAt W w.heap.size 55 #[.int .i64 0, .string ⟨#[]⟩, .string ⟨#[]⟩, .int .i64 0, .int .i64 0, .int .i64 0, .int .i64 0, .int .i64 0, .slice none 0 0] ∧ RowAt W (w.heap.size + 1) 68 #[.int .i64 0, .int .i64 0] ∧ Below w.heap.size w W) ⟨(row_new rfl).alloc _, row_new (by simp), ((Below.refl _ w).alloc (Nat.le_refl _) _).alloc (by simp) _⟩ ?_
      rintro W1 ⟨g1, h1, b1⟩
      have RG1 := Lib.hid g1
      have RH1 := Lib.hid h1
      have B1 := Lib.hid b1
      have hlt1 := h1.lt
      clear g1 h1 b1
      have tk0 := (HC.out W1 B1.out a ha).1
      have e0 : ((tokT T a).kind == 2) = false := by simpa using hk
      have i1 : (0 : Int) ≤ (a : Int) := by omega
      have i2 : (a : Int) < (T.length : Int) := by omega
      go_wp2_with fail
      refine (is_at (s := ⟨#[116, 114, 117, 101]⟩) (HT.out W1 B1.out) q1).mono ?_
      rintro e w' ⟨rfl, hw⟩
      have hw := hw.symm
      subst hw
      go_wp2_with fail
      refine (is_at (s := ⟨#[102, 97, 108, 115, 101]⟩) (HT.out W1 B1.out) q2).mono ?_
      rintro e w' ⟨rfl, hw⟩
      have hw := hw.symm
      subst hw
      go_wp2_with fail
      refine (is_at (s := ⟨#[110, 117, 108, 108]⟩) (HT.out W1 B1.out) q3).mono ?_
      rintro e w' ⟨rfl, hw⟩
      have hw := hw.symm
      subst hw
      go_wp2_with fail
      refine (is_at (s := ⟨#[116, 104, 105, 115]⟩) (HT.out W1 B1.out) q4).mono ?_
      rintro e w' ⟨rfl, hw⟩
      have hw := hw.symm
      subst hw
      go_wp2_with fail
      refine (is_at (s := ⟨#[110, 101, 119]⟩) (HT.out W1 B1.out) q5).mono ?_
      rintro e w' ⟨rfl, hw⟩
      have hw := hw.symm
      subst hw
      go_wp2_with fail
      refine (name_1 (HT.out W1 B1.out) q7).mono ?_
      rintro e w' ⟨rfl, hw⟩
      have hw := hw.symm
      subst hw
      go_wp2_with fail
      refine (is_2 (s := ⟨#[40]⟩) (HT.out W1 B1.out) q8).mono ?_
      rintro e w' ⟨rfl, hw⟩
      have hw := hw.symm
      subst hw
      go_wp2_with fail
      refine (is_3 (s := ⟨#[41]⟩) (HT.out W1 B1.out) q9).mono ?_
      rintro e w' ⟨rfl, hw⟩
      have hw := hw.symm
      subst hw
      go_wp2_with fail
      refine (syntax_any _ _).mono ?_
      rintro e w9 ⟨rfl, b9⟩
      have RG9 := RG1.out.later b9
      have RH9 := RH1.out.later b9
      have B9 := B1.out.trans (b9.mono B1.out.size)
      have z0 := RG9.frozen 0
      have z1 := RG9.frozen 1
      have z2 := RG9.frozen 2
      have z3 := RG9.frozen 3
      have z4 := RG9.frozen 4
      have z5 := RG9.frozen 5
      have z6 := RG9.frozen 6
      have z7 := RG9.frozen 7
      have z8 := RG9.frozen 8
      have y0 := RH9.frozen 0
      have y1 := RH9.frozen 1
      obtain ⟨r0, r1, r2, r3, r4, r5, r6, r7, r8⟩ := (show Cells w9 w.heap.size 0 ⟨0, [], [], 0, 0, 0, 0, 0⟩ (.slice none 0 0) from Cells.row RG9)
      simp only [Nat.zero_add] at r1 r2 r3 r4 r5 r6 r7 r8
      have s0 : w9.cell? ⟨w.heap.size + 1, 0, none⟩ = some (.int .i64 0) := RH9.cell rfl
      have s1 : w9.cell? ⟨w.heap.size + 1, 1, none⟩ = some (.int .i64 0) := RH9.cell rfl
      have RG9' := Lib.hid RG9
      have RH9' := Lib.hid RH9
      have B9' := Lib.hid B9
      clear RG9 RH9 B9 b9
      go_wp2_with fail
      obtain ⟨k1, k2, k3, k4, k5⟩ := both_rows RG9'.out RH9'.out (by omega) ⟨0, [], [], 0, 0, 0, 0, 0⟩ (.slice none 0 0) ((a + 3 : Nat) : Int) 120 rfl
      exact fin_node 6 7 8 rfl rfl rfl k1 k2 ⟨rfl, B9'.out.trans (k5 _ (Nat.le_refl _) (by omega))⟩
    | true =>
      rw [q9, if_pos rfl] at hr
      have ha4 : a + 4 < T.length := isT_lt HG.out.e q9
      obtain ⟨m, hm⟩ : ∃ m, (Nd.mk (namedH T (madeH T 21 a (a + 4)) (a + 1)) []) = m := ⟨_, rfl⟩
      rw [hm] at hr
      obtain rfl := Option.some.inj hr
      go_enter Tryd.func87, Tryd.ntmps87
      go_upto_region 1 with fail
      refine wp_gen (fun W => RowAt W w.heap.size 55 #[.int .i64 0, .string ⟨#[]⟩, .string ⟨#[]⟩, .int .i64 0, .int .i64 0, .int .i64 0, .int .i64 0, .int .i64 0, .slice none 0 0] ∧ RowAt W (w.heap.size + 1) 68 #[.int .i64 0, .int .i64 0] ∧ Below w.heap.size w W) ⟨(row_new rfl).alloc _, row_new (by simp), ((Below.refl _ w).alloc (Nat.le_refl _) _).alloc (by simp) _⟩ ?_
      rintro W1 ⟨g1, h1, b1⟩
      have RG1 := Lib.hid g1
      have RH1 := Lib.hid h1
      have B1 := Lib.hid b1
      have hlt1 := h1.lt
      clear g1 h1 b1
      have tk0 := (HC.out W1 B1.out a ha).1
      have e0 : ((tokT T a).kind == 2) = false := by simpa using hk
      have i1 : (0 : Int) ≤ (a : Int) := by omega
      have i2 : (a : Int) < (T.length : Int) := by omega
      go_wp2_with fail
      refine (is_at (s := ⟨#[116, 114, 117, 101]⟩) (HT.out W1 B1.out) q1).mono ?_
      rintro e w' ⟨rfl, hw⟩
      have hw := hw.symm
      subst hw
      go_wp2_with fail
      refine (is_at (s := ⟨#[102, 97, 108, 115, 101]⟩) (HT.out W1 B1.out) q2).mono ?_
      rintro e w' ⟨rfl, hw⟩
      have hw := hw.symm
      subst hw
      go_wp2_with fail
      refine (is_at (s := ⟨#[110, 117, 108, 108]⟩) (HT.out W1 B1.out) q3).mono ?_
      rintro e w' ⟨rfl, hw⟩
      have hw := hw.symm
      subst hw
      go_wp2_with fail
      refine (is_at (s := ⟨#[116, 104, 105, 115]⟩) (HT.out W1 B1.out) q4).mono ?_
      rintro e w' ⟨rfl, hw⟩
      have hw := hw.symm
      subst hw
      go_wp2_with fail
      refine (is_at (s := ⟨#[110, 101, 119]⟩) (HT.out W1 B1.out) q5).mono ?_
      rintro e w' ⟨rfl, hw⟩
      have hw := hw.symm
      subst hw
      go_wp2_with fail
      refine (name_1 (HT.out W1 B1.out) q7).mono ?_
      rintro e w' ⟨rfl, hw⟩
      have hw := hw.symm
      subst hw
      go_wp2_with fail
      refine (is_2 (s := ⟨#[40]⟩) (HT.out W1 B1.out) q8).mono ?_
      rintro e w' ⟨rfl, hw⟩
      have hw := hw.symm
      subst hw
      go_wp2_with fail
      refine (is_3 (s := ⟨#[41]⟩) (HT.out W1 B1.out) q9).mono ?_
      rintro e w' ⟨rfl, hw⟩
      have hw := hw.symm
      subst hw
      go_wp2_with fail
      refine (made_at (.slice (some ⟨tb, to_, none⟩) T.length cv) none 0 0 T HG.out 21 a (a + 4) ha (by omega) (by omega) W1 (HT.out W1 B1.out)).mono ?_
      rintro e w8 ⟨rfl, b8⟩
      have RG8 := Lib.hid (RG1.out.later b8)
      have RH8 := Lib.hid (RH1.out.later b8)
      have B8 := Lib.hid (B1.out.trans (b8.mono B1.out.size))
      have hs8 := b8.size
      clear b8
      obtain ⟨P, hP⟩ : ∃ P, w8.heap.size = P := ⟨_, rfl⟩
      have hPl : Hid (w.heap.size + 2 ≤ P) := Lib.hid (by omega)
      go_upto_region 26 with fail
      refine wp_gen (fun W => RowAt W w.heap.size 55 #[.int .i64 0, .string ⟨#[]⟩, .string ⟨#[]⟩, .int .i64 0, .int .i64 0, .int .i64 0, .int .i64 0, .int .i64 0, .slice none 0 0] ∧ RowAt W (w.heap.size + 1) 68 #[.int .i64 0, .int .i64 0] ∧ RowAt W w8.heap.size 55 ((madeH T 21 a (a + 4)).vals (.slice none 0 0)) ∧ Below w.heap.size w W) ⟨RG8.out.alloc _, RH8.out.alloc _, row_new rfl, B8.out.alloc (by omega) _⟩ ?_
      rintro W3 ⟨g3, h3, m3, b3⟩
      rw [hP] at m3
      have RG3 := Lib.hid g3
      have RH3 := Lib.hid h3
      have RM3 := Lib.hid m3
      have B3 := Lib.hid b3
      clear g3 h3 m3 b3
      have z1 := RM3.out.frozen 1
      have z6 := RM3.out.frozen 6
      have c1 : W3.cell? ⟨P, 1, none⟩ = some (.string (bs (madeH T 21 a (a + 4)).text)) := RM3.out.cell rfl
      have c6 : W3.cell? ⟨P, 6, none⟩ = some (.int .i64 (madeH T 21 a (a + 4)).at_) := RM3.out.cell rfl
      obtain ⟨-, tA1, tA2⟩ := HC.out W3 B3.out (a + 1) (by omega)
      have htb : tb < w.heap.size := cell_lt ((HC.out w (Below.refl _ _) 0 HG.out.e.pos).2.1)
      have neP : tb ≠ P := by have := hPl.out; omega
      have j1 : (a : Int) + 1 < (T.length : Int) := by omega
      have j2 : (0 : Int) ≤ (a : Int) + 1 := by omega
      have j3 : ((a : Int) + 1).toNat = a + 1 := by omega
      have HNR := Lib.hid (named_row (vs := #[]) (madeH T 21 a (a + 4)) (.slice none 0 0) RM3.out (tokT T (a + 1)).text (tokT T (a + 1)).at_ rfl)
      go_upto_region 28 with fail
      refine wp_gen (fun W => RowAt W w.heap.size 55 #[.int .i64 0, .string ⟨#[]⟩, .string ⟨#[]⟩, .int .i64 0, .int .i64 0, .int .i64 0, .int .i64 0, .int .i64 0, .slice none 0 0] ∧ RowAt W (w.heap.size + 1) 68 #[.int .i64 0, .int .i64 0] ∧ RowAt W P 55 ((namedH T (madeH T 21 a (a + 4)) (a + 1)).vals (.slice none 0 0)) ∧ Below w.heap.size w W) ⟨RowAt.same RG3.out (HNR.out.2.2.1 _ (by have := hPl.out; omega)), RowAt.same RH3.out (HNR.out.2.2.1 _ (by have := hPl.out; omega)), HNR.out.1, B3.out.trans (HNR.out.2.2.2 _ (by have := hPl.out; omega))⟩ ?_
      rintro W4 ⟨g3, h3, m3, b3⟩
      have RG4 := Lib.hid g3
      have RH4 := Lib.hid h3
      have RM4 := Lib.hid m3
      have B4 := Lib.hid b3
      clear g3 h3 m3 b3
      have hPl2 := hPl.out
      have hne1 : P ≠ w.heap.size := by omega
      have hne2 : P ≠ w.heap.size + 1 := by omega
      have SS : Hid (Sup W4 W1.heap.size m.kids (.slice none 0 0) (fun _ => False)) := Lib.hid (by rw [← hm]; exact ⟨nofun, fun V _ => KidsAt.nil V⟩)
      have RMm : Hid (RowAt W4 P 55 #[.int .i64 m.hd.kind, .string (bs m.hd.text), .string (bs m.hd.type), .int .i64 m.hd.n, .int .i64 m.hd.fr, .int .i64 m.hd.to_, .int .i64 m.hd.at_, .int .i64 m.hd.tat, .slice none 0 0]) := Lib.hid (by rw [← hm]; exact RM4.out)
      have iw : Hid (IntKind.i64.wrap ((a : Int) + 4) = (a : Int) + 4) := Lib.hid (Go.IntWalk.i64_in _ (by omega))
      have z0 := RG4.out.frozen 0
      have z1 := RG4.out.frozen 1
      have z2 := RG4.out.frozen 2
      have z3 := RG4.out.frozen 3
      have z4 := RG4.out.frozen 4
      have z5 := RG4.out.frozen 5
      have z6 := RG4.out.frozen 6
      have z7 := RG4.out.frozen 7
      have z8 := RG4.out.frozen 8
      have y0 := RH4.out.frozen 0
      have y1 := RH4.out.frozen 1
      obtain ⟨r0, r1, r2, r3, r4, r5, r6, r7, r8⟩ := (show Cells W4 w.heap.size 0 ⟨0, [], [], 0, 0, 0, 0, 0⟩ (.slice none 0 0) from Cells.row RG4.out)
      simp only [Nat.zero_add] at r1 r2 r3 r4 r5 r6 r7 r8
      have s0 : W4.cell? ⟨w.heap.size + 1, 0, none⟩ = some (.int .i64 0) := RH4.out.cell rfl
      have s1 : W4.cell? ⟨w.heap.size + 1, 1, none⟩ = some (.int .i64 0) := RH4.out.cell rfl
      have F0 : Hid (W4.cell? ⟨P, 0, none⟩ = some (.int .i64 m.hd.kind) ∧ W4.cell? ⟨P, 1, none⟩ = some (.string (bs m.hd.text)) ∧ W4.cell? ⟨P, 2, none⟩ = some (.string (bs m.hd.type)) ∧ W4.cell? ⟨P, 3, none⟩ = some (.int .i64 m.hd.n) ∧ W4.cell? ⟨P, 4, none⟩ = some (.int .i64 m.hd.fr) ∧ W4.cell? ⟨P, 5, none⟩ = some (.int .i64 m.hd.to_) ∧ W4.cell? ⟨P, 6, none⟩ = some (.int .i64 m.hd.at_) ∧ W4.cell? ⟨P, 7, none⟩ = some (.int .i64 m.hd.tat) ∧ W4.cell? ⟨P, 8, none⟩ = some (.slice none 0 0)) := Lib.hid ⟨RMm.out.cell rfl, RMm.out.cell rfl, RMm.out.cell rfl, RMm.out.cell rfl, RMm.out.cell rfl, RMm.out.cell rfl, RMm.out.cell rfl, RMm.out.cell rfl, RMm.out.cell rfl⟩
      have FD : Hid (W4.drew.cell? ⟨P, 0, none⟩ = some (.int .i64 m.hd.kind) ∧ W4.drew.cell? ⟨P, 1, none⟩ = some (.string (bs m.hd.text)) ∧ W4.drew.cell? ⟨P, 2, none⟩ = some (.string (bs m.hd.type)) ∧ W4.drew.cell? ⟨P, 3, none⟩ = some (.int .i64 m.hd.n) ∧ W4.drew.cell? ⟨P, 4, none⟩ = some (.int .i64 m.hd.fr) ∧ W4.drew.cell? ⟨P, 5, none⟩ = some (.int .i64 m.hd.to_) ∧ W4.drew.cell? ⟨P, 6, none⟩ = some (.int .i64 m.hd.at_) ∧ W4.drew.cell? ⟨P, 7, none⟩ = some (.int .i64 m.hd.tat) ∧ W4.drew.cell? ⟨P, 8, none⟩ = some (.slice none 0 0)) := Lib.hid F0.out
      have RGd : Hid (RowAt W4.drew w.heap.size 55 #[.int .i64 0, .string ⟨#[]⟩, .string ⟨#[]⟩, .int .i64 0, .int .i64 0, .int .i64 0, .int .i64 0, .int .i64 0, .slice none 0 0]) := Lib.hid RG4.out
      have RHd : Hid (RowAt W4.drew (w.heap.size + 1) 68 #[.int .i64 0, .int .i64 0]) := Lib.hid RH4.out
      have RMd : Hid (RowAt W4.drew P 55 #[.int .i64 m.hd.kind, .string (bs m.hd.text), .string (bs m.hd.type), .int .i64 m.hd.n, .int .i64 m.hd.fr, .int .i64 m.hd.to_, .int .i64 m.hd.at_, .int .i64 m.hd.tat, .slice none 0 0]) := Lib.hid RMm.out
      have BDd : Hid (Below w.heap.size w W4.drew) := Lib.hid (below_drew B4.out)
      have SDd : Hid (Sup W4.drew W1.heap.size m.kids (.slice none 0 0) (fun _ => False)) := Lib.hid (SS.out.below (below_drew (Below.refl _ _)))
      go_region_held3 (fun W => W.cell? ⟨P, 0, none⟩ = some (.int .i64 m.hd.kind) ∧ W.cell? ⟨P, 1, none⟩ = some (.string (bs m.hd.text)) ∧ W.cell? ⟨P, 2, none⟩ = some (.string (bs m.hd.type)) ∧ W.cell? ⟨P, 3, none⟩ = some (.int .i64 m.hd.n) ∧ W.cell? ⟨P, 4, none⟩ = some (.int .i64 m.hd.fr) ∧ W.cell? ⟨P, 5, none⟩ = some (.int .i64 m.hd.to_) ∧ W.cell? ⟨P, 6, none⟩ = some (.int .i64 m.hd.at_) ∧ W.cell? ⟨P, 7, none⟩ = some (.int .i64 m.hd.tat) ∧ W.cell? ⟨P, 8, none⟩ = some (.slice none 0 0))
        (first | (with_reducible exact F0.out) | (with_reducible exact FD.out) | (with_reducible exact F5.out) | (with_reducible exact F6.out) | (with_reducible exact F7.out))
        (first | (go_at_call 46; ((with_reducible refine (fine_any _).mono ?_); rintro e wf ⟨rfl, bf⟩; have R5 := RMd.out.later bf; have F5 := Lib.hid (show wf.cell? ⟨P, 0, none⟩ = some (.int .i64 m.hd.kind) ∧ wf.cell? ⟨P, 1, none⟩ = some (.string (bs m.hd.text)) ∧ wf.cell? ⟨P, 2, none⟩ = some (.string (bs m.hd.type)) ∧ wf.cell? ⟨P, 3, none⟩ = some (.int .i64 m.hd.n) ∧ wf.cell? ⟨P, 4, none⟩ = some (.int .i64 m.hd.fr) ∧ wf.cell? ⟨P, 5, none⟩ = some (.int .i64 m.hd.to_) ∧ wf.cell? ⟨P, 6, none⟩ = some (.int .i64 m.hd.at_) ∧ wf.cell? ⟨P, 7, none⟩ = some (.int .i64 m.hd.tat) ∧ wf.cell? ⟨P, 8, none⟩ = some (.slice none 0 0) from ⟨R5.cell rfl, R5.cell rfl, R5.cell rfl, R5.cell rfl, R5.cell rfl, R5.cell rfl, R5.cell rfl, R5.cell rfl, R5.cell rfl⟩); have RGf := Lib.hid (RGd.out.later bf); have RHf := Lib.hid (RHd.out.later bf); have F6 := Lib.hid (nineC (RowAt.same R5 ((nine RGf.out m.hd (.slice none 0 0)).2.other P (by omega)))); have N9 := (nine RGf.out m.hd (.slice none 0 0)).2; have F7 := Lib.hid (nineC (((RowAt.same R5 (N9.other P (by omega))).other (c := w.heap.size + 1) (by omega) 0 (.int .i64 (-1))).other (c := w.heap.size + 1) (by omega) 1 (.int .i64 0))); clear N9; have Bf := Lib.hid (BDd.out.trans (bf.mono BDd.out.size)); have Sf := Lib.hid (SDd.out.below bf); have z0 := RGf.out.frozen 0; have z1 := RGf.out.frozen 1; have z2 := RGf.out.frozen 2; have z3 := RGf.out.frozen 3; have z4 := RGf.out.frozen 4; have z5 := RGf.out.frozen 5; have z6 := RGf.out.frozen 6; have z7 := RGf.out.frozen 7; have z8 := RGf.out.frozen 8; have y0 := RHf.out.frozen 0; have y1 := RHf.out.frozen 1; obtain ⟨r0, r1, r2, r3, r4, r5, r6, r7, r8⟩ := (show Cells wf w.heap.size 0 ⟨0, [], [], 0, 0, 0, 0, 0⟩ (.slice none 0 0) from Cells.row RGf.out); simp only [Nat.zero_add] at r1 r2 r3 r4 r5 r6 r7 r8; have s0 : wf.cell? ⟨w.heap.size + 1, 0, none⟩ = some (.int .i64 0) := RHf.out.cell rfl; have s1 : wf.cell? ⟨w.heap.size + 1, 1, none⟩ = some (.int .i64 0) := RHf.out.cell rfl; clear bf R5)))
      all_goals
        go_wp2_with fail
        obtain ⟨k1, k2, k3, k4, k5⟩ := both_rows RGf.out RHf.out (by omega) m.hd (.slice none 0 0) (-1) 0 rfl
        refine fin_node 6 7 8 rfl rfl rfl k1 k2 ⟨⟨none, 0, 0, (fun _ => False), (by show Ending.returned (.tuple #[_, .int .i64 (IntKind.i64.wrap ((a : Int) + 4)), _]) = _; rw [iw.out]; rfl), sup_past Sf.out k3 k4 (by omega) (by omega) B1.out.size⟩, Bf.out.trans (k5 _ (Nat.le_refl _) (by omega))⟩
  | false =>
  rw [q5, if_neg (by decide)] at hr
  cases q6 : isT T a sL with
  | true =>
    rw [q6, if_pos rfl] at hr
    have ha1 : a + 1 < T.length := isT_lt HG.out.e q6
    obtain ⟨x, hx⟩ : ∃ x, levelF f T (a + 1) d 1 = x := ⟨_, rfl⟩
    have gx := ((ex_ok HG.out.e f).level (a + 1) d 1 (by omega) (by omega) ha1).2
    rw [hx] at hr gx
    cases x with
    | none => cases hr
    | some x =>
    have CX := Lib.hid (fun W hW => expression_any _ T HG.out f (Ih.out f (Nat.le_refl _)) (a + 1) d x W hx ha1 hd (HT.out W hW))
    clear hx
    go_enter Tryd.func87, Tryd.ntmps87
    go_upto_region 1 with fail
    refine wp_gen (fun W => RowAt W w.heap.size 55 #[.int .i64 0, .string ⟨#[]⟩, .string ⟨#[]⟩, .int .i64 0, .int .i64 0, .int .i64 0, .int .i64 0, .int .i64 0, .slice none 0 0] ∧ RowAt W (w.heap.size + 1) 68 #[.int .i64 0, .int .i64 0] ∧ Below w.heap.size w W) ⟨(row_new rfl).alloc _, row_new (by simp), ((Below.refl _ w).alloc (Nat.le_refl _) _).alloc (by simp) _⟩ ?_
    rintro W1 ⟨g1, h1, b1⟩
    have RG1 := Lib.hid g1
    have RH1 := Lib.hid h1
    have B1 := Lib.hid b1
    have hlt1 := h1.lt
    clear g1 h1 b1
    have tk0 := (HC.out W1 B1.out a ha).1
    have e0 : ((tokT T a).kind == 2) = false := by simpa using hk
    have i1 : (0 : Int) ≤ (a : Int) := by omega
    have i2 : (a : Int) < (T.length : Int) := by omega
    go_wp2_with fail
    refine (is_at (s := ⟨#[116, 114, 117, 101]⟩) (HT.out W1 B1.out) q1).mono ?_
    rintro e w' ⟨rfl, hw⟩
    have hw := hw.symm
    subst hw
    go_wp2_with fail
    refine (is_at (s := ⟨#[102, 97, 108, 115, 101]⟩) (HT.out W1 B1.out) q2).mono ?_
    rintro e w' ⟨rfl, hw⟩
    have hw := hw.symm
    subst hw
    go_wp2_with fail
    refine (is_at (s := ⟨#[110, 117, 108, 108]⟩) (HT.out W1 B1.out) q3).mono ?_
    rintro e w' ⟨rfl, hw⟩
    have hw := hw.symm
    subst hw
    go_wp2_with fail
    refine (is_at (s := ⟨#[116, 104, 105, 115]⟩) (HT.out W1 B1.out) q4).mono ?_
    rintro e w' ⟨rfl, hw⟩
    have hw := hw.symm
    subst hw
    go_wp2_with fail
    refine (is_at (s := ⟨#[110, 101, 119]⟩) (HT.out W1 B1.out) q5).mono ?_
    rintro e w' ⟨rfl, hw⟩
    have hw := hw.symm
    subst hw
    go_wp2_with fail
    refine (is_at (s := ⟨#[40]⟩) (HT.out W1 B1.out) q6).mono ?_
    rintro e w' ⟨rfl, hw⟩
    have hw := hw.symm
    subst hw
    go_wp2_with fail
    refine (CX.out W1 B1.out).mono ?_
    rintro e w2 ⟨hni, b2⟩
    have b12 := Lib.hid b2
    have RG2 := Lib.hid (RG1.out.later b2)
    have RH2 := Lib.hid (RH1.out.later b2)
    have B2 := Lib.hid (B1.out.trans (b2.mono B1.out.size))
    have hs2 := b2.size
    clear b2
    cases x with
    | bad p c =>
      obtain rfl : PR.bad p c = r := Option.some.inj hr
      obtain rfl := hni
      have p1 : decide ((p : Int) ≥ 0) = true := decide_eq_true (by omega)
      have p2 : decide ((0 : Int) ≤ (p : Int)) = true := decide_eq_true (by omega)
      go_wp2_with fail
      refine wp_gen (fun W => RowAt W w.heap.size 55 #[.int .i64 0, .string ⟨#[]⟩, .string ⟨#[]⟩, .int .i64 0, .int .i64 0, .int .i64 0, .int .i64 0, .int .i64 0, .slice none 0 0] ∧ RowAt W (w.heap.size + 1) 68 #[.int .i64 0, .int .i64 0] ∧ RowAt W (w2.heap.size + 1) 68 #[.int .i64 (p : Nat), .int .i64 c] ∧ Below w.heap.size w W) ⟨(RG2.out.alloc _).alloc _, (RH2.out.alloc _).alloc _, row_new (by simp), (B2.out.alloc (by omega) _).alloc (by simp; omega) _⟩ ?_
      rintro W3 ⟨g3, h3, t3, b3⟩
      have z0 := g3.frozen 0
      have z1 := g3.frozen 1
      have z2 := g3.frozen 2
      have z3 := g3.frozen 3
      have z4 := g3.frozen 4
      have z5 := g3.frozen 5
      have z6 := g3.frozen 6
      have z7 := g3.frozen 7
      have z8 := g3.frozen 8
      have y0 := h3.frozen 0
      have y1 := h3.frozen 1
      obtain ⟨r0, r1, r2, r3, r4, r5, r6, r7, r8⟩ := (show Cells W3 w.heap.size 0 ⟨0, [], [], 0, 0, 0, 0, 0⟩ (.slice none 0 0) from Cells.row g3)
      simp only [Nat.zero_add] at r1 r2 r3 r4 r5 r6 r7 r8
      have s0 : W3.cell? ⟨w.heap.size + 1, 0, none⟩ = some (.int .i64 0) := h3.cell rfl
      have s1 : W3.cell? ⟨w.heap.size + 1, 1, none⟩ = some (.int .i64 0) := h3.cell rfl
      have t0 : W3.cell? ⟨(w2.heap.size + 1), 0, none⟩ = some (.int .i64 (p : Nat)) := t3.cell rfl
      have t1 : W3.cell? ⟨(w2.heap.size + 1), 1, none⟩ = some (.int .i64 c) := t3.cell rfl
      have ne1 : (w2.heap.size + 1) ≠ w.heap.size := by omega
      have G3 := Lib.hid g3
      have H3 := Lib.hid h3
      have B3 := Lib.hid b3
      clear g3 h3 t3 b3
      go_region
      all_goals
        go_wp2_with fail
        obtain ⟨k1, k2, k3, k4, k5⟩ := both_rows_d G3.out H3.out (by omega) ⟨0, [], [], 0, 0, 0, 0, 0⟩ (.slice none 0 0) p c rfl
        exact fin_node 6 7 8 rfl rfl rfl k1 k2 ⟨rfl, B3.out.trans (k5 _ (Nat.le_refl _) (by omega))⟩
    | ok m next =>
      obtain ⟨u1, u2, u3⟩ := gx m next rfl
      have hr : (if isT T next sR = true then some (PR.ok m (next + 1)) else some (PR.bad next 120)) = some r := hr
      obtain ⟨ka, kn, kc, F, rfl, hsup⟩ := hni
      have HS := Lib.hid hsup
      have p1 : decide ((-1 : Int) ≥ 0) = false := by decide
      clear hsup
      go_wp2_with fail
      refine calls_gen (fun W => RowAt W w.heap.size 55 #[.int .i64 0, .string ⟨#[]⟩, .string ⟨#[]⟩, .int .i64 0, .int .i64 0, .int .i64 0, .int .i64 0, .int .i64 0, .slice none 0 0] ∧ RowAt W (w.heap.size + 1) 68 #[.int .i64 0, .int .i64 0] ∧ RowAt W w2.heap.size 55 #[.int .i64 m.hd.kind, .string (bs m.hd.text), .string (bs m.hd.type), .int .i64 m.hd.n, .int .i64 m.hd.fr, .int .i64 m.hd.to_, .int .i64 m.hd.at_, .int .i64 m.hd.tat, .slice ka kn kc] ∧ Below w2.heap.size w2 W) ⟨(RG2.out.alloc _).alloc _, (RH2.out.alloc _).alloc _, (row_new rfl).alloc _, ((Below.refl _ _).alloc (Nat.le_refl _) _).alloc (by simp) _⟩ ?_
      rintro W3 ⟨g3, h3, m3, b3⟩
      have RG3 := Lib.hid g3
      have RH3 := Lib.hid h3
      have RM3 := Lib.hid m3
      have B3 := Lib.hid (B2.out.trans (b3.mono B2.out.size))
      have S3 := Lib.hid (HS.out.below b3)
      have b23 := Lib.hid b3
      have hs3 := b3.size
      have hm3 := m3.lt
      clear g3 h3 m3 b3
      cases q7 : isT T next sR with
      | false =>
        rw [q7] at hr
        obtain rfl : PR.bad next 120 = r := Option.some.inj hr
        refine (is_at (s := ⟨#[41]⟩) (HT.out W3 B3.out) q7).mono ?_
        rintro e w' ⟨rfl, hw⟩
        have hw := hw.symm
        subst hw
        go_wp2_with fail
        refine (syntax_any _ _).mono ?_
        rintro e w9 ⟨rfl, b9⟩
        have RG9 := RG3.out.later b9
        have RH9 := RH3.out.later b9
        have B9 := B3.out.trans (b9.mono B3.out.size)
        have z0 := RG9.frozen 0
        have z1 := RG9.frozen 1
        have z2 := RG9.frozen 2
        have z3 := RG9.frozen 3
        have z4 := RG9.frozen 4
        have z5 := RG9.frozen 5
        have z6 := RG9.frozen 6
        have z7 := RG9.frozen 7
        have z8 := RG9.frozen 8
        have y0 := RH9.frozen 0
        have y1 := RH9.frozen 1
        obtain ⟨r0, r1, r2, r3, r4, r5, r6, r7, r8⟩ := (show Cells w9 w.heap.size 0 ⟨0, [], [], 0, 0, 0, 0, 0⟩ (.slice none 0 0) from Cells.row RG9)
        simp only [Nat.zero_add] at r1 r2 r3 r4 r5 r6 r7 r8
        have s0 : w9.cell? ⟨w.heap.size + 1, 0, none⟩ = some (.int .i64 0) := RH9.cell rfl
        have s1 : w9.cell? ⟨w.heap.size + 1, 1, none⟩ = some (.int .i64 0) := RH9.cell rfl
        have RG9' := Lib.hid RG9
        have RH9' := Lib.hid RH9
        have B9' := Lib.hid B9
        clear RG9 RH9 B9 b9
        go_wp2_with fail
        obtain ⟨k1, k2, k3, k4, k5⟩ := both_rows RG9'.out RH9'.out (by omega) ⟨0, [], [], 0, 0, 0, 0, 0⟩ (.slice none 0 0) ((next : Nat) : Int) 120 rfl
        exact fin_node 6 7 8 rfl rfl rfl k1 k2 ⟨rfl, B9'.out.trans (k5 _ (Nat.le_refl _) (by omega))⟩
      | true =>
        rw [q7, if_pos rfl] at hr
        obtain rfl : PR.ok m (next + 1) = r := Option.some.inj hr
        refine (is_at (s := ⟨#[41]⟩) (HT.out W3 B3.out) q7).mono ?_
        rintro e w' ⟨rfl, hw⟩
        have hw := hw.symm
        subst hw
        go_upto_region 35 with fail
        have iw : Hid (IntKind.i64.wrap ((next : Int) + 1) = (next : Int) + 1) := Lib.hid (Go.IntWalk.i64_in _ (by omega))
        have z0 := RG3.out.frozen 0
        have z1 := RG3.out.frozen 1
        have z2 := RG3.out.frozen 2
        have z3 := RG3.out.frozen 3
        have z4 := RG3.out.frozen 4
        have z5 := RG3.out.frozen 5
        have z6 := RG3.out.frozen 6
        have z7 := RG3.out.frozen 7
        have z8 := RG3.out.frozen 8
        have y0 := RH3.out.frozen 0
        have y1 := RH3.out.frozen 1
        obtain ⟨r0, r1, r2, r3, r4, r5, r6, r7, r8⟩ := (show Cells W3 w.heap.size 0 ⟨0, [], [], 0, 0, 0, 0, 0⟩ (.slice none 0 0) from Cells.row RG3.out)
        simp only [Nat.zero_add] at r1 r2 r3 r4 r5 r6 r7 r8
        have s0 : W3.cell? ⟨w.heap.size + 1, 0, none⟩ = some (.int .i64 0) := RH3.out.cell rfl
        have s1 : W3.cell? ⟨w.heap.size + 1, 1, none⟩ = some (.int .i64 0) := RH3.out.cell rfl
        have F0 : Hid (W3.cell? ⟨w2.heap.size, 0, none⟩ = some (.int .i64 m.hd.kind) ∧ W3.cell? ⟨w2.heap.size, 1, none⟩ = some (.string (bs m.hd.text)) ∧ W3.cell? ⟨w2.heap.size, 2, none⟩ = some (.string (bs m.hd.type)) ∧ W3.cell? ⟨w2.heap.size, 3, none⟩ = some (.int .i64 m.hd.n) ∧ W3.cell? ⟨w2.heap.size, 4, none⟩ = some (.int .i64 m.hd.fr) ∧ W3.cell? ⟨w2.heap.size, 5, none⟩ = some (.int .i64 m.hd.to_) ∧ W3.cell? ⟨w2.heap.size, 6, none⟩ = some (.int .i64 m.hd.at_) ∧ W3.cell? ⟨w2.heap.size, 7, none⟩ = some (.int .i64 m.hd.tat) ∧ W3.cell? ⟨w2.heap.size, 8, none⟩ = some (.slice ka kn kc)) := Lib.hid ⟨RM3.out.cell rfl, RM3.out.cell rfl, RM3.out.cell rfl, RM3.out.cell rfl, RM3.out.cell rfl, RM3.out.cell rfl, RM3.out.cell rfl, RM3.out.cell rfl, RM3.out.cell rfl⟩
        have FD : Hid (W3.drew.cell? ⟨w2.heap.size, 0, none⟩ = some (.int .i64 m.hd.kind) ∧ W3.drew.cell? ⟨w2.heap.size, 1, none⟩ = some (.string (bs m.hd.text)) ∧ W3.drew.cell? ⟨w2.heap.size, 2, none⟩ = some (.string (bs m.hd.type)) ∧ W3.drew.cell? ⟨w2.heap.size, 3, none⟩ = some (.int .i64 m.hd.n) ∧ W3.drew.cell? ⟨w2.heap.size, 4, none⟩ = some (.int .i64 m.hd.fr) ∧ W3.drew.cell? ⟨w2.heap.size, 5, none⟩ = some (.int .i64 m.hd.to_) ∧ W3.drew.cell? ⟨w2.heap.size, 6, none⟩ = some (.int .i64 m.hd.at_) ∧ W3.drew.cell? ⟨w2.heap.size, 7, none⟩ = some (.int .i64 m.hd.tat) ∧ W3.drew.cell? ⟨w2.heap.size, 8, none⟩ = some (.slice ka kn kc)) := Lib.hid F0.out
        have RGd : Hid (RowAt W3.drew w.heap.size 55 #[.int .i64 0, .string ⟨#[]⟩, .string ⟨#[]⟩, .int .i64 0, .int .i64 0, .int .i64 0, .int .i64 0, .int .i64 0, .slice none 0 0]) := Lib.hid RG3.out
        have RHd : Hid (RowAt W3.drew (w.heap.size + 1) 68 #[.int .i64 0, .int .i64 0]) := Lib.hid RH3.out
        have RMd : Hid (RowAt W3.drew w2.heap.size 55 #[.int .i64 m.hd.kind, .string (bs m.hd.text), .string (bs m.hd.type), .int .i64 m.hd.n, .int .i64 m.hd.fr, .int .i64 m.hd.to_, .int .i64 m.hd.at_, .int .i64 m.hd.tat, .slice ka kn kc]) := Lib.hid RM3.out
        have BDd : Hid (Below w.heap.size w W3.drew) := Lib.hid (below_drew B3.out)
        have SDd : Hid (Sup W3.drew W1.heap.size m.kids (.slice ka kn kc) F) := Lib.hid (S3.out.below (below_drew (Below.refl _ _)))
        go_region_held3 (fun W => W.cell? ⟨w2.heap.size, 0, none⟩ = some (.int .i64 m.hd.kind) ∧ W.cell? ⟨w2.heap.size, 1, none⟩ = some (.string (bs m.hd.text)) ∧ W.cell? ⟨w2.heap.size, 2, none⟩ = some (.string (bs m.hd.type)) ∧ W.cell? ⟨w2.heap.size, 3, none⟩ = some (.int .i64 m.hd.n) ∧ W.cell? ⟨w2.heap.size, 4, none⟩ = some (.int .i64 m.hd.fr) ∧ W.cell? ⟨w2.heap.size, 5, none⟩ = some (.int .i64 m.hd.to_) ∧ W.cell? ⟨w2.heap.size, 6, none⟩ = some (.int .i64 m.hd.at_) ∧ W.cell? ⟨w2.heap.size, 7, none⟩ = some (.int .i64 m.hd.tat) ∧ W.cell? ⟨w2.heap.size, 8, none⟩ = some (.slice ka kn kc))
          (first | (with_reducible exact F0.out) | (with_reducible exact FD.out) | (with_reducible exact F5.out) | (with_reducible exact F6.out) | (with_reducible exact F7.out))
          (first | (go_at_call 46; ((with_reducible refine (fine_any _).mono ?_); rintro e wf ⟨rfl, bf⟩; have R5 := RMd.out.later bf; have F5 := Lib.hid (show wf.cell? ⟨w2.heap.size, 0, none⟩ = some (.int .i64 m.hd.kind) ∧ wf.cell? ⟨w2.heap.size, 1, none⟩ = some (.string (bs m.hd.text)) ∧ wf.cell? ⟨w2.heap.size, 2, none⟩ = some (.string (bs m.hd.type)) ∧ wf.cell? ⟨w2.heap.size, 3, none⟩ = some (.int .i64 m.hd.n) ∧ wf.cell? ⟨w2.heap.size, 4, none⟩ = some (.int .i64 m.hd.fr) ∧ wf.cell? ⟨w2.heap.size, 5, none⟩ = some (.int .i64 m.hd.to_) ∧ wf.cell? ⟨w2.heap.size, 6, none⟩ = some (.int .i64 m.hd.at_) ∧ wf.cell? ⟨w2.heap.size, 7, none⟩ = some (.int .i64 m.hd.tat) ∧ wf.cell? ⟨w2.heap.size, 8, none⟩ = some (.slice ka kn kc) from ⟨R5.cell rfl, R5.cell rfl, R5.cell rfl, R5.cell rfl, R5.cell rfl, R5.cell rfl, R5.cell rfl, R5.cell rfl, R5.cell rfl⟩); have RGf := Lib.hid (RGd.out.later bf); have RHf := Lib.hid (RHd.out.later bf); have F6 := Lib.hid (nineC (RowAt.same R5 ((nine RGf.out m.hd (.slice ka kn kc)).2.other w2.heap.size (by omega)))); have N9 := (nine RGf.out m.hd (.slice ka kn kc)).2; have F7 := Lib.hid (nineC (((RowAt.same R5 (N9.other w2.heap.size (by omega))).other (c := w.heap.size + 1) (by omega) 0 (.int .i64 (-1))).other (c := w.heap.size + 1) (by omega) 1 (.int .i64 0))); clear N9; have Bf := Lib.hid (BDd.out.trans (bf.mono BDd.out.size)); have Sf := Lib.hid (SDd.out.below bf); have z0 := RGf.out.frozen 0; have z1 := RGf.out.frozen 1; have z2 := RGf.out.frozen 2; have z3 := RGf.out.frozen 3; have z4 := RGf.out.frozen 4; have z5 := RGf.out.frozen 5; have z6 := RGf.out.frozen 6; have z7 := RGf.out.frozen 7; have z8 := RGf.out.frozen 8; have y0 := RHf.out.frozen 0; have y1 := RHf.out.frozen 1; obtain ⟨r0, r1, r2, r3, r4, r5, r6, r7, r8⟩ := (show Cells wf w.heap.size 0 ⟨0, [], [], 0, 0, 0, 0, 0⟩ (.slice none 0 0) from Cells.row RGf.out); simp only [Nat.zero_add] at r1 r2 r3 r4 r5 r6 r7 r8; have s0 : wf.cell? ⟨w.heap.size + 1, 0, none⟩ = some (.int .i64 0) := RHf.out.cell rfl; have s1 : wf.cell? ⟨w.heap.size + 1, 1, none⟩ = some (.int .i64 0) := RHf.out.cell rfl; clear bf R5)))
        all_goals
          go_wp2_with fail
          obtain ⟨k1, k2, k3, k4, k5⟩ := both_rows RGf.out RHf.out (by omega) m.hd (.slice ka kn kc) (-1) 0 rfl
          refine fin_node 6 7 8 rfl rfl rfl k1 k2 ⟨⟨ka, kn, kc, F, (by show Ending.returned (.tuple #[_, .int .i64 (IntKind.i64.wrap ((next : Int) + 1)), _]) = _; rw [iw.out]; rfl), sup_past Sf.out k3 k4 (by omega) (by omega) B1.out.size⟩, Bf.out.trans (k5 _ (Nat.le_refl _) (by omega))⟩
  | false =>
  rw [q6, if_neg (by decide)] at hr
  cases q7 : nmT T a with
  | false =>
    rw [q7, if_neg (by decide)] at hr
    obtain rfl := Option.some.inj hr
    go_enter Tryd.func87, Tryd.ntmps87
    go_upto_region 1 with fail
    refine wp_gen (fun W => RowAt W w.heap.size 55 #[.int .i64 0, .string ⟨#[]⟩, .string ⟨#[]⟩, .int .i64 0, .int .i64 0, .int .i64 0, .int .i64 0, .int .i64 0, .slice none 0 0] ∧ RowAt W (w.heap.size + 1) 68 #[.int .i64 0, .int .i64 0] ∧ Below w.heap.size w W) ⟨(row_new rfl).alloc _, row_new (by simp), ((Below.refl _ w).alloc (Nat.le_refl _) _).alloc (by simp) _⟩ ?_
    rintro W1 ⟨g1, h1, b1⟩
    have RG1 := Lib.hid g1
    have RH1 := Lib.hid h1
    have B1 := Lib.hid b1
    have hlt1 := h1.lt
    clear g1 h1 b1
    have tk0 := (HC.out W1 B1.out a ha).1
    have e0 : ((tokT T a).kind == 2) = false := by simpa using hk
    have i1 : (0 : Int) ≤ (a : Int) := by omega
    have i2 : (a : Int) < (T.length : Int) := by omega
    go_wp2_with fail
    refine (is_at (s := ⟨#[116, 114, 117, 101]⟩) (HT.out W1 B1.out) q1).mono ?_
    rintro e w' ⟨rfl, hw⟩
    have hw := hw.symm
    subst hw
    go_wp2_with fail
    refine (is_at (s := ⟨#[102, 97, 108, 115, 101]⟩) (HT.out W1 B1.out) q2).mono ?_
    rintro e w' ⟨rfl, hw⟩
    have hw := hw.symm
    subst hw
    go_wp2_with fail
    refine (is_at (s := ⟨#[110, 117, 108, 108]⟩) (HT.out W1 B1.out) q3).mono ?_
    rintro e w' ⟨rfl, hw⟩
    have hw := hw.symm
    subst hw
    go_wp2_with fail
    refine (is_at (s := ⟨#[116, 104, 105, 115]⟩) (HT.out W1 B1.out) q4).mono ?_
    rintro e w' ⟨rfl, hw⟩
    have hw := hw.symm
    subst hw
    go_wp2_with fail
    refine (is_at (s := ⟨#[110, 101, 119]⟩) (HT.out W1 B1.out) q5).mono ?_
    rintro e w' ⟨rfl, hw⟩
    have hw := hw.symm
    subst hw
    go_wp2_with fail
    refine (is_at (s := ⟨#[40]⟩) (HT.out W1 B1.out) q6).mono ?_
    rintro e w' ⟨rfl, hw⟩
    have hw := hw.symm
    subst hw
    go_wp2_with fail
    refine (name_at (HT.out W1 B1.out) q7).mono ?_
    rintro e w' ⟨rfl, hw⟩
    have hw := hw.symm
    subst hw
    go_wp2_with fail
    refine (syntax_any _ _).mono ?_
    rintro e w9 ⟨rfl, b9⟩
    have RG9 := RG1.out.later b9
    have RH9 := RH1.out.later b9
    have B9 := B1.out.trans (b9.mono B1.out.size)
    have z0 := RG9.frozen 0
    have z1 := RG9.frozen 1
    have z2 := RG9.frozen 2
    have z3 := RG9.frozen 3
    have z4 := RG9.frozen 4
    have z5 := RG9.frozen 5
    have z6 := RG9.frozen 6
    have z7 := RG9.frozen 7
    have z8 := RG9.frozen 8
    have y0 := RH9.frozen 0
    have y1 := RH9.frozen 1
    obtain ⟨r0, r1, r2, r3, r4, r5, r6, r7, r8⟩ := (show Cells w9 w.heap.size 0 ⟨0, [], [], 0, 0, 0, 0, 0⟩ (.slice none 0 0) from Cells.row RG9)
    simp only [Nat.zero_add] at r1 r2 r3 r4 r5 r6 r7 r8
    have s0 : w9.cell? ⟨w.heap.size + 1, 0, none⟩ = some (.int .i64 0) := RH9.cell rfl
    have s1 : w9.cell? ⟨w.heap.size + 1, 1, none⟩ = some (.int .i64 0) := RH9.cell rfl
    have RG9' := Lib.hid RG9
    have RH9' := Lib.hid RH9
    have B9' := Lib.hid B9
    clear RG9 RH9 B9 b9
    go_wp2_with fail
    obtain ⟨k1, k2, k3, k4, k5⟩ := both_rows RG9'.out RH9'.out (by omega) ⟨0, [], [], 0, 0, 0, 0, 0⟩ (.slice none 0 0) ((a : Nat) : Int) 120 rfl
    exact fin_node 6 7 8 rfl rfl rfl k1 k2 ⟨rfl, B9'.out.trans (k5 _ (Nat.le_refl _) (by omega))⟩
  | true =>
    rw [q7, if_pos rfl] at hr
    have ha1 : a + 1 < T.length := nmT_lt HG.out.e q7
    cases q8 : isT T (a + 1) sL with
    | false =>
      rw [q8, if_neg (by decide)] at hr
      obtain ⟨m, hm⟩ : ∃ m, (Nd.mk (namedH T (madeH T 17 a (a + 1)) a) []) = m := ⟨_, rfl⟩
      rw [hm] at hr
      obtain rfl := Option.some.inj hr
      go_enter Tryd.func87, Tryd.ntmps87
      go_upto_region 1 with fail
      refine wp_gen (fun W => RowAt W w.heap.size 55 #[.int .i64 0, .string ⟨#[]⟩, .string ⟨#[]⟩, .int .i64 0, .int .i64 0, .int .i64 0, .int .i64 0, .int .i64 0, .slice none 0 0] ∧ RowAt W (w.heap.size + 1) 68 #[.int .i64 0, .int .i64 0] ∧ Below w.heap.size w W) ⟨(row_new rfl).alloc _, row_new (by simp), ((Below.refl _ w).alloc (Nat.le_refl _) _).alloc (by simp) _⟩ ?_
      rintro W1 ⟨g1, h1, b1⟩
      have RG1 := Lib.hid g1
      have RH1 := Lib.hid h1
      have B1 := Lib.hid b1
      have hlt1 := h1.lt
      clear g1 h1 b1
      have tk0 := (HC.out W1 B1.out a ha).1
      have e0 : ((tokT T a).kind == 2) = false := by simpa using hk
      have i1 : (0 : Int) ≤ (a : Int) := by omega
      have i2 : (a : Int) < (T.length : Int) := by omega
      go_wp2_with fail
      refine (is_at (s := ⟨#[116, 114, 117, 101]⟩) (HT.out W1 B1.out) q1).mono ?_
      rintro e w' ⟨rfl, hw⟩
      have hw := hw.symm
      subst hw
      go_wp2_with fail
      refine (is_at (s := ⟨#[102, 97, 108, 115, 101]⟩) (HT.out W1 B1.out) q2).mono ?_
      rintro e w' ⟨rfl, hw⟩
      have hw := hw.symm
      subst hw
      go_wp2_with fail
      refine (is_at (s := ⟨#[110, 117, 108, 108]⟩) (HT.out W1 B1.out) q3).mono ?_
      rintro e w' ⟨rfl, hw⟩
      have hw := hw.symm
      subst hw
      go_wp2_with fail
      refine (is_at (s := ⟨#[116, 104, 105, 115]⟩) (HT.out W1 B1.out) q4).mono ?_
      rintro e w' ⟨rfl, hw⟩
      have hw := hw.symm
      subst hw
      go_wp2_with fail
      refine (is_at (s := ⟨#[110, 101, 119]⟩) (HT.out W1 B1.out) q5).mono ?_
      rintro e w' ⟨rfl, hw⟩
      have hw := hw.symm
      subst hw
      go_wp2_with fail
      refine (is_at (s := ⟨#[40]⟩) (HT.out W1 B1.out) q6).mono ?_
      rintro e w' ⟨rfl, hw⟩
      have hw := hw.symm
      subst hw
      go_wp2_with fail
      refine (name_at (HT.out W1 B1.out) q7).mono ?_
      rintro e w' ⟨rfl, hw⟩
      have hw := hw.symm
      subst hw
      go_wp2_with fail
      refine (made_at (.slice (some ⟨tb, to_, none⟩) T.length cv) none 0 0 T HG.out 17 a (a + 1) ha (by omega) (by omega) W1 (HT.out W1 B1.out)).mono ?_
      rintro e w8 ⟨rfl, b8⟩
      have RG8 := Lib.hid (RG1.out.later b8)
      have RH8 := Lib.hid (RH1.out.later b8)
      have B8 := Lib.hid (B1.out.trans (b8.mono B1.out.size))
      have hs8 := b8.size
      clear b8
      obtain ⟨P, hP⟩ : ∃ P, w8.heap.size = P := ⟨_, rfl⟩
      have hPl : Hid (w.heap.size + 2 ≤ P) := Lib.hid (by omega)
      go_upto_region 38 with fail
      refine wp_gen (fun W => RowAt W w.heap.size 55 #[.int .i64 0, .string ⟨#[]⟩, .string ⟨#[]⟩, .int .i64 0, .int .i64 0, .int .i64 0, .int .i64 0, .int .i64 0, .slice none 0 0] ∧ RowAt W (w.heap.size + 1) 68 #[.int .i64 0, .int .i64 0] ∧ RowAt W w8.heap.size 55 ((madeH T 17 a (a + 1)).vals (.slice none 0 0)) ∧ Below w.heap.size w W) ⟨RG8.out.alloc _, RH8.out.alloc _, row_new rfl, B8.out.alloc (by omega) _⟩ ?_
      rintro W3 ⟨g3, h3, m3, b3⟩
      rw [hP] at m3
      have RG3 := Lib.hid g3
      have RH3 := Lib.hid h3
      have RM3 := Lib.hid m3
      have B3 := Lib.hid b3
      clear g3 h3 m3 b3
      have z1 := RM3.out.frozen 1
      have z6 := RM3.out.frozen 6
      have c1 : W3.cell? ⟨P, 1, none⟩ = some (.string (bs (madeH T 17 a (a + 1)).text)) := RM3.out.cell rfl
      have c6 : W3.cell? ⟨P, 6, none⟩ = some (.int .i64 (madeH T 17 a (a + 1)).at_) := RM3.out.cell rfl
      obtain ⟨-, tA1, tA2⟩ := HC.out W3 B3.out (a) ha
      have htb : tb < w.heap.size := cell_lt ((HC.out w (Below.refl _ _) 0 HG.out.e.pos).2.1)
      have neP : tb ≠ P := by have := hPl.out; omega
      have HNR := Lib.hid (named_row (vs := #[]) (madeH T 17 a (a + 1)) (.slice none 0 0) RM3.out (tokT T (a)).text (tokT T (a)).at_ rfl)
      go_upto_region 40 with fail
      refine wp_gen (fun W => RowAt W w.heap.size 55 #[.int .i64 0, .string ⟨#[]⟩, .string ⟨#[]⟩, .int .i64 0, .int .i64 0, .int .i64 0, .int .i64 0, .int .i64 0, .slice none 0 0] ∧ RowAt W (w.heap.size + 1) 68 #[.int .i64 0, .int .i64 0] ∧ RowAt W P 55 ((namedH T (madeH T 17 a (a + 1)) (a)).vals (.slice none 0 0)) ∧ Below w.heap.size w W) ⟨RowAt.same RG3.out (HNR.out.2.2.1 _ (by have := hPl.out; omega)), RowAt.same RH3.out (HNR.out.2.2.1 _ (by have := hPl.out; omega)), HNR.out.1, B3.out.trans (HNR.out.2.2.2 _ (by have := hPl.out; omega))⟩ ?_
      rintro W4 ⟨g3, h3, m3, b3⟩
      have RG4 := Lib.hid g3
      have RH4 := Lib.hid h3
      have RM4 := Lib.hid m3
      have B4 := Lib.hid b3
      clear g3 h3 m3 b3
      go_wp2_with fail
      refine (is_1 (s := ⟨#[40]⟩) (HT.out W4 B4.out) q8).mono ?_
      rintro e w' ⟨rfl, hw⟩
      have hw := hw.symm
      subst hw
      go_upto_region 41 with fail
      have hPl2 := hPl.out
      have hne1 : P ≠ w.heap.size := by omega
      have hne2 : P ≠ w.heap.size + 1 := by omega
      have SS : Hid (Sup W4 W1.heap.size m.kids (.slice none 0 0) (fun _ => False)) := Lib.hid (by rw [← hm]; exact ⟨nofun, fun V _ => KidsAt.nil V⟩)
      have RMm : Hid (RowAt W4 P 55 #[.int .i64 m.hd.kind, .string (bs m.hd.text), .string (bs m.hd.type), .int .i64 m.hd.n, .int .i64 m.hd.fr, .int .i64 m.hd.to_, .int .i64 m.hd.at_, .int .i64 m.hd.tat, .slice none 0 0]) := Lib.hid (by rw [← hm]; exact RM4.out)
      have iw : Hid (IntKind.i64.wrap ((a : Int) + 1) = (a : Int) + 1) := Lib.hid (Go.IntWalk.i64_in _ (by omega))
      have z0 := RG4.out.frozen 0
      have z1 := RG4.out.frozen 1
      have z2 := RG4.out.frozen 2
      have z3 := RG4.out.frozen 3
      have z4 := RG4.out.frozen 4
      have z5 := RG4.out.frozen 5
      have z6 := RG4.out.frozen 6
      have z7 := RG4.out.frozen 7
      have z8 := RG4.out.frozen 8
      have y0 := RH4.out.frozen 0
      have y1 := RH4.out.frozen 1
      obtain ⟨r0, r1, r2, r3, r4, r5, r6, r7, r8⟩ := (show Cells W4 w.heap.size 0 ⟨0, [], [], 0, 0, 0, 0, 0⟩ (.slice none 0 0) from Cells.row RG4.out)
      simp only [Nat.zero_add] at r1 r2 r3 r4 r5 r6 r7 r8
      have s0 : W4.cell? ⟨w.heap.size + 1, 0, none⟩ = some (.int .i64 0) := RH4.out.cell rfl
      have s1 : W4.cell? ⟨w.heap.size + 1, 1, none⟩ = some (.int .i64 0) := RH4.out.cell rfl
      have F0 : Hid (W4.cell? ⟨P, 0, none⟩ = some (.int .i64 m.hd.kind) ∧ W4.cell? ⟨P, 1, none⟩ = some (.string (bs m.hd.text)) ∧ W4.cell? ⟨P, 2, none⟩ = some (.string (bs m.hd.type)) ∧ W4.cell? ⟨P, 3, none⟩ = some (.int .i64 m.hd.n) ∧ W4.cell? ⟨P, 4, none⟩ = some (.int .i64 m.hd.fr) ∧ W4.cell? ⟨P, 5, none⟩ = some (.int .i64 m.hd.to_) ∧ W4.cell? ⟨P, 6, none⟩ = some (.int .i64 m.hd.at_) ∧ W4.cell? ⟨P, 7, none⟩ = some (.int .i64 m.hd.tat) ∧ W4.cell? ⟨P, 8, none⟩ = some (.slice none 0 0)) := Lib.hid ⟨RMm.out.cell rfl, RMm.out.cell rfl, RMm.out.cell rfl, RMm.out.cell rfl, RMm.out.cell rfl, RMm.out.cell rfl, RMm.out.cell rfl, RMm.out.cell rfl, RMm.out.cell rfl⟩
      have FD : Hid (W4.drew.cell? ⟨P, 0, none⟩ = some (.int .i64 m.hd.kind) ∧ W4.drew.cell? ⟨P, 1, none⟩ = some (.string (bs m.hd.text)) ∧ W4.drew.cell? ⟨P, 2, none⟩ = some (.string (bs m.hd.type)) ∧ W4.drew.cell? ⟨P, 3, none⟩ = some (.int .i64 m.hd.n) ∧ W4.drew.cell? ⟨P, 4, none⟩ = some (.int .i64 m.hd.fr) ∧ W4.drew.cell? ⟨P, 5, none⟩ = some (.int .i64 m.hd.to_) ∧ W4.drew.cell? ⟨P, 6, none⟩ = some (.int .i64 m.hd.at_) ∧ W4.drew.cell? ⟨P, 7, none⟩ = some (.int .i64 m.hd.tat) ∧ W4.drew.cell? ⟨P, 8, none⟩ = some (.slice none 0 0)) := Lib.hid F0.out
      have RGd : Hid (RowAt W4.drew w.heap.size 55 #[.int .i64 0, .string ⟨#[]⟩, .string ⟨#[]⟩, .int .i64 0, .int .i64 0, .int .i64 0, .int .i64 0, .int .i64 0, .slice none 0 0]) := Lib.hid RG4.out
      have RHd : Hid (RowAt W4.drew (w.heap.size + 1) 68 #[.int .i64 0, .int .i64 0]) := Lib.hid RH4.out
      have RMd : Hid (RowAt W4.drew P 55 #[.int .i64 m.hd.kind, .string (bs m.hd.text), .string (bs m.hd.type), .int .i64 m.hd.n, .int .i64 m.hd.fr, .int .i64 m.hd.to_, .int .i64 m.hd.at_, .int .i64 m.hd.tat, .slice none 0 0]) := Lib.hid RMm.out
      have BDd : Hid (Below w.heap.size w W4.drew) := Lib.hid (below_drew B4.out)
      have SDd : Hid (Sup W4.drew W1.heap.size m.kids (.slice none 0 0) (fun _ => False)) := Lib.hid (SS.out.below (below_drew (Below.refl _ _)))
      go_region_held3 (fun W => W.cell? ⟨P, 0, none⟩ = some (.int .i64 m.hd.kind) ∧ W.cell? ⟨P, 1, none⟩ = some (.string (bs m.hd.text)) ∧ W.cell? ⟨P, 2, none⟩ = some (.string (bs m.hd.type)) ∧ W.cell? ⟨P, 3, none⟩ = some (.int .i64 m.hd.n) ∧ W.cell? ⟨P, 4, none⟩ = some (.int .i64 m.hd.fr) ∧ W.cell? ⟨P, 5, none⟩ = some (.int .i64 m.hd.to_) ∧ W.cell? ⟨P, 6, none⟩ = some (.int .i64 m.hd.at_) ∧ W.cell? ⟨P, 7, none⟩ = some (.int .i64 m.hd.tat) ∧ W.cell? ⟨P, 8, none⟩ = some (.slice none 0 0))
        (first | (with_reducible exact F0.out) | (with_reducible exact FD.out) | (with_reducible exact F5.out) | (with_reducible exact F6.out) | (with_reducible exact F7.out))
        (first | (go_at_call 46; ((with_reducible refine (fine_any _).mono ?_); rintro e wf ⟨rfl, bf⟩; have R5 := RMd.out.later bf; have F5 := Lib.hid (show wf.cell? ⟨P, 0, none⟩ = some (.int .i64 m.hd.kind) ∧ wf.cell? ⟨P, 1, none⟩ = some (.string (bs m.hd.text)) ∧ wf.cell? ⟨P, 2, none⟩ = some (.string (bs m.hd.type)) ∧ wf.cell? ⟨P, 3, none⟩ = some (.int .i64 m.hd.n) ∧ wf.cell? ⟨P, 4, none⟩ = some (.int .i64 m.hd.fr) ∧ wf.cell? ⟨P, 5, none⟩ = some (.int .i64 m.hd.to_) ∧ wf.cell? ⟨P, 6, none⟩ = some (.int .i64 m.hd.at_) ∧ wf.cell? ⟨P, 7, none⟩ = some (.int .i64 m.hd.tat) ∧ wf.cell? ⟨P, 8, none⟩ = some (.slice none 0 0) from ⟨R5.cell rfl, R5.cell rfl, R5.cell rfl, R5.cell rfl, R5.cell rfl, R5.cell rfl, R5.cell rfl, R5.cell rfl, R5.cell rfl⟩); have RGf := Lib.hid (RGd.out.later bf); have RHf := Lib.hid (RHd.out.later bf); have F6 := Lib.hid (nineC (RowAt.same R5 ((nine RGf.out m.hd (.slice none 0 0)).2.other P (by omega)))); have N9 := (nine RGf.out m.hd (.slice none 0 0)).2; have F7 := Lib.hid (nineC (((RowAt.same R5 (N9.other P (by omega))).other (c := w.heap.size + 1) (by omega) 0 (.int .i64 (-1))).other (c := w.heap.size + 1) (by omega) 1 (.int .i64 0))); clear N9; have Bf := Lib.hid (BDd.out.trans (bf.mono BDd.out.size)); have Sf := Lib.hid (SDd.out.below bf); have z0 := RGf.out.frozen 0; have z1 := RGf.out.frozen 1; have z2 := RGf.out.frozen 2; have z3 := RGf.out.frozen 3; have z4 := RGf.out.frozen 4; have z5 := RGf.out.frozen 5; have z6 := RGf.out.frozen 6; have z7 := RGf.out.frozen 7; have z8 := RGf.out.frozen 8; have y0 := RHf.out.frozen 0; have y1 := RHf.out.frozen 1; obtain ⟨r0, r1, r2, r3, r4, r5, r6, r7, r8⟩ := (show Cells wf w.heap.size 0 ⟨0, [], [], 0, 0, 0, 0, 0⟩ (.slice none 0 0) from Cells.row RGf.out); simp only [Nat.zero_add] at r1 r2 r3 r4 r5 r6 r7 r8; have s0 : wf.cell? ⟨w.heap.size + 1, 0, none⟩ = some (.int .i64 0) := RHf.out.cell rfl; have s1 : wf.cell? ⟨w.heap.size + 1, 1, none⟩ = some (.int .i64 0) := RHf.out.cell rfl; clear bf R5)))
      all_goals
        go_wp2_with fail
        obtain ⟨k1, k2, k3, k4, k5⟩ := both_rows RGf.out RHf.out (by omega) m.hd (.slice none 0 0) (-1) 0 rfl
        refine fin_node 6 7 8 rfl rfl rfl k1 k2 ⟨⟨none, 0, 0, (fun _ => False), (by show Ending.returned (.tuple #[_, .int .i64 (IntKind.i64.wrap ((a : Int) + 1)), _]) = _; rw [iw.out]; rfl), sup_past Sf.out k3 k4 (by omega) (by omega) B1.out.size⟩, Bf.out.trans (k5 _ (Nat.le_refl _) (by omega))⟩
    | true =>
      rw [q8, if_pos rfl] at hr
      have ha2 : a + 2 < T.length := isT_lt HG.out.e q8
      obtain ⟨x, hx⟩ : ∃ x, argsF f T (a + 2) d = x := ⟨_, rfl⟩
      have gx := ((ex_ok HG.out.e f).args (a + 2) d ha2).2
      rw [hx] at hr gx
      cases x with
      | none => cases hr
      | some x =>
      have CX := Lib.hid (fun W hW => arguments_any (.slice (some ⟨tb, to_, none⟩) T.length cv) T HG.out f (fun f2 hf2 => expression_any _ T HG.out f2 (Ih.out f2 (by omega))) (a + 2) d x W hx ha2 hd (HT.out W hW))
      clear hx
      go_enter Tryd.func87, Tryd.ntmps87
      go_upto_region 1 with fail
      refine wp_gen (fun W => RowAt W w.heap.size 55 #[.int .i64 0, .string ⟨#[]⟩, .string ⟨#[]⟩, .int .i64 0, .int .i64 0, .int .i64 0, .int .i64 0, .int .i64 0, .slice none 0 0] ∧ RowAt W (w.heap.size + 1) 68 #[.int .i64 0, .int .i64 0] ∧ Below w.heap.size w W) ⟨(row_new rfl).alloc _, row_new (by simp), ((Below.refl _ w).alloc (Nat.le_refl _) _).alloc (by simp) _⟩ ?_
      rintro W1 ⟨g1, h1, b1⟩
      have RG1 := Lib.hid g1
      have RH1 := Lib.hid h1
      have B1 := Lib.hid b1
      have hlt1 := h1.lt
      clear g1 h1 b1
      have tk0 := (HC.out W1 B1.out a ha).1
      have e0 : ((tokT T a).kind == 2) = false := by simpa using hk
      have i1 : (0 : Int) ≤ (a : Int) := by omega
      have i2 : (a : Int) < (T.length : Int) := by omega
      go_wp2_with fail
      refine (is_at (s := ⟨#[116, 114, 117, 101]⟩) (HT.out W1 B1.out) q1).mono ?_
      rintro e w' ⟨rfl, hw⟩
      have hw := hw.symm
      subst hw
      go_wp2_with fail
      refine (is_at (s := ⟨#[102, 97, 108, 115, 101]⟩) (HT.out W1 B1.out) q2).mono ?_
      rintro e w' ⟨rfl, hw⟩
      have hw := hw.symm
      subst hw
      go_wp2_with fail
      refine (is_at (s := ⟨#[110, 117, 108, 108]⟩) (HT.out W1 B1.out) q3).mono ?_
      rintro e w' ⟨rfl, hw⟩
      have hw := hw.symm
      subst hw
      go_wp2_with fail
      refine (is_at (s := ⟨#[116, 104, 105, 115]⟩) (HT.out W1 B1.out) q4).mono ?_
      rintro e w' ⟨rfl, hw⟩
      have hw := hw.symm
      subst hw
      go_wp2_with fail
      refine (is_at (s := ⟨#[110, 101, 119]⟩) (HT.out W1 B1.out) q5).mono ?_
      rintro e w' ⟨rfl, hw⟩
      have hw := hw.symm
      subst hw
      go_wp2_with fail
      refine (is_at (s := ⟨#[40]⟩) (HT.out W1 B1.out) q6).mono ?_
      rintro e w' ⟨rfl, hw⟩
      have hw := hw.symm
      subst hw
      go_wp2_with fail
      refine (name_at (HT.out W1 B1.out) q7).mono ?_
      rintro e w' ⟨rfl, hw⟩
      have hw := hw.symm
      subst hw
      go_wp2_with fail
      refine (made_at (.slice (some ⟨tb, to_, none⟩) T.length cv) none 0 0 T HG.out 17 a (a + 1) ha (by omega) (by omega) W1 (HT.out W1 B1.out)).mono ?_
      rintro e w8 ⟨rfl, b8⟩
      have RG8 := Lib.hid (RG1.out.later b8)
      have RH8 := Lib.hid (RH1.out.later b8)
      have B8 := Lib.hid (B1.out.trans (b8.mono B1.out.size))
      have hs8 := b8.size
      clear b8
      obtain ⟨P, hP⟩ : ∃ P, w8.heap.size = P := ⟨_, rfl⟩
      have hPl : Hid (w.heap.size + 2 ≤ P) := Lib.hid (by omega)
      go_upto_region 38 with fail
      refine wp_gen (fun W => RowAt W w.heap.size 55 #[.int .i64 0, .string ⟨#[]⟩, .string ⟨#[]⟩, .int .i64 0, .int .i64 0, .int .i64 0, .int .i64 0, .int .i64 0, .slice none 0 0] ∧ RowAt W (w.heap.size + 1) 68 #[.int .i64 0, .int .i64 0] ∧ RowAt W w8.heap.size 55 ((madeH T 17 a (a + 1)).vals (.slice none 0 0)) ∧ Below w.heap.size w W) ⟨RG8.out.alloc _, RH8.out.alloc _, row_new rfl, B8.out.alloc (by omega) _⟩ ?_
      rintro W3 ⟨g3, h3, m3, b3⟩
      rw [hP] at m3
      have RG3 := Lib.hid g3
      have RH3 := Lib.hid h3
      have RM3 := Lib.hid m3
      have B3 := Lib.hid b3
      clear g3 h3 m3 b3
      have z1 := RM3.out.frozen 1
      have z6 := RM3.out.frozen 6
      have c1 : W3.cell? ⟨P, 1, none⟩ = some (.string (bs (madeH T 17 a (a + 1)).text)) := RM3.out.cell rfl
      have c6 : W3.cell? ⟨P, 6, none⟩ = some (.int .i64 (madeH T 17 a (a + 1)).at_) := RM3.out.cell rfl
      obtain ⟨-, tA1, tA2⟩ := HC.out W3 B3.out (a) ha
      have htb : tb < w.heap.size := cell_lt ((HC.out w (Below.refl _ _) 0 HG.out.e.pos).2.1)
      have neP : tb ≠ P := by have := hPl.out; omega
      have HNR := Lib.hid (named_row (vs := #[]) (madeH T 17 a (a + 1)) (.slice none 0 0) RM3.out (tokT T (a)).text (tokT T (a)).at_ rfl)
      go_upto_region 40 with fail
      refine wp_gen (fun W => RowAt W w.heap.size 55 #[.int .i64 0, .string ⟨#[]⟩, .string ⟨#[]⟩, .int .i64 0, .int .i64 0, .int .i64 0, .int .i64 0, .int .i64 0, .slice none 0 0] ∧ RowAt W (w.heap.size + 1) 68 #[.int .i64 0, .int .i64 0] ∧ RowAt W P 55 ((namedH T (madeH T 17 a (a + 1)) (a)).vals (.slice none 0 0)) ∧ Below w.heap.size w W) ⟨RowAt.same RG3.out (HNR.out.2.2.1 _ (by have := hPl.out; omega)), RowAt.same RH3.out (HNR.out.2.2.1 _ (by have := hPl.out; omega)), HNR.out.1, B3.out.trans (HNR.out.2.2.2 _ (by have := hPl.out; omega))⟩ ?_
      rintro W4 ⟨g3, h3, m3, b3⟩
      have RG4 := Lib.hid g3
      have RH4 := Lib.hid h3
      have RM4 := Lib.hid m3
      have B4 := Lib.hid b3
      clear g3 h3 m3 b3
      go_wp2_with fail
      refine (is_1 (s := ⟨#[40]⟩) (HT.out W4 B4.out) q8).mono ?_
      rintro e w' ⟨rfl, hw⟩
      have hw := hw.symm
      subst hw
      go_wp2_with fail
      refine (CX.out W4 B4.out).mono ?_
      rintro e w5 ⟨hli, b5⟩
      have RG5 := Lib.hid (RG4.out.later b5)
      have RH5 := Lib.hid (RH4.out.later b5)
      have RM5 := Lib.hid (RM4.out.later b5)
      have B5 := Lib.hid (B4.out.trans (b5.mono B4.out.size))
      have hs5 := b5.size
      have hP4 : P < W4.heap.size := RM4.out.lt
      have hPl2 := hPl.out
      clear b5
      cases x with
      | bad p c =>
        obtain rfl : PR.bad p c = r := Option.some.inj hr
        obtain rfl := hli
        have p1 : decide ((p : Int) ≥ 0) = true := decide_eq_true (by omega)
        have p2 : decide ((0 : Int) ≤ (p : Int)) = true := decide_eq_true (by omega)
        go_wp2_with fail
        refine wp_gen (fun W => RowAt W w.heap.size 55 #[.int .i64 0, .string ⟨#[]⟩, .string ⟨#[]⟩, .int .i64 0, .int .i64 0, .int .i64 0, .int .i64 0, .int .i64 0, .slice none 0 0] ∧ RowAt W (w.heap.size + 1) 68 #[.int .i64 0, .int .i64 0] ∧ RowAt W w5.heap.size 68 #[.int .i64 (p : Nat), .int .i64 c] ∧ Below w.heap.size w W) ⟨RG5.out.alloc _, RH5.out.alloc _, row_new rfl, B5.out.alloc (by omega) _⟩ ?_
        rintro W3 ⟨g3, h3, t3, b3⟩
        have z0 := g3.frozen 0
        have z1 := g3.frozen 1
        have z2 := g3.frozen 2
        have z3 := g3.frozen 3
        have z4 := g3.frozen 4
        have z5 := g3.frozen 5
        have z6 := g3.frozen 6
        have z7 := g3.frozen 7
        have z8 := g3.frozen 8
        have y0 := h3.frozen 0
        have y1 := h3.frozen 1
        obtain ⟨r0, r1, r2, r3, r4, r5, r6, r7, r8⟩ := (show Cells W3 w.heap.size 0 ⟨0, [], [], 0, 0, 0, 0, 0⟩ (.slice none 0 0) from Cells.row g3)
        simp only [Nat.zero_add] at r1 r2 r3 r4 r5 r6 r7 r8
        have s0 : W3.cell? ⟨w.heap.size + 1, 0, none⟩ = some (.int .i64 0) := h3.cell rfl
        have s1 : W3.cell? ⟨w.heap.size + 1, 1, none⟩ = some (.int .i64 0) := h3.cell rfl
        have t0 : W3.cell? ⟨w5.heap.size, 0, none⟩ = some (.int .i64 (p : Nat)) := t3.cell rfl
        have t1 : W3.cell? ⟨w5.heap.size, 1, none⟩ = some (.int .i64 c) := t3.cell rfl
        have ne1 : w5.heap.size ≠ w.heap.size := by omega
        have G3 := Lib.hid g3
        have H3 := Lib.hid h3
        have B3 := Lib.hid b3
        clear g3 h3 t3 b3
        go_region
        all_goals
          go_wp2_with fail
          obtain ⟨k1, k2, k3, k4, k5⟩ := both_rows_d G3.out H3.out (by omega) ⟨0, [], [], 0, 0, 0, 0, 0⟩ (.slice none 0 0) p c rfl
          exact fin_node 6 7 8 rfl rfl rfl k1 k2 ⟨rfl, B3.out.trans (k5 _ (Nat.le_refl _) (by omega))⟩
      | ok l b =>
        obtain ⟨v1, v2, v3⟩ := gx l b rfl
        obtain ⟨m, hm⟩ : ∃ m, (Nd.mk { namedH T (madeH T 17 a (a + 1)) a with kind := 19, to_ := endT T b } l) = m := ⟨_, rfl⟩
        have hr : some (PR.ok (Nd.mk { namedH T (madeH T 17 a (a + 1)) a with kind := 19, to_ := endT T b } l) b) = some r := hr
        rw [hm] at hr
        obtain rfl := Option.some.inj hr
        obtain ⟨vl, ps, rfl, ol, hl⟩ := hli
        obtain ⟨al, nl, cl, rfl⟩ := own_slice ol
        have O5 := Lib.hid ol
        have p1 : decide ((-1 : Int) ≥ 0) = false := by decide
        clear ol
        go_upto_region 45 with fail
        refine wp_gen (fun W => RowAt W w.heap.size 55 #[.int .i64 0, .string ⟨#[]⟩, .string ⟨#[]⟩, .int .i64 0, .int .i64 0, .int .i64 0, .int .i64 0, .int .i64 0, .slice none 0 0] ∧ RowAt W (w.heap.size + 1) 68 #[.int .i64 0, .int .i64 0] ∧ RowAt W P 55 ((namedH T (madeH T 17 a (a + 1)) a).vals (.slice none 0 0)) ∧ Below w5.heap.size w5 W) ⟨RG5.out.alloc _, RH5.out.alloc _, RM5.out.alloc _, (Below.refl _ _).alloc (Nat.le_refl _) _⟩ ?_
        rintro W6 ⟨g6, h6, m6, b6⟩
        have RG6 := Lib.hid g6
        have RH6 := Lib.hid h6
        have RM6 := Lib.hid m6
        have B6 := Lib.hid (B5.out.trans (b6.mono B5.out.size))
        have O6 := Lib.hid (O5.out.below b6)
        have hs6 := b6.size
        have z0 := m6.frozen 0
        have z5 := m6.frozen 5
        have z8 := m6.frozen 8
        have c0 : W6.cell? ⟨P, 0, none⟩ = some (.int .i64 (namedH T (madeH T 17 a (a + 1)) a).kind) := m6.cell rfl
        have c8 : W6.cell? ⟨P, 8, none⟩ = some (.slice none 0 0) := m6.cell rfl
        clear g6 h6 m6 b6
        go_upto_region 47 with fail
        refine wp_gen (fun W => RowAt W w.heap.size 55 #[.int .i64 0, .string ⟨#[]⟩, .string ⟨#[]⟩, .int .i64 0, .int .i64 0, .int .i64 0, .int .i64 0, .int .i64 0, .slice none 0 0] ∧ RowAt W (w.heap.size + 1) 68 #[.int .i64 0, .int .i64 0] ∧ RowAt W P 55 (({ namedH T (madeH T 17 a (a + 1)) a with kind := 19 } : Hd).vals (.slice al nl cl)) ∧ (∃ F, Sup W W4.heap.size l (.slice al nl cl) F) ∧ Below w.heap.size w W) ⟨(RG6.out.other (by omega) 0 _).other (by omega) 8 _, (RH6.out.other (by omega) 0 _).other (by omega) 8 _, set_kids (set_kind RM6.out 19) _, ?_, (B6.out.setCell (p := ⟨P, 0, none⟩) (by show w.heap.size ≤ P; omega) _).setCell (p := ⟨P, 8, none⟩) (by show w.heap.size ≤ P; omega) _⟩ ?_
        · obtain ⟨F, hF⟩ := O6.out.sup
          rw [hl] at hF
          refine ⟨F, hF.keep (by simp [World.setCell]) fun b hb => ?_⟩
          have := (hF.1 b hb).1
          exact (Below.heap_setCell _ _ _ b (by show b ≠ P; omega)).trans (Below.heap_setCell _ _ _ b (by show b ≠ P; omega))
        rintro W7 ⟨g7, h7, m7, ⟨F, s7⟩, b7⟩
        have RG7 := Lib.hid g7
        have RH7 := Lib.hid h7
        have RM7 := Lib.hid m7
        have B7 := Lib.hid b7
        have S7 := Lib.hid s7
        clear g7 h7 m7 s7 b7 z0 z5 z8 c0 c8
        go_wp2_with fail
        refine (end_at (.slice (some ⟨tb, to_, none⟩) T.length cv) T HG.out b (by omega) (by omega) W7 (HT.out W7 B7.out)).mono ?_
        rintro e w8 ⟨rfl, b8⟩
        have RG8 := Lib.hid (RG7.out.later b8)
        have RH8 := Lib.hid (RH7.out.later b8)
        have RM8 := Lib.hid (RM7.out.later b8)
        have B8 := Lib.hid (B7.out.trans (b8.mono B7.out.size))
        have S8 := Lib.hid (S7.out.below b8)
        have z5 := RM8.out.frozen 5
        have c5 : w8.cell? ⟨P, 5, none⟩ = some (.int .i64 ({ namedH T (madeH T 17 a (a + 1)) a with kind := 19 } : Hd).to_) := RM8.out.cell rfl
        clear b8
        go_upto_region 48 with fail
        refine wp_gen (fun W => RowAt W w.heap.size 55 #[.int .i64 0, .string ⟨#[]⟩, .string ⟨#[]⟩, .int .i64 0, .int .i64 0, .int .i64 0, .int .i64 0, .int .i64 0, .slice none 0 0] ∧ RowAt W (w.heap.size + 1) 68 #[.int .i64 0, .int .i64 0] ∧ RowAt W P 55 #[.int .i64 m.hd.kind, .string (bs m.hd.text), .string (bs m.hd.type), .int .i64 m.hd.n, .int .i64 m.hd.fr, .int .i64 m.hd.to_, .int .i64 m.hd.at_, .int .i64 m.hd.tat, .slice al nl cl] ∧ Sup W W1.heap.size m.kids (.slice al nl cl) F ∧ Below w.heap.size w W) ⟨RG8.out.other (by omega) 5 _, RH8.out.other (by omega) 5 _, by rw [← hm]; exact set_to RM8.out _, ?_, B8.out.setCell (p := ⟨P, 5, none⟩) (by show w.heap.size ≤ P; omega) _⟩ ?_
        · rw [← hm]
          refine sup_low (S8.out.keep (by simp [World.setCell]) fun b hb => ?_) (by have := B1.out.size; omega)
          have := (S8.out.1 b hb).1
          exact Below.heap_setCell _ _ _ b (by show b ≠ P; omega)
        rintro W9 ⟨g9, h9, m9, s9, b9⟩
        have RGq := Lib.hid g9
        have RHq := Lib.hid h9
        have RMq := Lib.hid m9
        have Bq := Lib.hid b9
        have Sq := Lib.hid s9
        clear g9 h9 m9 s9 b9 z5 c5
        have hne1 : P ≠ w.heap.size := by omega
        have hne2 : P ≠ w.heap.size + 1 := by omega
        have z0 := RGq.out.frozen 0
        have z1 := RGq.out.frozen 1
        have z2 := RGq.out.frozen 2
        have z3 := RGq.out.frozen 3
        have z4 := RGq.out.frozen 4
        have z5 := RGq.out.frozen 5
        have z6 := RGq.out.frozen 6
        have z7 := RGq.out.frozen 7
        have z8 := RGq.out.frozen 8
        have y0 := RHq.out.frozen 0
        have y1 := RHq.out.frozen 1
        obtain ⟨r0, r1, r2, r3, r4, r5, r6, r7, r8⟩ := (show Cells W9 w.heap.size 0 ⟨0, [], [], 0, 0, 0, 0, 0⟩ (.slice none 0 0) from Cells.row RGq.out)
        simp only [Nat.zero_add] at r1 r2 r3 r4 r5 r6 r7 r8
        have s0 : W9.cell? ⟨w.heap.size + 1, 0, none⟩ = some (.int .i64 0) := RHq.out.cell rfl
        have s1 : W9.cell? ⟨w.heap.size + 1, 1, none⟩ = some (.int .i64 0) := RHq.out.cell rfl
        have F0 : Hid (W9.cell? ⟨P, 0, none⟩ = some (.int .i64 m.hd.kind) ∧ W9.cell? ⟨P, 1, none⟩ = some (.string (bs m.hd.text)) ∧ W9.cell? ⟨P, 2, none⟩ = some (.string (bs m.hd.type)) ∧ W9.cell? ⟨P, 3, none⟩ = some (.int .i64 m.hd.n) ∧ W9.cell? ⟨P, 4, none⟩ = some (.int .i64 m.hd.fr) ∧ W9.cell? ⟨P, 5, none⟩ = some (.int .i64 m.hd.to_) ∧ W9.cell? ⟨P, 6, none⟩ = some (.int .i64 m.hd.at_) ∧ W9.cell? ⟨P, 7, none⟩ = some (.int .i64 m.hd.tat) ∧ W9.cell? ⟨P, 8, none⟩ = some (.slice al nl cl)) := Lib.hid ⟨RMq.out.cell rfl, RMq.out.cell rfl, RMq.out.cell rfl, RMq.out.cell rfl, RMq.out.cell rfl, RMq.out.cell rfl, RMq.out.cell rfl, RMq.out.cell rfl, RMq.out.cell rfl⟩
        have FD : Hid (W9.drew.cell? ⟨P, 0, none⟩ = some (.int .i64 m.hd.kind) ∧ W9.drew.cell? ⟨P, 1, none⟩ = some (.string (bs m.hd.text)) ∧ W9.drew.cell? ⟨P, 2, none⟩ = some (.string (bs m.hd.type)) ∧ W9.drew.cell? ⟨P, 3, none⟩ = some (.int .i64 m.hd.n) ∧ W9.drew.cell? ⟨P, 4, none⟩ = some (.int .i64 m.hd.fr) ∧ W9.drew.cell? ⟨P, 5, none⟩ = some (.int .i64 m.hd.to_) ∧ W9.drew.cell? ⟨P, 6, none⟩ = some (.int .i64 m.hd.at_) ∧ W9.drew.cell? ⟨P, 7, none⟩ = some (.int .i64 m.hd.tat) ∧ W9.drew.cell? ⟨P, 8, none⟩ = some (.slice al nl cl)) := Lib.hid F0.out
        have RGd : Hid (RowAt W9.drew w.heap.size 55 #[.int .i64 0, .string ⟨#[]⟩, .string ⟨#[]⟩, .int .i64 0, .int .i64 0, .int .i64 0, .int .i64 0, .int .i64 0, .slice none 0 0]) := Lib.hid RGq.out
        have RHd : Hid (RowAt W9.drew (w.heap.size + 1) 68 #[.int .i64 0, .int .i64 0]) := Lib.hid RHq.out
        have RMd : Hid (RowAt W9.drew P 55 #[.int .i64 m.hd.kind, .string (bs m.hd.text), .string (bs m.hd.type), .int .i64 m.hd.n, .int .i64 m.hd.fr, .int .i64 m.hd.to_, .int .i64 m.hd.at_, .int .i64 m.hd.tat, .slice al nl cl]) := Lib.hid RMq.out
        have BDd : Hid (Below w.heap.size w W9.drew) := Lib.hid (below_drew Bq.out)
        have SDd : Hid (Sup W9.drew W1.heap.size m.kids (.slice al nl cl) F) := Lib.hid (Sq.out.below (below_drew (Below.refl _ _)))
        go_region_held3 (fun W => W.cell? ⟨P, 0, none⟩ = some (.int .i64 m.hd.kind) ∧ W.cell? ⟨P, 1, none⟩ = some (.string (bs m.hd.text)) ∧ W.cell? ⟨P, 2, none⟩ = some (.string (bs m.hd.type)) ∧ W.cell? ⟨P, 3, none⟩ = some (.int .i64 m.hd.n) ∧ W.cell? ⟨P, 4, none⟩ = some (.int .i64 m.hd.fr) ∧ W.cell? ⟨P, 5, none⟩ = some (.int .i64 m.hd.to_) ∧ W.cell? ⟨P, 6, none⟩ = some (.int .i64 m.hd.at_) ∧ W.cell? ⟨P, 7, none⟩ = some (.int .i64 m.hd.tat) ∧ W.cell? ⟨P, 8, none⟩ = some (.slice al nl cl))
          (first | (with_reducible exact F0.out) | (with_reducible exact FD.out) | (with_reducible exact F5.out) | (with_reducible exact F6.out) | (with_reducible exact F7.out))
          (first | (go_at_call 46; ((with_reducible refine (fine_any _).mono ?_); rintro e wf ⟨rfl, bf⟩; have R5 := RMd.out.later bf; have F5 := Lib.hid (show wf.cell? ⟨P, 0, none⟩ = some (.int .i64 m.hd.kind) ∧ wf.cell? ⟨P, 1, none⟩ = some (.string (bs m.hd.text)) ∧ wf.cell? ⟨P, 2, none⟩ = some (.string (bs m.hd.type)) ∧ wf.cell? ⟨P, 3, none⟩ = some (.int .i64 m.hd.n) ∧ wf.cell? ⟨P, 4, none⟩ = some (.int .i64 m.hd.fr) ∧ wf.cell? ⟨P, 5, none⟩ = some (.int .i64 m.hd.to_) ∧ wf.cell? ⟨P, 6, none⟩ = some (.int .i64 m.hd.at_) ∧ wf.cell? ⟨P, 7, none⟩ = some (.int .i64 m.hd.tat) ∧ wf.cell? ⟨P, 8, none⟩ = some (.slice al nl cl) from ⟨R5.cell rfl, R5.cell rfl, R5.cell rfl, R5.cell rfl, R5.cell rfl, R5.cell rfl, R5.cell rfl, R5.cell rfl, R5.cell rfl⟩); have RGf := Lib.hid (RGd.out.later bf); have RHf := Lib.hid (RHd.out.later bf); have F6 := Lib.hid (nineC (RowAt.same R5 ((nine RGf.out m.hd (.slice al nl cl)).2.other P (by omega)))); have N9 := (nine RGf.out m.hd (.slice al nl cl)).2; have F7 := Lib.hid (nineC (((RowAt.same R5 (N9.other P (by omega))).other (c := w.heap.size + 1) (by omega) 0 (.int .i64 (-1))).other (c := w.heap.size + 1) (by omega) 1 (.int .i64 0))); clear N9; have Bf := Lib.hid (BDd.out.trans (bf.mono BDd.out.size)); have Sf := Lib.hid (SDd.out.below bf); have z0 := RGf.out.frozen 0; have z1 := RGf.out.frozen 1; have z2 := RGf.out.frozen 2; have z3 := RGf.out.frozen 3; have z4 := RGf.out.frozen 4; have z5 := RGf.out.frozen 5; have z6 := RGf.out.frozen 6; have z7 := RGf.out.frozen 7; have z8 := RGf.out.frozen 8; have y0 := RHf.out.frozen 0; have y1 := RHf.out.frozen 1; obtain ⟨r0, r1, r2, r3, r4, r5, r6, r7, r8⟩ := (show Cells wf w.heap.size 0 ⟨0, [], [], 0, 0, 0, 0, 0⟩ (.slice none 0 0) from Cells.row RGf.out); simp only [Nat.zero_add] at r1 r2 r3 r4 r5 r6 r7 r8; have s0 : wf.cell? ⟨w.heap.size + 1, 0, none⟩ = some (.int .i64 0) := RHf.out.cell rfl; have s1 : wf.cell? ⟨w.heap.size + 1, 1, none⟩ = some (.int .i64 0) := RHf.out.cell rfl; clear bf R5)))
        all_goals
          go_wp2_with fail
          obtain ⟨k1, k2, k3, k4, k5⟩ := both_rows RGf.out RHf.out (by omega) m.hd (.slice al nl cl) (-1) 0 rfl
          refine fin_node 6 7 8 rfl rfl rfl k1 k2 ⟨⟨al, nl, cl, F, rfl, sup_past Sf.out k3 k4 (by omega) (by omega) B1.out.size⟩, Bf.out.trans (k5 _ (Nat.le_refl _) (by omega))⟩
end Go.Proofs.YtbnbmjdjkadgoaaDoor.X
