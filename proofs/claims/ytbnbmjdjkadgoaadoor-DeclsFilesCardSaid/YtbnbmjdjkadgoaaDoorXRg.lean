/-
  For the laws on the parser: expressions with an operator ahead, or with parts behind. Condition: the tokens are a text's.
-/
import Derived.Test.YtbnbmjdjkadgoaaDoorXRf
namespace Go.Proofs.YtbnbmjdjkadgoaaDoor.X
open Go.RowKit Go.Shelf
set_option linter.unusedSimpArgs false
set_option linter.unusedVariables false

theorem own_q {W : World} {P : Nat → Prop} {base K : Nat} {ps : List Pr} (h : RowAt W K 55 (fv ps).toArray) (hb : base ≤ K) (hl : ps.length ≤ maxLen) (hP : P K) (hs : ∀ p ∈ ps, ∃ F, Sup W base p.1.kids p.2 F ∧ ∀ b, F b → b ≠ K ∧ P b) : OwnQ P base W (.slice (some ⟨K, 0, none⟩) ps.length ps.length) ps := by
  have hk : W.heap[K]? = some (.cells (fv ps).toArray 55 (0, 0)) := h
  refine ⟨⟨?_, .inr ⟨K, ps.length, (fv ps).toArray, rfl, hb, hk, Nat.le_refl _, hl, ?_, ?_⟩⟩, Nat.le_trans hb (Nat.le_of_lt h.lt), fun b hb => ?_, fun p hp => ?_⟩
  · rw [fv_len]
  · simp [fv_len]
  · rw [List.take_of_length_le (by simp [fv_len])]
  · obtain rfl : K = b := Option.some.inj hb
    exact hP
  · obtain ⟨F, h1, h2⟩ := hs p hp
    exact ⟨F, h1, fun b hF => ⟨fun e => (h2 b hF).1 (by simpa [Value.ownBlock] using e.symm), (h2 b hF).2⟩⟩
theorem OwnQ.below {P : Nat → Prop} {base : Nat} {W W' : World} {v : Value} {ps : List Pr} (h : OwnQ P base W v ps) (hb : Below W.heap.size W W') : OwnQ P base W' v ps := by
  refine ⟨own_below h.row hb, Nat.le_trans h.bas hb.size, h.own, fun p hp => ?_⟩
  obtain ⟨F, h1, h2⟩ := h.sup p hp
  exact ⟨F, h1.below hb, h2⟩
/-- A node's name and its place are stored behind its nine cells. -/
theorem named_row {U : World} {D : Nat} {vs : Array Value} (h2 : Hd) (kv : Value) (R : RowAt U D 55 (h2.vals kv)) (t : By) (p : Int) {V : World} (hV : (U.setCell ⟨D, 1, none⟩ (.string (bs t))).setCell ⟨D, 6, none⟩ (.int .i64 p) = V) :
    RowAt V D 55 (({ h2 with text := t, at_ := p } : Hd).vals kv) ∧ V.heap.size = U.heap.size ∧ (∀ b, b ≠ D → V.heap[b]? = U.heap[b]?) ∧ ∀ B, B ≤ D → Below B U V := by
  subst hV
  refine ⟨?_, by simp [World.setCell], fun b h2 => (Below.heap_setCell _ _ _ b (by simpa using h2)).trans (Below.heap_setCell _ _ _ b (by simpa using h2)), fun B h2 => ((Below.refl _ _).setCell (p := ⟨D, 1, none⟩) h2 _).setCell (p := ⟨D, 6, none⟩) h2 _⟩
  have R9 := (R.set 1 (.string (bs t))).set 6 (.int .i64 p)
  simp only [Hd.vals, List.setIfInBounds_toArray, List.set_cons_zero, List.set_cons_succ] at R9 ⊢
  exact R9
theorem cell_lt {W : World} {b off : Nat} {v : Value} (h : W.cell? ⟨b, off, none⟩ = some v) : b < W.heap.size := by
  rcases Nat.lt_or_ge b W.heap.size with h1 | h1
  · exact h1
  · simp [World.cell?, Array.getElem?_eq_none h1] at h
theorem kind_22 {T : List Tk} {a : Nat} (h : isT T a sNot = true) : (tokT T a).text = sNot := by
  unfold isT at h
  unfold tokT
  split at h
  · rename_i t ht
    rw [ht]
    simp at h
    exact h.1.1
  · cases h
theorem kind_23 {T : List Tk} {a : Nat} (h : isT T a sNeg = true) : (tokT T a).text = sNeg := by
  unfold isT at h
  unfold tokT
  split at h
  · rename_i t ht
    rw [ht]
    simp at h
    exact h.1.1
  · cases h
set_option maxRecDepth 100000 in
set_option maxHeartbeats 16000000 in
theorem unary_any (v : Value) (T : List Tk) (hT : GoodT T) (f : Nat) (ih : ∀ f', f' ≤ f → ExSpec v T f') (a d : Nat) (r : PR Nd) (w : World) (hr : unaryF (f + 1) T a d = some r) (ha : a < T.length) (hd : d ≤ 80) (h : Toks w v T) :
    Calls Tryd.prog 85 #[v, .int .i64 (a : Nat), .int .i64 (d : Nat)] w fun e w' => NodeIs r w.heap.size e w' ∧ Below w.heap.size w w' := by
  have HT := Lib.hid (fun W (hW : Below w.heap.size w W) => h.below hW)
  have HG := Lib.hid hT
  have hTl := hT.len
  obtain ⟨tb, to_, cv, rfl, -, -, hcell⟩ := h.fix hT.e.pos
  have HC := Lib.hid hcell
  clear h hcell
  have Ih := Lib.hid ih
  clear ih hT
  unfold unaryF at hr
  by_cases h60 : 60 < d
  · rw [if_pos h60] at hr
    obtain rfl := Option.some.inj hr
    have q0 : decide ((d : Int) > 60) = true := decide_eq_true (by omega)
    have q0' : decide (60 < d) = true := decide_eq_true h60
    go_enter Tryd.func85, Tryd.ntmps85
    go_upto_region 2 with fail
    refine wp_gen (fun W => RowAt W w.heap.size 55 #[.int .i64 0, .string ⟨#[]⟩, .string ⟨#[]⟩, .int .i64 0, .int .i64 0, .int .i64 0, .int .i64 0, .int .i64 0, .slice none 0 0] ∧ RowAt W (w.heap.size + 1) 68 #[.int .i64 0, .int .i64 0] ∧ Below w.heap.size w W) ⟨(row_new rfl).alloc _, row_new (by simp), ((Below.refl _ w).alloc (Nat.le_refl _) _).alloc (by simp) _⟩ ?_
    rintro W1 ⟨g1, h1, b1⟩
    have RG1 := Lib.hid g1
    have RH1 := Lib.hid h1
    have B1 := Lib.hid b1
    have hlt1 := h1.lt
    clear g1 h1 b1
    have z0 := RG1.out.frozen 0
    have z1 := RG1.out.frozen 1
    have z2 := RG1.out.frozen 2
    have z3 := RG1.out.frozen 3
    have z4 := RG1.out.frozen 4
    have z5 := RG1.out.frozen 5
    have z6 := RG1.out.frozen 6
    have z7 := RG1.out.frozen 7
    have z8 := RG1.out.frozen 8
    have y0 := RH1.out.frozen 0
    have y1 := RH1.out.frozen 1
    obtain ⟨r0, r1, r2, r3, r4, r5, r6, r7, r8⟩ := (show Cells W1 w.heap.size 0 ⟨0, [], [], 0, 0, 0, 0, 0⟩ (.slice none 0 0) from Cells.row RG1.out)
    simp only [Nat.zero_add] at r1 r2 r3 r4 r5 r6 r7 r8
    have s0 : W1.cell? ⟨w.heap.size + 1, 0, none⟩ = some (.int .i64 0) := RH1.out.cell rfl
    have s1 : W1.cell? ⟨w.heap.size + 1, 1, none⟩ = some (.int .i64 0) := RH1.out.cell rfl
    go_wp2_with fail
    obtain ⟨k1, k2, k3, k4, k5⟩ := both_rows RG1.out RH1.out (by omega) ⟨0, [], [], 0, 0, 0, 0, 0⟩ (.slice none 0 0) (a : Nat) 2 rfl
    exact fin_node 6 7 8 rfl rfl rfl k1 k2 ⟨rfl, B1.out.trans (k5 _ (Nat.le_refl _) (by omega))⟩
  · rw [if_neg h60] at hr
    have q0 : decide ((d : Int) > 60) = false := decide_eq_false (by omega)
    have q0' : decide (60 < d) = false := decide_eq_false h60
    cases q1 : isT T a sNot with
    | true =>
      rw [q1, if_pos (by simp)] at hr
      have ha1 : a + 1 < T.length := isT_lt HG.out.e q1
      have htx : (tokT T a).text = sNot := kind_22 q1
      obtain ⟨x, hx⟩ : ∃ x, unaryF f T (a + 1) (d + 1) = x := ⟨_, rfl⟩
      have gx := ((ex_ok HG.out.e f).unary (a + 1) (d + 1) ha1).2
      rw [hx] at hr gx
      cases x with
      | none => cases hr
      | some x =>
      have CX := Lib.hid (fun W hW => (Ih.out f (Nat.le_refl _)).unary (a + 1) (d + 1) x W hx ha1 (by omega) (HT.out W hW))
      clear hx
      go_enter Tryd.func85, Tryd.ntmps85
      go_wp2_with fail
      refine calls_gen (fun W => RowAt W w.heap.size 55 #[.int .i64 0, .string ⟨#[]⟩, .string ⟨#[]⟩, .int .i64 0, .int .i64 0, .int .i64 0, .int .i64 0, .int .i64 0, .slice none 0 0] ∧ RowAt W (w.heap.size + 1) 68 #[.int .i64 0, .int .i64 0] ∧ Below w.heap.size w W) ⟨(row_new rfl).alloc _, row_new (by simp), ((Below.refl _ w).alloc (Nat.le_refl _) _).alloc (by simp) _⟩ ?_
      rintro W1 ⟨g1, h1, b1⟩
      have RG1 := Lib.hid g1
      have RH1 := Lib.hid h1
      have B1 := Lib.hid b1
      have hlt1 := h1.lt
      clear g1 h1 b1
      refine (is_at (s := ⟨#[33]⟩) (HT.out W1 B1.out) q1).mono ?_
      rintro e w' ⟨rfl, hw⟩
      have hw := hw.symm
      subst hw
      go_wp2_with fail
      refine (CX.out W1 B1.out).mono ?_
      rintro e w2 ⟨hni, b2⟩
      have b12 := Lib.hid b2
      have RG2 := Lib.hid (RG1.out.later b2)
      have RH2 := Lib.hid (RH1.out.later b2)
      have B2 := Lib.hid (B1.out.trans (b2.mono B1.out.size))
      have hs2 := b2.size
      clear b2
      cases x with
      | bad p c =>
        obtain rfl : PR.bad p c = r := Option.some.inj hr
        obtain rfl := hni
        have p1 : decide ((p : Int) ≥ 0) = true := decide_eq_true (by omega)
        have p2 : decide ((0 : Int) ≤ (p : Int)) = true := decide_eq_true (by omega)
        go_wp2_with fail
        refine wp_gen (fun W => RowAt W w.heap.size 55 #[.int .i64 0, .string ⟨#[]⟩, .string ⟨#[]⟩, .int .i64 0, .int .i64 0, .int .i64 0, .int .i64 0, .int .i64 0, .slice none 0 0] ∧ RowAt W (w.heap.size + 1) 68 #[.int .i64 0, .int .i64 0] ∧ RowAt W (w2.heap.size + 1) 68 #[.int .i64 (p : Nat), .int .i64 c] ∧ Below w.heap.size w W) ⟨(RG2.out.alloc _).alloc _, (RH2.out.alloc _).alloc _, row_new (by simp), (B2.out.alloc (by omega) _).alloc (by simp; omega) _⟩ ?_
        rintro W3 ⟨g3, h3, t3, b3⟩
        have z0 := g3.frozen 0
        have z1 := g3.frozen 1
        have z2 := g3.frozen 2
        have z3 := g3.frozen 3
        have z4 := g3.frozen 4
        have z5 := g3.frozen 5
        have z6 := g3.frozen 6
        have z7 := g3.frozen 7
        have z8 := g3.frozen 8
        have y0 := h3.frozen 0
        have y1 := h3.frozen 1
        obtain ⟨r0, r1, r2, r3, r4, r5, r6, r7, r8⟩ := (show Cells W3 w.heap.size 0 ⟨0, [], [], 0, 0, 0, 0, 0⟩ (.slice none 0 0) from Cells.row g3)
        simp only [Nat.zero_add] at r1 r2 r3 r4 r5 r6 r7 r8
        have s0 : W3.cell? ⟨w.heap.size + 1, 0, none⟩ = some (.int .i64 0) := h3.cell rfl
        have s1 : W3.cell? ⟨w.heap.size + 1, 1, none⟩ = some (.int .i64 0) := h3.cell rfl
        have t0 : W3.cell? ⟨(w2.heap.size + 1), 0, none⟩ = some (.int .i64 (p : Nat)) := t3.cell rfl
        have t1 : W3.cell? ⟨(w2.heap.size + 1), 1, none⟩ = some (.int .i64 c) := t3.cell rfl
        have ne1 : (w2.heap.size + 1) ≠ w.heap.size := by omega
        have G3 := Lib.hid g3
        have H3 := Lib.hid h3
        have B3 := Lib.hid b3
        clear g3 h3 t3 b3
        go_region
        all_goals
          go_wp2_with fail
          obtain ⟨k1, k2, k3, k4, k5⟩ := both_rows_d G3.out H3.out (by omega) ⟨0, [], [], 0, 0, 0, 0, 0⟩ (.slice none 0 0) p c rfl
          exact fin_node 6 7 8 rfl rfl rfl k1 k2 ⟨rfl, B3.out.trans (k5 _ (Nat.le_refl _) (by omega))⟩
      | ok m next =>
        obtain ⟨u1, u2, u3⟩ := gx m next rfl
        have hr : some (PR.ok (Nd.mk (madeH T 22 a next) [m]) next) = some r := by simpa [bindP, htx, sNot, sNeg] using hr
        obtain rfl := Option.some.inj hr
        obtain ⟨ka, kn, kc, F, rfl, hsup⟩ := hni
        have HS := Lib.hid hsup
        have p1 : decide ((-1 : Int) ≥ 0) = false := by decide
        clear hsup
        go_upto_region 8 with fail
        refine wp_gen (fun W => RowAt W w.heap.size 55 #[.int .i64 0, .string ⟨#[]⟩, .string ⟨#[]⟩, .int .i64 0, .int .i64 0, .int .i64 0, .int .i64 0, .int .i64 0, .slice none 0 0] ∧ RowAt W (w.heap.size + 1) 68 #[.int .i64 0, .int .i64 0] ∧ RowAt W w2.heap.size 55 #[.int .i64 m.hd.kind, .string (bs m.hd.text), .string (bs m.hd.type), .int .i64 m.hd.n, .int .i64 m.hd.fr, .int .i64 m.hd.to_, .int .i64 m.hd.at_, .int .i64 m.hd.tat, .slice ka kn kc] ∧ Below w2.heap.size w2 W) ⟨(RG2.out.alloc _).alloc _, (RH2.out.alloc _).alloc _, (row_new rfl).alloc _, ((Below.refl _ _).alloc (Nat.le_refl _) _).alloc (by simp) _⟩ ?_
        rintro W3 ⟨g3, h3, m3, b3⟩
        have RG3 := Lib.hid g3
        have RH3 := Lib.hid h3
        have RM3 := Lib.hid m3
        have B3 := Lib.hid (B2.out.trans (b3.mono B2.out.size))
        have S3 := Lib.hid (HS.out.below b3)
        have b23 := Lib.hid b3
        have hs3 := b3.size
        have hm3 := m3.lt
        clear g3 h3 m3 b3
        have tk := (HC.out W3 B3.out a ha).2.1
        rw [htx] at tk
        have tk : W3.cell? ⟨tb, to_ + a * 4 + 1, none⟩ = some (.string ⟨#[33]⟩) := tk
        have i1 : (0 : Int) ≤ (a : Int) := by omega
        have i2 : (a : Int) < (T.length : Int) := by omega
        obtain ⟨d0, d1, d2, d3, d4, d5, d6, d7, d8⟩ := (show Cells W3 w2.heap.size 0 m.hd (.slice ka kn kc) from Cells.row RM3.out)
        simp only [Nat.zero_add] at d1 d2 d3 d4 d5 d6 d7 d8
        go_wp2_with fail
        refine calls_gen (fun W => RowAt W w.heap.size 55 #[.int .i64 0, .string ⟨#[]⟩, .string ⟨#[]⟩, .int .i64 0, .int .i64 0, .int .i64 0, .int .i64 0, .int .i64 0, .slice none 0 0] ∧ RowAt W (w.heap.size + 1) 68 #[.int .i64 0, .int .i64 0] ∧ RowAt W W3.heap.size 55 #[.int .i64 m.hd.kind, .string (bs m.hd.text), .string (bs m.hd.type), .int .i64 m.hd.n, .int .i64 m.hd.fr, .int .i64 m.hd.to_, .int .i64 m.hd.at_, .int .i64 m.hd.tat, .slice ka kn kc] ∧ Below W3.heap.size W3 W) ⟨RG3.out.alloc _, RH3.out.alloc _, row_new rfl, (Below.refl _ _).alloc (Nat.le_refl _) _⟩ ?_
        rintro W7 ⟨g7, h7, v7, b7⟩
        have B7 := Lib.hid (B3.out.trans (b7.mono B3.out.size))
        have hs7 := b7.size
        refine (made_at (.slice (some ⟨tb, to_, none⟩) T.length cv) (some ⟨W3.heap.size, 0, none⟩) 1 1 T HG.out 22 a (next) (by omega) (by omega) (by omega) W7 (HT.out W7 B7.out)).mono ?_
        rintro e w8 ⟨rfl, b8⟩
        have b78 := Lib.hid (b7.trans (b8.mono hs7))
        have RG8 := Lib.hid (g7.later b8)
        have RH8 := Lib.hid (h7.later b8)
        have B8 := Lib.hid (B7.out.trans (b8.mono B7.out.size))
        have v8 := Lib.hid (v7.later b8)
        clear g7 h7 b7 b8 v7
        go_wp2_with fail
        refine (fine_any _).mono ?_
        rintro e w9 ⟨rfl, b9⟩
        have RG9 := RG8.out.later b9
        have RH9 := RH8.out.later b9
        have B9 := Lib.hid (B8.out.trans (b9.mono B8.out.size))
        have b79 := Lib.hid (b78.out.trans (b9.mono b78.out.size))
        have v9 := Lib.hid (v8.out.later b9)
        have z0 := RG9.frozen 0
        have z1 := RG9.frozen 1
        have z2 := RG9.frozen 2
        have z3 := RG9.frozen 3
        have z4 := RG9.frozen 4
        have z5 := RG9.frozen 5
        have z6 := RG9.frozen 6
        have z7 := RG9.frozen 7
        have z8 := RG9.frozen 8
        have y0 := RH9.frozen 0
        have y1 := RH9.frozen 1
        obtain ⟨r0, r1, r2, r3, r4, r5, r6, r7, r8⟩ := (show Cells w9 w.heap.size 0 ⟨0, [], [], 0, 0, 0, 0, 0⟩ (.slice none 0 0) from Cells.row RG9)
        simp only [Nat.zero_add] at r1 r2 r3 r4 r5 r6 r7 r8
        have s0 : w9.cell? ⟨w.heap.size + 1, 0, none⟩ = some (.int .i64 0) := RH9.cell rfl
        have s1 : w9.cell? ⟨w.heap.size + 1, 1, none⟩ = some (.int .i64 0) := RH9.cell rfl
        have RG9' := Lib.hid RG9
        have RH9' := Lib.hid RH9
        clear RG9 RH9 b9
        obtain ⟨F', sup1, -⟩ := sup_row (W := w9) (base := W1.heap.size) (K := W3.heap.size) (ps := [(m, .slice ka kn kc)]) (P := fun _ => True) v9.out (by omega) (by show 1 ≤ maxLen; unfold maxLen; omega) trivial (fun p hp => by
          obtain rfl := List.mem_singleton.1 hp
          exact ⟨_, sup_low (S3.out.below b79.out) (by omega), fun _ _ => trivial⟩
        )
        have Sup1 := Lib.hid sup1
        clear sup1
        go_wp2_with fail
        obtain ⟨k1, k2, k3, k4, k5⟩ := both_rows RG9'.out RH9'.out (by omega) (madeH T 22 a (next)) (.slice (some ⟨W3.heap.size, 0, none⟩) 1 1) (-1) 0 rfl
        exact fin_node 6 7 8 rfl rfl rfl k1 k2 ⟨⟨_, 1, 1, F', rfl, sup_past Sup1.out k3 k4 (by omega) (by omega) B1.out.size⟩, B9.out.trans (k5 _ (Nat.le_refl _) (by omega))⟩
    | false =>
    cases q2 : isT T a sNeg with
    | true =>
      rw [q1, q2, if_pos (by simp)] at hr
      have ha1 : a + 1 < T.length := isT_lt HG.out.e q2
      have htx : (tokT T a).text = sNeg := kind_23 q2
      obtain ⟨x, hx⟩ : ∃ x, unaryF f T (a + 1) (d + 1) = x := ⟨_, rfl⟩
      have gx := ((ex_ok HG.out.e f).unary (a + 1) (d + 1) ha1).2
      rw [hx] at hr gx
      cases x with
      | none => cases hr
      | some x =>
      have CX := Lib.hid (fun W hW => (Ih.out f (Nat.le_refl _)).unary (a + 1) (d + 1) x W hx ha1 (by omega) (HT.out W hW))
      clear hx
      go_enter Tryd.func85, Tryd.ntmps85
      go_wp2_with fail
      refine calls_gen (fun W => RowAt W w.heap.size 55 #[.int .i64 0, .string ⟨#[]⟩, .string ⟨#[]⟩, .int .i64 0, .int .i64 0, .int .i64 0, .int .i64 0, .int .i64 0, .slice none 0 0] ∧ RowAt W (w.heap.size + 1) 68 #[.int .i64 0, .int .i64 0] ∧ Below w.heap.size w W) ⟨(row_new rfl).alloc _, row_new (by simp), ((Below.refl _ w).alloc (Nat.le_refl _) _).alloc (by simp) _⟩ ?_
      rintro W1 ⟨g1, h1, b1⟩
      have RG1 := Lib.hid g1
      have RH1 := Lib.hid h1
      have B1 := Lib.hid b1
      have hlt1 := h1.lt
      clear g1 h1 b1
      refine (is_at (s := ⟨#[33]⟩) (HT.out W1 B1.out) q1).mono ?_
      rintro e w' ⟨rfl, hw⟩
      have hw := hw.symm
      subst hw
      go_wp2_with fail
      refine (is_at (s := ⟨#[45]⟩) (HT.out W1 B1.out) q2).mono ?_
      rintro e w' ⟨rfl, hw⟩
      have hw := hw.symm
      subst hw
      go_wp2_with fail
      refine (CX.out W1 B1.out).mono ?_
      rintro e w2 ⟨hni, b2⟩
      have b12 := Lib.hid b2
      have RG2 := Lib.hid (RG1.out.later b2)
      have RH2 := Lib.hid (RH1.out.later b2)
      have B2 := Lib.hid (B1.out.trans (b2.mono B1.out.size))
      have hs2 := b2.size
      clear b2
      cases x with
      | bad p c =>
        obtain rfl : PR.bad p c = r := Option.some.inj hr
        obtain rfl := hni
        have p1 : decide ((p : Int) ≥ 0) = true := decide_eq_true (by omega)
        have p2 : decide ((0 : Int) ≤ (p : Int)) = true := decide_eq_true (by omega)
        go_wp2_with fail
        refine wp_gen (fun W => RowAt W w.heap.size 55 #[.int .i64 0, .string ⟨#[]⟩, .string ⟨#[]⟩, .int .i64 0, .int .i64 0, .int .i64 0, .int .i64 0, .int .i64 0, .slice none 0 0] ∧ RowAt W (w.heap.size + 1) 68 #[.int .i64 0, .int .i64 0] ∧ RowAt W (w2.heap.size + 1) 68 #[.int .i64 (p : Nat), .int .i64 c] ∧ Below w.heap.size w W) ⟨(RG2.out.alloc _).alloc _, (RH2.out.alloc _).alloc _, row_new (by simp), (B2.out.alloc (by omega) _).alloc (by simp; omega) _⟩ ?_
        rintro W3 ⟨g3, h3, t3, b3⟩
        have z0 := g3.frozen 0
        have z1 := g3.frozen 1
        have z2 := g3.frozen 2
        have z3 := g3.frozen 3
        have z4 := g3.frozen 4
        have z5 := g3.frozen 5
        have z6 := g3.frozen 6
        have z7 := g3.frozen 7
        have z8 := g3.frozen 8
        have y0 := h3.frozen 0
        have y1 := h3.frozen 1
        obtain ⟨r0, r1, r2, r3, r4, r5, r6, r7, r8⟩ := (show Cells W3 w.heap.size 0 ⟨0, [], [], 0, 0, 0, 0, 0⟩ (.slice none 0 0) from Cells.row g3)
        simp only [Nat.zero_add] at r1 r2 r3 r4 r5 r6 r7 r8
        have s0 : W3.cell? ⟨w.heap.size + 1, 0, none⟩ = some (.int .i64 0) := h3.cell rfl
        have s1 : W3.cell? ⟨w.heap.size + 1, 1, none⟩ = some (.int .i64 0) := h3.cell rfl
        have t0 : W3.cell? ⟨(w2.heap.size + 1), 0, none⟩ = some (.int .i64 (p : Nat)) := t3.cell rfl
        have t1 : W3.cell? ⟨(w2.heap.size + 1), 1, none⟩ = some (.int .i64 c) := t3.cell rfl
        have ne1 : (w2.heap.size + 1) ≠ w.heap.size := by omega
        have G3 := Lib.hid g3
        have H3 := Lib.hid h3
        have B3 := Lib.hid b3
        clear g3 h3 t3 b3
        go_region
        all_goals
          go_wp2_with fail
          obtain ⟨k1, k2, k3, k4, k5⟩ := both_rows_d G3.out H3.out (by omega) ⟨0, [], [], 0, 0, 0, 0, 0⟩ (.slice none 0 0) p c rfl
          exact fin_node 6 7 8 rfl rfl rfl k1 k2 ⟨rfl, B3.out.trans (k5 _ (Nat.le_refl _) (by omega))⟩
      | ok m next =>
        obtain ⟨u1, u2, u3⟩ := gx m next rfl
        have hr : some (PR.ok (Nd.mk (madeH T 23 a next) [m]) next) = some r := by simpa [bindP, htx, sNot, sNeg] using hr
        obtain rfl := Option.some.inj hr
        obtain ⟨ka, kn, kc, F, rfl, hsup⟩ := hni
        have HS := Lib.hid hsup
        have p1 : decide ((-1 : Int) ≥ 0) = false := by decide
        clear hsup
        go_upto_region 8 with fail
        refine wp_gen (fun W => RowAt W w.heap.size 55 #[.int .i64 0, .string ⟨#[]⟩, .string ⟨#[]⟩, .int .i64 0, .int .i64 0, .int .i64 0, .int .i64 0, .int .i64 0, .slice none 0 0] ∧ RowAt W (w.heap.size + 1) 68 #[.int .i64 0, .int .i64 0] ∧ RowAt W w2.heap.size 55 #[.int .i64 m.hd.kind, .string (bs m.hd.text), .string (bs m.hd.type), .int .i64 m.hd.n, .int .i64 m.hd.fr, .int .i64 m.hd.to_, .int .i64 m.hd.at_, .int .i64 m.hd.tat, .slice ka kn kc] ∧ Below w2.heap.size w2 W) ⟨(RG2.out.alloc _).alloc _, (RH2.out.alloc _).alloc _, (row_new rfl).alloc _, ((Below.refl _ _).alloc (Nat.le_refl _) _).alloc (by simp) _⟩ ?_
        rintro W3 ⟨g3, h3, m3, b3⟩
        have RG3 := Lib.hid g3
        have RH3 := Lib.hid h3
        have RM3 := Lib.hid m3
        have B3 := Lib.hid (B2.out.trans (b3.mono B2.out.size))
        have S3 := Lib.hid (HS.out.below b3)
        have b23 := Lib.hid b3
        have hs3 := b3.size
        have hm3 := m3.lt
        clear g3 h3 m3 b3
        have tk := (HC.out W3 B3.out a ha).2.1
        rw [htx] at tk
        have tk : W3.cell? ⟨tb, to_ + a * 4 + 1, none⟩ = some (.string ⟨#[45]⟩) := tk
        have i1 : (0 : Int) ≤ (a : Int) := by omega
        have i2 : (a : Int) < (T.length : Int) := by omega
        obtain ⟨d0, d1, d2, d3, d4, d5, d6, d7, d8⟩ := (show Cells W3 w2.heap.size 0 m.hd (.slice ka kn kc) from Cells.row RM3.out)
        simp only [Nat.zero_add] at d1 d2 d3 d4 d5 d6 d7 d8
        go_wp2_with fail
        refine calls_gen (fun W => RowAt W w.heap.size 55 #[.int .i64 0, .string ⟨#[]⟩, .string ⟨#[]⟩, .int .i64 0, .int .i64 0, .int .i64 0, .int .i64 0, .int .i64 0, .slice none 0 0] ∧ RowAt W (w.heap.size + 1) 68 #[.int .i64 0, .int .i64 0] ∧ RowAt W W3.heap.size 55 #[.int .i64 m.hd.kind, .string (bs m.hd.text), .string (bs m.hd.type), .int .i64 m.hd.n, .int .i64 m.hd.fr, .int .i64 m.hd.to_, .int .i64 m.hd.at_, .int .i64 m.hd.tat, .slice ka kn kc] ∧ Below W3.heap.size W3 W) ⟨RG3.out.alloc _, RH3.out.alloc _, row_new rfl, (Below.refl _ _).alloc (Nat.le_refl _) _⟩ ?_
        rintro W7 ⟨g7, h7, v7, b7⟩
        have B7 := Lib.hid (B3.out.trans (b7.mono B3.out.size))
        have hs7 := b7.size
        refine (made_at (.slice (some ⟨tb, to_, none⟩) T.length cv) (some ⟨W3.heap.size, 0, none⟩) 1 1 T HG.out 23 a (next) (by omega) (by omega) (by omega) W7 (HT.out W7 B7.out)).mono ?_
        rintro e w8 ⟨rfl, b8⟩
        have b78 := Lib.hid (b7.trans (b8.mono hs7))
        have RG8 := Lib.hid (g7.later b8)
        have RH8 := Lib.hid (h7.later b8)
        have B8 := Lib.hid (B7.out.trans (b8.mono B7.out.size))
        have v8 := Lib.hid (v7.later b8)
        clear g7 h7 b7 b8 v7
        go_wp2_with fail
        refine (fine_any _).mono ?_
        rintro e w9 ⟨rfl, b9⟩
        have RG9 := RG8.out.later b9
        have RH9 := RH8.out.later b9
        have B9 := Lib.hid (B8.out.trans (b9.mono B8.out.size))
        have b79 := Lib.hid (b78.out.trans (b9.mono b78.out.size))
        have v9 := Lib.hid (v8.out.later b9)
        have z0 := RG9.frozen 0
        have z1 := RG9.frozen 1
        have z2 := RG9.frozen 2
        have z3 := RG9.frozen 3
        have z4 := RG9.frozen 4
        have z5 := RG9.frozen 5
        have z6 := RG9.frozen 6
        have z7 := RG9.frozen 7
        have z8 := RG9.frozen 8
        have y0 := RH9.frozen 0
        have y1 := RH9.frozen 1
        obtain ⟨r0, r1, r2, r3, r4, r5, r6, r7, r8⟩ := (show Cells w9 w.heap.size 0 ⟨0, [], [], 0, 0, 0, 0, 0⟩ (.slice none 0 0) from Cells.row RG9)
        simp only [Nat.zero_add] at r1 r2 r3 r4 r5 r6 r7 r8
        have s0 : w9.cell? ⟨w.heap.size + 1, 0, none⟩ = some (.int .i64 0) := RH9.cell rfl
        have s1 : w9.cell? ⟨w.heap.size + 1, 1, none⟩ = some (.int .i64 0) := RH9.cell rfl
        have RG9' := Lib.hid RG9
        have RH9' := Lib.hid RH9
        clear RG9 RH9 b9
        obtain ⟨F', sup1, -⟩ := sup_row (W := w9) (base := W1.heap.size) (K := W3.heap.size) (ps := [(m, .slice ka kn kc)]) (P := fun _ => True) v9.out (by omega) (by show 1 ≤ maxLen; unfold maxLen; omega) trivial (fun p hp => by
          obtain rfl := List.mem_singleton.1 hp
          exact ⟨_, sup_low (S3.out.below b79.out) (by omega), fun _ _ => trivial⟩
        )
        have Sup1 := Lib.hid sup1
        clear sup1
        go_wp2_with fail
        obtain ⟨k1, k2, k3, k4, k5⟩ := both_rows RG9'.out RH9'.out (by omega) (madeH T 23 a (next)) (.slice (some ⟨W3.heap.size, 0, none⟩) 1 1) (-1) 0 rfl
        exact fin_node 6 7 8 rfl rfl rfl k1 k2 ⟨⟨_, 1, 1, F', rfl, sup_past Sup1.out k3 k4 (by omega) (by omega) B1.out.size⟩, B9.out.trans (k5 _ (Nat.le_refl _) (by omega))⟩
    | false =>
      rw [q1, q2, if_neg (by decide)] at hr
      obtain ⟨x, hx⟩ : ∃ x, primF f T a (d + 1) = x := ⟨_, rfl⟩
      have gx := ((ex_ok HG.out.e f).prim a (d + 1) ha).2
      rw [hx] at hr gx
      cases x with
      | none => cases hr
      | some x =>
      have CX := Lib.hid (fun W hW => (Ih.out f (Nat.le_refl _)).prim a (d + 1) x W hx ha (by omega) (HT.out W hW))
      clear hx
      go_enter Tryd.func85, Tryd.ntmps85
      go_wp2_with fail
      refine calls_gen (fun W => RowAt W w.heap.size 55 #[.int .i64 0, .string ⟨#[]⟩, .string ⟨#[]⟩, .int .i64 0, .int .i64 0, .int .i64 0, .int .i64 0, .int .i64 0, .slice none 0 0] ∧ RowAt W (w.heap.size + 1) 68 #[.int .i64 0, .int .i64 0] ∧ Below w.heap.size w W) ⟨(row_new rfl).alloc _, row_new (by simp), ((Below.refl _ w).alloc (Nat.le_refl _) _).alloc (by simp) _⟩ ?_
      rintro W1 ⟨g1, h1, b1⟩
      have RG1 := Lib.hid g1
      have RH1 := Lib.hid h1
      have B1 := Lib.hid b1
      have hlt1 := h1.lt
      clear g1 h1 b1
      refine (is_at (s := ⟨#[33]⟩) (HT.out W1 B1.out) q1).mono ?_
      rintro e w' ⟨rfl, hw⟩
      have hw := hw.symm
      subst hw
      go_wp2_with fail
      refine (is_at (s := ⟨#[45]⟩) (HT.out W1 B1.out) q2).mono ?_
      rintro e w' ⟨rfl, hw⟩
      have hw := hw.symm
      subst hw
      go_wp2_with fail
      refine (CX.out W1 B1.out).mono ?_
      rintro e w2 ⟨hni, b2⟩
      have b12 := Lib.hid b2
      have RG2 := Lib.hid (RG1.out.later b2)
      have RH2 := Lib.hid (RH1.out.later b2)
      have B2 := Lib.hid (B1.out.trans (b2.mono B1.out.size))
      have hs2 := b2.size
      clear b2
      cases x with
      | bad p c =>
        obtain rfl : PR.bad p c = r := Option.some.inj hr
        obtain rfl := hni
        have p1 : decide ((p : Int) ≥ 0) = true := decide_eq_true (by omega)
        have p2 : decide ((0 : Int) ≤ (p : Int)) = true := decide_eq_true (by omega)
        go_wp2_with fail
        refine wp_gen (fun W => RowAt W w.heap.size 55 #[.int .i64 0, .string ⟨#[]⟩, .string ⟨#[]⟩, .int .i64 0, .int .i64 0, .int .i64 0, .int .i64 0, .int .i64 0, .slice none 0 0] ∧ RowAt W (w.heap.size + 1) 68 #[.int .i64 0, .int .i64 0] ∧ RowAt W (w2.heap.size + 1) 68 #[.int .i64 (p : Nat), .int .i64 c] ∧ Below w.heap.size w W) ⟨(RG2.out.alloc _).alloc _, (RH2.out.alloc _).alloc _, row_new (by simp), (B2.out.alloc (by omega) _).alloc (by simp; omega) _⟩ ?_
        rintro W3 ⟨g3, h3, t3, b3⟩
        have z0 := g3.frozen 0
        have z1 := g3.frozen 1
        have z2 := g3.frozen 2
        have z3 := g3.frozen 3
        have z4 := g3.frozen 4
        have z5 := g3.frozen 5
        have z6 := g3.frozen 6
        have z7 := g3.frozen 7
        have z8 := g3.frozen 8
        have y0 := h3.frozen 0
        have y1 := h3.frozen 1
        obtain ⟨r0, r1, r2, r3, r4, r5, r6, r7, r8⟩ := (show Cells W3 w.heap.size 0 ⟨0, [], [], 0, 0, 0, 0, 0⟩ (.slice none 0 0) from Cells.row g3)
        simp only [Nat.zero_add] at r1 r2 r3 r4 r5 r6 r7 r8
        have s0 : W3.cell? ⟨w.heap.size + 1, 0, none⟩ = some (.int .i64 0) := h3.cell rfl
        have s1 : W3.cell? ⟨w.heap.size + 1, 1, none⟩ = some (.int .i64 0) := h3.cell rfl
        have t0 : W3.cell? ⟨(w2.heap.size + 1), 0, none⟩ = some (.int .i64 (p : Nat)) := t3.cell rfl
        have t1 : W3.cell? ⟨(w2.heap.size + 1), 1, none⟩ = some (.int .i64 c) := t3.cell rfl
        have ne1 : (w2.heap.size + 1) ≠ w.heap.size := by omega
        have G3 := Lib.hid g3
        have H3 := Lib.hid h3
        have B3 := Lib.hid b3
        clear g3 h3 t3 b3
        go_region
        all_goals
          go_wp2_with fail
          obtain ⟨k1, k2, k3, k4, k5⟩ := both_rows_d G3.out H3.out (by omega) ⟨0, [], [], 0, 0, 0, 0, 0⟩ (.slice none 0 0) p c rfl
          exact fin_node 6 7 8 rfl rfl rfl k1 k2 ⟨rfl, B3.out.trans (k5 _ (Nat.le_refl _) (by omega))⟩
      | ok m next =>
        obtain ⟨u1, u2, u3⟩ := gx m next rfl
        have hr : dotF f T a d next m = some r := hr
        obtain ⟨ka, kn, kc, F, rfl, hsup⟩ := hni
        have HS := Lib.hid hsup
        clear hsup
        have hD1 : w.heap.size + 2 ≤ w2.heap.size := by omega
        obtain ⟨D, hDD⟩ : ∃ D, w2.heap.size = D := ⟨_, rfl⟩
        have hFD : Hid (∀ b, F b → b < D) := Lib.hid (fun b hb => by rw [← hDD]; exact (HS.out.1 b hb).2)
        have htb : tb < w.heap.size := cell_lt ((HC.out w (Below.refl _ _) 0 HG.out.e.pos).2.1)
        rw [hDD] at hD1
        have p1 : decide ((-1 : Int) ≥ 0) = false := by decide
        have Hr0 := Lib.hid hr
        go_wp2_with fail
        refine wp_gen (fun W => RowAt W w.heap.size 55 #[.int .i64 0, .string ⟨#[]⟩, .string ⟨#[]⟩, .int .i64 0, .int .i64 0, .int .i64 0, .int .i64 0, .int .i64 0, .slice none 0 0] ∧ RowAt W (w.heap.size + 1) 68 #[.int .i64 0, .int .i64 0] ∧ RowAt W w2.heap.size 55 #[.int .i64 m.hd.kind, .string (bs m.hd.text), .string (bs m.hd.type), .int .i64 m.hd.n, .int .i64 m.hd.fr, .int .i64 m.hd.to_, .int .i64 m.hd.at_, .int .i64 m.hd.tat, .slice ka kn kc] ∧ Below w2.heap.size w2 W ∧ w2.heap.size + 2 ≤ W.heap.size) ⟨(RG2.out.alloc _).alloc _, (RH2.out.alloc _).alloc _, (row_new rfl).alloc _, ((Below.refl _ _).alloc (Nat.le_refl _) _).alloc (by simp) _, by simp⟩ ?_
        rintro W3 ⟨g3, h3, m3, b3, l3⟩
        rw [hDD] at m3 l3
        have fRG : Hid (RowAt W3 w.heap.size 55 #[.int .i64 0, .string ⟨#[]⟩, .string ⟨#[]⟩, .int .i64 0, .int .i64 0, .int .i64 0, .int .i64 0, .int .i64 0, .slice none 0 0]) := Lib.hid g3
        have fRH : Hid (RowAt W3 (w.heap.size + 1) 68 #[.int .i64 0, .int .i64 0]) := Lib.hid h3
        have fM : Hid (RowAt W3 D 55 #[.int .i64 m.hd.kind, .string (bs m.hd.text), .string (bs m.hd.type), .int .i64 m.hd.n, .int .i64 m.hd.fr, .int .i64 m.hd.to_, .int .i64 m.hd.at_, .int .i64 m.hd.tat, .slice ka kn kc]) := Lib.hid m3
        have fS : Hid (Sup W3 W1.heap.size m.kids (.slice ka kn kc) F ∧ ∀ b, F b → b ≠ D) := Lib.hid ⟨(sup_low HS.out (Nat.le_refl _)).below b3, fun b hb => by have := hFD.out b hb; omega⟩
        have fB : Hid (Below w.heap.size w W3) := Lib.hid (B2.out.trans (b3.mono B2.out.size))
        have fs : Hid (D + 2 ≤ W3.heap.size) := Lib.hid l3
        have hW12 : Hid (W1.heap.size ≤ D) := Lib.hid (by rw [← hDD]; exact b12.out.size)
        have hW1 : Hid (w.heap.size + 2 ≤ W1.heap.size) := Lib.hid (by omega)
        clear g3 h3 m3 b3 l3 hr p1
        go_loopw [14] (fun c wr => ∃ (f' k : Nat) (m : Nd) (ka : Option Addr) (kn kc : Nat) (F : Nat → Prop), c = .int .i64 k ∧ f' ≤ f ∧ a < k ∧ k < T.length ∧ Hid (m.cnt + a ≤ k) ∧ Hid (dotF f' T a d k m = some r) ∧ Hid (RowAt wr w.heap.size 55 #[.int .i64 0, .string ⟨#[]⟩, .string ⟨#[]⟩, .int .i64 0, .int .i64 0, .int .i64 0, .int .i64 0, .int .i64 0, .slice none 0 0]) ∧ Hid (RowAt wr (w.heap.size + 1) 68 #[.int .i64 0, .int .i64 0]) ∧ Hid (RowAt wr D 55 #[.int .i64 m.hd.kind, .string (bs m.hd.text), .string (bs m.hd.type), .int .i64 m.hd.n, .int .i64 m.hd.fr, .int .i64 m.hd.to_, .int .i64 m.hd.at_, .int .i64 m.hd.tat, .slice ka kn kc]) ∧ Hid (Sup wr W1.heap.size m.kids (.slice ka kn kc) F ∧ ∀ b, F b → b ≠ D) ∧ Hid (Below w.heap.size w wr) ∧ Hid (D + 2 ≤ wr.heap.size)) (fun c _ => T.length - (intOf c).toNat)
        case atStart => exact ⟨f, next, m, ka, kn, kc, F, rfl, Nat.le_refl _, u1, u2, Lib.hid (by omega), Hr0, fRG, fRH, fM, fS, fB, fs⟩
        case round =>
          clear fRG fRH fM fS fB fs Hr0 u1 u2 u3 gx
          clear HS hFD
          obtain ⟨f', k, m, ka, kn, kc, F, rfl, hf', hak, hk, hcnt, hdot, RG3, RH3, RM3, S3, B3, hsz⟩ := hrel
          have hsz := hsz.out
          have hW1 := hW1.out
          have hW12 := hW12.out
          cases f' with
          | zero => have := hdot.out; unfold dotF at this; cases this
          | succ f' =>
          have hr := hdot.out
          unfold dotF at hr
          clear hdot
          cases q3 : isT T k sDot with
          | false =>
            rw [q3, if_neg (by decide)] at hr
            obtain rfl := Option.some.inj hr
            have RG4 := RG3.out
            have RH4 := RH3.out
            have RM4 := RM3.out
            have S4 := Lib.hid S3.out.1
            have hne1 : D ≠ w.heap.size := by omega
            have hne2 : D ≠ w.heap.size + 1 := by omega
            go_wp2_with fail
            refine (is_at (s := ⟨#[46]⟩) (HT.out wr B3.out) q3).mono ?_
            rintro e w' ⟨rfl, hw⟩
            have hw := hw.symm
            subst hw
            go_upto_region 31 with fail
            have F0 : Hid (wr.cell? ⟨D, 0, none⟩ = some (.int .i64 m.hd.kind) ∧ wr.cell? ⟨D, 1, none⟩ = some (.string (bs m.hd.text)) ∧ wr.cell? ⟨D, 2, none⟩ = some (.string (bs m.hd.type)) ∧ wr.cell? ⟨D, 3, none⟩ = some (.int .i64 m.hd.n) ∧ wr.cell? ⟨D, 4, none⟩ = some (.int .i64 m.hd.fr) ∧ wr.cell? ⟨D, 5, none⟩ = some (.int .i64 m.hd.to_) ∧ wr.cell? ⟨D, 6, none⟩ = some (.int .i64 m.hd.at_) ∧ wr.cell? ⟨D, 7, none⟩ = some (.int .i64 m.hd.tat) ∧ wr.cell? ⟨D, 8, none⟩ = some (.slice ka kn kc)) := Lib.hid ⟨RM4.cell rfl, RM4.cell rfl, RM4.cell rfl, RM4.cell rfl, RM4.cell rfl, RM4.cell rfl, RM4.cell rfl, RM4.cell rfl, RM4.cell rfl⟩
            have FD : Hid (wr.drew.cell? ⟨D, 0, none⟩ = some (.int .i64 m.hd.kind) ∧ wr.drew.cell? ⟨D, 1, none⟩ = some (.string (bs m.hd.text)) ∧ wr.drew.cell? ⟨D, 2, none⟩ = some (.string (bs m.hd.type)) ∧ wr.drew.cell? ⟨D, 3, none⟩ = some (.int .i64 m.hd.n) ∧ wr.drew.cell? ⟨D, 4, none⟩ = some (.int .i64 m.hd.fr) ∧ wr.drew.cell? ⟨D, 5, none⟩ = some (.int .i64 m.hd.to_) ∧ wr.drew.cell? ⟨D, 6, none⟩ = some (.int .i64 m.hd.at_) ∧ wr.drew.cell? ⟨D, 7, none⟩ = some (.int .i64 m.hd.tat) ∧ wr.drew.cell? ⟨D, 8, none⟩ = some (.slice ka kn kc)) := Lib.hid F0.out
            have RGd : Hid (RowAt wr.drew w.heap.size 55 #[.int .i64 0, .string ⟨#[]⟩, .string ⟨#[]⟩, .int .i64 0, .int .i64 0, .int .i64 0, .int .i64 0, .int .i64 0, .slice none 0 0]) := Lib.hid RG4
            have RHd : Hid (RowAt wr.drew (w.heap.size + 1) 68 #[.int .i64 0, .int .i64 0]) := Lib.hid RH4
            have RMd : Hid (RowAt wr.drew D 55 #[.int .i64 m.hd.kind, .string (bs m.hd.text), .string (bs m.hd.type), .int .i64 m.hd.n, .int .i64 m.hd.fr, .int .i64 m.hd.to_, .int .i64 m.hd.at_, .int .i64 m.hd.tat, .slice ka kn kc]) := Lib.hid RM4
            have BDd : Hid (Below w.heap.size w wr.drew) := Lib.hid (below_drew B3.out)
            have SDd : Hid (Sup wr.drew W1.heap.size m.kids (.slice ka kn kc) F) := Lib.hid (S4.out.below (below_drew (Below.refl _ _)))
            go_region_held3 (fun W => W.cell? ⟨D, 0, none⟩ = some (.int .i64 m.hd.kind) ∧ W.cell? ⟨D, 1, none⟩ = some (.string (bs m.hd.text)) ∧ W.cell? ⟨D, 2, none⟩ = some (.string (bs m.hd.type)) ∧ W.cell? ⟨D, 3, none⟩ = some (.int .i64 m.hd.n) ∧ W.cell? ⟨D, 4, none⟩ = some (.int .i64 m.hd.fr) ∧ W.cell? ⟨D, 5, none⟩ = some (.int .i64 m.hd.to_) ∧ W.cell? ⟨D, 6, none⟩ = some (.int .i64 m.hd.at_) ∧ W.cell? ⟨D, 7, none⟩ = some (.int .i64 m.hd.tat) ∧ W.cell? ⟨D, 8, none⟩ = some (.slice ka kn kc))
              (first | (with_reducible exact F0.out) | (with_reducible exact FD.out) | (with_reducible exact F5.out) | (with_reducible exact F6.out) | (with_reducible exact F7.out))
              (first | (go_at_call 46; ((with_reducible refine (fine_any _).mono ?_); rintro e wf ⟨rfl, bf⟩; have R5 := RMd.out.later bf; have F5 := Lib.hid (show wf.cell? ⟨D, 0, none⟩ = some (.int .i64 m.hd.kind) ∧ wf.cell? ⟨D, 1, none⟩ = some (.string (bs m.hd.text)) ∧ wf.cell? ⟨D, 2, none⟩ = some (.string (bs m.hd.type)) ∧ wf.cell? ⟨D, 3, none⟩ = some (.int .i64 m.hd.n) ∧ wf.cell? ⟨D, 4, none⟩ = some (.int .i64 m.hd.fr) ∧ wf.cell? ⟨D, 5, none⟩ = some (.int .i64 m.hd.to_) ∧ wf.cell? ⟨D, 6, none⟩ = some (.int .i64 m.hd.at_) ∧ wf.cell? ⟨D, 7, none⟩ = some (.int .i64 m.hd.tat) ∧ wf.cell? ⟨D, 8, none⟩ = some (.slice ka kn kc) from ⟨R5.cell rfl, R5.cell rfl, R5.cell rfl, R5.cell rfl, R5.cell rfl, R5.cell rfl, R5.cell rfl, R5.cell rfl, R5.cell rfl⟩); have RGf := Lib.hid (RGd.out.later bf); have RHf := Lib.hid (RHd.out.later bf); have F6 := Lib.hid (nineC (RowAt.same R5 ((nine RGf.out m.hd (.slice ka kn kc)).2.other D (by omega)))); have N9 := (nine RGf.out m.hd (.slice ka kn kc)).2; have F7 := Lib.hid (nineC (((RowAt.same R5 (N9.other D (by omega))).other (c := w.heap.size + 1) (by omega) 0 (.int .i64 (-1))).other (c := w.heap.size + 1) (by omega) 1 (.int .i64 0))); clear N9; have Bf := Lib.hid (BDd.out.trans (bf.mono BDd.out.size)); have Sf := Lib.hid (SDd.out.below bf); have z0 := RGf.out.frozen 0; have z1 := RGf.out.frozen 1; have z2 := RGf.out.frozen 2; have z3 := RGf.out.frozen 3; have z4 := RGf.out.frozen 4; have z5 := RGf.out.frozen 5; have z6 := RGf.out.frozen 6; have z7 := RGf.out.frozen 7; have z8 := RGf.out.frozen 8; have y0 := RHf.out.frozen 0; have y1 := RHf.out.frozen 1; obtain ⟨r0, r1, r2, r3, r4, r5, r6, r7, r8⟩ := (show Cells wf w.heap.size 0 ⟨0, [], [], 0, 0, 0, 0, 0⟩ (.slice none 0 0) from Cells.row RGf.out); simp only [Nat.zero_add] at r1 r2 r3 r4 r5 r6 r7 r8; have s0 : wf.cell? ⟨w.heap.size + 1, 0, none⟩ = some (.int .i64 0) := RHf.out.cell rfl; have s1 : wf.cell? ⟨w.heap.size + 1, 1, none⟩ = some (.int .i64 0) := RHf.out.cell rfl; clear bf R5)))
            all_goals
              go_wp2_with fail
              obtain ⟨k1, k2, k3, k4, k5⟩ := both_rows RGf.out RHf.out (by omega) m.hd (.slice ka kn kc) (-1) 0 rfl
              refine fin_node 6 7 8 rfl rfl rfl k1 k2 ⟨⟨ka, kn, kc, F, rfl, sup_past Sf.out k3 k4 (by omega) (by omega) (by omega)⟩, Bf.out.trans (k5 _ (Nat.le_refl _) (by omega))⟩
          | true =>
            rw [q3, if_pos rfl] at hr
            have hk1 : k + 1 < T.length := isT_lt HG.out.e q3
            cases q4 : nmT T (k + 1) with
            | false =>
              rw [q4, if_neg (by decide)] at hr
              obtain rfl := Option.some.inj hr
              go_wp2_with fail
              refine (is_at (s := ⟨#[46]⟩) (HT.out wr B3.out) q3).mono ?_
              rintro e w' ⟨rfl, hw⟩
              have hw := hw.symm
              subst hw
              go_wp2_with fail
              refine (name_1 (HT.out wr B3.out) q4).mono ?_
              rintro e w' ⟨rfl, hw⟩
              have hw := hw.symm
              subst hw
              go_wp2_with fail
              refine (syntax_any _ _).mono ?_
              rintro e w9 ⟨rfl, b9⟩
              have RG9 := RG3.out.later b9
              have RH9 := RH3.out.later b9
              have B9 := B3.out.trans (b9.mono B3.out.size)
              have z0 := RG9.frozen 0
              have z1 := RG9.frozen 1
              have z2 := RG9.frozen 2
              have z3 := RG9.frozen 3
              have z4 := RG9.frozen 4
              have z5 := RG9.frozen 5
              have z6 := RG9.frozen 6
              have z7 := RG9.frozen 7
              have z8 := RG9.frozen 8
              have y0 := RH9.frozen 0
              have y1 := RH9.frozen 1
              obtain ⟨r0, r1, r2, r3, r4, r5, r6, r7, r8⟩ := (show Cells w9 w.heap.size 0 ⟨0, [], [], 0, 0, 0, 0, 0⟩ (.slice none 0 0) from Cells.row RG9)
              simp only [Nat.zero_add] at r1 r2 r3 r4 r5 r6 r7 r8
              have s0 : w9.cell? ⟨w.heap.size + 1, 0, none⟩ = some (.int .i64 0) := RH9.cell rfl
              have s1 : w9.cell? ⟨w.heap.size + 1, 1, none⟩ = some (.int .i64 0) := RH9.cell rfl
              have RG9' := Lib.hid RG9
              have RH9' := Lib.hid RH9
              have B9' := Lib.hid B9
              clear RG9 RH9 B9 b9
              go_wp2_with fail
              obtain ⟨k1, k2, k3, k4, k5⟩ := both_rows RG9'.out RH9'.out (by omega) ⟨0, [], [], 0, 0, 0, 0, 0⟩ (.slice none 0 0) ((k + 1 : Nat) : Int) 120 rfl
              exact fin_node 6 7 8 rfl rfl rfl k1 k2 ⟨rfl, B9'.out.trans (k5 _ (Nat.le_refl _) (by omega))⟩
            | true =>
              rw [q4, if_pos rfl] at hr
              have hk2 : k + 2 < T.length := nmT_lt HG.out.e q4
              cases q5 : isT T (k + 2) sL with
              | false =>
                rw [q5, if_neg (by decide)] at hr
                go_wp2_with fail
                refine (is_at (s := ⟨#[46]⟩) (HT.out wr B3.out) q3).mono ?_
                rintro e w' ⟨rfl, hw⟩
                have hw := hw.symm
                subst hw
                go_wp2_with fail
                refine (name_1 (HT.out wr B3.out) q4).mono ?_
                rintro e w' ⟨rfl, hw⟩
                have hw := hw.symm
                subst hw
                obtain ⟨d0, d1, d2, d3, d4, d5, d6, d7, d8⟩ := (show Cells wr D 0 m.hd (.slice ka kn kc) from Cells.row RM3.out)
                simp only [Nat.zero_add] at d1 d2 d3 d4 d5 d6 d7 d8
                go_wp2_with fail
                refine calls_gen (fun W => RowAt W w.heap.size 55 #[.int .i64 0, .string ⟨#[]⟩, .string ⟨#[]⟩, .int .i64 0, .int .i64 0, .int .i64 0, .int .i64 0, .int .i64 0, .slice none 0 0] ∧ RowAt W (w.heap.size + 1) 68 #[.int .i64 0, .int .i64 0] ∧ RowAt W D 55 #[.int .i64 m.hd.kind, .string (bs m.hd.text), .string (bs m.hd.type), .int .i64 m.hd.n, .int .i64 m.hd.fr, .int .i64 m.hd.to_, .int .i64 m.hd.at_, .int .i64 m.hd.tat, .slice ka kn kc] ∧ RowAt W wr.heap.size 55 #[.int .i64 m.hd.kind, .string (bs m.hd.text), .string (bs m.hd.type), .int .i64 m.hd.n, .int .i64 m.hd.fr, .int .i64 m.hd.to_, .int .i64 m.hd.at_, .int .i64 m.hd.tat, .slice ka kn kc] ∧ Below wr.heap.size wr W ∧ wr.heap.size + 1 ≤ W.heap.size) ⟨RG3.out.alloc _, RH3.out.alloc _, RM3.out.alloc _, row_new rfl, (Below.refl _ _).alloc (Nat.le_refl _) _, by simp⟩ ?_
                rintro W4 ⟨g4, h4, m4, v4, b4, l4⟩
                have RG4 := Lib.hid g4
                have RH4 := Lib.hid h4
                have RM4 := Lib.hid m4
                have B4 := Lib.hid (B3.out.trans (b4.mono B3.out.size))
                have V4 := Lib.hid v4
                have S4 := Lib.hid (S3.out.1.below b4)
                have hFK : Hid (∀ b, F b → b ≠ wr.heap.size) := Lib.hid (fun b hb => by have := (S3.out.1.1 b hb).2; omega)
                have hs4 := l4
                have b34 := Lib.hid b4
                clear g4 h4 m4 v4 b4 l4 d0 d1 d2 d3 d4 d5 d6 d7 d8
                refine (is_2 (s := ⟨#[40]⟩) (HT.out W4 B4.out) q5).mono ?_
                rintro e w' ⟨rfl, hw⟩
                have hw := hw.symm
                subst hw
                go_wp2_with fail
                have Ok := own_q (P := fun b => b ≠ D) (base := W1.heap.size) (ps := [(m, Value.slice ka kn kc)]) V4.out (by omega) (by show 1 ≤ maxLen; unfold maxLen; omega) (by omega) (fun p hp => by
                  obtain rfl := List.mem_singleton.1 hp
                  exact ⟨F, S4.out, fun b hb => ⟨hFK.out b hb, S3.out.2 b hb⟩⟩)
                obtain ⟨F', s1, s2⟩ := Ok.kids
                refine (made_at (.slice (some ⟨tb, to_, none⟩) T.length cv) (some ⟨wr.heap.size, 0, none⟩) 1 1 T HG.out 18 a (k + 2) (by omega) (by omega) (by omega) W4 (HT.out W4 B4.out)).mono ?_
                rintro e w8 ⟨rfl, b8⟩
                have RG8 := Lib.hid (RG4.out.later b8)
                have RH8 := Lib.hid (RH4.out.later b8)
                have RM8 := Lib.hid (RM4.out.later b8)
                have B8 := Lib.hid (B4.out.trans (b8.mono B4.out.size))
                have S8 : Hid (Sup w8 W1.heap.size [m] (.slice (some ⟨wr.heap.size, 0, none⟩) 1 1) F' ∧ ∀ b, F' b → b ≠ D) := Lib.hid ⟨s1.below b8, s2⟩
                have hs8 := b8.size
                clear b8 s1 s2 Ok
                obtain ⟨r0, r1, r2, r3, r4, r5, r6, r7, r8⟩ := nineC RM8.out
                have z0 := RM8.out.frozen 0
                have z1 := RM8.out.frozen 1
                have z2 := RM8.out.frozen 2
                have z3 := RM8.out.frozen 3
                have z4 := RM8.out.frozen 4
                have z5 := RM8.out.frozen 5
                have z6 := RM8.out.frozen 6
                have z7 := RM8.out.frozen 7
                have z8 := RM8.out.frozen 8
                obtain ⟨N1, N2⟩ := nine RM8.out (madeH T 18 a (k + 2)) (.slice (some ⟨wr.heap.size, 0, none⟩) 1 1)
                have HN1 := Lib.hid N1
                have HN2 := Lib.hid N2
                clear N1 N2
                go_upto_region 29 with fail
                refine wp_gen (fun W => RowAt W w.heap.size 55 #[.int .i64 0, .string ⟨#[]⟩, .string ⟨#[]⟩, .int .i64 0, .int .i64 0, .int .i64 0, .int .i64 0, .int .i64 0, .slice none 0 0] ∧ RowAt W (w.heap.size + 1) 68 #[.int .i64 0, .int .i64 0] ∧ RowAt W D 55 ((madeH T 18 a (k + 2)).vals (.slice (some ⟨wr.heap.size, 0, none⟩) 1 1)) ∧ (Sup W W1.heap.size [m] (.slice (some ⟨wr.heap.size, 0, none⟩) 1 1) F' ∧ ∀ b, F' b → b ≠ D) ∧ Below w.heap.size w W ∧ D + 2 ≤ W.heap.size) ⟨RowAt.same RG8.out (HN2.out.other _ (by omega)), RowAt.same RH8.out (HN2.out.other _ (by omega)), HN1.out, ⟨S8.out.1.keep (Nat.le_of_eq HN2.out.size.symm) fun b hb => HN2.out.other b (S8.out.2 b hb), S8.out.2⟩, B8.out.trans (HN2.out.below _ (by omega)), by rw [HN2.out.size]; omega⟩ ?_
                rintro WA ⟨gA, hA, mA, sA, bA, lA⟩
                have GA := Lib.hid gA
                have HA := Lib.hid hA
                have MA := Lib.hid mA
                have SA := Lib.hid sA
                have BA := Lib.hid bA
                have hlA : Hid (D + 2 ≤ WA.heap.size) := Lib.hid lA
                clear r0 r1 r2 r3 r4 r5 r6 r7 r8 z0 z1 z2 z3 z4 z5 z6 z7 z8
                have z1 := mA.frozen 1
                have z6 := mA.frozen 6
                obtain ⟨-, tA1, tA2⟩ := HC.out WA bA (k + 1) hk1
                have c1 : WA.cell? ⟨D, 1, none⟩ = some (.string (bs (madeH T 18 a (k + 2)).text)) := mA.cell rfl
                have c6 : WA.cell? ⟨D, 6, none⟩ = some (.int .i64 (madeH T 18 a (k + 2)).at_) := mA.cell rfl
                clear gA hA mA sA bA
                have j1 : (k : Int) + 1 < (T.length : Int) := by omega
                have j2 : (0 : Int) ≤ (k : Int) + 1 := by omega
                have j3 : ((k : Int) + 1).toNat = k + 1 := by omega
                have neD : tb ≠ D := by omega
                go_wp2_with fail
                obtain ⟨V1, V2, V3, V4⟩ := named_row (vs := #[]) (madeH T 18 a (k + 2)) (.slice (some ⟨wr.heap.size, 0, none⟩) 1 1) MA.out (tokT T (k + 1)).text (tokT T (k + 1)).at_ rfl
                exact ⟨⟨f', k + 2, (.mk (namedH T (madeH T 18 a (k + 2)) (k + 1)) [m]), _, _, _, F', by go_num, by omega, by omega, hk2, Lib.hid (by have := hcnt.out; simp [Nd.cnt, cntL]; omega), Lib.hid hr, Lib.hid (RowAt.same GA.out (V3 _ (by omega))), Lib.hid (RowAt.same HA.out (V3 _ (by omega))), Lib.hid V1, Lib.hid ⟨SA.out.1.keep (Nat.le_of_eq V2.symm) fun b hb => V3 b (SA.out.2 b hb), SA.out.2⟩, Lib.hid (BA.out.trans (V4 _ (by omega))), Lib.hid (by have := BA.out.size; have := MA.out.lt; have := hlA.out; omega)⟩, by simp [intOf]; omega⟩
              | true =>
                rw [q5, if_pos rfl] at hr
                have hk3 : k + 3 < T.length := isT_lt HG.out.e q5
                obtain ⟨x, hx⟩ : ∃ x, argsF f' T (k + 3) (d + 1) = x := ⟨_, rfl⟩
                have gx := ((ex_ok HG.out.e f').args (k + 3) (d + 1) hk3).2
                rw [hx] at hr gx
                cases x with
                | none => cases hr
                | some x =>
                have CX := Lib.hid (fun W hW => arguments_any (.slice (some ⟨tb, to_, none⟩) T.length cv) T HG.out f' (fun f2 hf2 => expression_any _ T HG.out f2 (Ih.out f2 (by omega))) (k + 3) (d + 1) x W hx hk3 (by omega) (HT.out W hW))
                clear hx
                go_wp2_with fail
                refine (is_at (s := ⟨#[46]⟩) (HT.out wr B3.out) q3).mono ?_
                rintro e w' ⟨rfl, hw⟩
                have hw := hw.symm
                subst hw
                go_wp2_with fail
                refine (name_1 (HT.out wr B3.out) q4).mono ?_
                rintro e w' ⟨rfl, hw⟩
                have hw := hw.symm
                subst hw
                obtain ⟨d0, d1, d2, d3, d4, d5, d6, d7, d8⟩ := (show Cells wr D 0 m.hd (.slice ka kn kc) from Cells.row RM3.out)
                simp only [Nat.zero_add] at d1 d2 d3 d4 d5 d6 d7 d8
                go_wp2_with fail
                refine calls_gen (fun W => RowAt W w.heap.size 55 #[.int .i64 0, .string ⟨#[]⟩, .string ⟨#[]⟩, .int .i64 0, .int .i64 0, .int .i64 0, .int .i64 0, .int .i64 0, .slice none 0 0] ∧ RowAt W (w.heap.size + 1) 68 #[.int .i64 0, .int .i64 0] ∧ RowAt W D 55 #[.int .i64 m.hd.kind, .string (bs m.hd.text), .string (bs m.hd.type), .int .i64 m.hd.n, .int .i64 m.hd.fr, .int .i64 m.hd.to_, .int .i64 m.hd.at_, .int .i64 m.hd.tat, .slice ka kn kc] ∧ RowAt W wr.heap.size 55 #[.int .i64 m.hd.kind, .string (bs m.hd.text), .string (bs m.hd.type), .int .i64 m.hd.n, .int .i64 m.hd.fr, .int .i64 m.hd.to_, .int .i64 m.hd.at_, .int .i64 m.hd.tat, .slice ka kn kc] ∧ Below wr.heap.size wr W ∧ wr.heap.size + 1 ≤ W.heap.size) ⟨RG3.out.alloc _, RH3.out.alloc _, RM3.out.alloc _, row_new rfl, (Below.refl _ _).alloc (Nat.le_refl _) _, by simp⟩ ?_
                rintro W4 ⟨g4, h4, m4, v4, b4, l4⟩
                have RG4 := Lib.hid g4
                have RH4 := Lib.hid h4
                have RM4 := Lib.hid m4
                have B4 := Lib.hid (B3.out.trans (b4.mono B3.out.size))
                have V4 := Lib.hid v4
                have S4 := Lib.hid (S3.out.1.below b4)
                have hFK : Hid (∀ b, F b → b ≠ wr.heap.size) := Lib.hid (fun b hb => by have := (S3.out.1.1 b hb).2; omega)
                have hs4 := l4
                have b34 := Lib.hid b4
                clear g4 h4 m4 v4 b4 l4 d0 d1 d2 d3 d4 d5 d6 d7 d8
                refine (is_2 (s := ⟨#[40]⟩) (HT.out W4 B4.out) q5).mono ?_
                rintro e w' ⟨rfl, hw⟩
                have hw := hw.symm
                subst hw
                go_wp2_with fail
                refine (CX.out W4 B4.out).mono ?_
                rintro e w5 ⟨hli, b5⟩
                have RG5 := Lib.hid (RG4.out.later b5)
                have RH5 := Lib.hid (RH4.out.later b5)
                have RM5 := Lib.hid (RM4.out.later b5)
                have V5 := Lib.hid (V4.out.later b5)
                have B5 := Lib.hid (B4.out.trans (b5.mono B4.out.size))
                have b45 := Lib.hid b5
                have hs5 := b5.size
                clear b5
                cases x with
                | bad p c =>
                  obtain rfl : PR.bad p c = r := Option.some.inj hr
                  obtain rfl := hli
                  have p1 : decide ((p : Int) ≥ 0) = true := decide_eq_true (by omega)
                  have p2 : decide ((0 : Int) ≤ (p : Int)) = true := decide_eq_true (by omega)
                  go_wp2_with fail
                  refine wp_gen (fun W => RowAt W w.heap.size 55 #[.int .i64 0, .string ⟨#[]⟩, .string ⟨#[]⟩, .int .i64 0, .int .i64 0, .int .i64 0, .int .i64 0, .int .i64 0, .slice none 0 0] ∧ RowAt W (w.heap.size + 1) 68 #[.int .i64 0, .int .i64 0] ∧ RowAt W w5.heap.size 68 #[.int .i64 (p : Nat), .int .i64 c] ∧ Below w.heap.size w W) ⟨RG5.out.alloc _, RH5.out.alloc _, row_new rfl, B5.out.alloc (by omega) _⟩ ?_
                  rintro W3 ⟨g3, h3, t3, b3⟩
                  have z0 := g3.frozen 0
                  have z1 := g3.frozen 1
                  have z2 := g3.frozen 2
                  have z3 := g3.frozen 3
                  have z4 := g3.frozen 4
                  have z5 := g3.frozen 5
                  have z6 := g3.frozen 6
                  have z7 := g3.frozen 7
                  have z8 := g3.frozen 8
                  have y0 := h3.frozen 0
                  have y1 := h3.frozen 1
                  obtain ⟨r0, r1, r2, r3, r4, r5, r6, r7, r8⟩ := (show Cells W3 w.heap.size 0 ⟨0, [], [], 0, 0, 0, 0, 0⟩ (.slice none 0 0) from Cells.row g3)
                  simp only [Nat.zero_add] at r1 r2 r3 r4 r5 r6 r7 r8
                  have s0 : W3.cell? ⟨w.heap.size + 1, 0, none⟩ = some (.int .i64 0) := h3.cell rfl
                  have s1 : W3.cell? ⟨w.heap.size + 1, 1, none⟩ = some (.int .i64 0) := h3.cell rfl
                  have t0 : W3.cell? ⟨w5.heap.size, 0, none⟩ = some (.int .i64 (p : Nat)) := t3.cell rfl
                  have t1 : W3.cell? ⟨w5.heap.size, 1, none⟩ = some (.int .i64 c) := t3.cell rfl
                  have ne1 : w5.heap.size ≠ w.heap.size := by omega
                  have G3 := Lib.hid g3
                  have H3 := Lib.hid h3
                  have B3 := Lib.hid b3
                  clear g3 h3 t3 b3
                  go_region
                  all_goals
                    go_wp2_with fail
                    obtain ⟨k1, k2, k3, k4, k5⟩ := both_rows_d G3.out H3.out (by omega) ⟨0, [], [], 0, 0, 0, 0, 0⟩ (.slice none 0 0) p c rfl
                    exact fin_node 6 7 8 rfl rfl rfl k1 k2 ⟨rfl, B3.out.trans (k5 _ (Nat.le_refl _) (by omega))⟩
                | ok l b =>
                  obtain ⟨v1, v2, v3⟩ := gx l b rfl
                  have hr : dotF f' T a d b (.mk (namedH T (madeH T 20 a b) (k + 1)) (m :: l)) = some r := hr
                  obtain ⟨vl, ps, rfl, ol, hl⟩ := hli
                  have O5 := Lib.hid ol
                  have hpl : ps.length ≤ cntL l := by have h9 := cntL_len (ps.map (·.1)); rw [List.length_map, hl] at h9; exact h9
                  have p1 : decide ((-1 : Int) ≥ 0) = false := by decide
                  clear ol
                  go_upto_region 26 with fail
                  refine wp_gen (fun W => RowAt W w.heap.size 55 #[.int .i64 0, .string ⟨#[]⟩, .string ⟨#[]⟩, .int .i64 0, .int .i64 0, .int .i64 0, .int .i64 0, .int .i64 0, .slice none 0 0] ∧ RowAt W (w.heap.size + 1) 68 #[.int .i64 0, .int .i64 0] ∧ RowAt W D 55 #[.int .i64 m.hd.kind, .string (bs m.hd.text), .string (bs m.hd.type), .int .i64 m.hd.n, .int .i64 m.hd.fr, .int .i64 m.hd.to_, .int .i64 m.hd.at_, .int .i64 m.hd.tat, .slice ka kn kc] ∧ RowAt W wr.heap.size 55 #[.int .i64 m.hd.kind, .string (bs m.hd.text), .string (bs m.hd.type), .int .i64 m.hd.n, .int .i64 m.hd.fr, .int .i64 m.hd.to_, .int .i64 m.hd.at_, .int .i64 m.hd.tat, .slice ka kn kc] ∧ Below w5.heap.size w5 W) ⟨RG5.out.alloc _, RH5.out.alloc _, RM5.out.alloc _, V5.out.alloc _, (Below.refl _ _).alloc (Nat.le_refl _) _⟩ ?_
                  rintro W6 ⟨g6, h6, m6, v6, b6⟩
                  have RG6 := Lib.hid g6
                  have RH6 := Lib.hid h6
                  have RM6 := Lib.hid m6
                  have V6 := Lib.hid v6
                  have B6 := Lib.hid (B5.out.trans (b6.mono B5.out.size))
                  have O6 := Lib.hid (O5.out.below b6)
                  have S6 := Lib.hid (S4.out.below (b45.out.trans (b6.mono hs5)))
                  have hs6 := b6.size
                  clear g6 h6 m6 v6 b6
                  have Ok6 := Lib.hid (own_q (P := fun b => b ≠ D) (base := W1.heap.size) (ps := [(m, Value.slice ka kn kc)]) V6.out (by omega) (by show 1 ≤ maxLen; unfold maxLen; omega) (by omega) (fun p hp => by
                    obtain rfl := List.mem_singleton.1 hp
                    exact ⟨F, S6.out, fun b hb => ⟨hFK.out b hb, S3.out.2 b hb⟩⟩))
                  have hlo6 : Hid (∀ b, (Value.slice (some ⟨wr.heap.size, 0, none⟩) 1 1).ownBlock = some b → b < W4.heap.size) := Lib.hid (fun b hb => by
                    obtain rfl : wr.heap.size = b := Option.some.inj hb
                    omega)
                  have hPl6 : Hid (∀ b, W4.heap.size ≤ b → b ≠ D) := Lib.hid (fun b hb => by omega)
                  go_wp2_with (at_builtin; refine wpList_append_q (w := W6) (base := W1.heap.size) (lo := W4.heap.size) (P := fun b => b ≠ D) rfl _ _ rfl (.slice (some ⟨wr.heap.size, 0, none⟩) 1 1) vl [(m, Value.slice ka kn kc)] ps rfl Ok6.out rfl O6.out hlo6.out hPl6.out (by omega) (by rw [List.length_singleton]; omega) ?_; intro a7 n7 c7 w7 oq7 hg70)
                  have hg7 : W6.grownBy w7 (some wr.heap.size) := hg70
                  clear hg70
                  have RG7 := Lib.hid (RowAt.same RG6.out (hg7.block _ RG6.out.lt (fun e => by have := Option.some.inj e; omega)))
                  have RH7 := Lib.hid (RowAt.same RH6.out (hg7.block _ RH6.out.lt (fun e => by have := Option.some.inj e; omega)))
                  have RM7 := Lib.hid (RowAt.same RM6.out (hg7.block _ RM6.out.lt (fun e => by have := Option.some.inj e; omega)))
                  have B7 := Lib.hid (B6.out.grown hg7 (by omega) (fun k e => by have := Option.some.inj e; omega))
                  have hs7 := hg7.size
                  obtain ⟨F', s1, s2⟩ := oq7.kids
                  refine (made_at (.slice (some ⟨tb, to_, none⟩) T.length cv) a7 n7 c7 T HG.out 20 a b (by omega) (by omega) (by omega) w7 (HT.out w7 B7.out)).mono ?_
                  rintro e w8 ⟨rfl, b8⟩
                  have RG8 := Lib.hid (RG7.out.later b8)
                  have RH8 := Lib.hid (RH7.out.later b8)
                  have RM8 := Lib.hid (RM7.out.later b8)
                  have B8 := Lib.hid (B7.out.trans (b8.mono B7.out.size))
                  have S8 : Hid (Sup w8 W1.heap.size (m :: ps.map (·.1)) (.slice a7 n7 c7) F' ∧ ∀ b, F' b → b ≠ D) := Lib.hid ⟨s1.below b8, s2⟩
                  have hs8 := b8.size
                  clear b8 s1 s2 Ok6 oq7 hg7
                  obtain ⟨r0, r1, r2, r3, r4, r5, r6, r7, r8⟩ := nineC RM8.out
                  have z0 := RM8.out.frozen 0
                  have z1 := RM8.out.frozen 1
                  have z2 := RM8.out.frozen 2
                  have z3 := RM8.out.frozen 3
                  have z4 := RM8.out.frozen 4
                  have z5 := RM8.out.frozen 5
                  have z6 := RM8.out.frozen 6
                  have z7 := RM8.out.frozen 7
                  have z8 := RM8.out.frozen 8
                  obtain ⟨N1, N2⟩ := nine RM8.out (madeH T 20 a (b)) (.slice a7 n7 c7)
                  have HN1 := Lib.hid N1
                  have HN2 := Lib.hid N2
                  clear N1 N2
                  go_upto_region 29 with fail
                  refine wp_gen (fun W => RowAt W w.heap.size 55 #[.int .i64 0, .string ⟨#[]⟩, .string ⟨#[]⟩, .int .i64 0, .int .i64 0, .int .i64 0, .int .i64 0, .int .i64 0, .slice none 0 0] ∧ RowAt W (w.heap.size + 1) 68 #[.int .i64 0, .int .i64 0] ∧ RowAt W D 55 ((madeH T 20 a (b)).vals (.slice a7 n7 c7)) ∧ (Sup W W1.heap.size (m :: ps.map (·.1)) (.slice a7 n7 c7) F' ∧ ∀ b, F' b → b ≠ D) ∧ Below w.heap.size w W ∧ D + 2 ≤ W.heap.size) ⟨RowAt.same RG8.out (HN2.out.other _ (by omega)), RowAt.same RH8.out (HN2.out.other _ (by omega)), HN1.out, ⟨S8.out.1.keep (Nat.le_of_eq HN2.out.size.symm) fun b hb => HN2.out.other b (S8.out.2 b hb), S8.out.2⟩, B8.out.trans (HN2.out.below _ (by omega)), by rw [HN2.out.size]; omega⟩ ?_
                  rintro WA ⟨gA, hA, mA, sA, bA, lA⟩
                  have GA := Lib.hid gA
                  have HA := Lib.hid hA
                  have MA := Lib.hid mA
                  have SA := Lib.hid sA
                  have BA := Lib.hid bA
                  have hlA : Hid (D + 2 ≤ WA.heap.size) := Lib.hid lA
                  clear r0 r1 r2 r3 r4 r5 r6 r7 r8 z0 z1 z2 z3 z4 z5 z6 z7 z8
                  have z1 := mA.frozen 1
                  have z6 := mA.frozen 6
                  obtain ⟨-, tA1, tA2⟩ := HC.out WA bA (k + 1) hk1
                  have c1 : WA.cell? ⟨D, 1, none⟩ = some (.string (bs (madeH T 20 a (b)).text)) := mA.cell rfl
                  have c6 : WA.cell? ⟨D, 6, none⟩ = some (.int .i64 (madeH T 20 a (b)).at_) := mA.cell rfl
                  clear gA hA mA sA bA
                  have j1 : (k : Int) + 1 < (T.length : Int) := by omega
                  have j2 : (0 : Int) ≤ (k : Int) + 1 := by omega
                  have j3 : ((k : Int) + 1).toNat = k + 1 := by omega
                  have neD : tb ≠ D := by omega
                  go_wp2_with fail
                  obtain ⟨V1, V2, V3, V4⟩ := named_row (vs := #[]) (madeH T 20 a (b)) (.slice a7 n7 c7) MA.out (tokT T (k + 1)).text (tokT T (k + 1)).at_ rfl
                  exact ⟨⟨f', b, (.mk (namedH T (madeH T 20 a b) (k + 1)) (m :: ps.map (fun x : Pr => x.1))), _, _, _, F', by go_num, by omega, by omega, v2, Lib.hid (by have := hcnt.out; rw [← hl] at v3; simp only [Nd.cnt, cntL]; omega), Lib.hid (by rw [← hl] at hr; exact hr), Lib.hid (RowAt.same GA.out (V3 _ (by omega))), Lib.hid (RowAt.same HA.out (V3 _ (by omega))), Lib.hid V1, Lib.hid ⟨SA.out.1.keep (Nat.le_of_eq V2.symm) fun b hb => V3 b (SA.out.2 b hb), SA.out.2⟩, Lib.hid (BA.out.trans (V4 _ (by omega))), Lib.hid (by have := BA.out.size; have := MA.out.lt; have := hlA.out; omega)⟩, by simp [intOf]; omega⟩
end Go.Proofs.YtbnbmjdjkadgoaaDoor.X
