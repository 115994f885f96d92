/-
  For the laws on the parser: blocks. Condition: the tokens are a text's.
-/
import Derived.Test.YtbnbmjdjkadgoaaDoorXSa
import Derived.Test.YtbnbmjdjkadgoaaDoorXSb
namespace Go.Proofs.YtbnbmjdjkadgoaaDoor.X
open Go.RowKit Go.Shelf
set_option linter.unusedSimpArgs false
set_option linter.unusedVariables false

theorem OwnQ.nil {P : Nat → Prop} {base : Nat} {W : World} (h : base ≤ W.heap.size) : OwnQ P base W (.slice none 0 0) [] := ⟨World.ownsRow_nil _ _ _ _, h, fun b hb => (by cases hb), fun p hp => (by cases hp)⟩
theorem ownq_slice {P : Nat → Prop} {base : Nat} {W : World} {v : Value} {ps : List Pr} (h : OwnQ P base W v ps) : ∃ a n c, v = .slice a n c := by
  rcases h.row.2 with ⟨rfl, -⟩ | ⟨g, cap, cur, rfl, -⟩
  · exact ⟨_, _, _, rfl⟩
  · exact ⟨_, _, _, rfl⟩
theorem local_at {v : Value} {T : List Tk} {a : Nat} {w : World} {b : Bool} (h : Toks w v T) (hb : localT T a = b) (ha : a ≤ 2000000) : Calls Tryd.prog 63 #[v, .int .i64 (a : Nat)] w fun e w' => e = .returned (.bool b) ∧ w' = w := by
  rw [← hb]; exact local_any v T a ha w h
/-- An own row, where all that it rests on is as it was. -/
theorem OwnQ.same {P : Nat → Prop} {base : Nat} {W V : World} {v : Value} {ps : List Pr} (h : OwnQ P base W v ps) (N : Nat) (hN : ∀ b, v.ownBlock = some b → b < N) (hF : ∀ p ∈ ps, ∃ F, Sup W base p.1.kids p.2 F ∧ ∀ b, F b → (v.ownBlock ≠ some b ∧ P b) ∧ b < N) (hs : W.heap.size ≤ V.heap.size) (hb : ∀ b, b < N → V.heap[b]? = W.heap[b]?) : OwnQ P base V v ps := by
  refine ⟨?_, Nat.le_trans h.bas hs, h.own, fun p hp => ?_⟩
  · refine ⟨h.row.1, ?_⟩
    rcases h.row.2 with h0 | ⟨g, cap, cur, e1, k1, hg, k2, k3, k4, k5⟩
    · exact .inl h0
    · exact .inr ⟨g, cap, cur, e1, k1, (hb g (hN g (by rw [e1]; rfl))).trans hg, k2, k3, k4, k5⟩
  · obtain ⟨F, h1, h2⟩ := hF p hp
    exact ⟨F, h1.keep hs fun b hbF => hb b (h2 b hbF).2, fun b hbF => (h2 b hbF).1⟩
/-- The same, where two blocks turn that are newer than the row. -/
theorem OwnQ.past {P : Nat → Prop} {base : Nat} {W0 W V : World} {v : Value} {ps : List Pr} (h0 : OwnQ P base W0 v ps) (hW : Below W0.heap.size W0 W) (hs : V.heap.size = W.heap.size) (hb : ∀ b, b < W0.heap.size → V.heap[b]? = W.heap[b]?) : OwnQ P base V v ps :=
  OwnQ.same h0 W0.heap.size (fun b e => (h0.row.lt b e).2) (fun p hp => by
    obtain ⟨F, h1, h2⟩ := h0.sup p hp
    exact ⟨F, h1, fun b hbF => ⟨h2 b hbF, (h1.1 b hbF).2⟩⟩) (by rw [hs]; exact hW.size) fun b hbl => (hb b hbl).trans (hW.block b hbl)
set_option maxRecDepth 100000 in
set_option maxHeartbeats 16000000 in
theorem block_any (v : Value) (T : List Tk) (hT : GoodT T) (f : Nat) (ih : ∀ f', f' ≤ f → StSpec v T f') (a d : Nat) (r : PR Nd) (w : World) (hr : blkF (f + 1) T a d = some r) (ha : a < T.length) (hd : d ≤ 62) (h : Toks w v T) :
    Calls Tryd.prog 57 #[v, .int .i64 (a : Nat), .int .i64 (d : Nat)] w fun e w' => NodeIs r w.heap.size e w' ∧ Below w.heap.size w w' := by
  have LO := Lib.hid (fun f => locals_any v T hT f (expr_all v T hT f))
  have HT := Lib.hid (fun W (hW : Below w.heap.size w W) => h.below hW)
  have HG := Lib.hid hT
  have hTl := hT.len
  obtain ⟨tb, to_, cv, rfl, -, -, hcell⟩ := h.fix hT.e.pos
  have HC := Lib.hid hcell
  clear h hcell
  have Ih := Lib.hid ih
  clear ih hT
  unfold blkF at hr
  cases q1 : isT T a sBeg with
  | false =>
    rw [q1, if_neg (by decide)] at hr
    obtain rfl := Option.some.inj hr
    go_enter Tryd.func57, Tryd.ntmps57
    go_wp2_with fail
    refine calls_gen (fun W => RowAt W w.heap.size 55 #[.int .i64 0, .string ⟨#[]⟩, .string ⟨#[]⟩, .int .i64 0, .int .i64 0, .int .i64 0, .int .i64 0, .int .i64 0, .slice none 0 0] ∧ RowAt W (w.heap.size + 1) 68 #[.int .i64 0, .int .i64 0] ∧ Below w.heap.size w W) ⟨(row_new rfl).alloc _, row_new (by simp), ((Below.refl _ w).alloc (Nat.le_refl _) _).alloc (by simp) _⟩ ?_
    rintro W1 ⟨g1, h1, b1⟩
    have RG1 := Lib.hid g1
    have RH1 := Lib.hid h1
    have B1 := Lib.hid b1
    have hlt1 := h1.lt
    clear g1 h1 b1
    refine (is_at (s := ⟨#[123]⟩) (HT.out W1 B1.out) q1).mono ?_
    rintro e w' ⟨rfl, hw⟩
    have hw := hw.symm
    subst hw
    go_wp2_with fail
    refine (syntax_any _ _).mono ?_
    rintro e w9 ⟨rfl, b9⟩
    have RG9 := RG1.out.later b9
    have RH9 := RH1.out.later b9
    have B9 := B1.out.trans (b9.mono B1.out.size)
    have z0 := RG9.frozen 0
    have z1 := RG9.frozen 1
    have z2 := RG9.frozen 2
    have z3 := RG9.frozen 3
    have z4 := RG9.frozen 4
    have z5 := RG9.frozen 5
    have z6 := RG9.frozen 6
    have z7 := RG9.frozen 7
    have z8 := RG9.frozen 8
    have y0 := RH9.frozen 0
    have y1 := RH9.frozen 1
    obtain ⟨r0, r1, r2, r3, r4, r5, r6, r7, r8⟩ := (show Cells w9 w.heap.size 0 ⟨0, [], [], 0, 0, 0, 0, 0⟩ (.slice none 0 0) from Cells.row RG9)
    simp only [Nat.zero_add] at r1 r2 r3 r4 r5 r6 r7 r8
    have s0 : w9.cell? ⟨w.heap.size + 1, 0, none⟩ = some (.int .i64 0) := RH9.cell rfl
    have s1 : w9.cell? ⟨w.heap.size + 1, 1, none⟩ = some (.int .i64 0) := RH9.cell rfl
    have RG9' := Lib.hid RG9
    have RH9' := Lib.hid RH9
    have B9' := Lib.hid B9
    clear RG9 RH9 B9 b9
    go_wp2_with fail
    obtain ⟨k1, k2, k3, k4, k5⟩ := both_rows RG9'.out RH9'.out (by omega) ⟨0, [], [], 0, 0, 0, 0, 0⟩ (.slice none 0 0) ((a : Nat) : Int) 120 rfl
    exact fin_node 6 7 8 rfl rfl rfl k1 k2 ⟨rfl, B9'.out.trans (k5 _ (Nat.le_refl _) (by omega))⟩
  | true =>
    rw [q1, if_pos rfl] at hr
    have ha1 : a + 1 < T.length := isT_lt HG.out.e q1
    go_enter Tryd.func57, Tryd.ntmps57
    go_wp2_with fail
    refine calls_gen (fun W => RowAt W w.heap.size 55 #[.int .i64 0, .string ⟨#[]⟩, .string ⟨#[]⟩, .int .i64 0, .int .i64 0, .int .i64 0, .int .i64 0, .int .i64 0, .slice none 0 0] ∧ RowAt W (w.heap.size + 1) 68 #[.int .i64 0, .int .i64 0] ∧ Below w.heap.size w W) ⟨(row_new rfl).alloc _, row_new (by simp), ((Below.refl _ w).alloc (Nat.le_refl _) _).alloc (by simp) _⟩ ?_
    rintro W1 ⟨g1, h1, b1⟩
    have RG1 := Lib.hid g1
    have RH1 := Lib.hid h1
    have B1 := Lib.hid b1
    have hlt1 := h1.lt
    clear g1 h1 b1
    refine (is_at (s := ⟨#[123]⟩) (HT.out W1 B1.out) q1).mono ?_
    rintro e w' ⟨rfl, hw⟩
    have hw := hw.symm
    subst hw
    have OQ1 : Hid (OwnQ (fun _ => True) W1.heap.size W1 (.slice none 0 0) []) := Lib.hid (OwnQ.nil (Nat.le_refl _))
    have Hr := Lib.hid hr
    clear hr
    go_wp2_with fail
    go_loopw [9, 10] (fun ov c wr => ∃ (f' k : Nat) (ps : List Pr), c = .int .i64 k ∧ f' ≤ f ∧ a < k ∧ k < T.length ∧ Hid (cntL (ps.map (·.1)) + a + 1 ≤ k) ∧ Hid (blkLF f' T a k d (ps.map (·.1)) = some r) ∧ Hid (RowAt wr w.heap.size 55 #[.int .i64 0, .string ⟨#[]⟩, .string ⟨#[]⟩, .int .i64 0, .int .i64 0, .int .i64 0, .int .i64 0, .int .i64 0, .slice none 0 0]) ∧ Hid (RowAt wr (w.heap.size + 1) 68 #[.int .i64 0, .int .i64 0]) ∧ Hid (OwnQ (fun _ => True) W1.heap.size wr ov ps) ∧ Hid (Below w.heap.size w wr)) (fun _ c _ => T.length - (intOf c).toNat)
    case atStart => exact ⟨f, a + 1, [], rfl, Nat.le_refl _, by omega, ha1, Lib.hid (by simp [cntL]), Hr, RG1, RH1, OQ1, B1⟩
    case round =>
      obtain ⟨f', k, ps, rfl, hf', hak, hk, hcnt, hrl, RG3, RH3, OQ3, B3⟩ := hrel
      obtain ⟨an, nn, cn, rfl⟩ := ownq_slice OQ3.out
      have hbase := OQ3.out.bas
      have hpl : ps.length ≤ cntL (ps.map (·.1)) := by have h9 := cntL_len (ps.map (·.1)); rw [List.length_map] at h9; exact h9
      have hpk : ps.length + 1 ≤ k := by have h9 := hcnt.out; omega
      clear hpl
      cases f' with
      | zero => have := hrl.out; unfold blkLF at this; cases this
      | succ f' =>
      have hr := hrl.out
      unfold blkLF at hr
      clear hrl
      cases q2 : isT T k sEnd with
      | true =>
        rw [q2, if_pos rfl] at hr
        obtain rfl := Option.some.inj hr
        have hk1 : k + 1 < T.length := isT_lt HG.out.e q2
        go_wp2_with fail
        refine (is_at (s := ⟨#[125]⟩) (HT.out wr B3.out) q2).mono ?_
        rintro e w' ⟨rfl, hw⟩
        have hw := hw.symm
        subst hw
        go_wp2_with fail
        obtain ⟨F', s1, -⟩ := OQ3.out.kids
        refine (made_at (.slice (some ⟨tb, to_, none⟩) T.length cv) an nn cn T HG.out 5 a (k + 1) (by omega) (by omega) (by omega) wr (HT.out wr B3.out)).mono ?_
        rintro e w8 ⟨rfl, b8⟩
        have RG8 := Lib.hid (RG3.out.later b8)
        have RH8 := Lib.hid (RH3.out.later b8)
        have B8 := Lib.hid (B3.out.trans (b8.mono B3.out.size))
        have S8 := Lib.hid (s1.below b8)
        clear b8 s1
        go_wp2_with fail
        refine (fine_any _).mono ?_
        rintro e w9 ⟨rfl, b9⟩
        have RG9 := RG8.out.later b9
        have RH9 := RH8.out.later b9
        have B9 := Lib.hid (B8.out.trans (b9.mono B8.out.size))
        have S9 := Lib.hid (S8.out.below b9)
        have z0 := RG9.frozen 0
        have z1 := RG9.frozen 1
        have z2 := RG9.frozen 2
        have z3 := RG9.frozen 3
        have z4 := RG9.frozen 4
        have z5 := RG9.frozen 5
        have z6 := RG9.frozen 6
        have z7 := RG9.frozen 7
        have z8 := RG9.frozen 8
        have y0 := RH9.frozen 0
        have y1 := RH9.frozen 1
        obtain ⟨r0, r1, r2, r3, r4, r5, r6, r7, r8⟩ := (show Cells w9 w.heap.size 0 ⟨0, [], [], 0, 0, 0, 0, 0⟩ (.slice none 0 0) from Cells.row RG9)
        simp only [Nat.zero_add] at r1 r2 r3 r4 r5 r6 r7 r8
        have s0 : w9.cell? ⟨w.heap.size + 1, 0, none⟩ = some (.int .i64 0) := RH9.cell rfl
        have s1 : w9.cell? ⟨w.heap.size + 1, 1, none⟩ = some (.int .i64 0) := RH9.cell rfl
        have RG9' := Lib.hid RG9
        have RH9' := Lib.hid RH9
        clear RG9 RH9 b9
        go_wp2_with fail
        obtain ⟨k1, k2, k3, k4, k5⟩ := both_rows RG9'.out RH9'.out (by omega) (madeH T 5 a (k + 1)) (.slice an nn cn) (-1) 0 rfl
        exact fin_node 6 7 8 rfl rfl rfl k1 k2 ⟨⟨an, nn, cn, F', rfl, sup_past S9.out k3 k4 (by omega) (by omega) B1.out.size⟩, B9.out.trans (k5 _ (Nat.le_refl _) (by omega))⟩
      | false =>
        rw [q2, if_neg (by decide)] at hr
        go_wp2_with fail
        refine (is_at (s := ⟨#[125]⟩) (HT.out wr B3.out) q2).mono ?_
        rintro e w' ⟨rfl, hw⟩
        have hw := hw.symm
        subst hw
        go_wp2_with fail
        refine calls_gen (fun W => RowAt W w.heap.size 55 #[.int .i64 0, .string ⟨#[]⟩, .string ⟨#[]⟩, .int .i64 0, .int .i64 0, .int .i64 0, .int .i64 0, .int .i64 0, .slice none 0 0] ∧ RowAt W (w.heap.size + 1) 68 #[.int .i64 0, .int .i64 0] ∧ RowAt W wr.heap.size 55 #[.int .i64 0, .string ⟨#[]⟩, .string ⟨#[]⟩, .int .i64 0, .int .i64 0, .int .i64 0, .int .i64 0, .int .i64 0, .slice none 0 0] ∧ RowAt W (wr.heap.size + 1) 68 #[.int .i64 0, .int .i64 0] ∧ Below wr.heap.size wr W ∧ wr.heap.size + 2 ≤ W.heap.size) ⟨(RG3.out.alloc _).alloc _, (RH3.out.alloc _).alloc _, (row_new rfl).alloc _, row_new (by simp), ((Below.refl _ _).alloc (Nat.le_refl _) _).alloc (by simp) _, by simp⟩ ?_
        rintro W4 ⟨g4, h4, d4, e4, b4, l4⟩
        have RG4 := Lib.hid g4
        have RH4 := Lib.hid h4
        have RD4 := Lib.hid d4
        have RE4 := Lib.hid e4
        have B4 := Lib.hid (B3.out.trans (b4.mono B3.out.size))
        have b34 := Lib.hid b4
        have hs4 := l4
        clear g4 h4 d4 e4 b4 l4
        cases q3 : localT T k with
        | true =>
          rw [q3, if_pos rfl] at hr
          obtain ⟨x, hx⟩ : ∃ x, localsF f' T k (d + 1) = x := ⟨_, rfl⟩
          have gx := (locals_ok HG.out.e f' k (d + 1) hk).2
          rw [hx] at hr gx
          cases x with
          | none => cases hr
          | some x =>
          by_cases h60 : 60 < d + 1
          · have hr : bindP (some (if 60 < d + 1 then PR.bad k 2 else x)) (fun n b => blkLF f' T a b d (ps.map (·.1) ++ [n])) = some r := hr
            rw [if_pos h60] at hr
            have CX := Lib.hid (fun W hW => LO.out f' k (d + 1) x W hx hk (by omega) (HT.out W hW))
            clear hx
            refine (local_at (HT.out W4 B4.out) q3 (by omega)).mono ?_
            rintro e w' ⟨rfl, hw⟩
            have hw := hw.symm
            subst hw
            go_wp2_with fail
            refine (CX.out W4 B4.out).mono ?_
            rintro e w5 ⟨hni, b5⟩
            have RG5 := Lib.hid (RG4.out.later b5)
            have RH5 := Lib.hid (RH4.out.later b5)
            have RD5 := Lib.hid (RD4.out.later b5)
            have RE5 := Lib.hid (RE4.out.later b5)
            have B5 := Lib.hid (B4.out.trans (b5.mono B4.out.size))
            have b35 := Lib.hid (b34.out.trans (b5.mono b34.out.size))
            have hs5 := b5.size
            clear b5
            obtain rfl : PR.bad k 2 = r := Option.some.inj hr
            have q0 : decide ((d : Int) + 1 > 60) = true := decide_eq_true (by omega)
            have q0' : decide (60 < d + 1) = true := decide_eq_true (by omega)
            have q0'' : decide (60 < (d : Int) + 1) = true := decide_eq_true (by omega)
            have p1 : decide ((k : Int) ≥ 0) = true := decide_eq_true (by omega)
            have p2 : decide ((0 : Int) ≤ (k : Int)) = true := decide_eq_true (by omega)
            cases x with
            | bad p c =>
              obtain rfl := hni
              have zd0 := RD5.out.frozen 0
              have zd1 := RD5.out.frozen 1
              have zd2 := RD5.out.frozen 2
              have zd3 := RD5.out.frozen 3
              have zd4 := RD5.out.frozen 4
              have zd5 := RD5.out.frozen 5
              have zd6 := RD5.out.frozen 6
              have zd7 := RD5.out.frozen 7
              have zd8 := RD5.out.frozen 8
              have ye0 := RE5.out.frozen 0
              have ye1 := RE5.out.frozen 1
              obtain ⟨rd0, rd1, rd2, rd3, rd4, rd5, rd6, rd7, rd8⟩ := nineC RD5.out
              have se0 : w5.cell? ⟨(wr.heap.size + 1), 0, none⟩ = some (.int .i64 0) := RE5.out.cell rfl
              have se1 : w5.cell? ⟨(wr.heap.size + 1), 1, none⟩ = some (.int .i64 0) := RE5.out.cell rfl
              have BR := Lib.hid (fun V => both_rows (V := V) RD5.out RE5.out (by omega) (⟨0, [], [], 0, 0, 0, 0, 0⟩ : Hd) (.slice none 0 0) ((p : Nat)) (c))
              go_upto_region 11 with fail
              refine wp_gen (fun W => RowAt W w.heap.size 55 #[.int .i64 0, .string ⟨#[]⟩, .string ⟨#[]⟩, .int .i64 0, .int .i64 0, .int .i64 0, .int .i64 0, .int .i64 0, .slice none 0 0] ∧ RowAt W (w.heap.size + 1) 68 #[.int .i64 0, .int .i64 0] ∧ RowAt W wr.heap.size 55 ((⟨0, [], [], 0, 0, 0, 0, 0⟩ : Hd).vals (.slice none 0 0)) ∧ RowAt W (wr.heap.size + 1) 68 #[.int .i64 ((p : Nat)), .int .i64 (c)] ∧ OwnQ (fun _ => True) W1.heap.size W (.slice an nn cn) ps ∧ Below w.heap.size w W ∧ w5.heap.size ≤ W.heap.size) (by
                obtain ⟨k1, k2, k3, k4, k5⟩ := BR.out _ rfl
                exact ⟨RowAt.same RG5.out (k4 _ (by omega) (by omega)), RowAt.same RH5.out (k4 _ (by omega) (by omega)), k1, k2, OwnQ.past OQ3.out b35.out k3 (fun b hb => k4 b (by omega) (by omega)), B5.out.trans (k5 _ (by omega) (by omega)), Nat.le_of_eq k3.symm⟩) ?_
              rintro W6 ⟨g6, h6, d6, e6, q6, b6, l6⟩
              have RG6 := Lib.hid g6
              have RH6 := Lib.hid h6
              have RD6 := Lib.hid d6
              have RE6 := Lib.hid e6
              have B6 := Lib.hid b6
              have OQ6 := Lib.hid q6

              have hs6 : (wr.heap.size + 1) < W6.heap.size := RE6.out.lt
              clear g6 h6 d6 e6 q6 b6 BR
              clear zd0 zd1 zd2 zd3 zd4 zd5 zd6 zd7 zd8 ye0 ye1 rd0 rd1 rd2 rd3 rd4 rd5 rd6 rd7 rd8 se0 se1
              have ye0 := RE6.out.frozen 0
              have ye1 := RE6.out.frozen 1
              have se0 : W6.cell? ⟨(wr.heap.size + 1), 0, none⟩ = some (.int .i64 ((p : Nat))) := RE6.out.cell rfl
              have se1 : W6.cell? ⟨(wr.heap.size + 1), 1, none⟩ = some (.int .i64 (c)) := RE6.out.cell rfl
              have BP := Lib.hid (fun V => pair_row (V := V) RE6.out (k : Nat) 2)
              go_upto_region 14 with fail
              refine wp_gen (fun W => RowAt W w.heap.size 55 #[.int .i64 0, .string ⟨#[]⟩, .string ⟨#[]⟩, .int .i64 0, .int .i64 0, .int .i64 0, .int .i64 0, .int .i64 0, .slice none 0 0] ∧ RowAt W (w.heap.size + 1) 68 #[.int .i64 0, .int .i64 0] ∧ RowAt W (wr.heap.size + 1) 68 #[.int .i64 (k : Nat), .int .i64 2] ∧ Below w.heap.size w W) (by
                obtain ⟨k2, k3, k4, k5⟩ := BP.out _ rfl
                exact ⟨RowAt.same RG6.out (k4 _ (by omega)), RowAt.same RH6.out (k4 _ (by omega)), k2, B6.out.trans (k5 _ (by omega))⟩) ?_
              clear ye0 ye1 se0 se1
              rintro W6 ⟨g6, h6, e6, b6⟩
              have RG6 := Lib.hid g6
              have RH6 := Lib.hid h6
              have RE6 := Lib.hid e6
              have B6 := Lib.hid b6
              have hs6 : (wr.heap.size + 1) < W6.heap.size := RE6.out.lt
              clear g6 h6 e6 b6
              have t0 : W6.cell? ⟨(wr.heap.size + 1), 0, none⟩ = some (.int .i64 ((k : Nat))) := RE6.out.cell rfl
              go_wp2_with fail
              refine wp_gen (fun W => RowAt W w.heap.size 55 #[.int .i64 0, .string ⟨#[]⟩, .string ⟨#[]⟩, .int .i64 0, .int .i64 0, .int .i64 0, .int .i64 0, .int .i64 0, .slice none 0 0] ∧ RowAt W (w.heap.size + 1) 68 #[.int .i64 0, .int .i64 0] ∧ RowAt W (wr.heap.size + 1) 68 #[.int .i64 (k : Nat), .int .i64 2] ∧ Below w.heap.size w W) ⟨RG6.out, RH6.out, RE6.out, B6.out⟩ ?_
              rintro W3 ⟨g3, h3, t3, b3⟩
              have z0 := g3.frozen 0
              have z1 := g3.frozen 1
              have z2 := g3.frozen 2
              have z3 := g3.frozen 3
              have z4 := g3.frozen 4
              have z5 := g3.frozen 5
              have z6 := g3.frozen 6
              have z7 := g3.frozen 7
              have z8 := g3.frozen 8
              have y0 := h3.frozen 0
              have y1 := h3.frozen 1
              obtain ⟨r0, r1, r2, r3, r4, r5, r6, r7, r8⟩ := (show Cells W3 w.heap.size 0 ⟨0, [], [], 0, 0, 0, 0, 0⟩ (.slice none 0 0) from Cells.row g3)
              simp only [Nat.zero_add] at r1 r2 r3 r4 r5 r6 r7 r8
              have s0 : W3.cell? ⟨w.heap.size + 1, 0, none⟩ = some (.int .i64 0) := h3.cell rfl
              have s1 : W3.cell? ⟨w.heap.size + 1, 1, none⟩ = some (.int .i64 0) := h3.cell rfl
              have t0 : W3.cell? ⟨(wr.heap.size + 1), 0, none⟩ = some (.int .i64 (k : Nat)) := t3.cell rfl
              have t1 : W3.cell? ⟨(wr.heap.size + 1), 1, none⟩ = some (.int .i64 2) := t3.cell rfl
              have ne1 : (wr.heap.size + 1) ≠ w.heap.size := by omega
              have G3 := Lib.hid g3
              have H3 := Lib.hid h3
              have B3 := Lib.hid b3
              clear g3 h3 t3 b3
              go_region
              all_goals
                go_wp2_with fail
                obtain ⟨k1, k2, k3, k4, k5⟩ := both_rows_d G3.out H3.out (by omega) ⟨0, [], [], 0, 0, 0, 0, 0⟩ (.slice none 0 0) (k : Nat) 2 rfl
                exact fin_node 6 7 8 rfl rfl rfl k1 k2 ⟨rfl, B3.out.trans (k5 _ (Nat.le_refl _) (by omega))⟩

            | ok m b =>
              obtain ⟨ka, kn, kc, F, rfl, hsup⟩ := hni
              have HS := Lib.hid hsup
              clear hsup
              have zd0 := RD5.out.frozen 0
              have zd1 := RD5.out.frozen 1
              have zd2 := RD5.out.frozen 2
              have zd3 := RD5.out.frozen 3
              have zd4 := RD5.out.frozen 4
              have zd5 := RD5.out.frozen 5
              have zd6 := RD5.out.frozen 6
              have zd7 := RD5.out.frozen 7
              have zd8 := RD5.out.frozen 8
              have ye0 := RE5.out.frozen 0
              have ye1 := RE5.out.frozen 1
              obtain ⟨rd0, rd1, rd2, rd3, rd4, rd5, rd6, rd7, rd8⟩ := nineC RD5.out
              have se0 : w5.cell? ⟨(wr.heap.size + 1), 0, none⟩ = some (.int .i64 0) := RE5.out.cell rfl
              have se1 : w5.cell? ⟨(wr.heap.size + 1), 1, none⟩ = some (.int .i64 0) := RE5.out.cell rfl
              have BR := Lib.hid (fun V => both_rows (V := V) RD5.out RE5.out (by omega) m.hd (.slice ka kn kc) (-1) (0))
              go_upto_region 11 with fail
              refine wp_gen (fun W => RowAt W w.heap.size 55 #[.int .i64 0, .string ⟨#[]⟩, .string ⟨#[]⟩, .int .i64 0, .int .i64 0, .int .i64 0, .int .i64 0, .int .i64 0, .slice none 0 0] ∧ RowAt W (w.heap.size + 1) 68 #[.int .i64 0, .int .i64 0] ∧ RowAt W wr.heap.size 55 (m.hd.vals (.slice ka kn kc)) ∧ RowAt W (wr.heap.size + 1) 68 #[.int .i64 (-1), .int .i64 (0)] ∧ Sup W W4.heap.size m.kids (.slice ka kn kc) F ∧ OwnQ (fun _ => True) W1.heap.size W (.slice an nn cn) ps ∧ Below w.heap.size w W ∧ w5.heap.size ≤ W.heap.size) (by
                obtain ⟨k1, k2, k3, k4, k5⟩ := BR.out _ rfl
                exact ⟨RowAt.same RG5.out (k4 _ (by omega) (by omega)), RowAt.same RH5.out (k4 _ (by omega) (by omega)), k1, k2, sup_past HS.out k3 k4 (by omega) (by omega) (Nat.le_refl _), OwnQ.past OQ3.out b35.out k3 (fun b hb => k4 b (by omega) (by omega)), B5.out.trans (k5 _ (by omega) (by omega)), Nat.le_of_eq k3.symm⟩) ?_
              rintro W6 ⟨g6, h6, d6, e6, s6, q6, b6, l6⟩
              have RG6 := Lib.hid g6
              have RH6 := Lib.hid h6
              have RD6 := Lib.hid d6
              have RE6 := Lib.hid e6
              have B6 := Lib.hid b6
              have OQ6 := Lib.hid q6
              have S6 := Lib.hid s6
              have hs6 : (wr.heap.size + 1) < W6.heap.size := RE6.out.lt
              clear g6 h6 d6 e6 s6 q6 b6 BR
              clear zd0 zd1 zd2 zd3 zd4 zd5 zd6 zd7 zd8 ye0 ye1 rd0 rd1 rd2 rd3 rd4 rd5 rd6 rd7 rd8 se0 se1
              have ye0 := RE6.out.frozen 0
              have ye1 := RE6.out.frozen 1
              have se0 : W6.cell? ⟨(wr.heap.size + 1), 0, none⟩ = some (.int .i64 (-1)) := RE6.out.cell rfl
              have se1 : W6.cell? ⟨(wr.heap.size + 1), 1, none⟩ = some (.int .i64 (0)) := RE6.out.cell rfl
              have BP := Lib.hid (fun V => pair_row (V := V) RE6.out (k : Nat) 2)
              go_upto_region 14 with fail
              refine wp_gen (fun W => RowAt W w.heap.size 55 #[.int .i64 0, .string ⟨#[]⟩, .string ⟨#[]⟩, .int .i64 0, .int .i64 0, .int .i64 0, .int .i64 0, .int .i64 0, .slice none 0 0] ∧ RowAt W (w.heap.size + 1) 68 #[.int .i64 0, .int .i64 0] ∧ RowAt W (wr.heap.size + 1) 68 #[.int .i64 (k : Nat), .int .i64 2] ∧ Below w.heap.size w W) (by
                obtain ⟨k2, k3, k4, k5⟩ := BP.out _ rfl
                exact ⟨RowAt.same RG6.out (k4 _ (by omega)), RowAt.same RH6.out (k4 _ (by omega)), k2, B6.out.trans (k5 _ (by omega))⟩) ?_
              clear ye0 ye1 se0 se1
              rintro W6 ⟨g6, h6, e6, b6⟩
              have RG6 := Lib.hid g6
              have RH6 := Lib.hid h6
              have RE6 := Lib.hid e6
              have B6 := Lib.hid b6
              have hs6 : (wr.heap.size + 1) < W6.heap.size := RE6.out.lt
              clear g6 h6 e6 b6
              have t0 : W6.cell? ⟨(wr.heap.size + 1), 0, none⟩ = some (.int .i64 ((k : Nat))) := RE6.out.cell rfl
              go_wp2_with fail
              refine wp_gen (fun W => RowAt W w.heap.size 55 #[.int .i64 0, .string ⟨#[]⟩, .string ⟨#[]⟩, .int .i64 0, .int .i64 0, .int .i64 0, .int .i64 0, .int .i64 0, .slice none 0 0] ∧ RowAt W (w.heap.size + 1) 68 #[.int .i64 0, .int .i64 0] ∧ RowAt W (wr.heap.size + 1) 68 #[.int .i64 (k : Nat), .int .i64 2] ∧ Below w.heap.size w W) ⟨RG6.out, RH6.out, RE6.out, B6.out⟩ ?_
              rintro W3 ⟨g3, h3, t3, b3⟩
              have z0 := g3.frozen 0
              have z1 := g3.frozen 1
              have z2 := g3.frozen 2
              have z3 := g3.frozen 3
              have z4 := g3.frozen 4
              have z5 := g3.frozen 5
              have z6 := g3.frozen 6
              have z7 := g3.frozen 7
              have z8 := g3.frozen 8
              have y0 := h3.frozen 0
              have y1 := h3.frozen 1
              obtain ⟨r0, r1, r2, r3, r4, r5, r6, r7, r8⟩ := (show Cells W3 w.heap.size 0 ⟨0, [], [], 0, 0, 0, 0, 0⟩ (.slice none 0 0) from Cells.row g3)
              simp only [Nat.zero_add] at r1 r2 r3 r4 r5 r6 r7 r8
              have s0 : W3.cell? ⟨w.heap.size + 1, 0, none⟩ = some (.int .i64 0) := h3.cell rfl
              have s1 : W3.cell? ⟨w.heap.size + 1, 1, none⟩ = some (.int .i64 0) := h3.cell rfl
              have t0 : W3.cell? ⟨(wr.heap.size + 1), 0, none⟩ = some (.int .i64 (k : Nat)) := t3.cell rfl
              have t1 : W3.cell? ⟨(wr.heap.size + 1), 1, none⟩ = some (.int .i64 2) := t3.cell rfl
              have ne1 : (wr.heap.size + 1) ≠ w.heap.size := by omega
              have G3 := Lib.hid g3
              have H3 := Lib.hid h3
              have B3 := Lib.hid b3
              clear g3 h3 t3 b3
              go_region
              all_goals
                go_wp2_with fail
                obtain ⟨k1, k2, k3, k4, k5⟩ := both_rows_d G3.out H3.out (by omega) ⟨0, [], [], 0, 0, 0, 0, 0⟩ (.slice none 0 0) (k : Nat) 2 rfl
                exact fin_node 6 7 8 rfl rfl rfl k1 k2 ⟨rfl, B3.out.trans (k5 _ (Nat.le_refl _) (by omega))⟩

          · have hr : bindP (some (if 60 < d + 1 then PR.bad k 2 else x)) (fun n b => blkLF f' T a b d (ps.map (·.1) ++ [n])) = some r := hr
            rw [if_neg h60] at hr
            have CX := Lib.hid (fun W hW => LO.out f' k (d + 1) x W hx hk (by omega) (HT.out W hW))
            clear hx
            refine (local_at (HT.out W4 B4.out) q3 (by omega)).mono ?_
            rintro e w' ⟨rfl, hw⟩
            have hw := hw.symm
            subst hw
            go_wp2_with fail
            refine (CX.out W4 B4.out).mono ?_
            rintro e w5 ⟨hni, b5⟩
            have RG5 := Lib.hid (RG4.out.later b5)
            have RH5 := Lib.hid (RH4.out.later b5)
            have RD5 := Lib.hid (RD4.out.later b5)
            have RE5 := Lib.hid (RE4.out.later b5)
            have B5 := Lib.hid (B4.out.trans (b5.mono B4.out.size))
            have b35 := Lib.hid (b34.out.trans (b5.mono b34.out.size))
            have hs5 := b5.size
            clear b5
            have q0 : decide ((d : Int) + 1 > 60) = false := decide_eq_false (by omega)
            have q0' : decide (60 < d + 1) = false := decide_eq_false (by omega)
            have q0'' : decide (60 < (d : Int) + 1) = false := decide_eq_false (by omega)
            cases x with
            | bad p c =>
              obtain rfl : PR.bad p c = r := Option.some.inj hr
              obtain rfl := hni
              have zd0 := RD5.out.frozen 0
              have zd1 := RD5.out.frozen 1
              have zd2 := RD5.out.frozen 2
              have zd3 := RD5.out.frozen 3
              have zd4 := RD5.out.frozen 4
              have zd5 := RD5.out.frozen 5
              have zd6 := RD5.out.frozen 6
              have zd7 := RD5.out.frozen 7
              have zd8 := RD5.out.frozen 8
              have ye0 := RE5.out.frozen 0
              have ye1 := RE5.out.frozen 1
              obtain ⟨rd0, rd1, rd2, rd3, rd4, rd5, rd6, rd7, rd8⟩ := nineC RD5.out
              have se0 : w5.cell? ⟨(wr.heap.size + 1), 0, none⟩ = some (.int .i64 0) := RE5.out.cell rfl
              have se1 : w5.cell? ⟨(wr.heap.size + 1), 1, none⟩ = some (.int .i64 0) := RE5.out.cell rfl
              have BR := Lib.hid (fun V => both_rows (V := V) RD5.out RE5.out (by omega) (⟨0, [], [], 0, 0, 0, 0, 0⟩ : Hd) (.slice none 0 0) ((p : Nat)) (c))
              go_upto_region 11 with fail
              refine wp_gen (fun W => RowAt W w.heap.size 55 #[.int .i64 0, .string ⟨#[]⟩, .string ⟨#[]⟩, .int .i64 0, .int .i64 0, .int .i64 0, .int .i64 0, .int .i64 0, .slice none 0 0] ∧ RowAt W (w.heap.size + 1) 68 #[.int .i64 0, .int .i64 0] ∧ RowAt W wr.heap.size 55 ((⟨0, [], [], 0, 0, 0, 0, 0⟩ : Hd).vals (.slice none 0 0)) ∧ RowAt W (wr.heap.size + 1) 68 #[.int .i64 ((p : Nat)), .int .i64 (c)] ∧ OwnQ (fun _ => True) W1.heap.size W (.slice an nn cn) ps ∧ Below w.heap.size w W ∧ w5.heap.size ≤ W.heap.size) (by
                obtain ⟨k1, k2, k3, k4, k5⟩ := BR.out _ rfl
                exact ⟨RowAt.same RG5.out (k4 _ (by omega) (by omega)), RowAt.same RH5.out (k4 _ (by omega) (by omega)), k1, k2, OwnQ.past OQ3.out b35.out k3 (fun b hb => k4 b (by omega) (by omega)), B5.out.trans (k5 _ (by omega) (by omega)), Nat.le_of_eq k3.symm⟩) ?_
              rintro W6 ⟨g6, h6, d6, e6, q6, b6, l6⟩
              have RG6 := Lib.hid g6
              have RH6 := Lib.hid h6
              have RD6 := Lib.hid d6
              have RE6 := Lib.hid e6
              have B6 := Lib.hid b6
              have OQ6 := Lib.hid q6

              have hs6 : (wr.heap.size + 1) < W6.heap.size := RE6.out.lt
              clear g6 h6 d6 e6 q6 b6 BR
              clear zd0 zd1 zd2 zd3 zd4 zd5 zd6 zd7 zd8 ye0 ye1 rd0 rd1 rd2 rd3 rd4 rd5 rd6 rd7 rd8 se0 se1
              have t0 : W6.cell? ⟨(wr.heap.size + 1), 0, none⟩ = some (.int .i64 ((p : Nat))) := RE6.out.cell rfl
              have p1 : decide ((p : Int) ≥ 0) = true := decide_eq_true (by omega)
              have p2 : decide ((0 : Int) ≤ (p : Int)) = true := decide_eq_true (by omega)
              go_wp2_with fail
              refine wp_gen (fun W => RowAt W w.heap.size 55 #[.int .i64 0, .string ⟨#[]⟩, .string ⟨#[]⟩, .int .i64 0, .int .i64 0, .int .i64 0, .int .i64 0, .int .i64 0, .slice none 0 0] ∧ RowAt W (w.heap.size + 1) 68 #[.int .i64 0, .int .i64 0] ∧ RowAt W (wr.heap.size + 1) 68 #[.int .i64 (p : Nat), .int .i64 c] ∧ Below w.heap.size w W) ⟨RG6.out, RH6.out, RE6.out, B6.out⟩ ?_
              rintro W3 ⟨g3, h3, t3, b3⟩
              have z0 := g3.frozen 0
              have z1 := g3.frozen 1
              have z2 := g3.frozen 2
              have z3 := g3.frozen 3
              have z4 := g3.frozen 4
              have z5 := g3.frozen 5
              have z6 := g3.frozen 6
              have z7 := g3.frozen 7
              have z8 := g3.frozen 8
              have y0 := h3.frozen 0
              have y1 := h3.frozen 1
              obtain ⟨r0, r1, r2, r3, r4, r5, r6, r7, r8⟩ := (show Cells W3 w.heap.size 0 ⟨0, [], [], 0, 0, 0, 0, 0⟩ (.slice none 0 0) from Cells.row g3)
              simp only [Nat.zero_add] at r1 r2 r3 r4 r5 r6 r7 r8
              have s0 : W3.cell? ⟨w.heap.size + 1, 0, none⟩ = some (.int .i64 0) := h3.cell rfl
              have s1 : W3.cell? ⟨w.heap.size + 1, 1, none⟩ = some (.int .i64 0) := h3.cell rfl
              have t0 : W3.cell? ⟨(wr.heap.size + 1), 0, none⟩ = some (.int .i64 (p : Nat)) := t3.cell rfl
              have t1 : W3.cell? ⟨(wr.heap.size + 1), 1, none⟩ = some (.int .i64 c) := t3.cell rfl
              have ne1 : (wr.heap.size + 1) ≠ w.heap.size := by omega
              have G3 := Lib.hid g3
              have H3 := Lib.hid h3
              have B3 := Lib.hid b3
              clear g3 h3 t3 b3
              go_region
              all_goals
                go_wp2_with fail
                obtain ⟨k1, k2, k3, k4, k5⟩ := both_rows_d G3.out H3.out (by omega) ⟨0, [], [], 0, 0, 0, 0, 0⟩ (.slice none 0 0) p c rfl
                exact fin_node 6 7 8 rfl rfl rfl k1 k2 ⟨rfl, B3.out.trans (k5 _ (Nat.le_refl _) (by omega))⟩
            | ok m b =>
              obtain ⟨v1, v2, v3⟩ := gx m b rfl
              have hr : blkLF f' T a b d (ps.map (·.1) ++ [m]) = some r := hr
              obtain ⟨ka, kn, kc, F, rfl, hsup⟩ := hni
              have HS := Lib.hid hsup
              clear hsup
              have zd0 := RD5.out.frozen 0
              have zd1 := RD5.out.frozen 1
              have zd2 := RD5.out.frozen 2
              have zd3 := RD5.out.frozen 3
              have zd4 := RD5.out.frozen 4
              have zd5 := RD5.out.frozen 5
              have zd6 := RD5.out.frozen 6
              have zd7 := RD5.out.frozen 7
              have zd8 := RD5.out.frozen 8
              have ye0 := RE5.out.frozen 0
              have ye1 := RE5.out.frozen 1
              obtain ⟨rd0, rd1, rd2, rd3, rd4, rd5, rd6, rd7, rd8⟩ := nineC RD5.out
              have se0 : w5.cell? ⟨(wr.heap.size + 1), 0, none⟩ = some (.int .i64 0) := RE5.out.cell rfl
              have se1 : w5.cell? ⟨(wr.heap.size + 1), 1, none⟩ = some (.int .i64 0) := RE5.out.cell rfl
              have BR := Lib.hid (fun V => both_rows (V := V) RD5.out RE5.out (by omega) m.hd (.slice ka kn kc) (-1) (0))
              go_upto_region 11 with fail
              refine wp_gen (fun W => RowAt W w.heap.size 55 #[.int .i64 0, .string ⟨#[]⟩, .string ⟨#[]⟩, .int .i64 0, .int .i64 0, .int .i64 0, .int .i64 0, .int .i64 0, .slice none 0 0] ∧ RowAt W (w.heap.size + 1) 68 #[.int .i64 0, .int .i64 0] ∧ RowAt W wr.heap.size 55 (m.hd.vals (.slice ka kn kc)) ∧ RowAt W (wr.heap.size + 1) 68 #[.int .i64 (-1), .int .i64 (0)] ∧ Sup W W4.heap.size m.kids (.slice ka kn kc) F ∧ OwnQ (fun _ => True) W1.heap.size W (.slice an nn cn) ps ∧ Below w.heap.size w W ∧ w5.heap.size ≤ W.heap.size) (by
                obtain ⟨k1, k2, k3, k4, k5⟩ := BR.out _ rfl
                exact ⟨RowAt.same RG5.out (k4 _ (by omega) (by omega)), RowAt.same RH5.out (k4 _ (by omega) (by omega)), k1, k2, sup_past HS.out k3 k4 (by omega) (by omega) (Nat.le_refl _), OwnQ.past OQ3.out b35.out k3 (fun b hb => k4 b (by omega) (by omega)), B5.out.trans (k5 _ (by omega) (by omega)), Nat.le_of_eq k3.symm⟩) ?_
              rintro W6 ⟨g6, h6, d6, e6, s6, q6, b6, l6⟩
              have RG6 := Lib.hid g6
              have RH6 := Lib.hid h6
              have RD6 := Lib.hid d6
              have RE6 := Lib.hid e6
              have B6 := Lib.hid b6
              have OQ6 := Lib.hid q6
              have S6 := Lib.hid s6
              have hs6 : (wr.heap.size + 1) < W6.heap.size := RE6.out.lt
              clear g6 h6 d6 e6 s6 q6 b6 BR
              clear zd0 zd1 zd2 zd3 zd4 zd5 zd6 zd7 zd8 ye0 ye1 rd0 rd1 rd2 rd3 rd4 rd5 rd6 rd7 rd8 se0 se1
              have t0 : W6.cell? ⟨(wr.heap.size + 1), 0, none⟩ = some (.int .i64 (-1)) := RE6.out.cell rfl
              have p1 : decide ((-1 : Int) ≥ 0) = false := by decide
              have p2 : decide ((0 : Int) ≤ (-1 : Int)) = false := by decide
              obtain ⟨d0, d1, d2, d3, d4, d5, d6, d7, d8⟩ := (show Cells W6 wr.heap.size 0 m.hd (.slice ka kn kc) from Cells.row RD6.out)
              simp only [Nat.zero_add] at d1 d2 d3 d4 d5 d6 d7 d8
              obtain ⟨A, hA⟩ : ∃ A, Hid (W6.alloc (.cells #[.int .i64 m.hd.kind, .string (bs m.hd.text), .string (bs m.hd.type), .int .i64 m.hd.n, .int .i64 m.hd.fr, .int .i64 m.hd.to_, .int .i64 m.hd.at_, .int .i64 m.hd.tat, .slice ka kn kc] 55) = A) := ⟨_, Lib.hid rfl⟩
              have bA : Hid (Below W6.heap.size W6 A) := by rw [← hA.out]; exact Lib.hid ((Below.refl _ _).alloc (Nat.le_refl _) _)
              have hsA : A.heap.size = W6.heap.size + 1 := by rw [← hA.out]; simp
              have OA := Lib.hid (OQ6.out.below bA.out)
              have XA : Hid (OwnS (W4.heap.size) A (.slice (some ⟨W6.heap.size, 0, none⟩) 1 1) [(m, Value.slice ka kn kc)]) := Lib.hid (own_build (ps := [(m, Value.slice ka kn kc)]) (by rw [← hA.out]; exact row_new rfl) (by omega) (by show 1 ≤ maxLen; unfold maxLen; omega) (fun p hp => by
                obtain rfl := List.mem_singleton.1 hp
                exact ⟨_, S6.out.below bA.out, fun b hb => by have := (S6.out.1 b hb).2; omega⟩))
              have hlo6 : Hid (∀ b, (Value.slice an nn cn).ownBlock = some b → b < W4.heap.size) := Lib.hid (fun b hb => by have h9 := (OQ3.out.row.lt b hb).2; omega)
              have hPl6 : Hid (∀ b : Nat, W4.heap.size ≤ b → True) := Lib.hid (fun b hb => trivial)
              have RGA := Lib.hid (RG6.out.later bA.out)
              have RHA := Lib.hid (RH6.out.later bA.out)
              have BA := Lib.hid (B6.out.trans (bA.out.mono B6.out.size))
              go_wp2_with (at_builtin; rw [hA.out]; refine wpList_append_q (w := A) (base := W1.heap.size) (lo := W4.heap.size) (P := fun _ => True) rfl _ _ rfl (Value.slice an nn cn) (.slice (some ⟨W6.heap.size, 0, none⟩) 1 1) ps [(m, Value.slice ka kn kc)] rfl OA.out rfl XA.out hlo6.out hPl6.out (by omega) (by simp only [List.length_cons, List.length_nil]; omega) ?_; intro a7 n7 c7 w7 oq7 hg70)
              have hg7 : A.grownBy w7 (Value.slice an nn cn).ownBlock := hg70
              clear hg70
              have OQ7 := Lib.hid oq7
              have hkb : Hid (∀ b, (Value.slice an nn cn).ownBlock = some b → W1.heap.size ≤ b) := Lib.hid (fun b hb => (OQ6.out.row.lt b hb).1)
              have RG7 := Lib.hid (RowAt.same RGA.out (hg7.block _ RGA.out.lt (fun e => by have h9 := hkb.out _ e.symm; have h8 := B1.out.size; omega)))
              have RH7 := Lib.hid (RowAt.same RHA.out (hg7.block _ RHA.out.lt (fun e => by have h9 := hkb.out _ e.symm; have h8 := B1.out.size; omega)))
              have B7 := Lib.hid (BA.out.grown hg7 (by have := BA.out.size; omega) (fun k e => by have h9 := hkb.out _ e; have h8 := B1.out.size; omega))
              have hs7 := hg7.size
              clear oq7 hg7 d0 d1 d2 d3 d4 d5 d6 d7 d8
              have hc9 := hcnt.out
              exact ⟨⟨f', b, ps ++ [(m, Value.slice ka kn kc)], rfl, by omega, by omega, v2, Lib.hid (by rw [List.map_append, cntL_app]; simp only [List.map_cons, List.map_nil, cntL]; omega), Lib.hid (by rw [List.map_append]; exact hr), RG7, RH7, OQ7, B7⟩, by simp [intOf]; omega⟩
        | false =>
          rw [q3, if_neg (by decide)] at hr
          obtain ⟨x, hx⟩ : ∃ x, stF f' T k (d + 1) = x := ⟨_, rfl⟩
          have gx := ((st_ok HG.out.e f').st k (d + 1) hk).2
          rw [hx] at hr gx
          cases x with
          | none => cases hr
          | some x =>
          have CX := Lib.hid (fun W hW => (Ih.out f' (by omega)).st k (d + 1) x W hx hk (by omega) (HT.out W hW))
          clear hx
          refine (local_at (HT.out W4 B4.out) q3 (by omega)).mono ?_
          rintro e w' ⟨rfl, hw⟩
          have hw := hw.symm
          subst hw
          go_wp2_with fail
          refine (CX.out W4 B4.out).mono ?_
          rintro e w5 ⟨hni, b5⟩
          have RG5 := Lib.hid (RG4.out.later b5)
          have RH5 := Lib.hid (RH4.out.later b5)
          have RD5 := Lib.hid (RD4.out.later b5)
          have RE5 := Lib.hid (RE4.out.later b5)
          have B5 := Lib.hid (B4.out.trans (b5.mono B4.out.size))
          have b35 := Lib.hid (b34.out.trans (b5.mono b34.out.size))
          have hs5 := b5.size
          clear b5
          cases x with
          | bad p c =>
            obtain rfl : PR.bad p c = r := Option.some.inj hr
            obtain rfl := hni
            have zd0 := RD5.out.frozen 0
            have zd1 := RD5.out.frozen 1
            have zd2 := RD5.out.frozen 2
            have zd3 := RD5.out.frozen 3
            have zd4 := RD5.out.frozen 4
            have zd5 := RD5.out.frozen 5
            have zd6 := RD5.out.frozen 6
            have zd7 := RD5.out.frozen 7
            have zd8 := RD5.out.frozen 8
            have ye0 := RE5.out.frozen 0
            have ye1 := RE5.out.frozen 1
            obtain ⟨rd0, rd1, rd2, rd3, rd4, rd5, rd6, rd7, rd8⟩ := nineC RD5.out
            have se0 : w5.cell? ⟨(wr.heap.size + 1), 0, none⟩ = some (.int .i64 0) := RE5.out.cell rfl
            have se1 : w5.cell? ⟨(wr.heap.size + 1), 1, none⟩ = some (.int .i64 0) := RE5.out.cell rfl
            have BR := Lib.hid (fun V => both_rows (V := V) RD5.out RE5.out (by omega) (⟨0, [], [], 0, 0, 0, 0, 0⟩ : Hd) (.slice none 0 0) ((p : Nat)) (c))
            go_upto_region 14 with fail
            refine wp_gen (fun W => RowAt W w.heap.size 55 #[.int .i64 0, .string ⟨#[]⟩, .string ⟨#[]⟩, .int .i64 0, .int .i64 0, .int .i64 0, .int .i64 0, .int .i64 0, .slice none 0 0] ∧ RowAt W (w.heap.size + 1) 68 #[.int .i64 0, .int .i64 0] ∧ RowAt W wr.heap.size 55 ((⟨0, [], [], 0, 0, 0, 0, 0⟩ : Hd).vals (.slice none 0 0)) ∧ RowAt W (wr.heap.size + 1) 68 #[.int .i64 ((p : Nat)), .int .i64 (c)] ∧ OwnQ (fun _ => True) W1.heap.size W (.slice an nn cn) ps ∧ Below w.heap.size w W ∧ w5.heap.size ≤ W.heap.size) (by
              obtain ⟨k1, k2, k3, k4, k5⟩ := BR.out _ rfl
              exact ⟨RowAt.same RG5.out (k4 _ (by omega) (by omega)), RowAt.same RH5.out (k4 _ (by omega) (by omega)), k1, k2, OwnQ.past OQ3.out b35.out k3 (fun b hb => k4 b (by omega) (by omega)), B5.out.trans (k5 _ (by omega) (by omega)), Nat.le_of_eq k3.symm⟩) ?_
            rintro W6 ⟨g6, h6, d6, e6, q6, b6, l6⟩
            have RG6 := Lib.hid g6
            have RH6 := Lib.hid h6
            have RD6 := Lib.hid d6
            have RE6 := Lib.hid e6
            have B6 := Lib.hid b6
            have OQ6 := Lib.hid q6

            have hs6 : (wr.heap.size + 1) < W6.heap.size := RE6.out.lt
            clear g6 h6 d6 e6 q6 b6 BR
            clear zd0 zd1 zd2 zd3 zd4 zd5 zd6 zd7 zd8 ye0 ye1 rd0 rd1 rd2 rd3 rd4 rd5 rd6 rd7 rd8 se0 se1
            have t0 : W6.cell? ⟨(wr.heap.size + 1), 0, none⟩ = some (.int .i64 ((p : Nat))) := RE6.out.cell rfl
            have p1 : decide ((p : Int) ≥ 0) = true := decide_eq_true (by omega)
            have p2 : decide ((0 : Int) ≤ (p : Int)) = true := decide_eq_true (by omega)
            go_wp2_with fail
            refine wp_gen (fun W => RowAt W w.heap.size 55 #[.int .i64 0, .string ⟨#[]⟩, .string ⟨#[]⟩, .int .i64 0, .int .i64 0, .int .i64 0, .int .i64 0, .int .i64 0, .slice none 0 0] ∧ RowAt W (w.heap.size + 1) 68 #[.int .i64 0, .int .i64 0] ∧ RowAt W (wr.heap.size + 1) 68 #[.int .i64 (p : Nat), .int .i64 c] ∧ Below w.heap.size w W) ⟨RG6.out, RH6.out, RE6.out, B6.out⟩ ?_
            rintro W3 ⟨g3, h3, t3, b3⟩
            have z0 := g3.frozen 0
            have z1 := g3.frozen 1
            have z2 := g3.frozen 2
            have z3 := g3.frozen 3
            have z4 := g3.frozen 4
            have z5 := g3.frozen 5
            have z6 := g3.frozen 6
            have z7 := g3.frozen 7
            have z8 := g3.frozen 8
            have y0 := h3.frozen 0
            have y1 := h3.frozen 1
            obtain ⟨r0, r1, r2, r3, r4, r5, r6, r7, r8⟩ := (show Cells W3 w.heap.size 0 ⟨0, [], [], 0, 0, 0, 0, 0⟩ (.slice none 0 0) from Cells.row g3)
            simp only [Nat.zero_add] at r1 r2 r3 r4 r5 r6 r7 r8
            have s0 : W3.cell? ⟨w.heap.size + 1, 0, none⟩ = some (.int .i64 0) := h3.cell rfl
            have s1 : W3.cell? ⟨w.heap.size + 1, 1, none⟩ = some (.int .i64 0) := h3.cell rfl
            have t0 : W3.cell? ⟨(wr.heap.size + 1), 0, none⟩ = some (.int .i64 (p : Nat)) := t3.cell rfl
            have t1 : W3.cell? ⟨(wr.heap.size + 1), 1, none⟩ = some (.int .i64 c) := t3.cell rfl
            have ne1 : (wr.heap.size + 1) ≠ w.heap.size := by omega
            have G3 := Lib.hid g3
            have H3 := Lib.hid h3
            have B3 := Lib.hid b3
            clear g3 h3 t3 b3
            go_region
            all_goals
              go_wp2_with fail
              obtain ⟨k1, k2, k3, k4, k5⟩ := both_rows_d G3.out H3.out (by omega) ⟨0, [], [], 0, 0, 0, 0, 0⟩ (.slice none 0 0) p c rfl
              exact fin_node 6 7 8 rfl rfl rfl k1 k2 ⟨rfl, B3.out.trans (k5 _ (Nat.le_refl _) (by omega))⟩
          | ok m b =>
            obtain ⟨v1, v2, v3⟩ := gx m b rfl
            have hr : blkLF f' T a b d (ps.map (·.1) ++ [m]) = some r := hr
            obtain ⟨ka, kn, kc, F, rfl, hsup⟩ := hni
            have HS := Lib.hid hsup
            clear hsup
            have zd0 := RD5.out.frozen 0
            have zd1 := RD5.out.frozen 1
            have zd2 := RD5.out.frozen 2
            have zd3 := RD5.out.frozen 3
            have zd4 := RD5.out.frozen 4
            have zd5 := RD5.out.frozen 5
            have zd6 := RD5.out.frozen 6
            have zd7 := RD5.out.frozen 7
            have zd8 := RD5.out.frozen 8
            have ye0 := RE5.out.frozen 0
            have ye1 := RE5.out.frozen 1
            obtain ⟨rd0, rd1, rd2, rd3, rd4, rd5, rd6, rd7, rd8⟩ := nineC RD5.out
            have se0 : w5.cell? ⟨(wr.heap.size + 1), 0, none⟩ = some (.int .i64 0) := RE5.out.cell rfl
            have se1 : w5.cell? ⟨(wr.heap.size + 1), 1, none⟩ = some (.int .i64 0) := RE5.out.cell rfl
            have BR := Lib.hid (fun V => both_rows (V := V) RD5.out RE5.out (by omega) m.hd (.slice ka kn kc) (-1) (0))
            go_upto_region 14 with fail
            refine wp_gen (fun W => RowAt W w.heap.size 55 #[.int .i64 0, .string ⟨#[]⟩, .string ⟨#[]⟩, .int .i64 0, .int .i64 0, .int .i64 0, .int .i64 0, .int .i64 0, .slice none 0 0] ∧ RowAt W (w.heap.size + 1) 68 #[.int .i64 0, .int .i64 0] ∧ RowAt W wr.heap.size 55 (m.hd.vals (.slice ka kn kc)) ∧ RowAt W (wr.heap.size + 1) 68 #[.int .i64 (-1), .int .i64 (0)] ∧ Sup W W4.heap.size m.kids (.slice ka kn kc) F ∧ OwnQ (fun _ => True) W1.heap.size W (.slice an nn cn) ps ∧ Below w.heap.size w W ∧ w5.heap.size ≤ W.heap.size) (by
              obtain ⟨k1, k2, k3, k4, k5⟩ := BR.out _ rfl
              exact ⟨RowAt.same RG5.out (k4 _ (by omega) (by omega)), RowAt.same RH5.out (k4 _ (by omega) (by omega)), k1, k2, sup_past HS.out k3 k4 (by omega) (by omega) (Nat.le_refl _), OwnQ.past OQ3.out b35.out k3 (fun b hb => k4 b (by omega) (by omega)), B5.out.trans (k5 _ (by omega) (by omega)), Nat.le_of_eq k3.symm⟩) ?_
            rintro W6 ⟨g6, h6, d6, e6, s6, q6, b6, l6⟩
            have RG6 := Lib.hid g6
            have RH6 := Lib.hid h6
            have RD6 := Lib.hid d6
            have RE6 := Lib.hid e6
            have B6 := Lib.hid b6
            have OQ6 := Lib.hid q6
            have S6 := Lib.hid s6
            have hs6 : (wr.heap.size + 1) < W6.heap.size := RE6.out.lt
            clear g6 h6 d6 e6 s6 q6 b6 BR
            clear zd0 zd1 zd2 zd3 zd4 zd5 zd6 zd7 zd8 ye0 ye1 rd0 rd1 rd2 rd3 rd4 rd5 rd6 rd7 rd8 se0 se1
            have t0 : W6.cell? ⟨(wr.heap.size + 1), 0, none⟩ = some (.int .i64 (-1)) := RE6.out.cell rfl
            have p1 : decide ((-1 : Int) ≥ 0) = false := by decide
            have p2 : decide ((0 : Int) ≤ (-1 : Int)) = false := by decide
            obtain ⟨d0, d1, d2, d3, d4, d5, d6, d7, d8⟩ := (show Cells W6 wr.heap.size 0 m.hd (.slice ka kn kc) from Cells.row RD6.out)
            simp only [Nat.zero_add] at d1 d2 d3 d4 d5 d6 d7 d8
            obtain ⟨A, hA⟩ : ∃ A, Hid (W6.alloc (.cells #[.int .i64 m.hd.kind, .string (bs m.hd.text), .string (bs m.hd.type), .int .i64 m.hd.n, .int .i64 m.hd.fr, .int .i64 m.hd.to_, .int .i64 m.hd.at_, .int .i64 m.hd.tat, .slice ka kn kc] 55) = A) := ⟨_, Lib.hid rfl⟩
            have bA : Hid (Below W6.heap.size W6 A) := by rw [← hA.out]; exact Lib.hid ((Below.refl _ _).alloc (Nat.le_refl _) _)
            have hsA : A.heap.size = W6.heap.size + 1 := by rw [← hA.out]; simp
            have OA := Lib.hid (OQ6.out.below bA.out)
            have XA : Hid (OwnS (W4.heap.size) A (.slice (some ⟨W6.heap.size, 0, none⟩) 1 1) [(m, Value.slice ka kn kc)]) := Lib.hid (own_build (ps := [(m, Value.slice ka kn kc)]) (by rw [← hA.out]; exact row_new rfl) (by omega) (by show 1 ≤ maxLen; unfold maxLen; omega) (fun p hp => by
              obtain rfl := List.mem_singleton.1 hp
              exact ⟨_, S6.out.below bA.out, fun b hb => by have := (S6.out.1 b hb).2; omega⟩))
            have hlo6 : Hid (∀ b, (Value.slice an nn cn).ownBlock = some b → b < W4.heap.size) := Lib.hid (fun b hb => by have h9 := (OQ3.out.row.lt b hb).2; omega)
            have hPl6 : Hid (∀ b : Nat, W4.heap.size ≤ b → True) := Lib.hid (fun b hb => trivial)
            have RGA := Lib.hid (RG6.out.later bA.out)
            have RHA := Lib.hid (RH6.out.later bA.out)
            have BA := Lib.hid (B6.out.trans (bA.out.mono B6.out.size))
            go_wp2_with (at_builtin; rw [hA.out]; refine wpList_append_q (w := A) (base := W1.heap.size) (lo := W4.heap.size) (P := fun _ => True) rfl _ _ rfl (Value.slice an nn cn) (.slice (some ⟨W6.heap.size, 0, none⟩) 1 1) ps [(m, Value.slice ka kn kc)] rfl OA.out rfl XA.out hlo6.out hPl6.out (by omega) (by simp only [List.length_cons, List.length_nil]; omega) ?_; intro a7 n7 c7 w7 oq7 hg70)
            have hg7 : A.grownBy w7 (Value.slice an nn cn).ownBlock := hg70
            clear hg70
            have OQ7 := Lib.hid oq7
            have hkb : Hid (∀ b, (Value.slice an nn cn).ownBlock = some b → W1.heap.size ≤ b) := Lib.hid (fun b hb => (OQ6.out.row.lt b hb).1)
            have RG7 := Lib.hid (RowAt.same RGA.out (hg7.block _ RGA.out.lt (fun e => by have h9 := hkb.out _ e.symm; have h8 := B1.out.size; omega)))
            have RH7 := Lib.hid (RowAt.same RHA.out (hg7.block _ RHA.out.lt (fun e => by have h9 := hkb.out _ e.symm; have h8 := B1.out.size; omega)))
            have B7 := Lib.hid (BA.out.grown hg7 (by have := BA.out.size; omega) (fun k e => by have h9 := hkb.out _ e; have h8 := B1.out.size; omega))
            have hs7 := hg7.size
            clear oq7 hg7 d0 d1 d2 d3 d4 d5 d6 d7 d8
            have hc9 := hcnt.out
            exact ⟨⟨f', b, ps ++ [(m, Value.slice ka kn kc)], rfl, by omega, by omega, v2, Lib.hid (by rw [List.map_append, cntL_app]; simp only [List.map_cons, List.map_nil, cntL]; omega), Lib.hid (by rw [List.map_append]; exact hr), RG7, RH7, OQ7, B7⟩, by simp [intOf]; omega⟩
end Go.Proofs.YtbnbmjdjkadgoaaDoor.X
