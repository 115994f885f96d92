/-
  For the laws on the parser: expressions of operators. Condition: the tokens are a text's.
-/
import Derived.Test.YtbnbmjdjkadgoaaDoorXPo
import Derived.Deep.CutBlock
import Derived.Deep.Cut
import Derived.Deep.RegionHeld3
namespace Go.Proofs.YtbnbmjdjkadgoaaDoor.X
open Go.RowKit Go.Shelf
set_option linter.unusedSimpArgs false
set_option linter.unusedVariables false

/-- The contracts of the rules of expressions, with fuel f. -/
structure ExSpec (v : Value) (T : List Tk) (f : Nat) : Prop where
  prim : ∀ (a d : Nat) (r : PR Nd) (w : World), primF f T a d = some r → a < T.length → d ≤ 80 → Toks w v T → Calls Tryd.prog 87 #[v, .int .i64 (a : Nat), .int .i64 (d : Nat)] w fun e w' => NodeIs r w.heap.size e w' ∧ Below w.heap.size w w'
  unary : ∀ (a d : Nat) (r : PR Nd) (w : World), unaryF f T a d = some r → a < T.length → d ≤ 80 → Toks w v T → Calls Tryd.prog 85 #[v, .int .i64 (a : Nat), .int .i64 (d : Nat)] w fun e w' => NodeIs r w.heap.size e w' ∧ Below w.heap.size w w'
  level : ∀ (a d l : Nat) (r : PR Nd) (w : World), levelF f T a d l = some r → 1 ≤ l → l ≤ 7 → a < T.length → d ≤ 80 → Toks w v T → Calls Tryd.prog 81 #[v, .int .i64 (a : Nat), .int .i64 (d : Nat), .int .i64 (l : Nat)] w fun e w' => NodeIs r w.heap.size e w' ∧ Below w.heap.size w w'
set_option maxRecDepth 100000 in
set_option maxHeartbeats 16000000 in
theorem level_last (v : Value) (T : List Tk) (hT : GoodT T) (f : Nat) (ih : ExSpec v T f) (a d l : Nat) (r : PR Nd) (w : World) (hr : levelF (f + 1) T a d l = some r) (hl : 6 < l) (hl2 : l ≤ 7) (ha : a < T.length) (hd : d ≤ 80) (h : Toks w v T) :
    Calls Tryd.prog 81 #[v, .int .i64 (a : Nat), .int .i64 (d : Nat), .int .i64 (l : Nat)] w fun e w' => NodeIs r w.heap.size e w' ∧ Below w.heap.size w w' := by
  unfold levelF at hr
  rw [if_pos hl] at hr
  have hs : w.heap.size ≤ w.heap.size + 1 := Nat.le_succ _
  have CU := Lib.hid (fun W (hW : Below w.heap.size w W) => ih.unary a d r W hr ha hd (h.below hW))
  obtain ⟨av, cv, rfl, -⟩ := h.get
  obtain ⟨n, hn⟩ : ∃ n, Hid (T.length = n) := ⟨_, Lib.hid rfl⟩
  rw [hn.out] at CU ha ⊢
  have q1 : decide ((l : Int) > 6) = true := decide_eq_true (by omega)
  have q2 : decide (6 < l) = true := decide_eq_true hl
  clear hr h
  go_enter Tryd.func81, Tryd.ntmps81
  go_wp2_with fail
  refine calls_gen (fun W => RowAt W w.heap.size 55 #[.int .i64 0, .string ⟨#[]⟩, .string ⟨#[]⟩, .int .i64 0, .int .i64 0, .int .i64 0, .int .i64 0, .int .i64 0, .slice none 0 0] ∧ RowAt W (w.heap.size + 1) 68 #[.int .i64 0, .int .i64 0] ∧ Below w.heap.size w W) ⟨(row_new rfl).alloc _, row_new (by simp), ((Below.refl _ w).alloc (Nat.le_refl _) _).alloc (by simp) _⟩ ?_
  rintro W1 ⟨g1, h1, b1⟩
  refine (CU.out W1 b1).mono ?_
  rintro e w2 ⟨hni, b2⟩
  have RG := g1.later b2
  have RH := h1.later b2
  have B2 := Lib.hid (b1.trans (b2.mono b1.size))
  have hlo := Lib.hid b1.size
  have hlt := h1.lt
  have z0 := RG.frozen 0
  have z1 := RG.frozen 1
  have z2 := RG.frozen 2
  have z3 := RG.frozen 3
  have z4 := RG.frozen 4
  have z5 := RG.frozen 5
  have z6 := RG.frozen 6
  have z7 := RG.frozen 7
  have z8 := RG.frozen 8
  have y0 := RH.frozen 0
  have y1 := RH.frozen 1
  have RG' := Lib.hid RG
  have RH' := Lib.hid RH
  obtain ⟨r0, r1, r2, r3, r4, r5, r6, r7, r8⟩ := (show Cells w2 w.heap.size 0 ⟨0, [], [], 0, 0, 0, 0, 0⟩ (.slice none 0 0) from Cells.row RG)
  simp only [Nat.zero_add] at r1 r2 r3 r4 r5 r6 r7 r8
  have s0 : w2.cell? ⟨w.heap.size + 1, 0, none⟩ = some (.int .i64 0) := RH.cell rfl
  have s1 : w2.cell? ⟨w.heap.size + 1, 1, none⟩ = some (.int .i64 0) := RH.cell rfl
  clear g1 h1 b1 b2 CU RG RH q1 q2
  cases r with
  | bad p c =>
    obtain rfl := hni
    go_wp2_with fail
    obtain ⟨k1, k2, k3, k4, k5⟩ := both_rows RG'.out RH'.out (by omega) ⟨0, [], [], 0, 0, 0, 0, 0⟩ (.slice none 0 0) p c rfl
    refine fin_node 8 9 10 rfl rfl rfl k1 k2 ⟨rfl, B2.out.trans (k5 _ (Nat.le_refl _) (by omega))⟩
  | ok m next =>
    obtain ⟨ka, kn, kc, F, rfl, hsup⟩ := hni
    have HS := Lib.hid hsup
    clear hsup
    go_wp2_with fail
    obtain ⟨k1, k2, k3, k4, k5⟩ := both_rows RG'.out RH'.out (by omega) m.hd (.slice ka kn kc) (-1) 0 rfl
    refine fin_node 8 9 10 rfl rfl rfl k1 k2 ⟨⟨ka, kn, kc, F, rfl, ?_⟩, B2.out.trans (k5 _ (Nat.le_refl _) (by omega))⟩
    exact sup_past HS.out k3 k4 (by omega) (by omega) hlo.out
set_option maxRecDepth 100000 in
set_option maxHeartbeats 16000000 in
theorem level_more (v : Value) (T : List Tk) (hT : GoodT T) (f : Nat) (ih : ∀ f', f' ≤ f → ExSpec v T f') (a d l : Nat) (r : PR Nd) (w : World) (hr : levelF (f + 1) T a d l = some r) (hl1 : 1 ≤ l) (hl : l ≤ 6) (ha : a < T.length) (hd : d ≤ 80) (h : Toks w v T) :
    Calls Tryd.prog 81 #[v, .int .i64 (a : Nat), .int .i64 (d : Nat), .int .i64 (l : Nat)] w fun e w' => NodeIs r w.heap.size e w' ∧ Below w.heap.size w w' := by
  unfold levelF at hr
  rw [if_neg (by omega)] at hr
  have hTl := hT.len
  have exk := ex_ok hT.e f
  obtain ⟨x, hx⟩ : ∃ x, levelF f T a d (l + 1) = x := ⟨_, rfl⟩
  rw [hx] at hr
  cases x with
  | none => cases hr
  | some x =>
  have CL := Lib.hid (fun W (hW : Below w.heap.size w W) => (ih f (Nat.le_refl _)).level a d (l + 1) x W hx (by omega) (by omega) ha hd (h.below hW))
  have gx := (exk.level a d (l + 1) (by omega) (by omega) ha).2
  rw [hx] at gx
  have HT := Lib.hid (fun W (hW : Below w.heap.size w W) => h.below hW)
  have HT0 := HT
  have Ih := Lib.hid ih
  have HG := Lib.hid hT
  obtain ⟨tb, to_, cv, rfl, hcv1, hcv2, hcell⟩ := h.fix (by omega)
  have HC := Lib.hid hcell
  obtain ⟨n, hn⟩ : ∃ n, Hid (T.length = n) := ⟨_, Lib.hid rfl⟩
  have ha' := Lib.hid ha
  rw [hn.out] at CL ha hTl HT HC ⊢
  have q1 : decide ((l : Int) > 6) = false := decide_eq_false (by omega)
  have q2 : decide (6 < l) = false := decide_eq_false (by omega)
  clear h hx hcell hcv1 hcv2 ih hT
  go_enter Tryd.func81, Tryd.ntmps81
  go_wp2_with fail
  refine calls_gen (fun W => RowAt W w.heap.size 55 #[.int .i64 0, .string ⟨#[]⟩, .string ⟨#[]⟩, .int .i64 0, .int .i64 0, .int .i64 0, .int .i64 0, .int .i64 0, .slice none 0 0] ∧ RowAt W (w.heap.size + 1) 68 #[.int .i64 0, .int .i64 0] ∧ Below w.heap.size w W) ⟨(row_new rfl).alloc _, row_new (by simp), ((Below.refl _ w).alloc (Nat.le_refl _) _).alloc (by simp) _⟩ ?_
  rintro W1 ⟨g1, h1, b1⟩
  refine (CL.out W1 b1).mono ?_
  rintro e w2 ⟨hni, b2⟩
  have RG := Lib.hid (g1.later b2)
  have RH := Lib.hid (h1.later b2)
  have B2 := Lib.hid (b1.trans (b2.mono b1.size))
  have hlo := Lib.hid b1.size
  have hlt := h1.lt
  have hlt2 := Nat.lt_of_lt_of_le hlt b2.size
  have Hs12 := Lib.hid b2.size
  clear g1 h1 b1 b2 CL
  cases x with
  | bad p c =>
    obtain rfl : PR.bad p c = r := Option.some.inj hr
    obtain rfl := hni
    have p1 : decide ((p : Int) ≥ 0) = true := decide_eq_true (by omega)
    have p2 : decide ((0 : Int) ≤ (p : Int)) = true := decide_eq_true (by omega)
    go_wp2_with fail
    refine wp_gen (fun W => RowAt W w.heap.size 55 #[.int .i64 0, .string ⟨#[]⟩, .string ⟨#[]⟩, .int .i64 0, .int .i64 0, .int .i64 0, .int .i64 0, .int .i64 0, .slice none 0 0] ∧ RowAt W (w.heap.size + 1) 68 #[.int .i64 0, .int .i64 0] ∧ RowAt W (w2.heap.size + 1) 68 #[.int .i64 (p : Nat), .int .i64 c] ∧ Below w.heap.size w W) ⟨(RG.out.alloc _).alloc _, (RH.out.alloc _).alloc _, row_new (by simp), (B2.out.alloc (by omega) _).alloc (by simp; omega) _⟩ ?_
    rintro W3 ⟨g3, h3, t3, b3⟩
    have z0 := g3.frozen 0
    have z1 := g3.frozen 1
    have z2 := g3.frozen 2
    have z3 := g3.frozen 3
    have z4 := g3.frozen 4
    have z5 := g3.frozen 5
    have z6 := g3.frozen 6
    have z7 := g3.frozen 7
    have z8 := g3.frozen 8
    have y0 := h3.frozen 0
    have y1 := h3.frozen 1
    obtain ⟨r0, r1, r2, r3, r4, r5, r6, r7, r8⟩ := (show Cells W3 w.heap.size 0 ⟨0, [], [], 0, 0, 0, 0, 0⟩ (.slice none 0 0) from Cells.row g3)
    simp only [Nat.zero_add] at r1 r2 r3 r4 r5 r6 r7 r8
    have s0 : W3.cell? ⟨w.heap.size + 1, 0, none⟩ = some (.int .i64 0) := h3.cell rfl
    have s1 : W3.cell? ⟨w.heap.size + 1, 1, none⟩ = some (.int .i64 0) := h3.cell rfl
    have t0 : W3.cell? ⟨(w2.heap.size + 1), 0, none⟩ = some (.int .i64 (p : Nat)) := t3.cell rfl
    have t1 : W3.cell? ⟨(w2.heap.size + 1), 1, none⟩ = some (.int .i64 c) := t3.cell rfl
    have ne1 : (w2.heap.size + 1) ≠ w.heap.size := by omega
    have G3 := Lib.hid g3
    have H3 := Lib.hid h3
    have B3 := Lib.hid b3
    clear g3 h3 t3 b3
    go_region
    all_goals
      go_wp2_with fail
      obtain ⟨k1, k2, k3, k4, k5⟩ := both_rows_d G3.out H3.out (by omega) ⟨0, [], [], 0, 0, 0, 0, 0⟩ (.slice none 0 0) p c rfl
      exact fin_node 8 9 10 rfl rfl rfl k1 k2 ⟨rfl, B3.out.trans (k5 _ (Nat.le_refl _) (by omega))⟩
  | ok m next =>
    obtain ⟨k1, k2, k3⟩ := gx m next rfl
    have hr0 : levLF f T a d l next m = some r := hr
    obtain ⟨ka, kn, kc, F, rfl, hsup⟩ := hni
    have Sw1 : W1.heap.size ≤ w2.heap.size := Hs12.out
    have hF : Hid (∀ b, F b → b < w2.heap.size) := Lib.hid (fun b hb => (hsup.1 b hb).2)
    obtain ⟨G2, hG2⟩ : ∃ G2, w2.heap.size = G2 := ⟨_, rfl⟩
    rw [hG2] at hF hlt2 Sw1
    have b2a : Below w2.heap.size w2 ((w2.alloc (.cells #[.int .i64 m.hd.kind, .string (bs m.hd.text), .string (bs m.hd.type), .int .i64 m.hd.n, .int .i64 m.hd.fr, .int .i64 m.hd.to_, .int .i64 m.hd.at_, .int .i64 m.hd.tat, .slice ka kn kc] 55)).alloc (.cells #[.int .i64 (-1), .int .i64 0] 68)) := ((Below.refl _ _).alloc (Nat.le_refl _) _).alloc (by simp) _
    have fRG : Hid (RowAt ((w2.alloc (.cells #[.int .i64 m.hd.kind, .string (bs m.hd.text), .string (bs m.hd.type), .int .i64 m.hd.n, .int .i64 m.hd.fr, .int .i64 m.hd.to_, .int .i64 m.hd.at_, .int .i64 m.hd.tat, .slice ka kn kc] 55)).alloc (.cells #[.int .i64 (-1), .int .i64 0] 68)) w.heap.size 55 #[.int .i64 0, .string ⟨#[]⟩, .string ⟨#[]⟩, .int .i64 0, .int .i64 0, .int .i64 0, .int .i64 0, .int .i64 0, .slice none 0 0]) := Lib.hid (RG.out.later b2a)
    have fRH : Hid (RowAt ((w2.alloc (.cells #[.int .i64 m.hd.kind, .string (bs m.hd.text), .string (bs m.hd.type), .int .i64 m.hd.n, .int .i64 m.hd.fr, .int .i64 m.hd.to_, .int .i64 m.hd.at_, .int .i64 m.hd.tat, .slice ka kn kc] 55)).alloc (.cells #[.int .i64 (-1), .int .i64 0] 68)) (w.heap.size + 1) 68 #[.int .i64 0, .int .i64 0]) := Lib.hid (RH.out.later b2a)
    have fM : Hid (RowAt ((w2.alloc (.cells #[.int .i64 m.hd.kind, .string (bs m.hd.text), .string (bs m.hd.type), .int .i64 m.hd.n, .int .i64 m.hd.fr, .int .i64 m.hd.to_, .int .i64 m.hd.at_, .int .i64 m.hd.tat, .slice ka kn kc] 55)).alloc (.cells #[.int .i64 (-1), .int .i64 0] 68)) G2 55 #[.int .i64 m.hd.kind, .string (bs m.hd.text), .string (bs m.hd.type), .int .i64 m.hd.n, .int .i64 m.hd.fr, .int .i64 m.hd.to_, .int .i64 m.hd.at_, .int .i64 m.hd.tat, .slice ka kn kc]) := Lib.hid ((row_new hG2.symm).alloc _)
    have fS : Hid (Sup ((w2.alloc (.cells #[.int .i64 m.hd.kind, .string (bs m.hd.text), .string (bs m.hd.type), .int .i64 m.hd.n, .int .i64 m.hd.fr, .int .i64 m.hd.to_, .int .i64 m.hd.at_, .int .i64 m.hd.tat, .slice ka kn kc] 55)).alloc (.cells #[.int .i64 (-1), .int .i64 0] 68)) W1.heap.size m.kids (.slice ka kn kc) F ∧ ∀ b, F b → b ≠ G2) := Lib.hid ⟨hsup.below b2a, fun b hb => by have := hF.out b hb; omega⟩
    have fB : Hid (Below w.heap.size w ((w2.alloc (.cells #[.int .i64 m.hd.kind, .string (bs m.hd.text), .string (bs m.hd.type), .int .i64 m.hd.n, .int .i64 m.hd.fr, .int .i64 m.hd.to_, .int .i64 m.hd.at_, .int .i64 m.hd.tat, .slice ka kn kc] 55)).alloc (.cells #[.int .i64 (-1), .int .i64 0] 68))) := Lib.hid (B2.out.trans (b2a.mono B2.out.size))
    have fs : Hid (G2 + 2 ≤ ((w2.alloc (.cells #[.int .i64 m.hd.kind, .string (bs m.hd.text), .string (bs m.hd.type), .int .i64 m.hd.n, .int .i64 m.hd.fr, .int .i64 m.hd.to_, .int .i64 m.hd.at_, .int .i64 m.hd.tat, .slice ka kn kc] 55)).alloc (.cells #[.int .i64 (-1), .int .i64 0] 68)).heap.size) := Lib.hid (by simp; omega)
    have Hr0 := Lib.hid hr0
    have p1 : decide ((-1 : Int) ≥ 0) = false := by decide
    clear hsup b2a hr hr0 gx
    go_wp2_with fail
    go_loopw [12] (fun c wr => ∃ (f' k : Nat) (m : Nd) (ka : Option Addr) (kn kc : Nat) (F : Nat → Prop), c = .int .i64 k ∧ f' ≤ f ∧ a < k ∧ k < n ∧ Hid (m.cnt + a ≤ k) ∧ Hid (levLF f' T a d l k m = some r) ∧ Hid (RowAt wr w.heap.size 55 #[.int .i64 0, .string ⟨#[]⟩, .string ⟨#[]⟩, .int .i64 0, .int .i64 0, .int .i64 0, .int .i64 0, .int .i64 0, .slice none 0 0]) ∧ Hid (RowAt wr (w.heap.size + 1) 68 #[.int .i64 0, .int .i64 0]) ∧ Hid (RowAt wr G2 55 #[.int .i64 m.hd.kind, .string (bs m.hd.text), .string (bs m.hd.type), .int .i64 m.hd.n, .int .i64 m.hd.fr, .int .i64 m.hd.to_, .int .i64 m.hd.at_, .int .i64 m.hd.tat, .slice ka kn kc]) ∧ Hid (Sup wr W1.heap.size m.kids (.slice ka kn kc) F ∧ ∀ b, F b → b ≠ G2) ∧ Hid (Below w.heap.size w wr) ∧ Hid (G2 + 2 ≤ wr.heap.size)) (fun c _ => n - (intOf c).toNat)
    case atStart => exact ⟨f, next, m, ka, kn, kc, F, rfl, Nat.le_refl _, k1, by rw [← hn.out]; exact k2, Lib.hid (by omega), Hr0, fRG, fRH, fM, fS, fB, fs⟩
    case round =>
      clear fRG fRH fM fS fB fs Hr0 hF k1 k2 k3 hG2
      obtain ⟨f', k, m, ka, kn, kc, F, rfl, hf', hak, hkn, hcnt, hlev, RG, RH, RM, hS, B3, hsz⟩ := hrel
      have hws := hlo.out
      have hw3 := B3.out.size
      cases f' with
      | zero => have := hlev.out; unfold levLF at this; cases this
      | succ f' =>
      have HB := Lib.hid (binds_any (.slice (some ⟨tb, to_, none⟩) n cv) T k wr (HT.out wr B3.out))
      obtain ⟨q, hq⟩ : ∃ q, bindsT T k = q := ⟨_, rfl⟩
      rw [hq] at HB
      by_cases hql : q = l
      · have hl0 := hlev.out
        unfold levLF at hl0
        rw [if_pos (by rw [hq]; exact hql)] at hl0
        have hk1 : k + 1 < n := by rw [← hn.out]; exact binds_lt HG.out.e hl1 (by rw [hq]; exact hql)
        obtain ⟨x2, hx2⟩ : ∃ x, levelF f' T (k + 1) d (l + 1) = x := ⟨_, rfl⟩
        rw [hx2] at hl0
        cases x2 with
        | none => cases hl0
        | some x2 =>
        have CL2 : Hid (∀ W, Below w.heap.size w W → Calls Tryd.prog 81 #[.slice (some ⟨tb, to_, none⟩) T.length cv, .int .i64 ((k : Int) + 1), .int .i64 (d : Nat), .int .i64 ((l : Int) + 1)] W fun e w' => NodeIs x2 W.heap.size e w' ∧ Below W.heap.size W w') := Lib.hid (fun W hW => (Ih.out f' (by omega)).level (k + 1) d (l + 1) x2 W hx2 (by omega) (by omega) (by rw [hn.out]; exact hk1) hd (HT0.out W hW))
        rw [hn.out] at CL2
        have gx := ((ex_ok HG.out.e f').level (k + 1) d (l + 1) (by omega) (by omega) (by rw [hn.out]; exact hk1)).2
        rw [hx2] at gx
        have e1 : ((q : Int) == (l : Int)) = true := by rw [hql]; exact beq_self_eq_true _
        have e2 : (q == l) = true := by rw [hql]; exact beq_self_eq_true _
        have Hl0 := Lib.hid hl0
        have Hgx := Lib.hid gx
        have Hq := Lib.hid hq
        clear hl0 gx hx2 hq hlev hql
        go_wp2_with fail
        refine HB.out.mono ?_
        rintro e w4 ⟨rfl, b4⟩
        have B4 := Lib.hid (B3.out.trans (b4.mono hw3))
        have b34 := Lib.hid b4
        clear b4 HB
        go_wp2_with fail
        refine (CL2.out w4 B4.out).mono ?_
        rintro e w5 ⟨hni, b5⟩
        have b45 := Lib.hid b5
        have b35 := Lib.hid (b34.out.trans (b5.mono b34.out.size))
        have RG5 := Lib.hid (RG.out.later b35.out)
        have RH5 := Lib.hid (RH.out.later b35.out)
        have RM5 := Lib.hid (RM.out.later b35.out)
        have B5 := Lib.hid (B3.out.trans (b35.out.mono hw3))
        have hs5 : w.heap.size + 1 < w5.heap.size := RH5.out.lt
        have hw5 := b35.out.size
        have hw45 := b45.out.size
        have hw34 := b34.out.size
        clear b5 CL2 RG RH RM
        cases x2 with
        | bad p c =>
          obtain rfl : PR.bad p c = r := Option.some.inj Hl0.out
          obtain rfl := hni
          have p1 : decide ((p : Int) ≥ 0) = true := decide_eq_true (by omega)
          have p2 : decide ((0 : Int) ≤ (p : Int)) = true := decide_eq_true (by omega)
          go_wp2_with fail
          refine wp_gen (fun W => RowAt W w.heap.size 55 #[.int .i64 0, .string ⟨#[]⟩, .string ⟨#[]⟩, .int .i64 0, .int .i64 0, .int .i64 0, .int .i64 0, .int .i64 0, .slice none 0 0] ∧ RowAt W (w.heap.size + 1) 68 #[.int .i64 0, .int .i64 0] ∧ RowAt W (w5.heap.size + 1) 68 #[.int .i64 (p : Nat), .int .i64 c] ∧ Below w.heap.size w W) ⟨(RG5.out.alloc _).alloc _, (RH5.out.alloc _).alloc _, row_new (by simp), (B5.out.alloc (by omega) _).alloc (by simp; omega) _⟩ ?_
          rintro W3 ⟨g3, h3, t3, b3⟩
          have z0 := g3.frozen 0
          have z1 := g3.frozen 1
          have z2 := g3.frozen 2
          have z3 := g3.frozen 3
          have z4 := g3.frozen 4
          have z5 := g3.frozen 5
          have z6 := g3.frozen 6
          have z7 := g3.frozen 7
          have z8 := g3.frozen 8
          have y0 := h3.frozen 0
          have y1 := h3.frozen 1
          obtain ⟨r0, r1, r2, r3, r4, r5, r6, r7, r8⟩ := (show Cells W3 w.heap.size 0 ⟨0, [], [], 0, 0, 0, 0, 0⟩ (.slice none 0 0) from Cells.row g3)
          simp only [Nat.zero_add] at r1 r2 r3 r4 r5 r6 r7 r8
          have s0 : W3.cell? ⟨w.heap.size + 1, 0, none⟩ = some (.int .i64 0) := h3.cell rfl
          have s1 : W3.cell? ⟨w.heap.size + 1, 1, none⟩ = some (.int .i64 0) := h3.cell rfl
          have t0 : W3.cell? ⟨(w5.heap.size + 1), 0, none⟩ = some (.int .i64 (p : Nat)) := t3.cell rfl
          have t1 : W3.cell? ⟨(w5.heap.size + 1), 1, none⟩ = some (.int .i64 c) := t3.cell rfl
          have ne1 : (w5.heap.size + 1) ≠ w.heap.size := by omega
          have G3 := Lib.hid g3
          have H3 := Lib.hid h3
          have B3 := Lib.hid b3
          clear g3 h3 t3 b3
          go_region
          all_goals
            go_wp2_with fail
            obtain ⟨k1, k2, k3, k4, k5⟩ := both_rows_d G3.out H3.out (by omega) ⟨0, [], [], 0, 0, 0, 0, 0⟩ (.slice none 0 0) p c rfl
            exact fin_node 8 9 10 rfl rfl rfl k1 k2 ⟨rfl, B3.out.trans (k5 _ (Nat.le_refl _) (by omega))⟩
        | ok m2 b =>
          obtain ⟨u1, u2, u3⟩ := Hgx.out m2 b rfl
          obtain ⟨kb, ln, lc, F2, rfl, hsup2⟩ := hni
          have HS2 := Lib.hid hsup2
          go_upto_region 10 with fail
          refine wp_gen (fun W => RowAt W w.heap.size 55 #[.int .i64 0, .string ⟨#[]⟩, .string ⟨#[]⟩, .int .i64 0, .int .i64 0, .int .i64 0, .int .i64 0, .int .i64 0, .slice none 0 0] ∧ RowAt W (w.heap.size + 1) 68 #[.int .i64 0, .int .i64 0] ∧ RowAt W G2 55 #[.int .i64 m.hd.kind, .string (bs m.hd.text), .string (bs m.hd.type), .int .i64 m.hd.n, .int .i64 m.hd.fr, .int .i64 m.hd.to_, .int .i64 m.hd.at_, .int .i64 m.hd.tat, .slice ka kn kc] ∧ RowAt W w5.heap.size 55 #[.int .i64 m2.hd.kind, .string (bs m2.hd.text), .string (bs m2.hd.type), .int .i64 m2.hd.n, .int .i64 m2.hd.fr, .int .i64 m2.hd.to_, .int .i64 m2.hd.at_, .int .i64 m2.hd.tat, .slice kb ln lc] ∧ Below w5.heap.size w5 W) ⟨(RG5.out.alloc _).alloc _, (RH5.out.alloc _).alloc _, (RM5.out.alloc _).alloc _, (row_new rfl).alloc _, ((Below.refl _ _).alloc (Nat.le_refl _) _).alloc (by simp) _⟩ ?_
          rintro W6 ⟨g6, h6, m6, r6, b56⟩
          have B6 := Lib.hid (B5.out.trans (b56.mono (by omega)))
          have hs6 := b56.size
          have tk := (HC.out W6 B6.out k hkn).2.1
          have G6 := Lib.hid g6
          have H6 := Lib.hid h6
          have M6 := Lib.hid m6
          have b36 := Lib.hid (b35.out.trans (b56.mono hw5))
          have S6 := Lib.hid (hS.out.1.below b36.out)
          have S62 := Lib.hid (HS2.out.below b56)
          obtain ⟨d0, d1, d2, d3, d4, d5, d6, d7, d8⟩ := (show Cells W6 G2 0 m.hd (.slice ka kn kc) from Cells.row m6)
          simp only [Nat.zero_add] at d1 d2 d3 d4 d5 d6 d7 d8
          obtain ⟨e0, e1, e2, e3, e4, e5, e6, e7, e8⟩ := (show Cells W6 w5.heap.size 0 m2.hd (.slice kb ln lc) from Cells.row r6)
          simp only [Nat.zero_add] at e1 e2 e3 e4 e5 e6 e7 e8
          have i1 : (0 : Int) ≤ (k : Int) := by omega
          have i2 : (k : Int) < (n : Int) := by omega
          have CM := Lib.hid (fun W (hW : Below w.heap.size w W) (K : Nat) => made_at (.slice (some ⟨tb, to_, none⟩) T.length cv) (some ⟨K, 0, none⟩) 2 2 T HG.out 24 a b (by rw [hn.out]; exact ha) (by omega) (by omega) W (HT0.out W hW))
          rw [hn.out] at CM
          clear g6 h6 m6 r6 b56 hsup2
          go_wp2_with fail
          refine calls_gen (fun W => RowAt W W6.heap.size 55 #[.int .i64 m.hd.kind, .string (bs m.hd.text), .string (bs m.hd.type), .int .i64 m.hd.n, .int .i64 m.hd.fr, .int .i64 m.hd.to_, .int .i64 m.hd.at_, .int .i64 m.hd.tat, .slice ka kn kc, .int .i64 m2.hd.kind, .string (bs m2.hd.text), .string (bs m2.hd.type), .int .i64 m2.hd.n, .int .i64 m2.hd.fr, .int .i64 m2.hd.to_, .int .i64 m2.hd.at_, .int .i64 m2.hd.tat, .slice kb ln lc] ∧ Below W6.heap.size W6 W) ⟨row_new rfl, (Below.refl _ _).alloc (Nat.le_refl _) _⟩ ?_
          rintro W7 ⟨v7, b67⟩
          have hs7 := b67.size
          refine (CM.out W7 (B6.out.trans (b67.mono B6.out.size)) W6.heap.size).mono ?_
          rintro e w8 ⟨rfl, b78⟩
          have b68 := Lib.hid (b67.trans (b78.mono hs7))
          have v8 := Lib.hid (v7.later b78)
          have G8 := Lib.hid (G6.out.later b68.out)
          have H8 := Lib.hid (H6.out.later b68.out)
          have M8 := Lib.hid (M6.out.later b68.out)
          have B8 := Lib.hid (B6.out.trans (b68.out.mono B6.out.size))
          have S8 := Lib.hid (S6.out.below b68.out)
          have S82 := Lib.hid (S62.out.below b68.out)
          have hs8 := b68.out.size
          have z0 := M8.out.frozen 0
          have z1 := M8.out.frozen 1
          have z2 := M8.out.frozen 2
          have z3 := M8.out.frozen 3
          have z4 := M8.out.frozen 4
          have z5 := M8.out.frozen 5
          have z6 := M8.out.frozen 6
          have z7 := M8.out.frozen 7
          have z8 := M8.out.frozen 8
          obtain ⟨r0, r1, r2, r3, r4, r5, r6, r7, r8⟩ := (show Cells w8 G2 0 m.hd (.slice ka kn kc) from Cells.row M8.out)
          simp only [Nat.zero_add] at r1 r2 r3 r4 r5 r6 r7 r8
          clear d0 d1 d2 d3 d4 d5 d6 d7 d8 e0 e1 e2 e3 e4 e5 e6 e7 e8 tk v7 b67 b78 CM
          obtain ⟨N1, N2⟩ := nine M8.out (madeH T 24 a b) (.slice (some ⟨W6.heap.size, 0, none⟩) 2 2)
          have hG6 : G2 < W6.heap.size := M6.out.lt
          go_wp2_with fail
          generalize hV0 : (((((((((w8.setCell ⟨G2, 0, none⟩ (.int .i64 (madeH T 24 a b).kind)).setCell ⟨G2, 1, none⟩ (.string (bs (madeH T 24 a b).text))).setCell ⟨G2, 2, none⟩ (.string (bs (madeH T 24 a b).type))).setCell ⟨G2, 3, none⟩ (.int .i64 (madeH T 24 a b).n)).setCell ⟨G2, 4, none⟩ (.int .i64 (madeH T 24 a b).fr)).setCell ⟨G2, 5, none⟩ (.int .i64 (madeH T 24 a b).to_)).setCell ⟨G2, 6, none⟩ (.int .i64 (madeH T 24 a b).at_)).setCell ⟨G2, 7, none⟩ (.int .i64 (madeH T 24 a b).tat)).setCell ⟨G2, 8, none⟩ (.slice (some ⟨W6.heap.size, 0, none⟩) 2 2)) = V0 at N1 N2 ⊢
          obtain ⟨V1, hV1⟩ : ∃ V1, V0.setCell ⟨G2, 1, none⟩ (.string (bs (tokT T k).text)) = V1 := ⟨_, rfl⟩
          rw [hV1]
          have oth : ∀ x, x ≠ G2 → V1.heap[x]? = w8.heap[x]? := fun x hx => by
            rw [← hV1]
            exact (Below.heap_setCell _ _ _ x (by simpa using hx)).trans (N2.other x hx)
          have hsz1 : V1.heap.size = w8.heap.size := by
            rw [← hV1, ← N2.size]
            simp [World.setCell]
          have bel : Below w.heap.size w8 V1 := by
            rw [← hV1]
            exact (N2.below _ (by omega)).setCell (p := ⟨G2, 1, none⟩) (by show w.heap.size ≤ G2; omega) _
          have R1 : RowAt V1 G2 55 #[.int .i64 (madeH T 24 a b).kind, .string (bs (tokT T k).text), .string (bs (madeH T 24 a b).type), .int .i64 (madeH T 24 a b).n, .int .i64 (madeH T 24 a b).fr, .int .i64 (madeH T 24 a b).to_, .int .i64 (madeH T 24 a b).at_, .int .i64 (madeH T 24 a b).tat, .slice (some ⟨W6.heap.size, 0, none⟩) 2 2] := by
            rw [← hV1]
            exact N1.set 1 _
          have hK : W6.heap.size < w8.heap.size := v8.out.lt
          have hszo := hsz.out
          have u2' : b < n := by rw [← hn.out]; exact u2
          have sup : ∃ F, Sup V1 W1.heap.size [m, m2] (.slice (some ⟨W6.heap.size, 0, none⟩) 2 2) F ∧ ∀ b, F b → b ≠ G2 := by
            have one : ∀ {ks : List Nd} {kv : Value} {lo : Nat} {F0 : Nat → Prop}, Sup w8 lo ks kv F0 → W1.heap.size ≤ lo → (∀ b, F0 b → b ≠ G2) → ∃ F, Sup V1 W1.heap.size ks kv F ∧ ∀ b, F b → b ≠ G2 := fun h hlo hne => ⟨_, sup_low (h.keep (Nat.le_of_eq hsz1.symm) fun b hb => oth b (hne b hb)) hlo, hne⟩
            have s1 := one S8.out (Nat.le_refl _) hS.out.2
            have s2 := one S82.out (by omega) (fun b hb => by have := (HS2.out.1 b hb).1; omega)
            have := sup_row (W := V1) (base := W1.heap.size) (K := W6.heap.size) (ps := [(m, .slice ka kn kc), (m2, .slice kb ln lc)]) (P := fun b => b ≠ G2) (RowAt.same v8.out (oth _ (by omega))) (by omega) (by show 2 ≤ maxLen; unfold maxLen; omega) (by show W6.heap.size ≠ G2; omega) (fun p hp => by
              rcases List.mem_cons.1 hp with rfl | hp
              · exact s1
              · obtain rfl := List.mem_singleton.1 hp
                exact s2)
            exact this
          obtain ⟨F', sup1, sup2⟩ := sup
          exact ⟨⟨f', b, .mk { madeH T 24 a b with text := (tokT T k).text } [m, m2], some ⟨W6.heap.size, 0, none⟩, 2, 2, F', rfl, by omega, by omega, by omega, Lib.hid (by have := hcnt.out; rw [cnt_mk, cnt_two]; omega), Hl0, Lib.hid (RowAt.same G8.out (oth _ (by omega))), Lib.hid (RowAt.same H8.out (oth _ (by omega))), Lib.hid R1, Lib.hid ⟨sup1, sup2⟩, Lib.hid (B8.out.trans bel), Lib.hid (by omega)⟩, by simp [intOf]; omega⟩
      · have hl0 := hlev.out
        unfold levLF at hl0
        rw [if_neg (by rw [hq]; exact hql)] at hl0
        have hl0 := Option.some.inj hl0
        subst hl0
        have e1 : ((q : Int) == (l : Int)) = false := by rw [beq_eq_false_iff_ne]; omega
        have e2 : (q == l) = false := by simpa using hql
        clear hlev hql hq
        go_wp2_with fail
        refine HB.out.mono ?_
        rintro e w4 ⟨rfl, b4⟩
        have RG4 := RG.out.later b4
        have RH4 := RH.out.later b4
        have RM4 := RM.out.later b4
        have S4 := Lib.hid (hS.out.1.below b4)
        have B4 := Lib.hid (B3.out.trans (b4.mono hw3))
        have hne1 : G2 ≠ w.heap.size := by omega
        have hne2 : G2 ≠ w.heap.size + 1 := by omega
        go_upto_region 14 with fail
        have F0 : Hid (w4.cell? ⟨G2, 0, none⟩ = some (.int .i64 m.hd.kind) ∧ w4.cell? ⟨G2, 1, none⟩ = some (.string (bs m.hd.text)) ∧ w4.cell? ⟨G2, 2, none⟩ = some (.string (bs m.hd.type)) ∧ w4.cell? ⟨G2, 3, none⟩ = some (.int .i64 m.hd.n) ∧ w4.cell? ⟨G2, 4, none⟩ = some (.int .i64 m.hd.fr) ∧ w4.cell? ⟨G2, 5, none⟩ = some (.int .i64 m.hd.to_) ∧ w4.cell? ⟨G2, 6, none⟩ = some (.int .i64 m.hd.at_) ∧ w4.cell? ⟨G2, 7, none⟩ = some (.int .i64 m.hd.tat) ∧ w4.cell? ⟨G2, 8, none⟩ = some (.slice ka kn kc)) := Lib.hid ⟨RM4.cell rfl, RM4.cell rfl, RM4.cell rfl, RM4.cell rfl, RM4.cell rfl, RM4.cell rfl, RM4.cell rfl, RM4.cell rfl, RM4.cell rfl⟩
        have FD : Hid (w4.drew.cell? ⟨G2, 0, none⟩ = some (.int .i64 m.hd.kind) ∧ w4.drew.cell? ⟨G2, 1, none⟩ = some (.string (bs m.hd.text)) ∧ w4.drew.cell? ⟨G2, 2, none⟩ = some (.string (bs m.hd.type)) ∧ w4.drew.cell? ⟨G2, 3, none⟩ = some (.int .i64 m.hd.n) ∧ w4.drew.cell? ⟨G2, 4, none⟩ = some (.int .i64 m.hd.fr) ∧ w4.drew.cell? ⟨G2, 5, none⟩ = some (.int .i64 m.hd.to_) ∧ w4.drew.cell? ⟨G2, 6, none⟩ = some (.int .i64 m.hd.at_) ∧ w4.drew.cell? ⟨G2, 7, none⟩ = some (.int .i64 m.hd.tat) ∧ w4.drew.cell? ⟨G2, 8, none⟩ = some (.slice ka kn kc)) := Lib.hid F0.out
        have RGd : Hid (RowAt w4.drew w.heap.size 55 #[.int .i64 0, .string ⟨#[]⟩, .string ⟨#[]⟩, .int .i64 0, .int .i64 0, .int .i64 0, .int .i64 0, .int .i64 0, .slice none 0 0]) := Lib.hid RG4
        have RHd : Hid (RowAt w4.drew (w.heap.size + 1) 68 #[.int .i64 0, .int .i64 0]) := Lib.hid RH4
        have RMd : Hid (RowAt w4.drew G2 55 #[.int .i64 m.hd.kind, .string (bs m.hd.text), .string (bs m.hd.type), .int .i64 m.hd.n, .int .i64 m.hd.fr, .int .i64 m.hd.to_, .int .i64 m.hd.at_, .int .i64 m.hd.tat, .slice ka kn kc]) := Lib.hid RM4
        have BDd : Hid (Below w.heap.size w w4.drew) := Lib.hid (below_drew B4.out)
        have SDd : Hid (Sup w4.drew W1.heap.size m.kids (.slice ka kn kc) F) := Lib.hid (S4.out.below (below_drew (Below.refl _ _)))
        go_region_held3 (fun W => W.cell? ⟨G2, 0, none⟩ = some (.int .i64 m.hd.kind) ∧ W.cell? ⟨G2, 1, none⟩ = some (.string (bs m.hd.text)) ∧ W.cell? ⟨G2, 2, none⟩ = some (.string (bs m.hd.type)) ∧ W.cell? ⟨G2, 3, none⟩ = some (.int .i64 m.hd.n) ∧ W.cell? ⟨G2, 4, none⟩ = some (.int .i64 m.hd.fr) ∧ W.cell? ⟨G2, 5, none⟩ = some (.int .i64 m.hd.to_) ∧ W.cell? ⟨G2, 6, none⟩ = some (.int .i64 m.hd.at_) ∧ W.cell? ⟨G2, 7, none⟩ = some (.int .i64 m.hd.tat) ∧ W.cell? ⟨G2, 8, none⟩ = some (.slice ka kn kc))
          (first | (with_reducible exact F0.out) | (with_reducible exact FD.out) | (with_reducible exact F5.out) | (with_reducible exact F6.out) | (with_reducible exact F7.out))
          (first | (go_at_call 46; ((with_reducible refine (fine_any _).mono ?_); rintro e wf ⟨rfl, bf⟩; have R5 := RMd.out.later bf; have F5 := Lib.hid (show wf.cell? ⟨G2, 0, none⟩ = some (.int .i64 m.hd.kind) ∧ wf.cell? ⟨G2, 1, none⟩ = some (.string (bs m.hd.text)) ∧ wf.cell? ⟨G2, 2, none⟩ = some (.string (bs m.hd.type)) ∧ wf.cell? ⟨G2, 3, none⟩ = some (.int .i64 m.hd.n) ∧ wf.cell? ⟨G2, 4, none⟩ = some (.int .i64 m.hd.fr) ∧ wf.cell? ⟨G2, 5, none⟩ = some (.int .i64 m.hd.to_) ∧ wf.cell? ⟨G2, 6, none⟩ = some (.int .i64 m.hd.at_) ∧ wf.cell? ⟨G2, 7, none⟩ = some (.int .i64 m.hd.tat) ∧ wf.cell? ⟨G2, 8, none⟩ = some (.slice ka kn kc) from ⟨R5.cell rfl, R5.cell rfl, R5.cell rfl, R5.cell rfl, R5.cell rfl, R5.cell rfl, R5.cell rfl, R5.cell rfl, R5.cell rfl⟩); have RGf := Lib.hid (RGd.out.later bf); have RHf := Lib.hid (RHd.out.later bf); have F6 := Lib.hid (nineC (RowAt.same R5 ((nine RGf.out m.hd (.slice ka kn kc)).2.other G2 (by omega)))); have N9 := (nine RGf.out m.hd (.slice ka kn kc)).2; have F7 := Lib.hid (nineC (((RowAt.same R5 (N9.other G2 (by omega))).other (c := w.heap.size + 1) (by omega) 0 (.int .i64 (-1))).other (c := w.heap.size + 1) (by omega) 1 (.int .i64 0))); clear N9; have Bf := Lib.hid (BDd.out.trans (bf.mono BDd.out.size)); have Sf := Lib.hid (SDd.out.below bf); have z0 := RGf.out.frozen 0; have z1 := RGf.out.frozen 1; have z2 := RGf.out.frozen 2; have z3 := RGf.out.frozen 3; have z4 := RGf.out.frozen 4; have z5 := RGf.out.frozen 5; have z6 := RGf.out.frozen 6; have z7 := RGf.out.frozen 7; have z8 := RGf.out.frozen 8; have y0 := RHf.out.frozen 0; have y1 := RHf.out.frozen 1; obtain ⟨r0, r1, r2, r3, r4, r5, r6, r7, r8⟩ := (show Cells wf w.heap.size 0 ⟨0, [], [], 0, 0, 0, 0, 0⟩ (.slice none 0 0) from Cells.row RGf.out); simp only [Nat.zero_add] at r1 r2 r3 r4 r5 r6 r7 r8; have s0 : wf.cell? ⟨w.heap.size + 1, 0, none⟩ = some (.int .i64 0) := RHf.out.cell rfl; have s1 : wf.cell? ⟨w.heap.size + 1, 1, none⟩ = some (.int .i64 0) := RHf.out.cell rfl; clear bf R5)))
        all_goals
          go_wp2_with fail
          obtain ⟨k1, k2, k3, k4, k5⟩ := both_rows RGf.out RHf.out (by omega) m.hd (.slice ka kn kc) (-1) 0 rfl
          refine fin_node 8 9 10 rfl rfl rfl k1 k2 ⟨⟨ka, kn, kc, F, rfl, sup_past Sf.out k3 k4 (by omega) (by omega) (by omega)⟩, Bf.out.trans (k5 _ (Nat.le_refl _) (by omega))⟩
end Go.Proofs.YtbnbmjdjkadgoaaDoor.X
