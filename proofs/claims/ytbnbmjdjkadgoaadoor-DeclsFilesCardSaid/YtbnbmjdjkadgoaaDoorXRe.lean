/-
  For the laws on the parser: arguments. Condition: the tokens are a text's.
-/
import Derived.Test.YtbnbmjdjkadgoaaDoorXPp
namespace Go.Proofs.YtbnbmjdjkadgoaaDoor.X
open Go.RowKit Go.Shelf
set_option linter.unusedSimpArgs false
set_option linter.unusedVariables false

theorem row9_new (W : World) (p : Pr) (t : TypeId) : ∀ j u, (rowP p)[j]? = some u → (W.alloc (.cells (p.1.hd.vals p.2) t)).cell? ((⟨W.heap.size, 0, none⟩ : Addr).add j) = some u := by
  intro j u hj
  rw [Go.Proofs.YtbnbmjdjkadgoaaDoor.add_flat, Nat.zero_add, (RowAt.new W t _).cell (v := u)]
  simpa [rowP] using hj
set_option maxRecDepth 100000 in
set_option maxHeartbeats 16000000 in
theorem arguments_any (v : Value) (T : List Tk) (hT : GoodT T) (f : Nat) (ih : ∀ f', f' < f → ExprC v T f') (a d : Nat) (r : PR (List Nd)) (w : World) (hr : argsF f T a d = some r) (ha : a < T.length) (hd : d ≤ 80) (h : Toks w v T) :
    Calls Tryd.prog 88 #[v, .int .i64 (a : Nat), .int .i64 (d : Nat)] w fun e w' => ListIs r w.heap.size e w' ∧ Below w.heap.size w w' := by
  have HT := Lib.hid (fun W (hW : Below w.heap.size w W) => h.below hW)
  have HG := Lib.hid hT
  have hTl := hT.len
  obtain ⟨tb, to_, cv, rfl, -, -, hcell⟩ := h.fix hT.e.pos
  have HC := Lib.hid hcell
  clear h hcell
  have Ih := Lib.hid ih
  clear ih hT
  cases f with
  | zero => unfold argsF at hr; cases hr
  | succ f =>
  unfold argsF at hr
  cases q1 : isT T a sR with
  | true =>
    rw [q1, if_pos rfl] at hr
    obtain rfl := Option.some.inj hr
    go_enter Tryd.func88, Tryd.ntmps88
    go_wp2_with fail
    refine calls_gen (fun W => RowAt W w.heap.size 68 #[.int .i64 0, .int .i64 0] ∧ Below w.heap.size w W) ⟨row_new rfl, (Below.refl _ w).alloc (Nat.le_refl _) _⟩ ?_
    rintro W1 ⟨h1, b1⟩
    have RH1 := Lib.hid h1
    have B1 := Lib.hid b1
    have hlt1 := h1.lt
    clear h1 b1
    have O1 : Hid (OwnS (w.heap.size + 1) W1 (.slice none 0 0) []) := Lib.hid (OwnS.nil (by omega))
    refine (is_at (s := ⟨#[41]⟩) (HT.out W1 B1.out) q1).mono ?_
    rintro e w' ⟨rfl, hw⟩
    have hw := hw.symm
    subst hw
    go_wp2_with fail
    refine (fine_any _).mono ?_
    rintro e w9 ⟨rfl, b9⟩
    have RH9 := RH1.out.later b9
    have B9 := Lib.hid (B1.out.trans (b9.mono B1.out.size))
    have O9 := Lib.hid (O1.out.below b9)
    have y0 := RH9.frozen 0
    have y1 := RH9.frozen 1
    have s0 : w9.cell? ⟨w.heap.size, 0, none⟩ = some (.int .i64 0) := RH9.cell rfl
    have s1 : w9.cell? ⟨w.heap.size, 1, none⟩ = some (.int .i64 0) := RH9.cell rfl
    have RH9' := Lib.hid RH9
    clear RH9 b9
    go_wp2_with fail
    obtain ⟨k2, k3, k4, k5⟩ := pair_row RH9'.out (-1) 0 rfl
    exact fin_list 6 7 8 rfl rfl k2 ⟨⟨_, [], rfl, own_past O9.out k3 k4 (Nat.lt_succ_self _) (Nat.le_succ _), rfl⟩, B9.out.trans (k5 _ (Nat.le_refl _))⟩
  | false =>
    rw [q1, if_neg (by decide)] at hr
    go_enter Tryd.func88, Tryd.ntmps88
    go_wp2_with fail
    refine calls_gen (fun W => RowAt W w.heap.size 68 #[.int .i64 0, .int .i64 0] ∧ Below w.heap.size w W) ⟨row_new rfl, (Below.refl _ w).alloc (Nat.le_refl _) _⟩ ?_
    rintro W1 ⟨h1, b1⟩
    have RH1 := Lib.hid h1
    have B1 := Lib.hid b1
    have hlt1 := h1.lt
    clear h1 b1
    refine (is_at (s := ⟨#[41]⟩) (HT.out W1 B1.out) q1).mono ?_
    rintro e w' ⟨rfl, hw⟩
    have hw := hw.symm
    subst hw
    obtain ⟨i0, hi0, hz0, hz1, hz2⟩ := info_parts infoNode
    have O1 : Hid (OwnS (w.heap.size + 1) W1 (.slice none 0 0) []) := Lib.hid (OwnS.nil (by omega))
    have Hr := Lib.hid hr
    clear hr q1
    go_wp2_with fail
    go_loopw [1, 9] (fun c ov wr => ∃ (f' k : Nat) (ps : List Pr), c = .int .i64 k ∧ f' ≤ f ∧ k < T.length ∧ ps.length ≤ k ∧ Hid (argLF f' T k d (ps.map (·.1)) = some r) ∧ Hid (RowAt wr w.heap.size 68 #[.int .i64 0, .int .i64 0]) ∧ Hid (OwnS (w.heap.size + 1) wr ov ps) ∧ Hid (Below w.heap.size w wr)) (fun c _ _ => T.length - (intOf c).toNat)
    case atStart => exact ⟨f, a, [], rfl, Nat.le_refl _, ha, Nat.zero_le _, Hr, RH1, O1, B1⟩
    case round =>
      obtain ⟨f', k, ps, rfl, hf', hk, hps, hrl, RHr, OS, Br⟩ := hrel
      have hlr := RHr.out.lt
      cases f' with
      | zero => have := hrl.out; unfold argLF at this; cases this
      | succ f' =>
      have hr := hrl.out
      unfold argLF at hr
      obtain ⟨x, hx⟩ : ∃ x, levelF f' T k d 1 = x := ⟨_, rfl⟩
      have gx := ((ex_ok HG.out.e f').level k d 1 (by omega) (by omega) hk).2
      rw [hx] at hr gx
      cases x with
      | none => cases hr
      | some x =>
      have CX := Lib.hid (fun W hW => Ih.out f' (by omega) k d x W hx hk hd (HT.out W hW))
      clear hx hrl
      go_wp2_with fail
      refine (CX.out wr Br.out).mono ?_
      rintro e w2 ⟨hni, b2⟩
      have RH2 := Lib.hid (RHr.out.later b2)
      have B2 := Lib.hid (Br.out.trans (b2.mono Br.out.size))
      have O2 := Lib.hid (OS.out.below b2)
      have hs2 := b2.size
      clear b2
      cases x with
      | bad p c =>
        obtain rfl : PR.bad p c = r := Option.some.inj hr
        obtain rfl := hni
        have p1 : decide ((p : Int) ≥ 0) = true := decide_eq_true (by omega)
        have p2 : decide ((0 : Int) ≤ (p : Int)) = true := decide_eq_true (by omega)
        go_wp2_with fail
        refine wp_gen (fun W => RowAt W w.heap.size 68 #[.int .i64 0, .int .i64 0] ∧ RowAt W (w2.heap.size + 1) 68 #[.int .i64 (p : Nat), .int .i64 c] ∧ Below w.heap.size w W) ⟨(RH2.out.alloc _).alloc _, row_new (by simp), (B2.out.alloc (by omega) _).alloc (by simp; omega) _⟩ ?_
        rintro W3 ⟨h3, t3, b3⟩
        have y0 := h3.frozen 0
        have y1 := h3.frozen 1
        have s0 : W3.cell? ⟨w.heap.size, 0, none⟩ = some (.int .i64 0) := h3.cell rfl
        have s1 : W3.cell? ⟨w.heap.size, 1, none⟩ = some (.int .i64 0) := h3.cell rfl
        have t0 : W3.cell? ⟨w2.heap.size + 1, 0, none⟩ = some (.int .i64 (p : Nat)) := t3.cell rfl
        have t1 : W3.cell? ⟨w2.heap.size + 1, 1, none⟩ = some (.int .i64 c) := t3.cell rfl
        have ne1 : w2.heap.size + 1 ≠ w.heap.size := by omega
        have H3 := Lib.hid h3
        have B3 := Lib.hid b3
        clear h3 t3 b3
        go_region
        all_goals
          go_wp2_with fail
          obtain ⟨k2, k3, k4, k5⟩ := pair_row_d H3.out p c rfl
          exact fin_list 6 7 8 rfl rfl k2 ⟨rfl, B3.out.trans (k5 _ (Nat.le_refl _))⟩
      | ok m next =>
        obtain ⟨u1, u2, u3⟩ := gx m next rfl
        have hr : (if isT T next sR = true then some (PR.ok (ps.map (·.1) ++ [m]) (next + 1)) else if isT T next sCom = true then argLF f' T (next + 1) d (ps.map (·.1) ++ [m]) else some (PR.bad next 120)) = some r := hr
        obtain ⟨ka, kn, kc, F, rfl, hsup⟩ := hni
        have HS := Lib.hid hsup
        have p1 : decide ((-1 : Int) ≥ 0) = false := by decide
        clear hsup
        go_upto_region 7 with fail
        refine wp_gen (fun W => RowAt W w.heap.size 68 #[.int .i64 0, .int .i64 0] ∧ RowAt W w2.heap.size 55 #[.int .i64 m.hd.kind, .string (bs m.hd.text), .string (bs m.hd.type), .int .i64 m.hd.n, .int .i64 m.hd.fr, .int .i64 m.hd.to_, .int .i64 m.hd.at_, .int .i64 m.hd.tat, .slice ka kn kc] ∧ Below w2.heap.size w2 W) ⟨(RH2.out.alloc _).alloc _, (row_new rfl).alloc _, ((Below.refl _ _).alloc (Nat.le_refl _) _).alloc (by simp) _⟩ ?_
        rintro W3 ⟨h3, m3, b3⟩
        have RH3 := Lib.hid h3
        have B3 := Lib.hid (B2.out.trans (b3.mono B2.out.size))
        have O3 := Lib.hid (O2.out.below b3)
        have S3 := Lib.hid (HS.out.below b3)
        have RM3 := Lib.hid m3
        have hs3 := b3.size
        clear h3 m3 b3
        obtain ⟨d0, d1, d2, d3, d4, d5, d6, d7, d8⟩ := (show Cells W3 w2.heap.size 0 m.hd (.slice ka kn kc) from Cells.row RM3.out)
        simp only [Nat.zero_add] at d1 d2 d3 d4 d5 d6 d7 d8
        obtain ⟨p, hp⟩ : ∃ p : Pr, Hid (p = (m, Value.slice ka kn kc)) := ⟨_, Lib.hid rfl⟩
        obtain ⟨A, hA⟩ : ∃ A, Hid (W3.alloc (.cells #[.int .i64 m.hd.kind, .string (bs m.hd.text), .string (bs m.hd.type), .int .i64 m.hd.n, .int .i64 m.hd.fr, .int .i64 m.hd.to_, .int .i64 m.hd.at_, .int .i64 m.hd.tat, .slice ka kn kc] 55) = A) := ⟨_, Lib.hid rfl⟩
        have bA : Hid (Below W3.heap.size W3 A) := by rw [← hA.out]; exact Lib.hid ((Below.refl _ _).alloc (Nat.le_refl _) _)
        have hsA : A.heap.size = W3.heap.size + 1 := by rw [← hA.out]; simp
        have OA := Lib.hid (O3.out.below bA.out)
        have SA : Hid (Sup A (w.heap.size + 1) p.1.kids p.2 F) := Lib.hid (by rw [hp.out]; exact sup_low (S3.out.below bA.out) (by omega))
        have hFn : Hid (∀ b, F b → u9.ownBlock ≠ some b) := Lib.hid (fun b hb e => by
          have h1 := (OS.out.1.lt b e).2
          have h2 := (HS.out.1 b hb).1
          omega)
        have hnews : Hid (∀ (j : Nat) (u : Value), (rowP p)[j]? = some u → A.cell? ((⟨W3.heap.size, 0, none⟩ : Addr).add j) = some u) := Lib.hid (by
          rw [← hA.out, hp.out]
          exact row9_new W3 (m, Value.slice ka kn kc) 55)
        have hone : Hid (∀ u ∈ rowP p, u.oneCell' = true) := Lib.hid (by
          rw [hp.out]
          intro u hu
          simp [rowP, Hd.vals] at hu
          rcases hu with rfl | rfl | rfl | rfl | rfl | rfl | rfl | rfl | rfl <;> rfl)
        have RHA := Lib.hid (RH3.out.later bA.out)
        have B2A := Lib.hid (B3.out.trans (bA.out.mono B3.out.size))
        have hwA := B2A.out.size
        go_wp2_with (at_builtin; rw [hA.out]; refine wpList_append_lies A rfl _ _ 42 rfl (w.heap.size + 1) 55 i0 _ 9 104 Tryd.underlying42 hi0 hz0 hz1 hz2 rfl (by decide) u9 ps.length (fv ps) rfl OA.out.1 ⟨W3.heap.size, 0, none⟩ 1 1 (rowP p) rfl rfl hnews.out hone.out (by omega) (by unfold maxLen; omega) (by omega) (by omega) A.heap.size rfl ?_; intro g5 cap5 w5 hown5 hg5 hat5 hlt5)
        have O5 : Hid (OwnS (w.heap.size + 1) w5 (.slice (some ⟨g5, 0, none⟩) (ps.length + 1) cap5) (ps ++ [p])) := Lib.hid (OA.out.snoc SA.out hFn.out hown5 hg5 hat5)
        have B5 : Hid (Below w.heap.size w w5) := Lib.hid (B2A.out.grown hg5 (by omega) (fun k e => by have := (OA.out.1.lt k e).1; omega))
        have RH5 : Hid (RowAt w5 w.heap.size 68 #[.int .i64 0, .int .i64 0]) := Lib.hid (RowAt.same RHA.out (hg5.block _ RHA.out.lt (fun e => by have := (OA.out.1.lt _ e.symm).1; omega)))
        have hpm : Hid ((ps ++ [p]).map (·.1) = ps.map (·.1) ++ [m]) := Lib.hid (by rw [List.map_append, hp.out]; rfl)
        clear hown5 hg5 hat5 hlt5 d0 d1 d2 d3 d4 d5 d6 d7 d8
        cases q2 : isT T next sR with
        | true =>
          have hr : some (PR.ok (ps.map (·.1) ++ [m]) (next + 1)) = some r := by simpa [q2] using hr
          obtain rfl := Option.some.inj hr
          go_wp2_with fail
          refine (is_at (s := ⟨#[41]⟩) (HT.out w5 B5.out) q2).mono ?_
          rintro e w' ⟨rfl, hw⟩
          have hw := hw.symm
          subst hw
          go_wp2_with fail
          refine (fine_any _).mono ?_
          rintro e w9 ⟨rfl, b9⟩
          have RH9 := RH5.out.later b9
          have B9 := Lib.hid (B5.out.trans (b9.mono B5.out.size))
          have O9 := Lib.hid (O5.out.below b9)
          have y0 := RH9.frozen 0
          have y1 := RH9.frozen 1
          have s0 : w9.cell? ⟨w.heap.size, 0, none⟩ = some (.int .i64 0) := RH9.cell rfl
          have s1 : w9.cell? ⟨w.heap.size, 1, none⟩ = some (.int .i64 0) := RH9.cell rfl
          have RH9' := Lib.hid RH9
          clear RH9 b9
          go_wp2_with fail
          obtain ⟨k2, k3, k4, k5⟩ := pair_row RH9'.out (-1) 0 rfl
          exact fin_list 6 7 8 rfl rfl k2 ⟨⟨_, ps ++ [p], rfl, own_past O9.out k3 k4 (Nat.lt_succ_self _) (Nat.le_succ _), hpm.out⟩, B9.out.trans (k5 _ (Nat.le_refl _))⟩
        | false =>
          cases q3 : isT T next sCom with
          | false =>
            have hr : some (PR.bad next 120) = some r := by simpa [q2, q3] using hr
            obtain rfl := Option.some.inj hr
            go_wp2_with fail
            refine (is_at (s := ⟨#[41]⟩) (HT.out w5 B5.out) q2).mono ?_
            rintro e w' ⟨rfl, hw⟩
            have hw := hw.symm
            subst hw
            go_wp2_with fail
            refine (is_at (s := ⟨#[44]⟩) (HT.out w5 B5.out) q3).mono ?_
            rintro e w' ⟨rfl, hw⟩
            have hw := hw.symm
            subst hw
            go_wp2_with fail
            refine (syntax_any _ _).mono ?_
            rintro e w9 ⟨rfl, b9⟩
            have RH9 := RH5.out.later b9
            have B9 := B5.out.trans (b9.mono B5.out.size)
            have y0 := RH9.frozen 0
            have y1 := RH9.frozen 1
            have s0 : w9.cell? ⟨w.heap.size, 0, none⟩ = some (.int .i64 0) := RH9.cell rfl
            have s1 : w9.cell? ⟨w.heap.size, 1, none⟩ = some (.int .i64 0) := RH9.cell rfl
            have RH9' := Lib.hid RH9
            have B9' := Lib.hid B9
            clear RH9 B9 b9
            go_wp2_with fail
            obtain ⟨k2, k3, k4, k5⟩ := pair_row RH9'.out ((next : Nat) : Int) 120 rfl
            exact fin_list 6 7 8 rfl rfl k2 ⟨rfl, B9'.out.trans (k5 _ (Nat.le_refl _))⟩
          | true =>
            have hr : argLF f' T (next + 1) d (ps.map (·.1) ++ [m]) = some r := by simpa [q2, q3] using hr
            have hnx := isT_lt HG.out.e q3
            have Hr2 : Hid (argLF f' T (next + 1) d ((ps ++ [p]).map (·.1)) = some r) := Lib.hid (by rw [hpm.out]; exact hr)
            go_wp2_with fail
            refine (is_at (s := ⟨#[41]⟩) (HT.out w5 B5.out) q2).mono ?_
            rintro e w' ⟨rfl, hw⟩
            have hw := hw.symm
            subst hw
            go_wp2_with fail
            refine (is_at (s := ⟨#[44]⟩) (HT.out w5 B5.out) q3).mono ?_
            rintro e w' ⟨rfl, hw⟩
            have hw := hw.symm
            subst hw
            go_wp2_with fail
            exact ⟨⟨f', next + 1, ps ++ [p], by go_num, by omega, hnx, by rw [List.length_append, List.length_singleton]; omega, Hr2, RH5, O5, B5⟩, by simp [intOf]; omega⟩
end Go.Proofs.YtbnbmjdjkadgoaaDoor.X
