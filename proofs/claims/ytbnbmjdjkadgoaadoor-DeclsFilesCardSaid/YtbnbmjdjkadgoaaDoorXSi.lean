/-
  For the laws on the parser: a mistake's place. Condition: the tokens are a text's.
-/
import Derived.Test.YtbnbmjdjkadgoaaDoorXPo
import Derived.Test.YtbnbmjdjkadgoaaDoorXQt
import Derived.Deep.CutBlock
import Derived.Deep.Cut
import Derived.Test.YtbnbmjdjkadgoaaDoorXSf
namespace Go.Proofs.YtbnbmjdjkadgoaaDoor.X
open Go.RowKit Go.Shelf
set_option linter.unusedSimpArgs false
set_option linter.unusedVariables false

set_option maxRecDepth 100000 in
set_option maxHeartbeats 16000000 in
theorem mistake_any (v : Value) (T : List Tk) (hT : GoodT T) (p : Nat) (c : Int) (w : World) (h : Toks w v T) :
    Calls Tryd.prog 29 #[v, .agg #[.int .i64 (p : Nat), .int .i64 c]] w fun e w' => e = .returned (.agg #[.int .i64 c, .int .i64 0, .int .i64 (badAt T p)]) ∧ Below w.heap.size w w' := by
  have hpos := hT.e.pos
  have hTl := hT.len
  obtain ⟨tb, to_, cv, rfl, -, -, hcell⟩ := h.fix hpos
  obtain ⟨q, hq⟩ : ∃ q, min p (T.length - 1) = q := ⟨_, rfl⟩
  have hql : q < T.length := by omega
  unfold badAt
  rw [hq]
  have HC := Lib.hid (fun W hW => (hcell W hW q hql).2.2)
  have h1 : (if ((T.length : Int) - 1) < (p : Int) then (T.length : Int) - 1 else (p : Int)) = (q : Nat) := by split <;> omega
  have i1 : (q : Int) < (T.length : Int) := by omega
  have i2 : (0 : Int) ≤ (q : Int) := by omega
  have iw : IntKind.i64.wrap ((T.length : Int) - 1) = (T.length : Int) - 1 := Go.IntWalk.i64_in _ (by omega)
  clear h hcell hT
  obtain ⟨at0, hat⟩ : ∃ z, (tokT T q).at_ = z := ⟨_, rfl⟩
  rw [hat] at HC ⊢
  go_enter Tryd.func29, Tryd.ntmps29
  go_upto_region 1 with fail
  refine wp_gen (fun W => RowAt W w.heap.size 68 #[.int .i64 (p : Nat), .int .i64 c] ∧ RowAt W (w.heap.size + 1) 30 #[.int .i64 0, .int .i64 0, .int .i64 0] ∧ Below w.heap.size w W) ⟨(row_new rfl).alloc _, row_new (by simp), ((Below.refl _ w).alloc (Nat.le_refl _) _).alloc (by simp) _⟩ ?_
  rintro W1 ⟨x1, m1, b1⟩
  have hx := HC.out W1 b1
  have R1 := Lib.hid m1
  have B1 := Lib.hid b1
  have k0 : W1.cell? ⟨w.heap.size, 0, none⟩ = some (.int .i64 (p : Nat)) := x1.cell rfl
  have k1 : W1.cell? ⟨w.heap.size, 1, none⟩ = some (.int .i64 c) := x1.cell rfl
  have K0 : ∀ p' : InC W1, p'.w.cell? ⟨w.heap.size, 0, none⟩ = some (.int .i64 (p : Nat)) := fun p' => (p'.h.cell (p := ⟨w.heap.size, 0, none⟩) x1.lt).trans k0
  have K1 : ∀ p' : InC W1, p'.w.cell? ⟨w.heap.size, 1, none⟩ = some (.int .i64 c) := fun p' => (p'.h.cell (p := ⟨w.heap.size, 1, none⟩) x1.lt).trans k1
  have K2 : ∀ p' : InC W1, p'.w.cell? ⟨tb, to_ + q * 4 + 2, none⟩ = some (.int .i64 at0) := fun p' => (HC.out p'.w (B1.out.trans (p'.h.mono B1.out.size)))
  clear x1 m1 b1 hx k0 k1
  refine wp_tail_in W1 13 (Below.refl _ _) (by kernel_rfl) (by kernel_rfl) ?_
  simp only [List.take_succ_cons, List.take_zero, List.drop_succ_cons, List.drop_zero]
  repeat (quiet_step (fail))
  refine wpQuiet_nil ?_
  intro U hw'
  have hU : Below W1.heap.size W1 U := by obtain ⟨p', rfl⟩ := hw'; exact p'.h
  clear hw' K0 K1 K2
  have R2 := R1.out.later hU
  have B2 := Lib.hid (B1.out.trans (hU.mono B1.out.size))
  have z0 := R2.frozen 0
  have z1 := R2.frozen 1
  have z2 := R2.frozen 2
  have c0 : U.cell? ⟨w.heap.size + 1, 0, none⟩ = some (.int .i64 0) := R2.cell rfl
  have c1 : U.cell? ⟨w.heap.size + 1, 1, none⟩ = some (.int .i64 0) := R2.cell rfl
  have c2 : U.cell? ⟨w.heap.size + 1, 2, none⟩ = some (.int .i64 0) := R2.cell rfl
  have R3 := Lib.hid (((R2.set 0 (.int .i64 c)).set 1 (.int .i64 0)).set 2 (.int .i64 at0))
  clear hU R2
  go_wp2_with fail
  exact bodyPost_ret (results_cell_row (P := Tryd.prog) rfl _ _ (w.heap.size + 1) 30 _ (0, 0) _ rfl R3.out Tryd.underlying30 rfl rfl) rfl ⟨rfl, ((B2.out.setCell (p := ⟨w.heap.size + 1, 0, none⟩) (Nat.le_succ _) _).setCell (p := ⟨w.heap.size + 1, 1, none⟩) (Nat.le_succ _) _).setCell (p := ⟨w.heap.size + 1, 2, none⟩) (Nat.le_succ _) _⟩
end Go.Proofs.YtbnbmjdjkadgoaaDoor.X
/-
  For the laws on the parser: a file. Condition: a text of at most 1,048,576 bytes.
-/
namespace Go.Proofs.YtbnbmjdjkadgoaaDoor.X
open Go.RowKit Go.Shelf
set_option linter.unusedSimpArgs false
set_option linter.unusedVariables false

theorem results_tc {P : Program} {fn : Func} {p q : Tmp} {ty2 : TypeId} (h : fn.results = #[.tmp p, .cell q ty2]) (tmps : Array Value) (w : World) (g2 : Nat) (t2 : TypeId) (cs2 : Array Value) (fr2 : Nat × Nat) (d2 : TypeDesc)
    (hp2 : tmps.getD q undef = .pointer (some ⟨g2, 0, none⟩)) (hg2 : w.heap[g2]? = some (.cells cs2 t2 fr2))
    (hu2 : P.underlying ty2 = some d2) (hd2 : (match d2 with | .struct _ | .array _ _ => true | _ => false) = true) (hi2 : (P.info? ty2).map (·.size) = some cs2.size) :
    (results fn tmps).run P w = .ok (.tuple #[tmps.getD p undef, .agg cs2]) w := by
  have e : (results fn tmps).run P w = ((asAddr (tmps.getD q undef)).run P w).andThen fun a2 w₃ => ((loadVar ty2 a2).run P w₃).andThen fun v2 w₄ => .ok (.tuple #[tmps.getD p undef, v2]) w₄ := by
    simp only [results, h]
    simp [Sem.run_bind, Result.andThen]
  rw [e]
  simp only [asAddr, Sem.run_pure, Result.andThen, hp2, run_loadVar_row w g2 t2 ty2 cs2 fr2 d2 hg2 hu2 hd2 hi2]
/-- The tokens of a text that has no fault. -/
theorem goodT_lex (s : ByteArray) (hs : s.size ≤ 1048576) (h0 : (lexR 0 (tl s)).2.2 = 0) : GoodT (lexR 0 (tl s)).1 := by
  have h := lex_good _ 0 (tl s) (Nat.le_refl _) h0
  have hl := tl_length s
  exact ⟨h.good, by have := h.len; omega, fun t ht => (h.tk t ht).mono (Nat.le_refl _) (by omega)⟩
/-- What a file's reading answers. -/
def FileIs (R : List Nd × Int × Int) (lo : Nat) (e : Ending) (w' : World) : Prop :=
  ∃ (v : Value) (ps : List Pr), e = .returned (.tuple #[v, .agg #[.int .i64 R.2.1, .int .i64 0, .int .i64 R.2.2]]) ∧ OwnS lo w' v ps ∧ ps.map (·.1) = R.1
theorem three_row {U : World} {H : Nat} {x y z : Value} (RH : RowAt U H 30 #[x, y, z]) (p q r : Value) {V : World} (hV : ((U.setCell ⟨H, 0, none⟩ p).setCell ⟨H, 1, none⟩ q).setCell ⟨H, 2, none⟩ r = V) :
    RowAt V H 30 #[p, q, r] ∧ V.heap.size = U.heap.size ∧ (∀ b, b ≠ H → V.heap[b]? = U.heap[b]?) ∧ ∀ B, B ≤ H → Below B U V := by
  subst hV
  refine ⟨((RH.set 0 _).set 1 _).set 2 _, by simp [World.setCell], fun b h2 => (Below.heap_setCell _ _ _ b (by simpa using h2)).trans ((Below.heap_setCell _ _ _ b (by simpa using h2)).trans (Below.heap_setCell _ _ _ b (by simpa using h2))), fun B h2 => (((Below.refl _ _).setCell (p := ⟨H, 0, none⟩) h2 _).setCell (p := ⟨H, 1, none⟩) h2 _).setCell (p := ⟨H, 2, none⟩) h2 _⟩
set_option maxRecDepth 100000 in
theorem fin_file {fn : Func} (pv pH : Tmp) (hr : fn.results = #[.tmp pv, .cell pH 30]) {tmps : Array Value} {V : World} {H : Nat} {p q r : Value}
    (hH : tmps.getD pH undef = .pointer (some ⟨H, 0, none⟩)) (RH : RowAt V H 30 #[p, q, r]) {Q : Ending → World → Prop}
    (hQ : Q (.returned (.tuple #[tmps.getD pv undef, .agg #[p, q, r]])) V) : bodyPost Tryd.prog fn Q .ret { tmps := tmps, defers := [] } V :=
  bodyPost_ret (results_tc (P := Tryd.prog) hr tmps V H 30 _ (0, 0) _ hH RH Tryd.underlying30 rfl rfl) rfl hQ
set_option maxRecDepth 100000 in
set_option maxHeartbeats 16000000 in
theorem file_any (s : ByteArray) (w : World) (hs : s.size ≤ 1048576) :
    Calls Tryd.prog 16 #[.string s] w fun e w' => FileIs (fileR (tl s)) w.heap.size e w' ∧ Below w.heap.size w w' := by
  have hG := Lib.hid (goodT_lex s hs)
  unfold fileR
  obtain ⟨T, c, at0, hL⟩ : ∃ T c at0, Hid ((lexR 0 (tl s)).1 = T ∧ (lexR 0 (tl s)).2.2 = c ∧ (lexR 0 (tl s)).2.1 = at0) := ⟨_, _, _, Lib.hid ⟨rfl, rfl, rfl⟩⟩
  rw [hL.out.1, hL.out.2.1, hL.out.2.2]
  rw [hL.out.1, hL.out.2.1] at hG
  have CL : Hid (∀ W, Calls Tryd.prog 27 #[.string s] W fun e w' => (∃ v, e = .returned (.tuple #[v, .int .i64 (at0 : Nat), .int .i64 c]) ∧ Toks w' v T) ∧ Below W.heap.size W w') := Lib.hid (fun W => by
    have h9 := RefLex_any s W hs
    unfold LexGives at h9
    rw [hL.out.1, hL.out.2.1, hL.out.2.2] at h9
    exact h9)
  by_cases h0 : c = 0
  · subst h0
    rw [if_neg (by simp)]
    have HG := Lib.hid (hG.out rfl)
    clear hG
    obtain ⟨q, hq⟩ : ∃ q, filLF (fuelT T) T 0 [] = q := ⟨_, rfl⟩
    have hok := filL_ok HG.out.e (fuelT T) 0 [] HG.out.e.pos
    rw [hq] at hok ⊢
    cases q with
    | none => exact absurd rfl (hok.1 (by unfold fuelT; omega))
    | some r =>
    have Hr := Lib.hid hq
    have Hok := Lib.hid hok.2
    clear hq hok
    go_enter Tryd.func16, Tryd.ntmps16
    go_wp2_with fail
    refine calls_gen (fun W => RowAt W w.heap.size 30 #[.int .i64 0, .int .i64 0, .int .i64 0] ∧ Below w.heap.size w W) ⟨row_new rfl, (Below.refl _ w).alloc (Nat.le_refl _) _⟩ ?_
    rintro W1 ⟨h1, b1⟩
    have hlt1 := h1.lt
    have B1 := Lib.hid b1
    refine (CL.out W1).mono ?_
    rintro e w2 ⟨⟨v, rfl, ht⟩, b2⟩
    have RH2 := Lib.hid (h1.later b2)
    have B2 := Lib.hid (b1.trans (b2.mono b1.size))
    have hs12 := b2.size
    have hlt2 : w.heap.size < w2.heap.size := Nat.lt_of_lt_of_le hlt1 hs12
    have HT2 := Lib.hid ht
    clear h1 b1 b2 ht CL
    obtain ⟨tb, to_, cv, rfl, -, -, hcell⟩ := HT2.out.fix HG.out.e.pos
    have HT := Lib.hid (fun W (hW : Below w2.heap.size w2 W) => HT2.out.below hW)
    have HC := Lib.hid hcell
    have hTl := HG.out.len
    clear hcell HT2
    have e0 : ((0 : Int) != 0) = false := by decide
    have CLS := Lib.hid (class_any (.slice (some ⟨tb, to_, none⟩) T.length cv) T HG.out)
    have OQ1 : Hid (OwnQ (fun _ => True) w2.heap.size w2 (.slice none 0 0) []) := Lib.hid (OwnQ.nil (Nat.le_refl _))
    go_wp2_with fail
    go_loopw [7, 8] (fun ov c wr => ∃ (f' k : Nat) (ps : List Pr), c = .int .i64 k ∧ k < T.length ∧ ps.length ≤ k ∧ Hid (filLF f' T k (ps.map (·.1)) = some r) ∧ Hid (RowAt wr w.heap.size 30 #[.int .i64 0, .int .i64 0, .int .i64 0]) ∧ Hid (OwnQ (fun _ => True) w2.heap.size wr ov ps) ∧ Hid (Below w2.heap.size w2 wr)) (fun _ c _ => T.length - (intOf c).toNat)
    case atStart => exact ⟨fuelT T, 0, [], rfl, HG.out.e.pos, Nat.zero_le _, Hr, RH2, OQ1, Lib.hid (Below.refl _ _)⟩
    case round =>
      clear OQ1
      obtain ⟨f', k, ps, rfl, hk, hpk, hrl, RH3, OQ3, b23⟩ := hrel
      obtain ⟨an, nn, cn, rfl⟩ := ownq_slice OQ3.out
      have hbase := OQ3.out.bas
      have B3 := Lib.hid (B2.out.trans (b23.out.mono B2.out.size))
      have tk := (HC.out wr b23.out k hk).1
      have i1 : (0 : Int) ≤ (k : Int) := by omega
      have i2 : (k : Int) < (T.length : Int) := by omega
      cases f' with
      | zero => have := hrl.out; unfold filLF at this; cases this
      | succ f' =>
      have hr := hrl.out
      unfold filLF at hr
      clear hrl
      by_cases h5 : (tokT T k).kind = 5
      · obtain ⟨wo, hwo⟩ : ∃ wo, wo = wr := ⟨_, rfl⟩
        subst hwo
        rw [if_pos h5] at hr
        obtain rfl := Option.some.inj hr
        have e5 : ((tokT T k).kind != 5) = false := by simpa using h5
        have hok := Hok.out _ _ rfl
        obtain ⟨L, hL2⟩ : ∃ L, Hid (ps.map (·.1) = L) := ⟨_, Lib.hid rfl⟩
        have hcl : cntL L ≤ 1048577 := by rw [← hL2.out]; have := hok.2.2; simp only [cntL] at this; omega
        have hLk := cntL_len L
        obtain ⟨F, hsup, -⟩ := OQ3.out.kids
        obtain ⟨a', cap', e', hn1, hn2, hx⟩ := hsup.kids.get
        obtain ⟨rfl, rfl, rfl⟩ := Value.slice.inj e'
        have hOS : Hid (∀ V, Below wo.heap.size wo V → OwnS w2.heap.size V (.slice an (ps.map (·.1)).length cn) ps) := Lib.hid (fun V hV => by
          refine OwnS.below (W := wo) ⟨OQ3.out.row, OQ3.out.bas, fun p hp => ?_⟩ hV
          obtain ⟨F', h1, h2⟩ := OQ3.out.sup p hp
          exact ⟨F', h1, fun b hb => (h2 b hb).1⟩)
        rw [hL2.out] at hn1 hx hOS
        rw [hL2.out]
        have Hx := Lib.hid hx
        obtain ⟨n, hnn⟩ : ∃ n, Hid (L.length = n) := ⟨_, Lib.hid rfl⟩
        have hOS2 : Hid (∀ V, Below wo.heap.size wo V → OwnS w2.heap.size V (.slice an n cn) ps) := Lib.hid (by rw [← hnn.out]; exact hOS.out)
        rw [hnn.out] at hn1 hLk
        rw [hnn.out]
        unfold maxLen at hn2
        have RHd := RH3
        clear hx hsup hOS hok hr h5 CLS
        go_wp2_with fail
        go_loopw [12] (fun c wr => ∃ j : Nat, c = .int .i64 j ∧ j ≤ n ∧ Hid (L.find? (fun n => decide (200 < n.ht)) = (L.drop j).find? (fun n => decide (200 < n.ht))) ∧ Hid (Below wo.heap.size wo wr)) (fun c _ => n - (intOf c).toNat)
        case atStart => exact ⟨0, rfl, Nat.zero_le _, Lib.hid rfl, Lib.hid (Below.refl _ _)⟩
        case round =>
          obtain ⟨j, rfl, hj, hF, hB⟩ := hrel
          by_cases hlt : j < n
          · obtain ⟨x, hxj⟩ : ∃ x, L[j]? = some x := ⟨_, List.getElem?_eq_getElem (by rw [hnn.out]; exact hlt)⟩
            obtain ⟨xb, off, kv, rfl, cs, hkx⟩ := Hx.out j x hxj
            have hxc : x.cnt ≤ 2000000 := by have := cntL_mem (List.mem_of_getElem? hxj); omega
            have CX := Lib.hid (RefDepth_at wo x kv hkx wr hB.out hxc)
            have hdrop : L.drop j = x :: L.drop (j + 1) := by
              have hl := (List.getElem?_eq_some_iff.1 hxj).1
              rw [List.drop_eq_getElem_cons hl]
              congr 1
              rw [List.getElem?_eq_getElem hl] at hxj
              exact Option.some.inj hxj
            have hF2 := hF.out
            rw [hdrop] at hF2
            have HF2 := Lib.hid hF2
            have CSX := Lib.hid (fun U (hU : Below wo.heap.size wo U) => cs.later hU)
            obtain ⟨e0, e1, e2, e3, e4, e5', e6, e7, e8⟩ := CSX.out wr hB.out
            have i3 : (0 : Int) ≤ (j : Int) := by omega
            have i4 : (j : Int) < (n : Int) := by omega
            obtain ⟨X, hX⟩ : ∃ X, Hid (x.ht = X) := ⟨_, Lib.hid rfl⟩
            rw [hX.out] at CX
            have hkxs := hkx.get
            clear hxj cs hkx hdrop hF2 hF hkxs
            go_wp2_with fail
            refine CX.out.mono ?_
            rintro e w5 ⟨rfl, b5⟩
            have B5 := Lib.hid (hB.out.trans (b5.mono hB.out.size))
            clear e0 e1 e2 e3 e4 e5' e6 e7 e8 b5
            by_cases h2 : 200 < X
            · have hQ : Hid (L.find? (fun n => decide (200 < n.ht)) = some x) := Lib.hid (by rw [HF2.out, List.find?_cons, hX.out, decide_eq_true h2])
              have hFQ : Hid (fileQ T (some (.ok (ps.map (·.1)) k)) = ([], 2, x.hd.fr)) := Lib.hid (by rw [hL2.out]; unfold fileQ; simp only [hQ.out])
              have g1 : decide ((X : Int) > 200) = true := decide_eq_true (by omega)
              have g2 : decide (200 < X) = true := decide_eq_true h2
              have c4 := (CSX.out w5 B5.out).c4
              have hxl : xb < w5.heap.size := World.block_lt_of_cell? w5 _ c4
              have RH5 := Lib.hid (RH3.out.later B5.out)
              have B5' := Lib.hid (B3.out.trans (B5.out.mono B3.out.size))
              have H2 := Lib.hid h2
              clear h2
              go_upto_region 16 with fail
              have K1 : ∀ p : InC w5, p.w.cell? ⟨xb, off + j * 9 + 4, none⟩ = some (.int .i64 x.hd.fr) := fun p => (p.h.cell (p := ⟨xb, off + j * 9 + 4, none⟩) hxl).trans c4
              refine wp_tail_in w5 7 (Below.refl _ _) (by kernel_rfl) (by kernel_rfl) ?_
              simp only [List.take_succ_cons, List.take_zero, List.drop_succ_cons, List.drop_zero]
              repeat (quiet_step (fail))
              refine wpQuiet_nil ?_
              intro U hw'
              have hU : Below w5.heap.size w5 U := by obtain ⟨p, rfl⟩ := hw'; exact p.h
              have RHU := Lib.hid (RH5.out.later hU)
              have BU := Lib.hid (B5'.out.trans (hU.mono B5'.out.size))
              clear hw' K1 hU
              have y0 := RHU.out.frozen 0
              have s0 : U.cell? ⟨w.heap.size, 0, none⟩ = some (.int .i64 0) := RHU.out.cell rfl
              have y1 := RHU.out.frozen 1
              have s1 : U.cell? ⟨w.heap.size, 1, none⟩ = some (.int .i64 0) := RHU.out.cell rfl
              have y2 := RHU.out.frozen 2
              have s2 : U.cell? ⟨w.heap.size, 2, none⟩ = some (.int .i64 0) := RHU.out.cell rfl
              go_wp2_with fail
              obtain ⟨k2, k3, k4, k5⟩ := three_row RHU.out (.int .i64 2) (.int .i64 0) (.int .i64 x.hd.fr) rfl
              refine fin_file 2 3 rfl rfl k2 ⟨⟨_, [], ?_, OwnS.nil (by have := BU.out.size; rw [k3]; omega), ?_⟩, BU.out.trans (k5 _ (Nat.le_refl _))⟩
              · rw [hFQ.out]; rfl
              · rw [hFQ.out]; rfl
            · have hQ : Hid (L.find? (fun n => decide (200 < n.ht)) = (L.drop (j + 1)).find? (fun n => decide (200 < n.ht))) := Lib.hid (by rw [HF2.out, List.find?_cons, hX.out, decide_eq_false h2])
              have g1 : decide ((X : Int) > 200) = false := decide_eq_false (by omega)
              have g2 : decide (200 < X) = false := decide_eq_false h2
              have H2 := Lib.hid h2
              clear h2
              go_wp2_with fail
              exact ⟨⟨j + 1, by go_num, by omega, hQ, B5⟩, by simp [intOf]; omega⟩
          · have hjn : j = n := by omega
            have hQ : Hid (L.find? (fun n => decide (200 < n.ht)) = none) := Lib.hid (by rw [hF.out, List.drop_of_length_le (by rw [hnn.out]; omega)]; rfl)
            have RHq := Lib.hid (RH3.out.later hB.out)
            have Bq := Lib.hid (B3.out.trans (hB.out.mono B3.out.size))
            have hnj : ¬ ((j : Int) < (n : Int)) := by omega
            have Hjn := Lib.hid hjn
            clear hjn hlt
            have y0 := RHq.out.frozen 0
            have s0 : wr.cell? ⟨w.heap.size, 0, none⟩ = some (.int .i64 0) := RHq.out.cell rfl
            have y1 := RHq.out.frozen 1
            have s1 : wr.cell? ⟨w.heap.size, 1, none⟩ = some (.int .i64 0) := RHq.out.cell rfl
            have y2 := RHq.out.frozen 2
            have s2 : wr.cell? ⟨w.heap.size, 2, none⟩ = some (.int .i64 0) := RHq.out.cell rfl
            go_wp2_with fail
            obtain ⟨k2, k3, k4, k5⟩ := three_row RHq.out (.int .i64 0) (.int .i64 0) (.int .i64 0) rfl
            have hFQ : fileQ T (some (.ok (ps.map (·.1)) k)) = (L, 0, 0) := by rw [hL2.out]; unfold fileQ; simp only [hQ.out]
            refine fin_file 2 3 rfl rfl k2 ⟨⟨.slice an n cn, ps, ?_, own_past (hOS2.out _ hB.out) k3 k4 hlt2 (by omega), ?_⟩, Bq.out.trans (k5 _ (Nat.le_refl _))⟩
            · rw [hFQ]; rfl
            · rw [hFQ]; exact hL2.out

      · rw [if_neg h5] at hr
        have e5 : ((tokT T k).kind != 5) = true := by simpa using h5
        obtain ⟨x, hx⟩ : ∃ x, clsF f' T k = x := ⟨_, rfl⟩
        have gx := (cls_ok HG.out.e f' k).2
        rw [hx] at hr gx
        cases x with
        | none => cases hr
        | some x =>
        have CX := Lib.hid (fun W hW => CLS.out f' k x W hx hk (HT.out W hW))
        clear hx
        go_wp2_with fail
        refine (CX.out wr b23.out).mono ?_
        rintro e w4 ⟨hni, b4⟩
        have RH4 := Lib.hid (RH3.out.later b4)
        have B4 := Lib.hid (B3.out.trans (b4.mono B3.out.size))
        have b34 := Lib.hid b4
        have b24 := Lib.hid (b23.out.trans (b4.mono b23.out.size))
        have O4 := Lib.hid (OQ3.out.below b4)
        have hs4 := b4.size
        clear b4
        cases x with
        | bad p c =>
          obtain rfl : PR.bad p c = r := Option.some.inj hr
          obtain rfl := hni
          have p1 : decide ((p : Int) ≥ 0) = true := decide_eq_true (by omega)
          have p2 : decide ((0 : Int) ≤ (p : Int)) = true := decide_eq_true (by omega)
          go_wp2_with fail
          refine calls_gen (fun W => RowAt W w.heap.size 30 #[.int .i64 0, .int .i64 0, .int .i64 0] ∧ Below w4.heap.size w4 W) ⟨(RH4.out.alloc _).alloc _, ((Below.refl _ _).alloc (Nat.le_refl _) _).alloc (by simp) _⟩ ?_
          rintro W5 ⟨h5', b5⟩
          have RH5 := Lib.hid h5'
          have B5 := Lib.hid (B4.out.trans (b5.mono B4.out.size))
          have b25 := Lib.hid (b24.out.trans (b5.mono b24.out.size))
          clear h5' b5
          refine (mistake_any (.slice (some ⟨tb, to_, none⟩) T.length cv) T HG.out p c W5 (HT.out W5 b25.out)).mono ?_
          rintro e w9 ⟨rfl, b9⟩
          have RH9 := Lib.hid (RH5.out.later b9)
          have B9 := Lib.hid (B5.out.trans (b9.mono B5.out.size))
          clear b9
          have y0 := RH9.out.frozen 0
          have s0 : w9.cell? ⟨w.heap.size, 0, none⟩ = some (.int .i64 0) := RH9.out.cell rfl
          have y1 := RH9.out.frozen 1
          have s1 : w9.cell? ⟨w.heap.size, 1, none⟩ = some (.int .i64 0) := RH9.out.cell rfl
          have y2 := RH9.out.frozen 2
          have s2 : w9.cell? ⟨w.heap.size, 2, none⟩ = some (.int .i64 0) := RH9.out.cell rfl
          go_wp2_with fail
          obtain ⟨k2, k3, k4, k5⟩ := three_row RH9.out (.int .i64 c) (.int .i64 0) (.int .i64 (badAt T p)) rfl
          exact fin_file 2 3 rfl rfl k2 ⟨⟨_, [], rfl, OwnS.nil (by have := B9.out.size; rw [k3]; omega), rfl⟩, B9.out.trans (k5 _ (Nat.le_refl _))⟩
        | ok m nx =>
          obtain ⟨v1, v2, v3⟩ := gx m nx rfl
          have hr : filLF f' T nx (ps.map (·.1) ++ [m]) = some r := hr
          obtain ⟨ka, kn, kc, F, rfl, hsup⟩ := hni
          have HS := Lib.hid hsup
          have p1 : decide ((-1 : Int) ≥ 0) = false := by decide
          clear hsup
          go_upto_region 10 with fail
          refine wp_gen (fun W => RowAt W w.heap.size 30 #[.int .i64 0, .int .i64 0, .int .i64 0] ∧ RowAt W w4.heap.size 55 #[.int .i64 m.hd.kind, .string (bs m.hd.text), .string (bs m.hd.type), .int .i64 m.hd.n, .int .i64 m.hd.fr, .int .i64 m.hd.to_, .int .i64 m.hd.at_, .int .i64 m.hd.tat, .slice ka kn kc] ∧ Below w4.heap.size w4 W) ⟨(RH4.out.alloc _).alloc _, (row_new rfl).alloc _, ((Below.refl _ _).alloc (Nat.le_refl _) _).alloc (by simp) _⟩ ?_
          rintro W5 ⟨h5, m5, b5⟩
          have RH5 := Lib.hid h5
          have RM5 := Lib.hid m5
          have B5 := Lib.hid (B4.out.trans (b5.mono B4.out.size))
          have S5 := Lib.hid (HS.out.below b5)
          have b45 := Lib.hid b5
          have hs5 := b5.size
          have hm5 := m5.lt
          clear h5 m5 b5
          have OQ5 := Lib.hid (O4.out.below b45.out)
          obtain ⟨d0, d1, d2, d3, d4, d5, d6, d7, d8⟩ := (show Cells W5 w4.heap.size 0 m.hd (.slice ka kn kc) from Cells.row RM5.out)
          simp only [Nat.zero_add] at d1 d2 d3 d4 d5 d6 d7 d8
          obtain ⟨A, hA⟩ : ∃ A, Hid (W5.alloc (.cells #[.int .i64 m.hd.kind, .string (bs m.hd.text), .string (bs m.hd.type), .int .i64 m.hd.n, .int .i64 m.hd.fr, .int .i64 m.hd.to_, .int .i64 m.hd.at_, .int .i64 m.hd.tat, .slice ka kn kc] 55) = A) := ⟨_, Lib.hid rfl⟩
          have bA : Hid (Below W5.heap.size W5 A) := by rw [← hA.out]; exact Lib.hid ((Below.refl _ _).alloc (Nat.le_refl _) _)
          have hsA : A.heap.size = W5.heap.size + 1 := by rw [← hA.out]; simp
          have OA := Lib.hid (OQ5.out.below bA.out)
          have XA : Hid (OwnS (wr.heap.size) A (.slice (some ⟨W5.heap.size, 0, none⟩) 1 1) [(m, Value.slice ka kn kc)]) := Lib.hid (own_build (ps := [(m, Value.slice ka kn kc)]) (by rw [← hA.out]; exact row_new rfl) (by omega) (by show 1 ≤ maxLen; unfold maxLen; omega) (fun p hp => by
            obtain rfl := List.mem_singleton.1 hp
            exact ⟨_, S5.out.below bA.out, fun b hb => by have := (S5.out.1 b hb).2; omega⟩))
          have hlo6 : Hid (∀ b, (Value.slice an nn cn).ownBlock = some b → b < wr.heap.size) := Lib.hid (fun b hb => by have h9 := (OQ3.out.row.lt b hb).2; omega)
          have hPl6 : Hid (∀ b : Nat, wr.heap.size ≤ b → True) := Lib.hid (fun b hb => trivial)
          have RHA := Lib.hid (RH5.out.later bA.out)
          have BA := Lib.hid (B5.out.trans (bA.out.mono B5.out.size))
          go_wp2_with (at_builtin; rw [hA.out]; refine wpList_append_q (w := A) (base := w2.heap.size) (lo := wr.heap.size) (P := fun _ => True) rfl _ _ rfl (Value.slice an nn cn) (.slice (some ⟨W5.heap.size, 0, none⟩) 1 1) ps [(m, Value.slice ka kn kc)] rfl OA.out rfl XA.out hlo6.out hPl6.out (by omega) (by simp only [List.length_cons, List.length_nil]; omega) ?_; intro a7 n7 c7 w7 oq7 hg70)
          have hg7 : A.grownBy w7 (Value.slice an nn cn).ownBlock := hg70
          clear hg70
          have OQ7 := Lib.hid oq7
          have hkb : Hid (∀ b, (Value.slice an nn cn).ownBlock = some b → w2.heap.size ≤ b) := Lib.hid (fun b hb => (OQ5.out.row.lt b hb).1)
          have RH7 := Lib.hid (RowAt.same RHA.out (hg7.block _ RHA.out.lt (fun e => by have h9 := hkb.out _ e.symm; have h8 := B1.out.size; omega)))
          have B7 := Lib.hid (BA.out.grown hg7 (by have := BA.out.size; omega) (fun k e => by have h9 := hkb.out _ e; have h8 := B1.out.size; omega))
          have hs7 := hg7.size
          have b27 := Lib.hid ((b24.out.trans ((b45.out.trans (bA.out.mono hs5)).mono b24.out.size)).grown hg7 (by have := b24.out.size; omega) (fun k e => by have h9 := hkb.out _ e; omega))
          clear oq7 hg7 d0 d1 d2 d3 d4 d5 d6 d7 d8
          exact ⟨⟨f', nx, ps ++ [(m, Value.slice ka kn kc)], rfl, v2, by rw [List.length_append, List.length_singleton]; omega, Lib.hid (by rw [List.map_append]; exact hr), RH7, OQ7, b27⟩, by simp [intOf]; omega⟩
  · rw [if_pos h0]
    have e0 : (c != 0) = true := by simpa using h0
    go_enter Tryd.func16, Tryd.ntmps16
    go_wp2_with fail
    refine calls_gen (fun W => RowAt W w.heap.size 30 #[.int .i64 0, .int .i64 0, .int .i64 0] ∧ Below w.heap.size w W) ⟨row_new rfl, (Below.refl _ w).alloc (Nat.le_refl _) _⟩ ?_
    rintro W1 ⟨h1, b1⟩
    have hlt1 := h1.lt
    have B1 := Lib.hid b1
    refine (CL.out W1).mono ?_
    rintro e w2 ⟨⟨v, rfl, ht⟩, b2⟩
    have RH2 := Lib.hid (h1.later b2)
    have B2 := Lib.hid (b1.trans (b2.mono b1.size))
    have hs12 := b2.size
    have hlt2 : w.heap.size < w2.heap.size := Nat.lt_of_lt_of_le hlt1 hs12
    have HT2 := Lib.hid ht
    clear h1 b1 b2 ht CL
    have y0 := RH2.out.frozen 0
    have s0 : w2.cell? ⟨w.heap.size, 0, none⟩ = some (.int .i64 0) := RH2.out.cell rfl
    have y1 := RH2.out.frozen 1
    have s1 : w2.cell? ⟨w.heap.size, 1, none⟩ = some (.int .i64 0) := RH2.out.cell rfl
    have y2 := RH2.out.frozen 2
    have s2 : w2.cell? ⟨w.heap.size, 2, none⟩ = some (.int .i64 0) := RH2.out.cell rfl
    go_wp2_with fail
    obtain ⟨k2, k3, k4, k5⟩ := three_row RH2.out (.int .i64 c) (.int .i64 0) (.int .i64 (at0 : Nat)) rfl
    exact fin_file 2 3 rfl rfl k2 ⟨⟨_, [], rfl, OwnS.nil (by have := B2.out.size; rw [k3]; omega), rfl⟩, B2.out.trans (k5 _ (Nat.le_refl _))⟩
end Go.Proofs.YtbnbmjdjkadgoaaDoor.X
/-
  For the laws on the parser: one member, statement or expression. Condition: a text of at most 1,048,576 bytes.
-/
namespace Go.Proofs.YtbnbmjdjkadgoaaDoor.X
open Go.RowKit Go.Shelf
set_option linter.unusedSimpArgs false
set_option linter.unusedVariables false

end Go.Proofs.YtbnbmjdjkadgoaaDoor.X
