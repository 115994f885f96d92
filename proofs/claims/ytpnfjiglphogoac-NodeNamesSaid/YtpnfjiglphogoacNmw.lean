/-
  For the laws of node: the walk of NodeNames. Condition: at most 2,000,000 nodes in the tree.
-/
import Derived.Test.YtpnfjiglphogoacAwk
import Derived.Test.YtpnfjiglphogoacPuq
import Derived.Test.YtpnfjiglphogoacQuc
import Derived.Test.YtpnfjiglphogoacSls
import Derived.Test.YtpnfjiglphogoacPlw
import Derived.Deep.Cut
import Derived.Deep.CutRange
import Derived.Deep.RegionHeld3
namespace Go.Proofs.Ytpnfjiglphogoac
open Go.RowKit Go.Shelf
set_option linter.unusedSimpArgs false
set_option linter.unusedVariables false

/-- An operation that isn't wanted. -/
theorem quiet_skip {P : Program} {ops : Array Oper} {C : World → Prop} {Q : Act → Prop} {o : Oper} {rest : List Oper} {a : Act} (h : Region.wanted o (yielded ops a.tmps) = false) (hk : wpQuiet P ops C Q rest (a.put o.dst undef)) : wpQuiet P ops C Q (o :: rest) a := by
  unfold wpQuiet
  rw [if_neg (by rw [h]; simp)]
  exact hk
/-- Block g holds a node of the call's own. -/
def MidR (W1 : World) (h : Hd) (ks : List Nd) (g : Nat) (wx : World) : Prop :=
  (W1.heap.size ≤ g ∧ Below W1.heap.size W1 wx) ∧ ∃ (a : Option Addr) (n c : Nat), RowAt wx g 24 (h.vals (.slice a n c)) ∧ KidsAt wx ks (.slice a n c)
theorem midr_a {W1 w' : World} {h : Hd} {ks : List Nd} {a : Option Addr} {n c : Nat} {F : List Nat} (hs : AQ W1 w') (hk : SepAt w' ks (.slice a n c) F) : MidR W1 h ks w'.heap.size (w'.alloc (.cells #[.int .i64 h.kind, .string (bs h.text), .string (bs h.type), .int .i64 h.n, .int .i64 h.fr, .int .i64 h.to_, .int .i64 h.at_, .int .i64 h.tat, .slice a n c] 24)) :=
  ⟨⟨hs.size, hs.alloc _⟩, a, n, c, RowAt.new w' 24 _, hk.kids.below ((Below.refl _ _).alloc (Nat.le_refl _) _)⟩
theorem midr_b {W1 w' V : World} {h : Hd} {ks : List Nd} {a : Option Addr} {n c : Nat} {F : List Nat} (hs : AQ W1 w') (hk : SepAt w' ks (.slice a n c) F) (hF : ∀ N ∈ F, (W1.alloc (.cells #[.int .i64 0, .string ⟨#[]⟩, .string ⟨#[]⟩, .int .i64 0, .int .i64 0, .int .i64 0, .int .i64 0, .int .i64 0, .slice none 0 0] 24)).drew.heap.size ≤ N)
    (hR : RowAt V W1.heap.size 24 (h.vals (.slice a n c))) (hV : Upd w' V W1.heap.size 0) : MidR W1 h ks W1.heap.size V := by
  have hF2 : ∀ N ∈ F, W1.heap.size + 1 ≤ N := fun N hN => by
    have h1 : (W1.alloc (.cells #[.int .i64 0, .string ⟨#[]⟩, .string ⟨#[]⟩, .int .i64 0, .int .i64 0, .int .i64 0, .int .i64 0, .int .i64 0, .slice none 0 0] 24)).heap.size ≤ N := hF N hN
    rw [World.size_alloc] at h1
    exact h1
  exact ⟨⟨Nat.le_refl _, Below.trans hs (hV.below _ (Nat.le_refl _))⟩, a, n, c, hR, (hk.keep fun b hb => hV.other b (by have := hF2 b hb; omega)).kids⟩
theorem row_facts {w : World} {b : Nat} (R : RowAt w b 24 #[.int .i64 0, .string ⟨#[]⟩, .string ⟨#[]⟩, .int .i64 0, .int .i64 0, .int .i64 0, .int .i64 0, .int .i64 0, .slice none 0 0]) : (w.cell? ⟨b, 0, none⟩ = some (.int .i64 0) ∧ w.cell? ⟨b, 1, none⟩ = some (.string ⟨#[]⟩) ∧ w.cell? ⟨b, 2, none⟩ = some (.string ⟨#[]⟩) ∧ w.cell? ⟨b, 3, none⟩ = some (.int .i64 0) ∧ w.cell? ⟨b, 4, none⟩ = some (.int .i64 0) ∧ w.cell? ⟨b, 5, none⟩ = some (.int .i64 0) ∧ w.cell? ⟨b, 6, none⟩ = some (.int .i64 0) ∧ w.cell? ⟨b, 7, none⟩ = some (.int .i64 0) ∧ w.cell? ⟨b, 8, none⟩ = some (.slice none 0 0)) ∧ w.frozen? ⟨b, 0, none⟩ = false ∧ w.frozen? ⟨b, 1, none⟩ = false ∧ w.frozen? ⟨b, 2, none⟩ = false ∧ w.frozen? ⟨b, 3, none⟩ = false ∧ w.frozen? ⟨b, 4, none⟩ = false ∧ w.frozen? ⟨b, 5, none⟩ = false ∧ w.frozen? ⟨b, 6, none⟩ = false ∧ w.frozen? ⟨b, 7, none⟩ = false ∧ w.frozen? ⟨b, 8, none⟩ = false :=
  ⟨⟨R.cell (j := 0) rfl, R.cell (j := 1) rfl, R.cell (j := 2) rfl, R.cell (j := 3) rfl, R.cell (j := 4) rfl, R.cell (j := 5) rfl, R.cell (j := 6) rfl, R.cell (j := 7) rfl, R.cell (j := 8) rfl⟩, R.frozen 0, R.frozen 1, R.frozen 2, R.frozen 3, R.frozen 4, R.frozen 5, R.frozen 6, R.frozen 7, R.frozen 8⟩
theorem AQ.nine {W1 w : World} {g : Nat} (h : AQ W1 w) (hg : W1.heap.size ≤ g) (a b c d e f g' k l : Value) : AQ W1 (((((((((w.setCell ⟨g, 0, none⟩ a).setCell ⟨g, 1, none⟩ b).setCell ⟨g, 2, none⟩ c).setCell ⟨g, 3, none⟩ d).setCell ⟨g, 4, none⟩ e).setCell ⟨g, 5, none⟩ f).setCell ⟨g, 6, none⟩ g').setCell ⟨g, 7, none⟩ k).setCell ⟨g, 8, none⟩ l) :=
  ((((((((Below.setCell h (p := ⟨g, 0, none⟩) hg a).setCell (p := ⟨g, 1, none⟩) hg b).setCell (p := ⟨g, 2, none⟩) hg c).setCell (p := ⟨g, 3, none⟩) hg d).setCell (p := ⟨g, 4, none⟩) hg e).setCell (p := ⟨g, 5, none⟩) hg f).setCell (p := ⟨g, 6, none⟩) hg g').setCell (p := ⟨g, 7, none⟩) hg k).setCell (p := ⟨g, 8, none⟩) hg l
set_option maxRecDepth 100000 in
set_option maxHeartbeats 16000000 in
theorem Names_any (Ta : Nd) (va : Value) (kind : Int) (vn : Value) (names : List By) (w : World) (hma : Ta.cnt ≤ 2000000) (hka : KidsAt w Ta.kids va) (hn : SlS w vn names) :
    Calls Try.prog 4 #[.agg #[.int .i64 Ta.hd.kind, .string (bs Ta.hd.text), .string (bs Ta.hd.type), .int .i64 Ta.hd.n, .int .i64 Ta.hd.fr, .int .i64 Ta.hd.to_, .int .i64 Ta.hd.at_, .int .i64 Ta.hd.tat, va], .int .i64 kind, vn] w fun e w' => e = .returned (.bool true) ∧ Below w.heap.size w w' := by
  have HA := Lib.hid hka
  obtain ⟨aa, capa, rfl, -⟩ := hka.get
  clear hka
  obtain ⟨na, hna⟩ : ∃ n, Hid (Ta.kids.length = n) := ⟨_, Lib.hid rfl⟩
  rw [hna.out] at HA
  rw [hna.out]
  obtain ⟨W1, hW1⟩ : ∃ W1, Hid (w.alloc (.cells #[.int .i64 Ta.hd.kind, .string (bs Ta.hd.text), .string (bs Ta.hd.type), .int .i64 Ta.hd.n, .int .i64 Ta.hd.fr, .int .i64 Ta.hd.to_, .int .i64 Ta.hd.at_, .int .i64 Ta.hd.tat, .slice aa na capa] 24) = W1) := ⟨_, Lib.hid rfl⟩
  have B1 : Hid (Below w.heap.size w W1) := by rw [← hW1.out]; exact Lib.hid ((Below.refl _ w).alloc (Nat.le_refl _) _)
  have R1 : Hid (RowAt W1 w.heap.size 24 #[.int .i64 Ta.hd.kind, .string (bs Ta.hd.text), .string (bs Ta.hd.type), .int .i64 Ta.hd.n, .int .i64 Ta.hd.fr, .int .i64 Ta.hd.to_, .int .i64 Ta.hd.at_, .int .i64 Ta.hd.tat, .slice aa na capa]) := by rw [← hW1.out]; exact Lib.hid (RowAt.new w 24 #[.int .i64 Ta.hd.kind, .string (bs Ta.hd.text), .string (bs Ta.hd.type), .int .i64 Ta.hd.n, .int .i64 Ta.hd.fr, .int .i64 Ta.hd.to_, .int .i64 Ta.hd.at_, .int .i64 Ta.hd.tat, .slice aa na capa])
  have HS : Hid (∀ U, AQ W1 U → AQ W1 U ∧ U.cell? ⟨w.heap.size, 0, none⟩ = some (.int .i64 Ta.hd.kind) ∧ U.cell? ⟨w.heap.size, 1, none⟩ = some (.string (bs Ta.hd.text)) ∧ U.cell? ⟨w.heap.size, 2, none⟩ = some (.string (bs Ta.hd.type)) ∧ U.cell? ⟨w.heap.size, 3, none⟩ = some (.int .i64 Ta.hd.n) ∧ U.cell? ⟨w.heap.size, 4, none⟩ = some (.int .i64 Ta.hd.fr) ∧ U.cell? ⟨w.heap.size, 5, none⟩ = some (.int .i64 Ta.hd.to_) ∧ U.cell? ⟨w.heap.size, 6, none⟩ = some (.int .i64 Ta.hd.at_) ∧ U.cell? ⟨w.heap.size, 7, none⟩ = some (.int .i64 Ta.hd.tat) ∧ U.cell? ⟨w.heap.size, 8, none⟩ = some (.slice aa na capa)) := Lib.hid (fun U hU => by
    have c1 := (show Cells U w.heap.size 0 Ta.hd (.slice aa na capa) from Cells.row (R1.out.later hU))
    obtain ⟨d0, d1, d2, d3, d4, d5, d6, d7, d8⟩ := c1
    simp only [Nat.zero_add] at d1 d2 d3 d4 d5 d6 d7 d8
    exact ⟨hU, d0, d1, d2, d3, d4, d5, d6, d7, d8⟩)
  have BW : Hid (∀ U, AQ W1 U → Below w.heap.size w U) := Lib.hid (fun U hU => B1.out.trans (Below.mono hU B1.out.size))
  have KA : Hid (∀ U, AQ W1 U → KidsAt U Ta.kids (.slice aa na capa)) := Lib.hid (fun U hU => HA.out.below (BW.out U hU))
  obtain ⟨M, hM⟩ : ∃ n, Hid ((allK 0 Ta).length = n) := ⟨_, Lib.hid rfl⟩
  have HN := Lib.hid hn
  obtain ⟨an, capn, rfl, -⟩ := hn
  obtain ⟨nn, hnn⟩ : ∃ n, Hid (names.length = n) := ⟨_, Lib.hid rfl⟩
  rw [hnn.out] at HN
  rw [hnn.out]
  have hMb : M ≤ 2000000 := by rw [← hM.out, allK_zero]; exact hma
  have Cfa : Hid (∀ U, AQ W1 U → Calls Try.prog 7 #[.agg #[.int .i64 Ta.hd.kind, .string (bs Ta.hd.text), .string (bs Ta.hd.type), .int .i64 Ta.hd.n, .int .i64 Ta.hd.fr, .int .i64 Ta.hd.to_, .int .i64 Ta.hd.at_, .int .i64 Ta.hd.tat, .slice aa na capa]] U fun e w' => e = .returned (.bool (fewN Ta)) ∧ Below U.heap.size U w') := Lib.hid (fun U hU => few_any Ta _ U hma ⟨_, rfl, KA.out U hU⟩)
  have C12 : Hid (∀ U, AQ W1 U → Calls Try.prog 12 #[.agg #[.int .i64 Ta.hd.kind, .string (bs Ta.hd.text), .string (bs Ta.hd.type), .int .i64 Ta.hd.n, .int .i64 Ta.hd.fr, .int .i64 Ta.hd.to_, .int .i64 Ta.hd.at_, .int .i64 Ta.hd.tat, .slice aa na capa], .int .i64 0] U fun e w' => (∃ (a : Option Addr) (c : Nat), e = .returned (.slice a M c) ∧ KidsAt w' (allK 0 Ta) (.slice a M c)) ∧ Below U.heap.size U w') := Lib.hid (fun U hU => (All_at U 0 Ta (.slice aa na capa) (KA.out U hU) U (Below.refl _ _) hma).mono fun e w' h => by
    obtain ⟨⟨v, ps, he, hp, ho⟩, hb⟩ := h
    have hk : KidsAt w' (allK 0 Ta) v := by rw [← hp]; exact ho.kids
    obtain ⟨a, c, rfl⟩ := hk.sl
    rw [hM.out] at hk he
    exact ⟨⟨a, c, he, hk⟩, hb⟩)
  obtain ⟨fa, hfa⟩ : ∃ f, Hid (fewN Ta = f) := ⟨_, Lib.hid rfl⟩
  rw [hfa.out] at Cfa
  go_enter Try.func4, Try.ntmps4
  go_wp2_with fail
  rw [hW1.out]
  refine (awake_any _).mono ?_
  rintro e w2 ⟨rfl, b2⟩
  have Q2 : Hid (AQ W1 w2) := Lib.hid b2
  obtain ⟨-, d0, d1, d2, d3, d4, d5, d6, d7, d8⟩ := HS.out w2 b2
  clear b2
  go_wp2_with fail
  refine (Cfa.out _ Q2.out).mono ?_
  rintro e w3 ⟨rfl, b3⟩
  have Q3 : Hid (AQ W1 w3) := Lib.hid (AQ.later Q2.out b3)
  clear d0 d1 d2 d3 d4 d5 d6 d7 d8 b3
  cases fa with
  | false =>
    go_wp2_with fail
    go_ret
    exact ⟨rfl, BW.out _ Q3.out⟩
  | true =>
    by_cases hp1 : nn < 2
    · have p1 : decide ((nn : Int) < 2) = true := decide_eq_true (by omega)
      go_wp2_with fail
      go_ret
      exact ⟨rfl, BW.out _ Q3.out⟩
    have p1 : decide ((nn : Int) < 2) = false := decide_eq_false (by omega)
    by_cases hp2 : kind < 0
    · have p2 : decide (kind < 0) = true := decide_eq_true (by omega)
      go_wp2_with fail
      go_ret
      exact ⟨rfl, BW.out _ Q3.out⟩
    have p2 : decide (kind < 0) = false := decide_eq_false (by omega)
    by_cases hp3 : kind > 24
    · have p3 : decide (24 < kind) = true := decide_eq_true (by omega)
      go_wp2_with fail
      go_ret
      exact ⟨rfl, BW.out _ Q3.out⟩
    have p3 : decide (24 < kind) = false := decide_eq_false (by omega)
    obtain ⟨bn, on, capn', s0, s1, -, -, en, hnc, hnm, hbn, cn0, cn1⟩ := HN.out.two (by rw [hnn.out]; omega)
    rw [hnn.out] at en hnc
    cases en
    have hnm' := hnm
    unfold maxLen at hnm'
    have CN0 := Lib.hid cn0
    have CN1 := Lib.hid cn1
    have Hbn := Lib.hid hbn
    clear cn0 cn1
    have HS2 : Hid (∀ U, AQ W1 U → AQ W1 U ∧ U.cell? ⟨w.heap.size, 0, none⟩ = some (.int .i64 Ta.hd.kind) ∧ U.cell? ⟨w.heap.size, 1, none⟩ = some (.string (bs Ta.hd.text)) ∧ U.cell? ⟨w.heap.size, 2, none⟩ = some (.string (bs Ta.hd.type)) ∧ U.cell? ⟨w.heap.size, 3, none⟩ = some (.int .i64 Ta.hd.n) ∧ U.cell? ⟨w.heap.size, 4, none⟩ = some (.int .i64 Ta.hd.fr) ∧ U.cell? ⟨w.heap.size, 5, none⟩ = some (.int .i64 Ta.hd.to_) ∧ U.cell? ⟨w.heap.size, 6, none⟩ = some (.int .i64 Ta.hd.at_) ∧ U.cell? ⟨w.heap.size, 7, none⟩ = some (.int .i64 Ta.hd.tat) ∧ U.cell? ⟨w.heap.size, 8, none⟩ = some (.slice aa na capa) ∧ U.cell? ⟨bn, on, none⟩ = some (.string (bs s0)) ∧ U.cell? ⟨bn, on + 1, none⟩ = some (.string (bs s1))) := Lib.hid (fun U hU => by
      obtain ⟨-, d0, d1, d2, d3, d4, d5, d6, d7, d8⟩ := HS.out U hU
      have bU := BW.out U hU
      exact ⟨hU, d0, d1, d2, d3, d4, d5, d6, d7, d8, (bU.cell (p := ⟨bn, on, none⟩) Hbn.out).trans CN0.out, (bU.cell (p := ⟨bn, on + 1, none⟩) Hbn.out).trans CN1.out⟩)
    have HNm : Hid (∀ U, AQ W1 U → U.cell? ⟨bn, on, none⟩ = some (.string (bs s0)) ∧ U.cell? ⟨bn, on + 1, none⟩ = some (.string (bs s1))) := Lib.hid (fun U hU => by
      have bU := BW.out U hU
      exact ⟨(bU.cell (p := ⟨bn, on, none⟩) Hbn.out).trans CN0.out, (bU.cell (p := ⟨bn, on + 1, none⟩) Hbn.out).trans CN1.out⟩)
    have Hmk := Lib.hid (show 0 ≤ kind ∧ kind ≤ 24 from ⟨by omega, by omega⟩)
    have q3 : (1 : Int) < (nn : Int) := by omega
    have q4 : (0 : Int) < (nn : Int) := by omega
    have q5 : 0 < nn := by omega
    have q6 : 1 < nn := by omega
    go_upto_region 7 with fail
    clear p1 p2 p3 hp1 hp2 hp3
    obtain ⟨-, d0, d1, d2, d3, d4, d5, d6, d7, d8⟩ := HS.out _ Q3.out
    go_wp2_with fail
    refine (C12.out _ Q3.out).mono ?_
    rintro e w4 ⟨⟨a4, c4, rfl, k4⟩, b4⟩
    have Q4 : Hid (AQ W1 w4) := Lib.hid (AQ.later Q3.out b4)
    have K4 := Lib.hid k4
    clear d0 d1 d2 d3 d4 d5 d6 d7 d8 b4 k4
    go_wp2_with fail
    go_loopw [10] (fun c wr => ∃ k : Nat, c = .int .i64 k ∧ k ≤ M ∧ Hid (∀ (j : Nat) (x : Nd), j < k → (allK 0 Ta)[j]? = some x → x.hd.text ≠ s1 ∧ x.hd.type ≠ s1) ∧ Hid (AQ w4 wr)) (fun c _ => M - (intOf c).toNat)
    case atStart => exact ⟨0, rfl, by omega, Lib.hid (fun j x h => by omega), Lib.hid (Below.refl _ _)⟩
    case round =>
      obtain ⟨k, rfl, hk, hP, hQ⟩ := hrel
      have Q5 : Hid (AQ W1 wr) := Lib.hid (AQ.later Q4.out hQ.out)
      by_cases hlt : k < M
      · have q0 : (k : Int) < (M : Int) := by omega
        have q1 : (0 : Int) ≤ (k : Int) := by omega
        have q2 : decide ((k : Int) < (M : Int)) = true := decide_eq_true q0
        obtain ⟨x, hx⟩ : ∃ x, Hid ((allK 0 Ta)[k]? = some x) := ⟨_, Lib.hid (List.getElem?_eq_getElem (by rw [hM.out]; exact hlt))⟩
        obtain ⟨a5', c5', e5', -, hc5, hx5⟩ := K4.out.get
        obtain ⟨b, off, kv, ea, cs, -⟩ := hx5 k x hx.out
        rw [hM.out] at e5'
        cases e5'
        subst ea
        obtain ⟨d0, d1, d2, d3, d4, d5, d6, d7, d8⟩ := cs.later hQ.out
        obtain ⟨m0, m1⟩ := HNm.out _ Q5.out
        clear hx5 cs d0 d3 d4 d5 d6 d7 d8
        have Bq := Lib.hid (fun q => below_draws Q5.out q)
        have Cq := Lib.hid (fun q => below_draws hQ.out q)
        by_cases ht : x.hd.text = s1
        · have f1 : (x.hd.text == s1) = true := by simpa using ht
          clear ht
          go_wp2_with fail
          go_quiet (fail)
          go_wp2_with fail
          go_ret
          exact ⟨rfl, BW.out _ (Bq.out _)⟩
        · have f1 : (x.hd.text == s1) = false := by simpa using ht
          by_cases hy : x.hd.type = s1
          · have f2 : (x.hd.type == s1) = true := by simpa using hy
            clear ht hy
            go_wp2_with fail
            go_quiet (fail)
            go_wp2_with fail
            go_ret
            exact ⟨rfl, BW.out _ (Bq.out _)⟩
          · have f2 : (x.hd.type == s1) = false := by simpa using hy
            have Hxx := Lib.hid (And.intro ht hy)
            clear ht hy
            go_wp2_with fail
            go_quiet (fail)
            go_wp2_with fail
            exact ⟨⟨k + 1, by go_num, by omega, Lib.hid (fun j y hj hy => by
              by_cases hjk : j < k
              · exact hP.out j y hjk hy
              · obtain rfl : j = k := by omega
                obtain rfl := Option.some.inj (hx.out.symm.trans hy)
                exact Hxx.out), Lib.hid (Cq.out _)⟩, by simp [intOf]; omega⟩
      · obtain rfl : M = k := by omega
        have hall : Hid (AllN (fun h => h.text ≠ s1 ∧ h.type ≠ s1) Ta) := Lib.hid (fun x hx => by
          obtain ⟨j, hj⟩ := List.getElem?_of_mem hx
          exact hP.out j x (by rw [← hM.out]; exact (List.getElem?_eq_some_iff.1 hj).1) hj)
        clear hP
        obtain ⟨hr, hhr⟩ : ∃ h, Hid (rnH kind s0 s1 Ta.hd = h) := ⟨_, Lib.hid rfl⟩
        obtain ⟨ksr, hksr⟩ : ∃ ks, Hid (mapL (rnH kind s0 s1) Ta.kids = ks) := ⟨_, Lib.hid rfl⟩
        have hTr : Hid (Ta.map (rnH kind s0 s1) = .mk hr ksr) := Lib.hid (by rw [map_kids, hhr.out, hksr.out])
        have hTb : Hid ((Nd.mk hr ksr).map (rnH kind s1 s0) = Ta) := Lib.hid (by rw [← hTr.out]; exact rn_back hall.out)
        obtain ⟨Wc, rfl⟩ : ∃ V, V = wr := ⟨wr, rfl⟩
        have HSc : Hid (∀ U, AQ Wc U → AQ Wc U ∧ U.cell? ⟨w.heap.size, 0, none⟩ = some (.int .i64 Ta.hd.kind) ∧ U.cell? ⟨w.heap.size, 1, none⟩ = some (.string (bs Ta.hd.text)) ∧ U.cell? ⟨w.heap.size, 2, none⟩ = some (.string (bs Ta.hd.type)) ∧ U.cell? ⟨w.heap.size, 3, none⟩ = some (.int .i64 Ta.hd.n) ∧ U.cell? ⟨w.heap.size, 4, none⟩ = some (.int .i64 Ta.hd.fr) ∧ U.cell? ⟨w.heap.size, 5, none⟩ = some (.int .i64 Ta.hd.to_) ∧ U.cell? ⟨w.heap.size, 6, none⟩ = some (.int .i64 Ta.hd.at_) ∧ U.cell? ⟨w.heap.size, 7, none⟩ = some (.int .i64 Ta.hd.tat) ∧ U.cell? ⟨w.heap.size, 8, none⟩ = some (.slice aa na capa) ∧ U.cell? ⟨bn, on, none⟩ = some (.string (bs s0)) ∧ U.cell? ⟨bn, on + 1, none⟩ = some (.string (bs s1))) := Lib.hid (fun U hU => ⟨hU, (HS2.out U (AQ.later Q5.out hU)).2⟩)
        have C13 : Hid (∀ U, AQ Wc U → Calls Try.prog 13 #[.agg #[.int .i64 Ta.hd.kind, .string (bs Ta.hd.text), .string (bs Ta.hd.type), .int .i64 Ta.hd.n, .int .i64 Ta.hd.fr, .int .i64 Ta.hd.to_, .int .i64 Ta.hd.at_, .int .i64 Ta.hd.tat, .slice aa na capa], .int .i64 kind, .string (bs s0), .string (bs s1)] U fun e w' => (∃ (a : Option Addr) (n c : Nat) (F : List Nat), e = .returned (.agg #[.int .i64 hr.kind, .string (bs hr.text), .string (bs hr.type), .int .i64 hr.n, .int .i64 hr.fr, .int .i64 hr.to_, .int .i64 hr.at_, .int .i64 hr.tat, .slice a n c]) ∧ SepAt w' (ksr) (.slice a n c) F ∧ ∀ N ∈ F, U.heap.size ≤ N) ∧ Below U.heap.size U w') := Lib.hid (fun U hU => by
          rw [← hhr.out, ← hksr.out]
          refine (Rename_any Ta (.slice aa na capa) kind s0 s1 U hma (KA.out U (AQ.later Q5.out hU))).mono fun e w' h => ?_
          obtain ⟨kv, F, he, hs, -, hF, hb⟩ := h
          obtain ⟨a, c, rfl, -⟩ := hs.kids.get
          exact ⟨⟨a, _, c, F, he, hs, hF⟩, hb⟩)
        have C13A : Hid (Calls Try.prog 13 #[.agg #[.int .i64 Ta.hd.kind, .string (bs Ta.hd.text), .string (bs Ta.hd.type), .int .i64 Ta.hd.n, .int .i64 Ta.hd.fr, .int .i64 Ta.hd.to_, .int .i64 Ta.hd.at_, .int .i64 Ta.hd.tat, .slice aa na capa], .int .i64 kind, .string (bs s0), .string (bs s1)] ((Wc.alloc (.cells #[.int .i64 0, .string ⟨#[]⟩, .string ⟨#[]⟩, .int .i64 0, .int .i64 0, .int .i64 0, .int .i64 0, .int .i64 0, .slice none 0 0] 24)).drew) fun e w' => (∃ (a : Option Addr) (n c : Nat) (F : List Nat), e = .returned (.agg #[.int .i64 hr.kind, .string (bs hr.text), .string (bs hr.type), .int .i64 hr.n, .int .i64 hr.fr, .int .i64 hr.to_, .int .i64 hr.at_, .int .i64 hr.tat, .slice a n c]) ∧ SepAt w' (ksr) (.slice a n c) F ∧ ∀ N ∈ F, ((Wc.alloc (.cells #[.int .i64 0, .string ⟨#[]⟩, .string ⟨#[]⟩, .int .i64 0, .int .i64 0, .int .i64 0, .int .i64 0, .int .i64 0, .slice none 0 0] 24)).drew).heap.size ≤ N) ∧ Below ((Wc.alloc (.cells #[.int .i64 0, .string ⟨#[]⟩, .string ⟨#[]⟩, .int .i64 0, .int .i64 0, .int .i64 0, .int .i64 0, .int .i64 0, .slice none 0 0] 24)).drew).heap.size ((Wc.alloc (.cells #[.int .i64 0, .string ⟨#[]⟩, .string ⟨#[]⟩, .int .i64 0, .int .i64 0, .int .i64 0, .int .i64 0, .int .i64 0, .slice none 0 0] 24)).drew) w') := Lib.hid (C13.out _ (AQ.drew (AQ.alloc (Below.refl _ _) _)))
        have e2 : decide ((M : Int) < (M : Int)) = false := decide_eq_false (by omega)
        go_upto_region 13 with fail
        have HSq := HSc.out Wc.drew (AQ.drew (Below.refl _ _))
        have HSr := HSc.out Wc.drew.drew (AQ.drew (AQ.drew (Below.refl _ _)))
        have HSs := HSc.out Wc (Below.refl _ _)
        have HSt := HSc.out (Wc.alloc (.cells #[.int .i64 0, .string ⟨#[]⟩, .string ⟨#[]⟩, .int .i64 0, .int .i64 0, .int .i64 0, .int .i64 0, .int .i64 0, .slice none 0 0] 24)).drew (AQ.drew (AQ.alloc (Below.refl _ _) _))
        go_cut [11] from 61 to 69 (fun g wx => ∃ gb : Nat, g = .pointer (some ⟨gb, 0, none⟩) ∧ Hid (MidR Wc hr ksr gb wx))
        case first =>
          go_region_held3 (fun U => AQ Wc U ∧ U.cell? ⟨w.heap.size, 0, none⟩ = some (.int .i64 Ta.hd.kind) ∧ U.cell? ⟨w.heap.size, 1, none⟩ = some (.string (bs Ta.hd.text)) ∧ U.cell? ⟨w.heap.size, 2, none⟩ = some (.string (bs Ta.hd.type)) ∧ U.cell? ⟨w.heap.size, 3, none⟩ = some (.int .i64 Ta.hd.n) ∧ U.cell? ⟨w.heap.size, 4, none⟩ = some (.int .i64 Ta.hd.fr) ∧ U.cell? ⟨w.heap.size, 5, none⟩ = some (.int .i64 Ta.hd.to_) ∧ U.cell? ⟨w.heap.size, 6, none⟩ = some (.int .i64 Ta.hd.at_) ∧ U.cell? ⟨w.heap.size, 7, none⟩ = some (.int .i64 Ta.hd.tat) ∧ U.cell? ⟨w.heap.size, 8, none⟩ = some (.slice aa na capa) ∧ U.cell? ⟨bn, on, none⟩ = some (.string (bs s0)) ∧ U.cell? ⟨bn, on + 1, none⟩ = some (.string (bs s1)))
            (first | (with_reducible assumption) | (with_reducible exact HSc.out _ (by assumption)) | (with_reducible exact HSc.out _ (AQ.alloc (And.left (by assumption : AQ Wc _ ∧ _)) _)) | (with_reducible exact HSc.out _ (AQ.alloc (by assumption : AQ Wc _) _)) | (with_reducible exact HSc.out _ (AQ.nine (by assumption) (by assumption) _ _ _ _ _ _ _ _ _)) | (trace_state; fail))
            (first
              | (go_at_call 13; (with_reducible refine C13A.out.mono ?_); rintro e w' ⟨⟨a5, n5, c5, F, rfl, hk5, hF5⟩, hb⟩; have Hk5 := Lib.hid hk5; have HF5 := Lib.hid hF5; clear hk5 hF5; have hrow0 := RowAt.later (show RowAt (Wc.alloc (.cells #[.int .i64 0, .string ⟨#[]⟩, .string ⟨#[]⟩, .int .i64 0, .int .i64 0, .int .i64 0, .int .i64 0, .int .i64 0, .slice none 0 0] 24)).drew Wc.heap.size 24 #[.int .i64 0, .string ⟨#[]⟩, .string ⟨#[]⟩, .int .i64 0, .int .i64 0, .int .i64 0, .int .i64 0, .int .i64 0, .slice none 0 0] from RowAt.new Wc 24 #[.int .i64 0, .string ⟨#[]⟩, .string ⟨#[]⟩, .int .i64 0, .int .i64 0, .int .i64 0, .int .i64 0, .int .i64 0, .slice none 0 0]) hb; have hrow : Hid (RowAt w' Wc.heap.size 24 #[.int .i64 0, .string ⟨#[]⟩, .string ⟨#[]⟩, .int .i64 0, .int .i64 0, .int .i64 0, .int .i64 0, .int .i64 0, .slice none 0 0]) := Lib.hid hrow0; clear hrow0; have hs' : AQ Wc w' := AQ.later (AQ.drew (AQ.alloc (Below.refl _ _) _)) hb; obtain ⟨⟨r0, r1, r2, r3, r4, r5, r6, r7, r8⟩, z0, z1, z2, z3, z4, z5, z6, z7, z8⟩ := row_facts hrow.out; have hgs2 : Wc.heap.size ≤ Wc.heap.size := Nat.le_refl _)
              | (go_at_call 13; (with_reducible refine (C13.out _ (And.left (by assumption : AQ Wc _ ∧ _))).mono ?_); rintro e w' ⟨⟨a5, n5, c5, F, rfl, hk5, hF5⟩, hb⟩; have Hk5 := Lib.hid hk5; have HF5 := Lib.hid hF5; clear hk5 hF5; have hs' : AQ Wc w' := AQ.later (And.left (by assumption : AQ Wc _ ∧ _)) hb))
          · go_wp2_with fail
            go_meet
            exact ⟨_, rfl, Lib.hid (midr_a hs' Hk5.out)⟩
          · have NN := Lib.hid (nine hrow.out hr (.slice a5 n5 c5))
            have hst := Lib.hid (fun V hR hV => midr_b (V := V) (h := hr) hs' Hk5.out HF5.out hR hV)
            go_wp2_with fail
            go_meet
            exact ⟨_, rfl, Lib.hid (hst.out _ NN.out.1 NN.out.2)⟩
        case rest =>
          obtain ⟨V13, rfl⟩ : ∃ V, V = wc := ⟨wc, rfl⟩
          obtain ⟨g13, rfl, hMid⟩ := hcut
          obtain ⟨⟨hge13, bel⟩, a13, n13, c13, R5, K5⟩ := hMid.out
          have B13 : Hid (AQ Wc V13) := Lib.hid bel
          have P13 := Lib.hid R5
          have K13 := Lib.hid K5
          clear hMid bel R5 K5 HSq HSr HSs HSt C13 C13A
          have Q13 : Hid (AQ W1 V13) := Lib.hid (AQ.later Q5.out B13.out)
          have HSd : Hid (∀ U, AQ V13 U → AQ V13 U ∧ U.cell? ⟨g13, 0, none⟩ = some (.int .i64 hr.kind) ∧ U.cell? ⟨g13, 1, none⟩ = some (.string (bs hr.text)) ∧ U.cell? ⟨g13, 2, none⟩ = some (.string (bs hr.type)) ∧ U.cell? ⟨g13, 3, none⟩ = some (.int .i64 hr.n) ∧ U.cell? ⟨g13, 4, none⟩ = some (.int .i64 hr.fr) ∧ U.cell? ⟨g13, 5, none⟩ = some (.int .i64 hr.to_) ∧ U.cell? ⟨g13, 6, none⟩ = some (.int .i64 hr.at_) ∧ U.cell? ⟨g13, 7, none⟩ = some (.int .i64 hr.tat) ∧ U.cell? ⟨g13, 8, none⟩ = some (.slice a13 n13 c13) ∧ U.cell? ⟨bn, on, none⟩ = some (.string (bs s0)) ∧ U.cell? ⟨bn, on + 1, none⟩ = some (.string (bs s1))) := Lib.hid (fun U hU => by
            obtain ⟨d0, d1, d2, d3, d4, d5, d6, d7, d8⟩ := (show Cells U g13 0 hr (.slice a13 n13 c13) from Cells.row (P13.out.later hU))
            simp only [Nat.zero_add] at d1 d2 d3 d4 d5 d6 d7 d8
            exact ⟨hU, d0, d1, d2, d3, d4, d5, d6, d7, d8, HNm.out U (AQ.later Q13.out hU)⟩)
          have C14 : Hid (∀ U, AQ V13 U → Calls Try.prog 13 #[.agg #[.int .i64 hr.kind, .string (bs hr.text), .string (bs hr.type), .int .i64 hr.n, .int .i64 hr.fr, .int .i64 hr.to_, .int .i64 hr.at_, .int .i64 hr.tat, .slice a13 n13 c13], .int .i64 kind, .string (bs s1), .string (bs s0)] U fun e w' => (∃ (a : Option Addr) (n c : Nat) (F : List Nat), e = .returned (.agg #[.int .i64 Ta.hd.kind, .string (bs Ta.hd.text), .string (bs Ta.hd.type), .int .i64 Ta.hd.n, .int .i64 Ta.hd.fr, .int .i64 Ta.hd.to_, .int .i64 Ta.hd.at_, .int .i64 Ta.hd.tat, .slice a n c]) ∧ SepAt w' (Ta.kids) (.slice a n c) F ∧ ∀ N ∈ F, U.heap.size ≤ N) ∧ Below U.heap.size U w') := Lib.hid (fun U hU => by
            have hTb2 := hTb.out
            rw [map_kids] at hTb2
            have h1 : rnH kind s1 s0 hr = Ta.hd := by rw [← hTb2]; rfl
            have h2 : mapL (rnH kind s1 s0) ksr = Ta.kids := by rw [← hTb2]; rfl
            have hc : (Nd.mk hr ksr).cnt ≤ 2000000 := by rw [← hTr.out, map_cnt]; exact hma
            refine (Rename_any (.mk hr ksr) (.slice a13 n13 c13) kind s1 s0 U hc (K13.out.below hU)).mono fun e w' h => ?_
            obtain ⟨kv, F, he, hs, -, hF, hb⟩ := h
            obtain ⟨a, c, rfl, -⟩ := hs.kids.get
            have he2 : e = .returned (.agg #[.int .i64 (rnH kind s1 s0 hr).kind, .string (bs (rnH kind s1 s0 hr).text), .string (bs (rnH kind s1 s0 hr).type), .int .i64 (rnH kind s1 s0 hr).n, .int .i64 (rnH kind s1 s0 hr).fr, .int .i64 (rnH kind s1 s0 hr).to_, .int .i64 (rnH kind s1 s0 hr).at_, .int .i64 (rnH kind s1 s0 hr).tat, .slice a (mapL (rnH kind s1 s0) ksr).length c]) := he
            have hs2 : SepAt w' (mapL (rnH kind s1 s0) ksr) (.slice a (mapL (rnH kind s1 s0) ksr).length c) F := hs
            rw [h1] at he2
            rw [h2] at he2 hs2
            exact ⟨⟨a, _, c, F, he2, hs2, hF⟩, hb⟩)
          have C14A : Hid (Calls Try.prog 13 #[.agg #[.int .i64 hr.kind, .string (bs hr.text), .string (bs hr.type), .int .i64 hr.n, .int .i64 hr.fr, .int .i64 hr.to_, .int .i64 hr.at_, .int .i64 hr.tat, .slice a13 n13 c13], .int .i64 kind, .string (bs s1), .string (bs s0)] ((V13.alloc (.cells #[.int .i64 0, .string ⟨#[]⟩, .string ⟨#[]⟩, .int .i64 0, .int .i64 0, .int .i64 0, .int .i64 0, .int .i64 0, .slice none 0 0] 24)).drew) fun e w' => (∃ (a : Option Addr) (n c : Nat) (F : List Nat), e = .returned (.agg #[.int .i64 Ta.hd.kind, .string (bs Ta.hd.text), .string (bs Ta.hd.type), .int .i64 Ta.hd.n, .int .i64 Ta.hd.fr, .int .i64 Ta.hd.to_, .int .i64 Ta.hd.at_, .int .i64 Ta.hd.tat, .slice a n c]) ∧ SepAt w' (Ta.kids) (.slice a n c) F ∧ ∀ N ∈ F, ((V13.alloc (.cells #[.int .i64 0, .string ⟨#[]⟩, .string ⟨#[]⟩, .int .i64 0, .int .i64 0, .int .i64 0, .int .i64 0, .int .i64 0, .slice none 0 0] 24)).drew).heap.size ≤ N) ∧ Below ((V13.alloc (.cells #[.int .i64 0, .string ⟨#[]⟩, .string ⟨#[]⟩, .int .i64 0, .int .i64 0, .int .i64 0, .int .i64 0, .int .i64 0, .slice none 0 0] 24)).drew).heap.size ((V13.alloc (.cells #[.int .i64 0, .string ⟨#[]⟩, .string ⟨#[]⟩, .int .i64 0, .int .i64 0, .int .i64 0, .int .i64 0, .int .i64 0, .slice none 0 0] 24)).drew) w') := Lib.hid (C14.out _ (AQ.drew (AQ.alloc (Below.refl _ _) _)))
          go_upto_region 14 with fail
          have HSq := HSd.out V13.drew (AQ.drew (Below.refl _ _))
          have HSr := HSd.out V13.drew.drew (AQ.drew (AQ.drew (Below.refl _ _)))
          have HSs := HSd.out V13 (Below.refl _ _)
          have HSt := HSd.out (V13.alloc (.cells #[.int .i64 0, .string ⟨#[]⟩, .string ⟨#[]⟩, .int .i64 0, .int .i64 0, .int .i64 0, .int .i64 0, .int .i64 0, .slice none 0 0] 24)).drew (AQ.drew (AQ.alloc (Below.refl _ _) _))
          go_cut [12] from 70 to 78 (fun g wx => ∃ gb : Nat, g = .pointer (some ⟨gb, 0, none⟩) ∧ Hid (MidR V13 Ta.hd Ta.kids gb wx))
          case first =>
            go_region_held3 (fun U => AQ V13 U ∧ U.cell? ⟨g13, 0, none⟩ = some (.int .i64 hr.kind) ∧ U.cell? ⟨g13, 1, none⟩ = some (.string (bs hr.text)) ∧ U.cell? ⟨g13, 2, none⟩ = some (.string (bs hr.type)) ∧ U.cell? ⟨g13, 3, none⟩ = some (.int .i64 hr.n) ∧ U.cell? ⟨g13, 4, none⟩ = some (.int .i64 hr.fr) ∧ U.cell? ⟨g13, 5, none⟩ = some (.int .i64 hr.to_) ∧ U.cell? ⟨g13, 6, none⟩ = some (.int .i64 hr.at_) ∧ U.cell? ⟨g13, 7, none⟩ = some (.int .i64 hr.tat) ∧ U.cell? ⟨g13, 8, none⟩ = some (.slice a13 n13 c13) ∧ U.cell? ⟨bn, on, none⟩ = some (.string (bs s0)) ∧ U.cell? ⟨bn, on + 1, none⟩ = some (.string (bs s1)))
              (first | (with_reducible assumption) | (with_reducible exact HSd.out _ (by assumption)) | (with_reducible exact HSd.out _ (AQ.alloc (And.left (by assumption : AQ V13 _ ∧ _)) _)) | (with_reducible exact HSd.out _ (AQ.alloc (by assumption : AQ V13 _) _)) | (with_reducible exact HSd.out _ (AQ.nine (by assumption) (by assumption) _ _ _ _ _ _ _ _ _)) | (trace_state; fail))
              (first
                | (go_at_call 13; (with_reducible refine C14A.out.mono ?_); rintro e w' ⟨⟨a5, n5, c5, F, rfl, hk5, hF5⟩, hb⟩; have Hk5 := Lib.hid hk5; have HF5 := Lib.hid hF5; clear hk5 hF5; have hrow0 := RowAt.later (show RowAt (V13.alloc (.cells #[.int .i64 0, .string ⟨#[]⟩, .string ⟨#[]⟩, .int .i64 0, .int .i64 0, .int .i64 0, .int .i64 0, .int .i64 0, .slice none 0 0] 24)).drew V13.heap.size 24 #[.int .i64 0, .string ⟨#[]⟩, .string ⟨#[]⟩, .int .i64 0, .int .i64 0, .int .i64 0, .int .i64 0, .int .i64 0, .slice none 0 0] from RowAt.new V13 24 #[.int .i64 0, .string ⟨#[]⟩, .string ⟨#[]⟩, .int .i64 0, .int .i64 0, .int .i64 0, .int .i64 0, .int .i64 0, .slice none 0 0]) hb; have hrow : Hid (RowAt w' V13.heap.size 24 #[.int .i64 0, .string ⟨#[]⟩, .string ⟨#[]⟩, .int .i64 0, .int .i64 0, .int .i64 0, .int .i64 0, .int .i64 0, .slice none 0 0]) := Lib.hid hrow0; clear hrow0; have hs' : AQ V13 w' := AQ.later (AQ.drew (AQ.alloc (Below.refl _ _) _)) hb; obtain ⟨⟨r0, r1, r2, r3, r4, r5, r6, r7, r8⟩, z0, z1, z2, z3, z4, z5, z6, z7, z8⟩ := row_facts hrow.out; have hgs2 : V13.heap.size ≤ V13.heap.size := Nat.le_refl _)
                | (go_at_call 13; (with_reducible refine (C14.out _ (And.left (by assumption : AQ V13 _ ∧ _))).mono ?_); rintro e w' ⟨⟨a5, n5, c5, F, rfl, hk5, hF5⟩, hb⟩; have Hk5 := Lib.hid hk5; have HF5 := Lib.hid hF5; clear hk5 hF5; have hs' : AQ V13 w' := AQ.later (And.left (by assumption : AQ V13 _ ∧ _)) hb))
            · go_wp2_with fail
              go_meet
              exact ⟨_, rfl, Lib.hid (midr_a hs' Hk5.out)⟩
            · have NN := Lib.hid (nine hrow.out Ta.hd (.slice a5 n5 c5))
              have hst := Lib.hid (fun V hR hV => midr_b (V := V) (h := Ta.hd) hs' Hk5.out HF5.out hR hV)
              go_wp2_with fail
              go_meet
              exact ⟨_, rfl, Lib.hid (hst.out _ NN.out.1 NN.out.2)⟩
          case rest =>
            obtain ⟨V14, rfl⟩ : ∃ V, V = wc := ⟨wc, rfl⟩
            obtain ⟨g14, rfl, hMid⟩ := hcut
            obtain ⟨⟨hge14, bel⟩, a14, n14, c14, R5, K5⟩ := hMid.out
            have B14 : Hid (AQ V13 V14) := Lib.hid bel
            have P14 := Lib.hid R5
            have K14 := Lib.hid K5
            clear hMid bel R5 K5 HSq HSr HSs HSt C14 C14A
            have Q14 : Hid (AQ W1 V14) := Lib.hid (AQ.later Q13.out B14.out)
            have HSe : Hid (∀ U, AQ V14 U → AQ V14 U ∧ U.cell? ⟨g14, 0, none⟩ = some (.int .i64 Ta.hd.kind) ∧ U.cell? ⟨g14, 1, none⟩ = some (.string (bs Ta.hd.text)) ∧ U.cell? ⟨g14, 2, none⟩ = some (.string (bs Ta.hd.type)) ∧ U.cell? ⟨g14, 3, none⟩ = some (.int .i64 Ta.hd.n) ∧ U.cell? ⟨g14, 4, none⟩ = some (.int .i64 Ta.hd.fr) ∧ U.cell? ⟨g14, 5, none⟩ = some (.int .i64 Ta.hd.to_) ∧ U.cell? ⟨g14, 6, none⟩ = some (.int .i64 Ta.hd.at_) ∧ U.cell? ⟨g14, 7, none⟩ = some (.int .i64 Ta.hd.tat) ∧ U.cell? ⟨g14, 8, none⟩ = some (.slice a14 n14 c14) ∧ U.cell? ⟨w.heap.size, 0, none⟩ = some (.int .i64 Ta.hd.kind) ∧ U.cell? ⟨w.heap.size, 1, none⟩ = some (.string (bs Ta.hd.text)) ∧ U.cell? ⟨w.heap.size, 2, none⟩ = some (.string (bs Ta.hd.type)) ∧ U.cell? ⟨w.heap.size, 3, none⟩ = some (.int .i64 Ta.hd.n) ∧ U.cell? ⟨w.heap.size, 4, none⟩ = some (.int .i64 Ta.hd.fr) ∧ U.cell? ⟨w.heap.size, 5, none⟩ = some (.int .i64 Ta.hd.to_) ∧ U.cell? ⟨w.heap.size, 6, none⟩ = some (.int .i64 Ta.hd.at_) ∧ U.cell? ⟨w.heap.size, 7, none⟩ = some (.int .i64 Ta.hd.tat) ∧ U.cell? ⟨w.heap.size, 8, none⟩ = some (.slice aa na capa) ∧ U.cell? ⟨g13, 0, none⟩ = some (.int .i64 hr.kind) ∧ U.cell? ⟨g13, 1, none⟩ = some (.string (bs hr.text)) ∧ U.cell? ⟨g13, 2, none⟩ = some (.string (bs hr.type)) ∧ U.cell? ⟨g13, 3, none⟩ = some (.int .i64 hr.n) ∧ U.cell? ⟨g13, 4, none⟩ = some (.int .i64 hr.fr) ∧ U.cell? ⟨g13, 5, none⟩ = some (.int .i64 hr.to_) ∧ U.cell? ⟨g13, 6, none⟩ = some (.int .i64 hr.at_) ∧ U.cell? ⟨g13, 7, none⟩ = some (.int .i64 hr.tat) ∧ U.cell? ⟨g13, 8, none⟩ = some (.slice a13 n13 c13) ∧ U.cell? ⟨bn, on, none⟩ = some (.string (bs s0)) ∧ U.cell? ⟨bn, on + 1, none⟩ = some (.string (bs s1))) := Lib.hid (fun U hU => by
              obtain ⟨d0, d1, d2, d3, d4, d5, d6, d7, d8⟩ := (show Cells U g14 0 Ta.hd (.slice a14 n14 c14) from Cells.row (P14.out.later hU))
              simp only [Nat.zero_add] at d1 d2 d3 d4 d5 d6 d7 d8
              obtain ⟨-, e0, e1, e2, e3, e4, e5, e6, e7, e8⟩ := HS.out U (AQ.later Q14.out hU)
              obtain ⟨f0, f1, f2, f3, f4, f5, f6, f7, f8⟩ := (show Cells U g13 0 hr (.slice a13 n13 c13) from Cells.row (P13.out.later (AQ.later B14.out hU)))
              simp only [Nat.zero_add] at f1 f2 f3 f4 f5 f6 f7 f8
              exact ⟨hU, d0, d1, d2, d3, d4, d5, d6, d7, d8, e0, e1, e2, e3, e4, e5, e6, e7, e8, f0, f1, f2, f3, f4, f5, f6, f7, f8, HNm.out U (AQ.later Q14.out hU)⟩)
            obtain ⟨cn, hcn⟩ : ∃ n, Hid (Ta.cnt = n) := ⟨_, Lib.hid rfl⟩
            obtain ⟨dn, hdn⟩ : ∃ n, Hid (Ta.ht = n) := ⟨_, Lib.hid rfl⟩
            have hrc : Hid ((Nd.mk hr ksr).cnt = cn ∧ (Nd.mk hr ksr).ht = dn) := Lib.hid (by rw [← hTr.out, map_cnt, map_ht]; exact ⟨hcn.out, hdn.out⟩)
            have hrb : Hid ((Nd.mk hr ksr).cnt ≤ 2000000) := Lib.hid (by rw [← hTr.out, map_cnt]; exact hma)
            have KR : Hid (∀ U, AQ V14 U → KidsAt U ksr (.slice a13 n13 c13)) := Lib.hid (fun U hU => K13.out.below (AQ.later B14.out hU))
            have C10 : Hid (∀ U, AQ V14 U → Calls Try.prog 10 #[.agg #[.int .i64 Ta.hd.kind, .string (bs Ta.hd.text), .string (bs Ta.hd.type), .int .i64 Ta.hd.n, .int .i64 Ta.hd.fr, .int .i64 Ta.hd.to_, .int .i64 Ta.hd.at_, .int .i64 Ta.hd.tat, .slice a14 n14 c14], .agg #[.int .i64 Ta.hd.kind, .string (bs Ta.hd.text), .string (bs Ta.hd.type), .int .i64 Ta.hd.n, .int .i64 Ta.hd.fr, .int .i64 Ta.hd.to_, .int .i64 Ta.hd.at_, .int .i64 Ta.hd.tat, .slice aa na capa]] U fun e w' => e = .returned (.bool true) ∧ Below U.heap.size U w') := Lib.hid (fun U hU => (Exact_at U Ta (.slice a14 n14 c14) (K14.out.below hU) U (Below.refl _ _) Ta (.slice aa na capa) (KA.out U (AQ.later Q14.out hU))).mono fun e w' h => ⟨cmp_yes h.1 rfl, h.2⟩)
            have C11r : Hid (∀ U, AQ V14 U → Calls Try.prog 11 #[.agg #[.int .i64 hr.kind, .string (bs hr.text), .string (bs hr.type), .int .i64 hr.n, .int .i64 hr.fr, .int .i64 hr.to_, .int .i64 hr.at_, .int .i64 hr.tat, .slice a13 n13 c13]] U fun e w' => e = .returned (.int .i64 (cn : Nat)) ∧ Below U.heap.size U w') := Lib.hid (fun U hU => by rw [← hrc.out.1]; exact Count_any (.mk hr ksr) (.slice a13 n13 c13) U hrb.out (KR.out U hU))
            have C11a : Hid (∀ U, AQ V14 U → Calls Try.prog 11 #[.agg #[.int .i64 Ta.hd.kind, .string (bs Ta.hd.text), .string (bs Ta.hd.type), .int .i64 Ta.hd.n, .int .i64 Ta.hd.fr, .int .i64 Ta.hd.to_, .int .i64 Ta.hd.at_, .int .i64 Ta.hd.tat, .slice aa na capa]] U fun e w' => e = .returned (.int .i64 (cn : Nat)) ∧ Below U.heap.size U w') := Lib.hid (fun U hU => by rw [← hcn.out]; exact Count_any Ta (.slice aa na capa) U hma (KA.out U (AQ.later Q14.out hU)))
            have C14r : Hid (∀ U, AQ V14 U → Calls Try.prog 14 #[.agg #[.int .i64 hr.kind, .string (bs hr.text), .string (bs hr.type), .int .i64 hr.n, .int .i64 hr.fr, .int .i64 hr.to_, .int .i64 hr.at_, .int .i64 hr.tat, .slice a13 n13 c13]] U fun e w' => e = .returned (.int .i64 (dn : Nat)) ∧ Below U.heap.size U w') := Lib.hid (fun U hU => by rw [← hrc.out.2]; exact Depth_any (.mk hr ksr) (.slice a13 n13 c13) U hrb.out (KR.out U hU))
            have C14a : Hid (∀ U, AQ V14 U → Calls Try.prog 14 #[.agg #[.int .i64 Ta.hd.kind, .string (bs Ta.hd.text), .string (bs Ta.hd.type), .int .i64 Ta.hd.n, .int .i64 Ta.hd.fr, .int .i64 Ta.hd.to_, .int .i64 Ta.hd.at_, .int .i64 Ta.hd.tat, .slice aa na capa]] U fun e w' => e = .returned (.int .i64 (dn : Nat)) ∧ Below U.heap.size U w') := Lib.hid (fun U hU => by rw [← hdn.out]; exact Depth_any Ta (.slice aa na capa) U hma (KA.out U (AQ.later Q14.out hU)))
            have C12r : Hid (∀ U, AQ V14 U → Calls Try.prog 12 #[.agg #[.int .i64 hr.kind, .string (bs hr.text), .string (bs hr.type), .int .i64 hr.n, .int .i64 hr.fr, .int .i64 hr.to_, .int .i64 hr.at_, .int .i64 hr.tat, .slice a13 n13 c13], .int .i64 0] U fun e w' => (∃ (a : Option Addr) (c : Nat), e = .returned (.slice a M c)) ∧ Below U.heap.size U w') := Lib.hid (fun U hU => (All_at U 0 (.mk hr ksr) (.slice a13 n13 c13) (KR.out U hU) U (Below.refl _ _) hrb.out).mono fun e w' h => by
              obtain ⟨⟨v, ps, he, hp, ho⟩, hb⟩ := h
              have hk : KidsAt w' (allK 0 (.mk hr ksr)) v := by rw [← hp]; exact ho.kids
              obtain ⟨a, c, rfl⟩ := hk.sl
              have hl : (allK 0 (.mk hr ksr)).length = M := by rw [allK_zero, hrc.out.1, ← hcn.out, ← hM.out, allK_zero]
              rw [hl] at he
              exact ⟨⟨a, c, he⟩, hb⟩)
            go_upto_region 15 with fail
            by_cases hss : s0 = s1
            · have f3 : (s0 == s1) = true := by simpa using hss
              clear hss
              have HF : Hid (∀ p : InC V14, p.w.cell? ⟨g14, 0, none⟩ = some (.int .i64 Ta.hd.kind) ∧ p.w.cell? ⟨g14, 1, none⟩ = some (.string (bs Ta.hd.text)) ∧ p.w.cell? ⟨g14, 2, none⟩ = some (.string (bs Ta.hd.type)) ∧ p.w.cell? ⟨g14, 3, none⟩ = some (.int .i64 Ta.hd.n) ∧ p.w.cell? ⟨g14, 4, none⟩ = some (.int .i64 Ta.hd.fr) ∧ p.w.cell? ⟨g14, 5, none⟩ = some (.int .i64 Ta.hd.to_) ∧ p.w.cell? ⟨g14, 6, none⟩ = some (.int .i64 Ta.hd.at_) ∧ p.w.cell? ⟨g14, 7, none⟩ = some (.int .i64 Ta.hd.tat) ∧ p.w.cell? ⟨g14, 8, none⟩ = some (.slice a14 n14 c14) ∧ p.w.cell? ⟨w.heap.size, 0, none⟩ = some (.int .i64 Ta.hd.kind) ∧ p.w.cell? ⟨w.heap.size, 1, none⟩ = some (.string (bs Ta.hd.text)) ∧ p.w.cell? ⟨w.heap.size, 2, none⟩ = some (.string (bs Ta.hd.type)) ∧ p.w.cell? ⟨w.heap.size, 3, none⟩ = some (.int .i64 Ta.hd.n) ∧ p.w.cell? ⟨w.heap.size, 4, none⟩ = some (.int .i64 Ta.hd.fr) ∧ p.w.cell? ⟨w.heap.size, 5, none⟩ = some (.int .i64 Ta.hd.to_) ∧ p.w.cell? ⟨w.heap.size, 6, none⟩ = some (.int .i64 Ta.hd.at_) ∧ p.w.cell? ⟨w.heap.size, 7, none⟩ = some (.int .i64 Ta.hd.tat) ∧ p.w.cell? ⟨w.heap.size, 8, none⟩ = some (.slice aa na capa) ∧ p.w.cell? ⟨g13, 0, none⟩ = some (.int .i64 hr.kind) ∧ p.w.cell? ⟨g13, 1, none⟩ = some (.string (bs hr.text)) ∧ p.w.cell? ⟨g13, 2, none⟩ = some (.string (bs hr.type)) ∧ p.w.cell? ⟨g13, 3, none⟩ = some (.int .i64 hr.n) ∧ p.w.cell? ⟨g13, 4, none⟩ = some (.int .i64 hr.fr) ∧ p.w.cell? ⟨g13, 5, none⟩ = some (.int .i64 hr.to_) ∧ p.w.cell? ⟨g13, 6, none⟩ = some (.int .i64 hr.at_) ∧ p.w.cell? ⟨g13, 7, none⟩ = some (.int .i64 hr.tat) ∧ p.w.cell? ⟨g13, 8, none⟩ = some (.slice a13 n13 c13) ∧ p.w.cell? ⟨bn, on, none⟩ = some (.string (bs s0)) ∧ p.w.cell? ⟨bn, on + 1, none⟩ = some (.string (bs s1))) := Lib.hid (fun p => (HSe.out p.w p.h).2)
              have x0 := fun p : InC V14 => (HF.out p).1
              have x1 := fun p : InC V14 => (HF.out p).2.1
              have x2 := fun p : InC V14 => (HF.out p).2.2.1
              have x3 := fun p : InC V14 => (HF.out p).2.2.2.1
              have x4 := fun p : InC V14 => (HF.out p).2.2.2.2.1
              have x5 := fun p : InC V14 => (HF.out p).2.2.2.2.2.1
              have x6 := fun p : InC V14 => (HF.out p).2.2.2.2.2.2.1
              have x7 := fun p : InC V14 => (HF.out p).2.2.2.2.2.2.2.1
              have x8 := fun p : InC V14 => (HF.out p).2.2.2.2.2.2.2.2.1
              have x9 := fun p : InC V14 => (HF.out p).2.2.2.2.2.2.2.2.2.1
              have x10 := fun p : InC V14 => (HF.out p).2.2.2.2.2.2.2.2.2.2.1
              have x11 := fun p : InC V14 => (HF.out p).2.2.2.2.2.2.2.2.2.2.2.1
              have x12 := fun p : InC V14 => (HF.out p).2.2.2.2.2.2.2.2.2.2.2.2.1
              have x13 := fun p : InC V14 => (HF.out p).2.2.2.2.2.2.2.2.2.2.2.2.2.1
              have x14 := fun p : InC V14 => (HF.out p).2.2.2.2.2.2.2.2.2.2.2.2.2.2.1
              have x15 := fun p : InC V14 => (HF.out p).2.2.2.2.2.2.2.2.2.2.2.2.2.2.2.1
              have x16 := fun p : InC V14 => (HF.out p).2.2.2.2.2.2.2.2.2.2.2.2.2.2.2.2.1
              have x17 := fun p : InC V14 => (HF.out p).2.2.2.2.2.2.2.2.2.2.2.2.2.2.2.2.2.1
              have x18 := fun p : InC V14 => (HF.out p).2.2.2.2.2.2.2.2.2.2.2.2.2.2.2.2.2.2.1
              have x19 := fun p : InC V14 => (HF.out p).2.2.2.2.2.2.2.2.2.2.2.2.2.2.2.2.2.2.2.1
              have x20 := fun p : InC V14 => (HF.out p).2.2.2.2.2.2.2.2.2.2.2.2.2.2.2.2.2.2.2.2.1
              have x21 := fun p : InC V14 => (HF.out p).2.2.2.2.2.2.2.2.2.2.2.2.2.2.2.2.2.2.2.2.2.1
              have x22 := fun p : InC V14 => (HF.out p).2.2.2.2.2.2.2.2.2.2.2.2.2.2.2.2.2.2.2.2.2.2.1
              have x23 := fun p : InC V14 => (HF.out p).2.2.2.2.2.2.2.2.2.2.2.2.2.2.2.2.2.2.2.2.2.2.2.1
              have x24 := fun p : InC V14 => (HF.out p).2.2.2.2.2.2.2.2.2.2.2.2.2.2.2.2.2.2.2.2.2.2.2.2.1
              have x25 := fun p : InC V14 => (HF.out p).2.2.2.2.2.2.2.2.2.2.2.2.2.2.2.2.2.2.2.2.2.2.2.2.2.1
              have x26 := fun p : InC V14 => (HF.out p).2.2.2.2.2.2.2.2.2.2.2.2.2.2.2.2.2.2.2.2.2.2.2.2.2.2.1
              have x27 := fun p : InC V14 => (HF.out p).2.2.2.2.2.2.2.2.2.2.2.2.2.2.2.2.2.2.2.2.2.2.2.2.2.2.2.1
              have x28 := fun p : InC V14 => (HF.out p).2.2.2.2.2.2.2.2.2.2.2.2.2.2.2.2.2.2.2.2.2.2.2.2.2.2.2.2
              refine wp_region_quiet_in V14 (Below.refl _ _) (by kernel_rfl) (by kernel_rfl) ?_
              iterate 29 (quiet_step (first | (go_at_call 10; with_reducible exact quiet_in (C10.out _ (InC.aq _))) | (go_at_call 11; with_reducible exact quiet_in (C11r.out _ (InC.aq _))) | (go_at_call 11; with_reducible exact quiet_in (C11a.out _ (InC.aq _))) | (go_at_call 14; with_reducible exact quiet_in (C14r.out _ (InC.aq _))) | (go_at_call 14; with_reducible exact quiet_in (C14a.out _ (InC.aq _)))))
              refine wpQuiet_step (fun K hK => ?_)
              go_simp
              apply hK
              clear hK K
              with_reducible refine quiet_skip ?_ ?_
              · kernel_rfl
              simp only [Act.put, List.setIfInBounds_toArray, List.set_cons_zero, List.set_cons_succ]
              with_reducible refine quiet_skip ?_ ?_
              · kernel_rfl
              simp only [Act.put, List.setIfInBounds_toArray, List.set_cons_zero, List.set_cons_succ]
              with_reducible refine quiet_skip ?_ ?_
              · kernel_rfl
              simp only [Act.put, List.setIfInBounds_toArray, List.set_cons_zero, List.set_cons_succ]
              with_reducible refine quiet_skip ?_ ?_
              · kernel_rfl
              simp only [Act.put, List.setIfInBounds_toArray, List.set_cons_zero, List.set_cons_succ]
              with_reducible refine quiet_skip ?_ ?_
              · kernel_rfl
              simp only [Act.put, List.setIfInBounds_toArray, List.set_cons_zero, List.set_cons_succ]
              with_reducible refine quiet_skip ?_ ?_
              · kernel_rfl
              simp only [Act.put, List.setIfInBounds_toArray, List.set_cons_zero, List.set_cons_succ]
              iterate 3 (quiet_step (fail))
              refine wpQuiet_nil ?_
              intro _ hw'
              obtain ⟨⟨U, hU⟩, rfl⟩ := hw'
              have Hend := Lib.hid (BW.out _ (AQ.later Q14.out hU))
              clear hU
              go_wp2_with fail
              go_ret
              exact ⟨rfl, Hend.out⟩
            · have f3 : (s0 == s1) = false := by simpa using hss
              clear hss
              by_cases hk0 : kind = 0
              · subst hk0
                have HSq := HSe.out V14.drew (AQ.drew (Below.refl _ _))
                have HSr := HSe.out V14.drew.drew (AQ.drew (AQ.drew (Below.refl _ _)))
                go_region_held3 (fun U => AQ V14 U ∧ U.cell? ⟨g14, 0, none⟩ = some (.int .i64 Ta.hd.kind) ∧ U.cell? ⟨g14, 1, none⟩ = some (.string (bs Ta.hd.text)) ∧ U.cell? ⟨g14, 2, none⟩ = some (.string (bs Ta.hd.type)) ∧ U.cell? ⟨g14, 3, none⟩ = some (.int .i64 Ta.hd.n) ∧ U.cell? ⟨g14, 4, none⟩ = some (.int .i64 Ta.hd.fr) ∧ U.cell? ⟨g14, 5, none⟩ = some (.int .i64 Ta.hd.to_) ∧ U.cell? ⟨g14, 6, none⟩ = some (.int .i64 Ta.hd.at_) ∧ U.cell? ⟨g14, 7, none⟩ = some (.int .i64 Ta.hd.tat) ∧ U.cell? ⟨g14, 8, none⟩ = some (.slice a14 n14 c14) ∧ U.cell? ⟨w.heap.size, 0, none⟩ = some (.int .i64 Ta.hd.kind) ∧ U.cell? ⟨w.heap.size, 1, none⟩ = some (.string (bs Ta.hd.text)) ∧ U.cell? ⟨w.heap.size, 2, none⟩ = some (.string (bs Ta.hd.type)) ∧ U.cell? ⟨w.heap.size, 3, none⟩ = some (.int .i64 Ta.hd.n) ∧ U.cell? ⟨w.heap.size, 4, none⟩ = some (.int .i64 Ta.hd.fr) ∧ U.cell? ⟨w.heap.size, 5, none⟩ = some (.int .i64 Ta.hd.to_) ∧ U.cell? ⟨w.heap.size, 6, none⟩ = some (.int .i64 Ta.hd.at_) ∧ U.cell? ⟨w.heap.size, 7, none⟩ = some (.int .i64 Ta.hd.tat) ∧ U.cell? ⟨w.heap.size, 8, none⟩ = some (.slice aa na capa) ∧ U.cell? ⟨g13, 0, none⟩ = some (.int .i64 hr.kind) ∧ U.cell? ⟨g13, 1, none⟩ = some (.string (bs hr.text)) ∧ U.cell? ⟨g13, 2, none⟩ = some (.string (bs hr.type)) ∧ U.cell? ⟨g13, 3, none⟩ = some (.int .i64 hr.n) ∧ U.cell? ⟨g13, 4, none⟩ = some (.int .i64 hr.fr) ∧ U.cell? ⟨g13, 5, none⟩ = some (.int .i64 hr.to_) ∧ U.cell? ⟨g13, 6, none⟩ = some (.int .i64 hr.at_) ∧ U.cell? ⟨g13, 7, none⟩ = some (.int .i64 hr.tat) ∧ U.cell? ⟨g13, 8, none⟩ = some (.slice a13 n13 c13) ∧ U.cell? ⟨bn, on, none⟩ = some (.string (bs s0)) ∧ U.cell? ⟨bn, on + 1, none⟩ = some (.string (bs s1)))
                    (first | (with_reducible assumption) | (with_reducible exact HSe.out _ (by assumption)) | (trace_state; fail))
                    (first
                      | (go_at_call 10; (with_reducible refine (C10.out _ (And.left (by assumption : AQ V14 _ ∧ _))).mono ?_); rintro e w' ⟨rfl, hb⟩; have hs' : AQ V14 w' := AQ.later (And.left (by assumption : AQ V14 _ ∧ _)) hb)
                      | (go_at_call 11; (with_reducible refine (C11r.out _ (And.left (by assumption : AQ V14 _ ∧ _))).mono ?_); rintro e w' ⟨rfl, hb⟩; have hs' : AQ V14 w' := AQ.later (And.left (by assumption : AQ V14 _ ∧ _)) hb)
                      | (go_at_call 11; (with_reducible refine (C11a.out _ (And.left (by assumption : AQ V14 _ ∧ _))).mono ?_); rintro e w' ⟨rfl, hb⟩; have hs' : AQ V14 w' := AQ.later (And.left (by assumption : AQ V14 _ ∧ _)) hb)
                      | (go_at_call 14; (with_reducible refine (C14r.out _ (And.left (by assumption : AQ V14 _ ∧ _))).mono ?_); rintro e w' ⟨rfl, hb⟩; have hs' : AQ V14 w' := AQ.later (And.left (by assumption : AQ V14 _ ∧ _)) hb)
                      | (go_at_call 14; (with_reducible refine (C14a.out _ (And.left (by assumption : AQ V14 _ ∧ _))).mono ?_); rintro e w' ⟨rfl, hb⟩; have hs' : AQ V14 w' := AQ.later (And.left (by assumption : AQ V14 _ ∧ _)) hb)
                      | (go_at_call 12; (with_reducible refine (C12r.out _ (And.left (by assumption : AQ V14 _ ∧ _))).mono ?_); rintro e w' ⟨⟨ar, cr, rfl⟩, hb⟩; have hs' : AQ V14 w' := AQ.later (And.left (by assumption : AQ V14 _ ∧ _)) hb))
                all_goals
                  have hend := And.left (by assumption : AQ V14 _ ∧ _)
                  have Hend := Lib.hid (BW.out _ (AQ.later Q14.out hend))
                  clear hend
                  go_wp2_with fail
                  go_ret
                  exact ⟨rfl, Hend.out⟩
              · have f4 : (kind != 0) = true := by simpa using hk0
                have f5 : (kind == 0) = false := by simpa using hk0
                clear hk0
                have HF : Hid (∀ p : InC V14, p.w.cell? ⟨g14, 0, none⟩ = some (.int .i64 Ta.hd.kind) ∧ p.w.cell? ⟨g14, 1, none⟩ = some (.string (bs Ta.hd.text)) ∧ p.w.cell? ⟨g14, 2, none⟩ = some (.string (bs Ta.hd.type)) ∧ p.w.cell? ⟨g14, 3, none⟩ = some (.int .i64 Ta.hd.n) ∧ p.w.cell? ⟨g14, 4, none⟩ = some (.int .i64 Ta.hd.fr) ∧ p.w.cell? ⟨g14, 5, none⟩ = some (.int .i64 Ta.hd.to_) ∧ p.w.cell? ⟨g14, 6, none⟩ = some (.int .i64 Ta.hd.at_) ∧ p.w.cell? ⟨g14, 7, none⟩ = some (.int .i64 Ta.hd.tat) ∧ p.w.cell? ⟨g14, 8, none⟩ = some (.slice a14 n14 c14) ∧ p.w.cell? ⟨w.heap.size, 0, none⟩ = some (.int .i64 Ta.hd.kind) ∧ p.w.cell? ⟨w.heap.size, 1, none⟩ = some (.string (bs Ta.hd.text)) ∧ p.w.cell? ⟨w.heap.size, 2, none⟩ = some (.string (bs Ta.hd.type)) ∧ p.w.cell? ⟨w.heap.size, 3, none⟩ = some (.int .i64 Ta.hd.n) ∧ p.w.cell? ⟨w.heap.size, 4, none⟩ = some (.int .i64 Ta.hd.fr) ∧ p.w.cell? ⟨w.heap.size, 5, none⟩ = some (.int .i64 Ta.hd.to_) ∧ p.w.cell? ⟨w.heap.size, 6, none⟩ = some (.int .i64 Ta.hd.at_) ∧ p.w.cell? ⟨w.heap.size, 7, none⟩ = some (.int .i64 Ta.hd.tat) ∧ p.w.cell? ⟨w.heap.size, 8, none⟩ = some (.slice aa na capa) ∧ p.w.cell? ⟨g13, 0, none⟩ = some (.int .i64 hr.kind) ∧ p.w.cell? ⟨g13, 1, none⟩ = some (.string (bs hr.text)) ∧ p.w.cell? ⟨g13, 2, none⟩ = some (.string (bs hr.type)) ∧ p.w.cell? ⟨g13, 3, none⟩ = some (.int .i64 hr.n) ∧ p.w.cell? ⟨g13, 4, none⟩ = some (.int .i64 hr.fr) ∧ p.w.cell? ⟨g13, 5, none⟩ = some (.int .i64 hr.to_) ∧ p.w.cell? ⟨g13, 6, none⟩ = some (.int .i64 hr.at_) ∧ p.w.cell? ⟨g13, 7, none⟩ = some (.int .i64 hr.tat) ∧ p.w.cell? ⟨g13, 8, none⟩ = some (.slice a13 n13 c13) ∧ p.w.cell? ⟨bn, on, none⟩ = some (.string (bs s0)) ∧ p.w.cell? ⟨bn, on + 1, none⟩ = some (.string (bs s1))) := Lib.hid (fun p => (HSe.out p.w p.h).2)
                have x0 := fun p : InC V14 => (HF.out p).1
                have x1 := fun p : InC V14 => (HF.out p).2.1
                have x2 := fun p : InC V14 => (HF.out p).2.2.1
                have x3 := fun p : InC V14 => (HF.out p).2.2.2.1
                have x4 := fun p : InC V14 => (HF.out p).2.2.2.2.1
                have x5 := fun p : InC V14 => (HF.out p).2.2.2.2.2.1
                have x6 := fun p : InC V14 => (HF.out p).2.2.2.2.2.2.1
                have x7 := fun p : InC V14 => (HF.out p).2.2.2.2.2.2.2.1
                have x8 := fun p : InC V14 => (HF.out p).2.2.2.2.2.2.2.2.1
                have x9 := fun p : InC V14 => (HF.out p).2.2.2.2.2.2.2.2.2.1
                have x10 := fun p : InC V14 => (HF.out p).2.2.2.2.2.2.2.2.2.2.1
                have x11 := fun p : InC V14 => (HF.out p).2.2.2.2.2.2.2.2.2.2.2.1
                have x12 := fun p : InC V14 => (HF.out p).2.2.2.2.2.2.2.2.2.2.2.2.1
                have x13 := fun p : InC V14 => (HF.out p).2.2.2.2.2.2.2.2.2.2.2.2.2.1
                have x14 := fun p : InC V14 => (HF.out p).2.2.2.2.2.2.2.2.2.2.2.2.2.2.1
                have x15 := fun p : InC V14 => (HF.out p).2.2.2.2.2.2.2.2.2.2.2.2.2.2.2.1
                have x16 := fun p : InC V14 => (HF.out p).2.2.2.2.2.2.2.2.2.2.2.2.2.2.2.2.1
                have x17 := fun p : InC V14 => (HF.out p).2.2.2.2.2.2.2.2.2.2.2.2.2.2.2.2.2.1
                have x18 := fun p : InC V14 => (HF.out p).2.2.2.2.2.2.2.2.2.2.2.2.2.2.2.2.2.2.1
                have x19 := fun p : InC V14 => (HF.out p).2.2.2.2.2.2.2.2.2.2.2.2.2.2.2.2.2.2.2.1
                have x20 := fun p : InC V14 => (HF.out p).2.2.2.2.2.2.2.2.2.2.2.2.2.2.2.2.2.2.2.2.1
                have x21 := fun p : InC V14 => (HF.out p).2.2.2.2.2.2.2.2.2.2.2.2.2.2.2.2.2.2.2.2.2.1
                have x22 := fun p : InC V14 => (HF.out p).2.2.2.2.2.2.2.2.2.2.2.2.2.2.2.2.2.2.2.2.2.2.1
                have x23 := fun p : InC V14 => (HF.out p).2.2.2.2.2.2.2.2.2.2.2.2.2.2.2.2.2.2.2.2.2.2.2.1
                have x24 := fun p : InC V14 => (HF.out p).2.2.2.2.2.2.2.2.2.2.2.2.2.2.2.2.2.2.2.2.2.2.2.2.1
                have x25 := fun p : InC V14 => (HF.out p).2.2.2.2.2.2.2.2.2.2.2.2.2.2.2.2.2.2.2.2.2.2.2.2.2.1
                have x26 := fun p : InC V14 => (HF.out p).2.2.2.2.2.2.2.2.2.2.2.2.2.2.2.2.2.2.2.2.2.2.2.2.2.2.1
                have x27 := fun p : InC V14 => (HF.out p).2.2.2.2.2.2.2.2.2.2.2.2.2.2.2.2.2.2.2.2.2.2.2.2.2.2.2.1
                have x28 := fun p : InC V14 => (HF.out p).2.2.2.2.2.2.2.2.2.2.2.2.2.2.2.2.2.2.2.2.2.2.2.2.2.2.2.2
                refine wp_region_quiet_in V14 (Below.refl _ _) (by kernel_rfl) (by kernel_rfl) ?_
                iterate 29 (quiet_step (first | (go_at_call 10; with_reducible exact quiet_in (C10.out _ (InC.aq _))) | (go_at_call 11; with_reducible exact quiet_in (C11r.out _ (InC.aq _))) | (go_at_call 11; with_reducible exact quiet_in (C11a.out _ (InC.aq _))) | (go_at_call 14; with_reducible exact quiet_in (C14r.out _ (InC.aq _))) | (go_at_call 14; with_reducible exact quiet_in (C14a.out _ (InC.aq _)))))
                refine wpQuiet_step (fun K hK => ?_)
                go_simp
                apply hK
                clear hK K
                with_reducible refine quiet_skip ?_ ?_
                · kernel_rfl
                simp only [Act.put, List.setIfInBounds_toArray, List.set_cons_zero, List.set_cons_succ]
                with_reducible refine quiet_skip ?_ ?_
                · kernel_rfl
                simp only [Act.put, List.setIfInBounds_toArray, List.set_cons_zero, List.set_cons_succ]
                with_reducible refine quiet_skip ?_ ?_
                · kernel_rfl
                simp only [Act.put, List.setIfInBounds_toArray, List.set_cons_zero, List.set_cons_succ]
                with_reducible refine quiet_skip ?_ ?_
                · kernel_rfl
                simp only [Act.put, List.setIfInBounds_toArray, List.set_cons_zero, List.set_cons_succ]
                with_reducible refine quiet_skip ?_ ?_
                · kernel_rfl
                simp only [Act.put, List.setIfInBounds_toArray, List.set_cons_zero, List.set_cons_succ]
                with_reducible refine quiet_skip ?_ ?_
                · kernel_rfl
                simp only [Act.put, List.setIfInBounds_toArray, List.set_cons_zero, List.set_cons_succ]
                iterate 3 (quiet_step (fail))
                refine wpQuiet_nil ?_
                intro _ hw'
                obtain ⟨⟨U, hU⟩, rfl⟩ := hw'
                have Hend := Lib.hid (BW.out _ (AQ.later Q14.out hU))
                clear hU
                go_wp2_with fail
                go_ret
                exact ⟨rfl, Hend.out⟩
end Go.Proofs.Ytpnfjiglphogoac
