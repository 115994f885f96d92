/-
  For the laws of node: the walk of NodePuts. Condition: at most 1,000,000 nodes in each tree.
-/
import Derived.Test.YtpnfjiglphogoacAwk
import Derived.Test.YtpnfjiglphogoacPur
import Derived.Test.YtpnfjiglphogoacQuc
namespace Go.Proofs.Ytpnfjiglphogoac
open Go.RowKit Go.Shelf
set_option linter.unusedSimpArgs false
set_option linter.unusedVariables false

/-- The node that a way leads to, or none's zero. -/
def gdN (t : Nd) (way : List Int) : Nd := (getN t way).getD (.mk nilH [])
def pdN (t : Nd) (way : List Int) (x : Nd) : Nd := if (getN t way).isSome then putN t way x else .mk nilH []
theorem GetIs.one {t : Nd} {way : List Int} {e : Ending} {w' : World} (h : GetIs t way e w') : ∃ (a : Option Addr) (n c : Nat), e = .returned (.tuple #[.agg #[.int .i64 (gdN t way).hd.kind, .string (bs (gdN t way).hd.text), .string (bs (gdN t way).hd.type), .int .i64 (gdN t way).hd.n, .int .i64 (gdN t way).hd.fr, .int .i64 (gdN t way).hd.to_, .int .i64 (gdN t way).hd.at_, .int .i64 (gdN t way).hd.tat, .slice a n c], .bool (getN t way).isSome]) ∧ KidsAt w' (gdN t way).kids (.slice a n c) := by
  unfold gdN
  rcases h with ⟨h, rfl⟩ | ⟨x, kv, h, rfl, hk⟩
  · rw [h]
    exact ⟨none, 0, 0, rfl, KidsAt.nil _⟩
  · rw [h]
    obtain ⟨a, c, rfl, -⟩ := hk.get
    exact ⟨a, _, c, rfl, hk⟩
theorem PutIs.one {t : Nd} {way : List Int} {x : Nd} {e : Ending} {w' : World} (h : PutIs t way x e w') : ∃ (a : Option Addr) (n c : Nat), e = .returned (.tuple #[.agg #[.int .i64 (pdN t way x).hd.kind, .string (bs (pdN t way x).hd.text), .string (bs (pdN t way x).hd.type), .int .i64 (pdN t way x).hd.n, .int .i64 (pdN t way x).hd.fr, .int .i64 (pdN t way x).hd.to_, .int .i64 (pdN t way x).hd.at_, .int .i64 (pdN t way x).hd.tat, .slice a n c], .bool (getN t way).isSome]) ∧ KidsAt w' (pdN t way x).kids (.slice a n c) := by
  unfold pdN
  rcases h with ⟨h, rfl⟩ | ⟨h, kv, rfl, hk⟩
  · rw [h]
    exact ⟨none, 0, 0, rfl, KidsAt.nil _⟩
  · have h2 : (getN t way).isSome = true := Option.isSome_iff_ne_none.2 h
    rw [h2]
    obtain ⟨a, c, rfl, -⟩ := hk.get
    exact ⟨a, _, c, rfl, hk⟩
set_option maxRecDepth 100000 in
set_option maxHeartbeats 16000000 in
theorem Puts_any (Ta Tb : Nd) (va vb vw : Value) (way : List Int) (w : World) (hma : Ta.cnt ≤ 2000000) (hmb : Tb.cnt ≤ 2000000) (hka : KidsAt w Ta.kids va) (hkb : KidsAt w Tb.kids vb) (hw : SlI w vw way) :
    Calls Try.prog 3 #[.agg #[.int .i64 Ta.hd.kind, .string (bs Ta.hd.text), .string (bs Ta.hd.type), .int .i64 Ta.hd.n, .int .i64 Ta.hd.fr, .int .i64 Ta.hd.to_, .int .i64 Ta.hd.at_, .int .i64 Ta.hd.tat, va], vw, .agg #[.int .i64 Tb.hd.kind, .string (bs Tb.hd.text), .string (bs Tb.hd.type), .int .i64 Tb.hd.n, .int .i64 Tb.hd.fr, .int .i64 Tb.hd.to_, .int .i64 Tb.hd.at_, .int .i64 Tb.hd.tat, vb]] w fun e w' => e = .returned (.bool true) ∧ Below w.heap.size w w' := by
  have HA := Lib.hid hka
  have HB := Lib.hid hkb
  have HW := Lib.hid hw
  obtain ⟨aa, capa, rfl, -⟩ := hka.get
  obtain ⟨ab, capb, rfl, -⟩ := hkb.get
  obtain ⟨aw, capw, rfl, -⟩ := hw
  clear hka hkb
  obtain ⟨na, hna⟩ : ∃ n, Hid (Ta.kids.length = n) := ⟨_, Lib.hid rfl⟩
  obtain ⟨nb, hnb⟩ : ∃ n, Hid (Tb.kids.length = n) := ⟨_, Lib.hid rfl⟩
  obtain ⟨L, hL⟩ : ∃ n, Hid (way.length = n) := ⟨_, Lib.hid rfl⟩
  rw [hna.out] at HA
  rw [hnb.out] at HB
  rw [hL.out] at HW
  rw [hna.out, hnb.out, hL.out]
  obtain ⟨W1, hW1⟩ : ∃ W1, Hid ((w.alloc (.cells #[.int .i64 Ta.hd.kind, .string (bs Ta.hd.text), .string (bs Ta.hd.type), .int .i64 Ta.hd.n, .int .i64 Ta.hd.fr, .int .i64 Ta.hd.to_, .int .i64 Ta.hd.at_, .int .i64 Ta.hd.tat, .slice aa na capa] 24)).alloc (.cells #[.int .i64 Tb.hd.kind, .string (bs Tb.hd.text), .string (bs Tb.hd.type), .int .i64 Tb.hd.n, .int .i64 Tb.hd.fr, .int .i64 Tb.hd.to_, .int .i64 Tb.hd.at_, .int .i64 Tb.hd.tat, .slice ab nb capb] 24) = W1) := ⟨_, Lib.hid rfl⟩
  have B1 : Hid (Below w.heap.size w W1) := by rw [← hW1.out]; exact Lib.hid (((Below.refl _ w).alloc (Nat.le_refl _) _).alloc (by simp) _)
  have hs1 : W1.heap.size = w.heap.size + 2 := by rw [← hW1.out]; simp
  have R1 : Hid (RowAt W1 w.heap.size 24 #[.int .i64 Ta.hd.kind, .string (bs Ta.hd.text), .string (bs Ta.hd.type), .int .i64 Ta.hd.n, .int .i64 Ta.hd.fr, .int .i64 Ta.hd.to_, .int .i64 Ta.hd.at_, .int .i64 Ta.hd.tat, .slice aa na capa]) := by rw [← hW1.out]; exact Lib.hid ((RowAt.new w 24 #[.int .i64 Ta.hd.kind, .string (bs Ta.hd.text), .string (bs Ta.hd.type), .int .i64 Ta.hd.n, .int .i64 Ta.hd.fr, .int .i64 Ta.hd.to_, .int .i64 Ta.hd.at_, .int .i64 Ta.hd.tat, .slice aa na capa]).alloc _)
  have R2 : Hid (RowAt W1 (w.heap.size + 1) 24 #[.int .i64 Tb.hd.kind, .string (bs Tb.hd.text), .string (bs Tb.hd.type), .int .i64 Tb.hd.n, .int .i64 Tb.hd.fr, .int .i64 Tb.hd.to_, .int .i64 Tb.hd.at_, .int .i64 Tb.hd.tat, .slice ab nb capb]) := by
    rw [← hW1.out]
    have := RowAt.new (w.alloc (.cells #[.int .i64 Ta.hd.kind, .string (bs Ta.hd.text), .string (bs Ta.hd.type), .int .i64 Ta.hd.n, .int .i64 Ta.hd.fr, .int .i64 Ta.hd.to_, .int .i64 Ta.hd.at_, .int .i64 Ta.hd.tat, .slice aa na capa] 24)) 24 #[.int .i64 Tb.hd.kind, .string (bs Tb.hd.text), .string (bs Tb.hd.type), .int .i64 Tb.hd.n, .int .i64 Tb.hd.fr, .int .i64 Tb.hd.to_, .int .i64 Tb.hd.at_, .int .i64 Tb.hd.tat, .slice ab nb capb]
    rw [World.size_alloc] at this
    exact Lib.hid this
  have Hs1 := Lib.hid hs1
  clear hs1
  have HS : Hid (∀ U, AQ W1 U → AQ W1 U ∧ U.cell? ⟨w.heap.size, 0, none⟩ = some (.int .i64 Ta.hd.kind) ∧ U.cell? ⟨w.heap.size, 1, none⟩ = some (.string (bs Ta.hd.text)) ∧ U.cell? ⟨w.heap.size, 2, none⟩ = some (.string (bs Ta.hd.type)) ∧ U.cell? ⟨w.heap.size, 3, none⟩ = some (.int .i64 Ta.hd.n) ∧ U.cell? ⟨w.heap.size, 4, none⟩ = some (.int .i64 Ta.hd.fr) ∧ U.cell? ⟨w.heap.size, 5, none⟩ = some (.int .i64 Ta.hd.to_) ∧ U.cell? ⟨w.heap.size, 6, none⟩ = some (.int .i64 Ta.hd.at_) ∧ U.cell? ⟨w.heap.size, 7, none⟩ = some (.int .i64 Ta.hd.tat) ∧ U.cell? ⟨w.heap.size, 8, none⟩ = some (.slice aa na capa) ∧ U.cell? ⟨w.heap.size + 1, 0, none⟩ = some (.int .i64 Tb.hd.kind) ∧ U.cell? ⟨w.heap.size + 1, 1, none⟩ = some (.string (bs Tb.hd.text)) ∧ U.cell? ⟨w.heap.size + 1, 2, none⟩ = some (.string (bs Tb.hd.type)) ∧ U.cell? ⟨w.heap.size + 1, 3, none⟩ = some (.int .i64 Tb.hd.n) ∧ U.cell? ⟨w.heap.size + 1, 4, none⟩ = some (.int .i64 Tb.hd.fr) ∧ U.cell? ⟨w.heap.size + 1, 5, none⟩ = some (.int .i64 Tb.hd.to_) ∧ U.cell? ⟨w.heap.size + 1, 6, none⟩ = some (.int .i64 Tb.hd.at_) ∧ U.cell? ⟨w.heap.size + 1, 7, none⟩ = some (.int .i64 Tb.hd.tat) ∧ U.cell? ⟨w.heap.size + 1, 8, none⟩ = some (.slice ab nb capb)) := Lib.hid (fun U hU => by
    have c1 := (show Cells U w.heap.size 0 Ta.hd (.slice aa na capa) from Cells.row (R1.out.later hU))
    have cp := (show Cells U (w.heap.size + 1) 0 Tb.hd (.slice ab nb capb) from Cells.row (R2.out.later hU))
    obtain ⟨d0, d1, d2, d3, d4, d5, d6, d7, d8⟩ := c1
    obtain ⟨e0, e1, e2, e3, e4, e5, e6, e7, e8⟩ := cp
    simp only [Nat.zero_add] at d1 d2 d3 d4 d5 d6 d7 d8
    simp only [Nat.zero_add] at e1 e2 e3 e4 e5 e6 e7 e8
    exact ⟨hU, d0, d1, d2, d3, d4, d5, d6, d7, d8, e0, e1, e2, e3, e4, e5, e6, e7, e8⟩)
  have BW : Hid (∀ U, AQ W1 U → Below w.heap.size w U) := Lib.hid (fun U hU => B1.out.trans (Below.mono hU B1.out.size))
  have KA : Hid (∀ U, AQ W1 U → KidsAt U Ta.kids (.slice aa na capa)) := Lib.hid (fun U hU => HA.out.below (BW.out U hU))
  have KB : Hid (∀ U, AQ W1 U → KidsAt U Tb.kids (.slice ab nb capb)) := Lib.hid (fun U hU => HB.out.below (BW.out U hU))
  have SW : Hid (∀ U, AQ W1 U → SlI U (.slice aw L capw) way) := Lib.hid (fun U hU => HW.out.below (BW.out U hU))
  obtain ⟨gd, hgd⟩ : ∃ g, Hid (gdN Ta way = g) := ⟨_, Lib.hid rfl⟩
  obtain ⟨pd, hpd⟩ : ∃ g, Hid (pdN Ta way Tb = g) := ⟨_, Lib.hid rfl⟩
  obtain ⟨q, hq⟩ : ∃ g, Hid ((getN Ta way).isSome = g) := ⟨_, Lib.hid rfl⟩
  have Cfa : Hid (∀ U, AQ W1 U → Calls Try.prog 7 #[.agg #[.int .i64 Ta.hd.kind, .string (bs Ta.hd.text), .string (bs Ta.hd.type), .int .i64 Ta.hd.n, .int .i64 Ta.hd.fr, .int .i64 Ta.hd.to_, .int .i64 Ta.hd.at_, .int .i64 Ta.hd.tat, .slice aa na capa]] U fun e w' => e = .returned (.bool (fewN Ta)) ∧ Below U.heap.size U w') := Lib.hid (fun U hU => few_any Ta _ U hma ⟨_, rfl, KA.out U hU⟩)
  have Cfb : Hid (∀ U, AQ W1 U → Calls Try.prog 7 #[.agg #[.int .i64 Tb.hd.kind, .string (bs Tb.hd.text), .string (bs Tb.hd.type), .int .i64 Tb.hd.n, .int .i64 Tb.hd.fr, .int .i64 Tb.hd.to_, .int .i64 Tb.hd.at_, .int .i64 Tb.hd.tat, .slice ab nb capb]] U fun e w' => e = .returned (.bool (fewN Tb)) ∧ Below U.heap.size U w') := Lib.hid (fun U hU => few_any Tb _ U hmb ⟨_, rfl, KB.out U hU⟩)
  obtain ⟨fa, hfa⟩ : ∃ f, Hid (fewN Ta = f) := ⟨_, Lib.hid rfl⟩
  obtain ⟨fb, hfb⟩ : ∃ f, Hid (fewN Tb = f) := ⟨_, Lib.hid rfl⟩
  rw [hfa.out] at Cfa
  rw [hfb.out] at Cfb
  have C24 : Hid (L ≤ 100 → ∀ U, AQ W1 U → Calls Try.prog 8 #[.agg #[.int .i64 Ta.hd.kind, .string (bs Ta.hd.text), .string (bs Ta.hd.type), .int .i64 Ta.hd.n, .int .i64 Ta.hd.fr, .int .i64 Ta.hd.to_, .int .i64 Ta.hd.at_, .int .i64 Ta.hd.tat, .slice aa na capa], .slice aw L capw] U fun e w' => (∃ (a : Option Addr) (n c : Nat), e = .returned (.tuple #[.agg #[.int .i64 gd.hd.kind, .string (bs gd.hd.text), .string (bs gd.hd.type), .int .i64 gd.hd.n, .int .i64 gd.hd.fr, .int .i64 gd.hd.to_, .int .i64 gd.hd.at_, .int .i64 gd.hd.tat, .slice a n c], .bool q]) ∧ KidsAt w' gd.kids (.slice a n c)) ∧ Below U.heap.size U w') := Lib.hid (fun hlL U hU => by
    rw [← hgd.out, ← hq.out]
    exact (Get_any Ta (.slice aa na capa) way (.slice aw L capw) U hma (KA.out U hU) (SW.out U hU) (by rw [hL.out]; omega)).mono fun e w' h => ⟨h.1.one, h.2⟩)
  have C26 : Hid (L ≤ 100 → ∀ U, AQ W1 U → Calls Try.prog 9 #[.agg #[.int .i64 Ta.hd.kind, .string (bs Ta.hd.text), .string (bs Ta.hd.type), .int .i64 Ta.hd.n, .int .i64 Ta.hd.fr, .int .i64 Ta.hd.to_, .int .i64 Ta.hd.at_, .int .i64 Ta.hd.tat, .slice aa na capa], .slice aw L capw, .agg #[.int .i64 Tb.hd.kind, .string (bs Tb.hd.text), .string (bs Tb.hd.type), .int .i64 Tb.hd.n, .int .i64 Tb.hd.fr, .int .i64 Tb.hd.to_, .int .i64 Tb.hd.at_, .int .i64 Tb.hd.tat, .slice ab nb capb]] U fun e w' => (∃ (a : Option Addr) (n c : Nat), e = .returned (.tuple #[.agg #[.int .i64 pd.hd.kind, .string (bs pd.hd.text), .string (bs pd.hd.type), .int .i64 pd.hd.n, .int .i64 pd.hd.fr, .int .i64 pd.hd.to_, .int .i64 pd.hd.at_, .int .i64 pd.hd.tat, .slice a n c], .bool q]) ∧ KidsAt w' pd.kids (.slice a n c)) ∧ Below U.heap.size U w') := Lib.hid (fun hlL U hU => by
    rw [← hpd.out, ← hq.out]
    exact (Put_any Ta Tb (.slice aa na capa) (.slice ab nb capb) way (.slice aw L capw) U hma hmb (KA.out U hU) (KB.out U hU) (SW.out U hU) (by rw [hL.out]; omega)).mono fun e w' h => ⟨h.1.one, h.2⟩)
  go_enter Try.func3, Try.ntmps3
  go_wp2_with fail
  rw [hW1.out]
  refine (awake_any _).mono ?_
  rintro e w2 ⟨rfl, b2⟩
  have Q2 : Hid (AQ W1 w2) := Lib.hid b2
  have S2 := HS.out w2 b2
  obtain ⟨-, d0, d1, d2, d3, d4, d5, d6, d7, d8, -⟩ := S2
  clear b2
  go_wp2_with fail
  refine (Cfa.out _ Q2.out).mono ?_
  rintro e w3 ⟨rfl, b3⟩
  have Q3 : Hid (AQ W1 w3) := Lib.hid (AQ.later Q2.out b3)
  clear d0 d1 d2 d3 d4 d5 d6 d7 d8 b3
  have S3 := HS.out w3 Q3.out
  obtain ⟨-, -, -, -, -, -, -, -, -, -, d0, d1, d2, d3, d4, d5, d6, d7, d8⟩ := S3
  go_wp2_with fail
  refine (Cfb.out _ Q3.out).mono ?_
  rintro e w4 ⟨rfl, b4⟩
  have Q4 : Hid (AQ W1 w4) := Lib.hid (AQ.later Q3.out b4)
  clear d0 d1 d2 d3 d4 d5 d6 d7 d8 b4
  cases fa with
  | false =>
    go_wp2_with fail
    go_ret
    exact ⟨rfl, BW.out _ Q4.out⟩
  | true =>
    cases fb with
    | false =>
      go_wp2_with fail
      go_ret
      exact ⟨rfl, BW.out _ Q4.out⟩
    | true =>
      by_cases hlen : 100 < L
      · have p1 : decide ((L : Int) > 100) = true := decide_eq_true (by omega)
        have p2 : decide (100 < L) = true := decide_eq_true hlen
        go_wp2_with fail
        go_ret
        exact ⟨rfl, BW.out _ Q4.out⟩
      · have p1 : decide ((L : Int) > 100) = false := decide_eq_false (by omega)
        have p2 : decide (100 < L) = false := decide_eq_false hlen
        have hL100 : L ≤ 100 := by omega
        have D24 := Lib.hid (C24.out hL100)
        have D26 := Lib.hid (C26.out hL100)
        clear C24 C26
        have hcA : Hid (Ta.cnt ≤ 400 ∧ Tb.cnt ≤ 400) := Lib.hid ⟨(few_ok hfa.out).2, (few_ok hfb.out).2⟩
        go_upto_region 8 with fail
        clear p1 p2
        obtain ⟨-, d0, d1, d2, d3, d4, d5, d6, d7, d8, e0, e1, e2, e3, e4, e5, e6, e7, e8⟩ := HS.out _ Q4.out
        go_wp2_with fail
        refine (D24.out _ Q4.out).mono ?_
        rintro e w5 ⟨⟨a6, n6, c6, rfl, k6⟩, b5⟩
        obtain ⟨W6, hW6⟩ : ∃ W, Hid (w5.alloc (.cells #[.int .i64 gd.hd.kind, .string (bs gd.hd.text), .string (bs gd.hd.type), .int .i64 gd.hd.n, .int .i64 gd.hd.fr, .int .i64 gd.hd.to_, .int .i64 gd.hd.at_, .int .i64 gd.hd.tat, .slice a6 n6 c6] 24) = W) := ⟨_, Lib.hid rfl⟩
        have A6 : Hid (AQ w4 W6) := by rw [← hW6.out]; exact Lib.hid (AQ.alloc b5 _)
        have Q6 : Hid (AQ W1 W6) := Lib.hid (AQ.later Q4.out A6.out)
        have P6 : Hid (RowAt W6 w5.heap.size 24 #[.int .i64 gd.hd.kind, .string (bs gd.hd.text), .string (bs gd.hd.type), .int .i64 gd.hd.n, .int .i64 gd.hd.fr, .int .i64 gd.hd.to_, .int .i64 gd.hd.at_, .int .i64 gd.hd.tat, .slice a6 n6 c6]) := by rw [← hW6.out]; exact Lib.hid (RowAt.new _ _ _)
        have K6 : Hid (KidsAt W6 gd.kids (.slice a6 n6 c6)) := by rw [← hW6.out]; exact Lib.hid (k6.below ((Below.refl _ _).alloc (Nat.le_refl _) _))
        clear d0 d1 d2 d3 d4 d5 d6 d7 d8 e0 e1 e2 e3 e4 e5 e6 e7 e8 D24 b5 k6
        go_upto_region 9 with fail
        rw [hW6.out]
        obtain ⟨-, d0, d1, d2, d3, d4, d5, d6, d7, d8, e0, e1, e2, e3, e4, e5, e6, e7, e8⟩ := HS.out _ Q6.out
        go_wp2_with fail
        refine (D26.out _ Q6.out).mono ?_
        rintro e w7 ⟨⟨a8, n8, c8, rfl, k8⟩, b7⟩
        obtain ⟨W8, hW8⟩ : ∃ W, Hid (w7.alloc (.cells #[.int .i64 pd.hd.kind, .string (bs pd.hd.text), .string (bs pd.hd.type), .int .i64 pd.hd.n, .int .i64 pd.hd.fr, .int .i64 pd.hd.to_, .int .i64 pd.hd.at_, .int .i64 pd.hd.tat, .slice a8 n8 c8] 24) = W) := ⟨_, Lib.hid rfl⟩
        have A8 : Hid (AQ W6 W8) := by rw [← hW8.out]; exact Lib.hid (AQ.alloc b7 _)
        have Q8 : Hid (AQ W1 W8) := Lib.hid (AQ.later Q6.out A8.out)
        have P8 : Hid (RowAt W8 w7.heap.size 24 #[.int .i64 pd.hd.kind, .string (bs pd.hd.text), .string (bs pd.hd.type), .int .i64 pd.hd.n, .int .i64 pd.hd.fr, .int .i64 pd.hd.to_, .int .i64 pd.hd.at_, .int .i64 pd.hd.tat, .slice a8 n8 c8]) := by rw [← hW8.out]; exact Lib.hid (RowAt.new _ _ _)
        have K8 : Hid (KidsAt W8 pd.kids (.slice a8 n8 c8)) := by rw [← hW8.out]; exact Lib.hid (k8.below ((Below.refl _ _).alloc (Nat.le_refl _) _))
        clear d0 d1 d2 d3 d4 d5 d6 d7 d8 e0 e1 e2 e3 e4 e5 e6 e7 e8 D26 b7 k8
        go_upto_region 10 with fail
        rw [hW8.out]
        cases q with
        | false =>
          go_wp2_with fail
          go_ret
          exact ⟨rfl, BW.out _ Q8.out⟩
        | true =>
          have hwas : Hid (getN Ta way = some gd) := Lib.hid (by
            obtain ⟨y, hy⟩ := Option.isSome_iff_exists.1 hq.out
            have := hgd.out
            unfold gdN at this
            rw [hy] at this
            rw [hy, ← this]
            rfl)
          have hpp : Hid (putN Ta way Tb = pd) := Lib.hid (by
            have := hpd.out
            unfold pdN at this
            rw [hq.out] at this
            exact this)
          have hgp : Hid (getN pd way = some Tb) := Lib.hid (by rw [← hpp.out]; exact getN_putN way Ta Tb gd hwas.out)
          have hbk : Hid (putN pd way gd = Ta) := Lib.hid (by rw [← hpp.out]; exact putN_back way Ta Tb gd hwas.out)
          have hcnt : Hid (pd.cnt + gd.cnt = Ta.cnt + Tb.cnt) := Lib.hid (by rw [← hpp.out]; exact cnt_putN way Ta Tb gd hwas.out)
          have hpb : pd.cnt ≤ 2000000 := by have h1 := hcnt.out; have h2 := hcA.out; omega
          have hgb : gd.cnt ≤ 2000000 := by have h1 := hcnt.out; have h2 := hcA.out; have h3 := cnt_pos pd; omega
          have Hpb := Lib.hid hpb
          have Hgb := Lib.hid hgb
          clear hpb hgb
          have KG : Hid (∀ U, AQ W8 U → KidsAt U gd.kids (.slice a6 n6 c6)) := Lib.hid (fun U hU => K6.out.below (AQ.later A8.out hU))
          have KP : Hid (∀ U, AQ W8 U → KidsAt U pd.kids (.slice a8 n8 c8)) := Lib.hid (fun U hU => K8.out.below hU)
          have PG : Hid (∀ U, AQ W8 U → RowAt U w5.heap.size 24 #[.int .i64 gd.hd.kind, .string (bs gd.hd.text), .string (bs gd.hd.type), .int .i64 gd.hd.n, .int .i64 gd.hd.fr, .int .i64 gd.hd.to_, .int .i64 gd.hd.at_, .int .i64 gd.hd.tat, .slice a6 n6 c6]) := Lib.hid (fun U hU => P6.out.later (AQ.later A8.out hU))
          have PP : Hid (∀ U, AQ W8 U → RowAt U w7.heap.size 24 #[.int .i64 pd.hd.kind, .string (bs pd.hd.text), .string (bs pd.hd.type), .int .i64 pd.hd.n, .int .i64 pd.hd.fr, .int .i64 pd.hd.to_, .int .i64 pd.hd.at_, .int .i64 pd.hd.tat, .slice a8 n8 c8]) := Lib.hid (fun U hU => P8.out.later hU)
          have E24 : Hid (∀ U, AQ W8 U → Calls Try.prog 8 #[.agg #[.int .i64 pd.hd.kind, .string (bs pd.hd.text), .string (bs pd.hd.type), .int .i64 pd.hd.n, .int .i64 pd.hd.fr, .int .i64 pd.hd.to_, .int .i64 pd.hd.at_, .int .i64 pd.hd.tat, .slice a8 n8 c8], .slice aw L capw] U fun e w' => (∃ (a : Option Addr) (n c : Nat), e = .returned (.tuple #[.agg #[.int .i64 Tb.hd.kind, .string (bs Tb.hd.text), .string (bs Tb.hd.type), .int .i64 Tb.hd.n, .int .i64 Tb.hd.fr, .int .i64 Tb.hd.to_, .int .i64 Tb.hd.at_, .int .i64 Tb.hd.tat, .slice a n c], .bool true]) ∧ KidsAt w' Tb.kids (.slice a n c)) ∧ Below U.heap.size U w') := Lib.hid (fun U hU => (Get_any pd (.slice a8 n8 c8) way (.slice aw L capw) U Hpb.out (KP.out U hU) (SW.out U (AQ.later Q8.out hU)) (by rw [hL.out]; omega)).mono fun e w' h => by
            have h1 := h.1.one
            unfold gdN at h1
            rw [hgp.out] at h1
            exact ⟨h1, h.2⟩)
          have E26 : Hid (∀ U, AQ W8 U → Calls Try.prog 9 #[.agg #[.int .i64 pd.hd.kind, .string (bs pd.hd.text), .string (bs pd.hd.type), .int .i64 pd.hd.n, .int .i64 pd.hd.fr, .int .i64 pd.hd.to_, .int .i64 pd.hd.at_, .int .i64 pd.hd.tat, .slice a8 n8 c8], .slice aw L capw, .agg #[.int .i64 gd.hd.kind, .string (bs gd.hd.text), .string (bs gd.hd.type), .int .i64 gd.hd.n, .int .i64 gd.hd.fr, .int .i64 gd.hd.to_, .int .i64 gd.hd.at_, .int .i64 gd.hd.tat, .slice a6 n6 c6]] U fun e w' => (∃ (a : Option Addr) (n c : Nat), e = .returned (.tuple #[.agg #[.int .i64 Ta.hd.kind, .string (bs Ta.hd.text), .string (bs Ta.hd.type), .int .i64 Ta.hd.n, .int .i64 Ta.hd.fr, .int .i64 Ta.hd.to_, .int .i64 Ta.hd.at_, .int .i64 Ta.hd.tat, .slice a n c], .bool true]) ∧ KidsAt w' Ta.kids (.slice a n c)) ∧ Below U.heap.size U w') := Lib.hid (fun U hU => (Put_any pd gd (.slice a8 n8 c8) (.slice a6 n6 c6) way (.slice aw L capw) U Hpb.out Hgb.out (KP.out U hU) (KG.out U hU) (SW.out U (AQ.later Q8.out hU)) (by rw [hL.out]; omega)).mono fun e w' h => by
            have h1 := h.1.one
            unfold pdN at h1
            rw [hgp.out, hbk.out] at h1
            exact ⟨h1, h.2⟩)
          go_upto_region 12 with fail
          obtain ⟨d0, d1, d2, d3, d4, d5, d6, d7, d8⟩ := (show Cells W8 w7.heap.size 0 pd.hd (.slice a8 n8 c8) from Cells.row (PP.out _ (Below.refl _ _)))
          simp only [Nat.zero_add] at d1 d2 d3 d4 d5 d6 d7 d8
          go_wp2_with fail
          refine (E24.out _ (Below.refl _ _)).mono ?_
          rintro e w9 ⟨⟨a10, n10, c10, rfl, k10⟩, b9⟩
          obtain ⟨W10, hW10⟩ : ∃ W, Hid (w9.alloc (.cells #[.int .i64 Tb.hd.kind, .string (bs Tb.hd.text), .string (bs Tb.hd.type), .int .i64 Tb.hd.n, .int .i64 Tb.hd.fr, .int .i64 Tb.hd.to_, .int .i64 Tb.hd.at_, .int .i64 Tb.hd.tat, .slice a10 n10 c10] 24) = W) := ⟨_, Lib.hid rfl⟩
          have A10 : Hid (AQ W8 W10) := by rw [← hW10.out]; exact Lib.hid (AQ.alloc b9 _)
          have Q10 : Hid (AQ W1 W10) := Lib.hid (AQ.later Q8.out A10.out)
          have P10 : Hid (RowAt W10 w9.heap.size 24 #[.int .i64 Tb.hd.kind, .string (bs Tb.hd.text), .string (bs Tb.hd.type), .int .i64 Tb.hd.n, .int .i64 Tb.hd.fr, .int .i64 Tb.hd.to_, .int .i64 Tb.hd.at_, .int .i64 Tb.hd.tat, .slice a10 n10 c10]) := by rw [← hW10.out]; exact Lib.hid (RowAt.new _ _ _)
          have K10 : Hid (KidsAt W10 Tb.kids (.slice a10 n10 c10)) := by rw [← hW10.out]; exact Lib.hid (k10.below ((Below.refl _ _).alloc (Nat.le_refl _) _))
          clear d0 d1 d2 d3 d4 d5 d6 d7 d8 E24 b9 k10
          go_upto_region 13 with fail
          rw [hW10.out]
          obtain ⟨d0, d1, d2, d3, d4, d5, d6, d7, d8⟩ := (show Cells W10 w7.heap.size 0 pd.hd (.slice a8 n8 c8) from Cells.row (PP.out _ A10.out))
          simp only [Nat.zero_add] at d1 d2 d3 d4 d5 d6 d7 d8
          obtain ⟨e0, e1, e2, e3, e4, e5, e6, e7, e8⟩ := (show Cells W10 w5.heap.size 0 gd.hd (.slice a6 n6 c6) from Cells.row (PG.out _ A10.out))
          simp only [Nat.zero_add] at e1 e2 e3 e4 e5 e6 e7 e8
          go_wp2_with fail
          refine (E26.out _ A10.out).mono ?_
          rintro e w11 ⟨⟨a12, n12, c12, rfl, k12⟩, b11⟩
          obtain ⟨W12, hW12⟩ : ∃ W, Hid (w11.alloc (.cells #[.int .i64 Ta.hd.kind, .string (bs Ta.hd.text), .string (bs Ta.hd.type), .int .i64 Ta.hd.n, .int .i64 Ta.hd.fr, .int .i64 Ta.hd.to_, .int .i64 Ta.hd.at_, .int .i64 Ta.hd.tat, .slice a12 n12 c12] 24) = W) := ⟨_, Lib.hid rfl⟩
          have A12 : Hid (AQ W10 W12) := by rw [← hW12.out]; exact Lib.hid (AQ.alloc b11 _)
          have Q12 : Hid (AQ W1 W12) := Lib.hid (AQ.later Q10.out A12.out)
          have P12 : Hid (RowAt W12 w11.heap.size 24 #[.int .i64 Ta.hd.kind, .string (bs Ta.hd.text), .string (bs Ta.hd.type), .int .i64 Ta.hd.n, .int .i64 Ta.hd.fr, .int .i64 Ta.hd.to_, .int .i64 Ta.hd.at_, .int .i64 Ta.hd.tat, .slice a12 n12 c12]) := by rw [← hW12.out]; exact Lib.hid (RowAt.new _ _ _)
          have K12 : Hid (KidsAt W12 Ta.kids (.slice a12 n12 c12)) := by rw [← hW12.out]; exact Lib.hid (k12.below ((Below.refl _ _).alloc (Nat.le_refl _) _))
          clear d0 d1 d2 d3 d4 d5 d6 d7 d8 e0 e1 e2 e3 e4 e5 e6 e7 e8 E26 b11 k12
          go_upto_region 14 with fail
          rw [hW12.out]
          have A8x : Hid (AQ W8 W12) := Lib.hid (AQ.later A10.out A12.out)
          have HS12 : Hid (∀ U, AQ W12 U → AQ W12 U ∧ U.cell? ⟨w.heap.size, 0, none⟩ = some (.int .i64 Ta.hd.kind) ∧ U.cell? ⟨w.heap.size, 1, none⟩ = some (.string (bs Ta.hd.text)) ∧ U.cell? ⟨w.heap.size, 2, none⟩ = some (.string (bs Ta.hd.type)) ∧ U.cell? ⟨w.heap.size, 3, none⟩ = some (.int .i64 Ta.hd.n) ∧ U.cell? ⟨w.heap.size, 4, none⟩ = some (.int .i64 Ta.hd.fr) ∧ U.cell? ⟨w.heap.size, 5, none⟩ = some (.int .i64 Ta.hd.to_) ∧ U.cell? ⟨w.heap.size, 6, none⟩ = some (.int .i64 Ta.hd.at_) ∧ U.cell? ⟨w.heap.size, 7, none⟩ = some (.int .i64 Ta.hd.tat) ∧ U.cell? ⟨w.heap.size, 8, none⟩ = some (.slice aa na capa) ∧ U.cell? ⟨w.heap.size + 1, 0, none⟩ = some (.int .i64 Tb.hd.kind) ∧ U.cell? ⟨w.heap.size + 1, 1, none⟩ = some (.string (bs Tb.hd.text)) ∧ U.cell? ⟨w.heap.size + 1, 2, none⟩ = some (.string (bs Tb.hd.type)) ∧ U.cell? ⟨w.heap.size + 1, 3, none⟩ = some (.int .i64 Tb.hd.n) ∧ U.cell? ⟨w.heap.size + 1, 4, none⟩ = some (.int .i64 Tb.hd.fr) ∧ U.cell? ⟨w.heap.size + 1, 5, none⟩ = some (.int .i64 Tb.hd.to_) ∧ U.cell? ⟨w.heap.size + 1, 6, none⟩ = some (.int .i64 Tb.hd.at_) ∧ U.cell? ⟨w.heap.size + 1, 7, none⟩ = some (.int .i64 Tb.hd.tat) ∧ U.cell? ⟨w.heap.size + 1, 8, none⟩ = some (.slice ab nb capb) ∧ U.cell? ⟨w5.heap.size, 0, none⟩ = some (.int .i64 gd.hd.kind) ∧ U.cell? ⟨w5.heap.size, 1, none⟩ = some (.string (bs gd.hd.text)) ∧ U.cell? ⟨w5.heap.size, 2, none⟩ = some (.string (bs gd.hd.type)) ∧ U.cell? ⟨w5.heap.size, 3, none⟩ = some (.int .i64 gd.hd.n) ∧ U.cell? ⟨w5.heap.size, 4, none⟩ = some (.int .i64 gd.hd.fr) ∧ U.cell? ⟨w5.heap.size, 5, none⟩ = some (.int .i64 gd.hd.to_) ∧ U.cell? ⟨w5.heap.size, 6, none⟩ = some (.int .i64 gd.hd.at_) ∧ U.cell? ⟨w5.heap.size, 7, none⟩ = some (.int .i64 gd.hd.tat) ∧ U.cell? ⟨w5.heap.size, 8, none⟩ = some (.slice a6 n6 c6) ∧ U.cell? ⟨w7.heap.size, 0, none⟩ = some (.int .i64 pd.hd.kind) ∧ U.cell? ⟨w7.heap.size, 1, none⟩ = some (.string (bs pd.hd.text)) ∧ U.cell? ⟨w7.heap.size, 2, none⟩ = some (.string (bs pd.hd.type)) ∧ U.cell? ⟨w7.heap.size, 3, none⟩ = some (.int .i64 pd.hd.n) ∧ U.cell? ⟨w7.heap.size, 4, none⟩ = some (.int .i64 pd.hd.fr) ∧ U.cell? ⟨w7.heap.size, 5, none⟩ = some (.int .i64 pd.hd.to_) ∧ U.cell? ⟨w7.heap.size, 6, none⟩ = some (.int .i64 pd.hd.at_) ∧ U.cell? ⟨w7.heap.size, 7, none⟩ = some (.int .i64 pd.hd.tat) ∧ U.cell? ⟨w7.heap.size, 8, none⟩ = some (.slice a8 n8 c8) ∧ U.cell? ⟨w9.heap.size, 0, none⟩ = some (.int .i64 Tb.hd.kind) ∧ U.cell? ⟨w9.heap.size, 1, none⟩ = some (.string (bs Tb.hd.text)) ∧ U.cell? ⟨w9.heap.size, 2, none⟩ = some (.string (bs Tb.hd.type)) ∧ U.cell? ⟨w9.heap.size, 3, none⟩ = some (.int .i64 Tb.hd.n) ∧ U.cell? ⟨w9.heap.size, 4, none⟩ = some (.int .i64 Tb.hd.fr) ∧ U.cell? ⟨w9.heap.size, 5, none⟩ = some (.int .i64 Tb.hd.to_) ∧ U.cell? ⟨w9.heap.size, 6, none⟩ = some (.int .i64 Tb.hd.at_) ∧ U.cell? ⟨w9.heap.size, 7, none⟩ = some (.int .i64 Tb.hd.tat) ∧ U.cell? ⟨w9.heap.size, 8, none⟩ = some (.slice a10 n10 c10) ∧ U.cell? ⟨w11.heap.size, 0, none⟩ = some (.int .i64 Ta.hd.kind) ∧ U.cell? ⟨w11.heap.size, 1, none⟩ = some (.string (bs Ta.hd.text)) ∧ U.cell? ⟨w11.heap.size, 2, none⟩ = some (.string (bs Ta.hd.type)) ∧ U.cell? ⟨w11.heap.size, 3, none⟩ = some (.int .i64 Ta.hd.n) ∧ U.cell? ⟨w11.heap.size, 4, none⟩ = some (.int .i64 Ta.hd.fr) ∧ U.cell? ⟨w11.heap.size, 5, none⟩ = some (.int .i64 Ta.hd.to_) ∧ U.cell? ⟨w11.heap.size, 6, none⟩ = some (.int .i64 Ta.hd.at_) ∧ U.cell? ⟨w11.heap.size, 7, none⟩ = some (.int .i64 Ta.hd.tat) ∧ U.cell? ⟨w11.heap.size, 8, none⟩ = some (.slice a12 n12 c12)) := Lib.hid (fun U hU => by
            obtain ⟨-, d0, d1, d2, d3, d4, d5, d6, d7, d8, e0, e1, e2, e3, e4, e5, e6, e7, e8⟩ := HS.out U (AQ.later Q12.out hU)
            obtain ⟨f0, f1, f2, f3, f4, f5, f6, f7, f8⟩ := (show Cells U w5.heap.size 0 gd.hd (.slice a6 n6 c6) from Cells.row (PG.out _ (AQ.later A8x.out hU)))
            obtain ⟨g0, g1, g2, g3, g4, g5, g6, g7, g8⟩ := (show Cells U w7.heap.size 0 pd.hd (.slice a8 n8 c8) from Cells.row (PP.out _ (AQ.later A8x.out hU)))
            obtain ⟨h0, h1, h2, h3, h4, h5, h6, h7, h8⟩ := (show Cells U w9.heap.size 0 Tb.hd (.slice a10 n10 c10) from Cells.row (P10.out.later (AQ.later A12.out hU)))
            obtain ⟨i0, i1, i2, i3, i4, i5, i6, i7, i8⟩ := (show Cells U w11.heap.size 0 Ta.hd (.slice a12 n12 c12) from Cells.row (P12.out.later hU))
            simp only [Nat.zero_add] at f1 f2 f3 f4 f5 f6 f7 f8
            simp only [Nat.zero_add] at g1 g2 g3 g4 g5 g6 g7 g8
            simp only [Nat.zero_add] at h1 h2 h3 h4 h5 h6 h7 h8
            simp only [Nat.zero_add] at i1 i2 i3 i4 i5 i6 i7 i8
            exact ⟨hU, d0, d1, d2, d3, d4, d5, d6, d7, d8, e0, e1, e2, e3, e4, e5, e6, e7, e8, f0, f1, f2, f3, f4, f5, f6, f7, f8, g0, g1, g2, g3, g4, g5, g6, g7, g8, h0, h1, h2, h3, h4, h5, h6, h7, h8, i0, i1, i2, i3, i4, i5, i6, i7, i8⟩)
          have C10a : Hid (∀ U, AQ W12 U → Calls Try.prog 10 #[.agg #[.int .i64 Tb.hd.kind, .string (bs Tb.hd.text), .string (bs Tb.hd.type), .int .i64 Tb.hd.n, .int .i64 Tb.hd.fr, .int .i64 Tb.hd.to_, .int .i64 Tb.hd.at_, .int .i64 Tb.hd.tat, .slice a10 n10 c10], .agg #[.int .i64 Tb.hd.kind, .string (bs Tb.hd.text), .string (bs Tb.hd.type), .int .i64 Tb.hd.n, .int .i64 Tb.hd.fr, .int .i64 Tb.hd.to_, .int .i64 Tb.hd.at_, .int .i64 Tb.hd.tat, .slice ab nb capb]] U fun e w' => e = .returned (.bool true) ∧ Below U.heap.size U w') := Lib.hid (fun U hU => (Exact_at U Tb (.slice a10 n10 c10) (K10.out.below (AQ.later A12.out hU)) U (Below.refl _ _) Tb (.slice ab nb capb) (KB.out U (AQ.later Q12.out hU))).mono fun e w' h => ⟨cmp_yes h.1 rfl, h.2⟩)
          have C10b : Hid (∀ U, AQ W12 U → Calls Try.prog 10 #[.agg #[.int .i64 Ta.hd.kind, .string (bs Ta.hd.text), .string (bs Ta.hd.type), .int .i64 Ta.hd.n, .int .i64 Ta.hd.fr, .int .i64 Ta.hd.to_, .int .i64 Ta.hd.at_, .int .i64 Ta.hd.tat, .slice a12 n12 c12], .agg #[.int .i64 Ta.hd.kind, .string (bs Ta.hd.text), .string (bs Ta.hd.type), .int .i64 Ta.hd.n, .int .i64 Ta.hd.fr, .int .i64 Ta.hd.to_, .int .i64 Ta.hd.at_, .int .i64 Ta.hd.tat, .slice aa na capa]] U fun e w' => e = .returned (.bool true) ∧ Below U.heap.size U w') := Lib.hid (fun U hU => (Exact_at U Ta (.slice a12 n12 c12) (K12.out.below hU) U (Below.refl _ _) Ta (.slice aa na capa) (KA.out U (AQ.later Q12.out hU))).mono fun e w' h => ⟨cmp_yes h.1 rfl, h.2⟩)
          obtain ⟨cp, hcp⟩ : ∃ n, Hid (pd.cnt = n) := ⟨_, Lib.hid rfl⟩
          obtain ⟨cg, hcg⟩ : ∃ n, Hid (gd.cnt = n) := ⟨_, Lib.hid rfl⟩
          obtain ⟨ca, hca⟩ : ∃ n, Hid (Ta.cnt = n) := ⟨_, Lib.hid rfl⟩
          obtain ⟨cb, hcb⟩ : ∃ n, Hid (Tb.cnt = n) := ⟨_, Lib.hid rfl⟩
          have i1 : IntKind.i64.wrap ((ca : Int) - (cg : Int)) = (ca : Int) - (cg : Int) := Go.IntWalk.i64_in _ (by have h1 := Hgb.out; have h2 := hcA.out; rw [hcg.out] at h1; rw [hca.out] at h2; omega)
          have i2 : IntKind.i64.wrap ((ca : Int) - (cg : Int) + (cb : Int)) = (cp : Int) := by
            have h1 := hcnt.out
            have h2 := Hpb.out
            rw [hcp.out, hcg.out, hca.out, hcb.out] at h1
            rw [hcp.out] at h2
            rw [show (ca : Int) - (cg : Int) + (cb : Int) = (cp : Int) by omega]
            exact Go.IntWalk.i64_in _ (by omega)
          have C11p : Hid (∀ U, AQ W12 U → Calls Try.prog 11 #[.agg #[.int .i64 pd.hd.kind, .string (bs pd.hd.text), .string (bs pd.hd.type), .int .i64 pd.hd.n, .int .i64 pd.hd.fr, .int .i64 pd.hd.to_, .int .i64 pd.hd.at_, .int .i64 pd.hd.tat, .slice a8 n8 c8]] U fun e w' => e = .returned (.int .i64 (cp : Nat)) ∧ Below U.heap.size U w') := Lib.hid (fun U hU => by rw [← hcp.out]; exact Count_any pd (.slice a8 n8 c8) U Hpb.out (KP.out U (AQ.later A8x.out hU)))
          have C11g : Hid (∀ U, AQ W12 U → Calls Try.prog 11 #[.agg #[.int .i64 gd.hd.kind, .string (bs gd.hd.text), .string (bs gd.hd.type), .int .i64 gd.hd.n, .int .i64 gd.hd.fr, .int .i64 gd.hd.to_, .int .i64 gd.hd.at_, .int .i64 gd.hd.tat, .slice a6 n6 c6]] U fun e w' => e = .returned (.int .i64 (cg : Nat)) ∧ Below U.heap.size U w') := Lib.hid (fun U hU => by rw [← hcg.out]; exact Count_any gd (.slice a6 n6 c6) U Hgb.out (KG.out U (AQ.later A8x.out hU)))
          have C11a : Hid (∀ U, AQ W12 U → Calls Try.prog 11 #[.agg #[.int .i64 Ta.hd.kind, .string (bs Ta.hd.text), .string (bs Ta.hd.type), .int .i64 Ta.hd.n, .int .i64 Ta.hd.fr, .int .i64 Ta.hd.to_, .int .i64 Ta.hd.at_, .int .i64 Ta.hd.tat, .slice aa na capa]] U fun e w' => e = .returned (.int .i64 (ca : Nat)) ∧ Below U.heap.size U w') := Lib.hid (fun U hU => by rw [← hca.out]; exact Count_any Ta (.slice aa na capa) U hma (KA.out U (AQ.later Q12.out hU)))
          have C11b : Hid (∀ U, AQ W12 U → Calls Try.prog 11 #[.agg #[.int .i64 Tb.hd.kind, .string (bs Tb.hd.text), .string (bs Tb.hd.type), .int .i64 Tb.hd.n, .int .i64 Tb.hd.fr, .int .i64 Tb.hd.to_, .int .i64 Tb.hd.at_, .int .i64 Tb.hd.tat, .slice ab nb capb]] U fun e w' => e = .returned (.int .i64 (cb : Nat)) ∧ Below U.heap.size U w') := Lib.hid (fun U hU => by rw [← hcb.out]; exact Count_any Tb (.slice ab nb capb) U hmb (KB.out U (AQ.later Q12.out hU)))
          have HF : Hid (∀ p : InC W12, p.w.cell? ⟨w.heap.size, 0, none⟩ = some (.int .i64 Ta.hd.kind) ∧ p.w.cell? ⟨w.heap.size, 1, none⟩ = some (.string (bs Ta.hd.text)) ∧ p.w.cell? ⟨w.heap.size, 2, none⟩ = some (.string (bs Ta.hd.type)) ∧ p.w.cell? ⟨w.heap.size, 3, none⟩ = some (.int .i64 Ta.hd.n) ∧ p.w.cell? ⟨w.heap.size, 4, none⟩ = some (.int .i64 Ta.hd.fr) ∧ p.w.cell? ⟨w.heap.size, 5, none⟩ = some (.int .i64 Ta.hd.to_) ∧ p.w.cell? ⟨w.heap.size, 6, none⟩ = some (.int .i64 Ta.hd.at_) ∧ p.w.cell? ⟨w.heap.size, 7, none⟩ = some (.int .i64 Ta.hd.tat) ∧ p.w.cell? ⟨w.heap.size, 8, none⟩ = some (.slice aa na capa) ∧ p.w.cell? ⟨w.heap.size + 1, 0, none⟩ = some (.int .i64 Tb.hd.kind) ∧ p.w.cell? ⟨w.heap.size + 1, 1, none⟩ = some (.string (bs Tb.hd.text)) ∧ p.w.cell? ⟨w.heap.size + 1, 2, none⟩ = some (.string (bs Tb.hd.type)) ∧ p.w.cell? ⟨w.heap.size + 1, 3, none⟩ = some (.int .i64 Tb.hd.n) ∧ p.w.cell? ⟨w.heap.size + 1, 4, none⟩ = some (.int .i64 Tb.hd.fr) ∧ p.w.cell? ⟨w.heap.size + 1, 5, none⟩ = some (.int .i64 Tb.hd.to_) ∧ p.w.cell? ⟨w.heap.size + 1, 6, none⟩ = some (.int .i64 Tb.hd.at_) ∧ p.w.cell? ⟨w.heap.size + 1, 7, none⟩ = some (.int .i64 Tb.hd.tat) ∧ p.w.cell? ⟨w.heap.size + 1, 8, none⟩ = some (.slice ab nb capb) ∧ p.w.cell? ⟨w5.heap.size, 0, none⟩ = some (.int .i64 gd.hd.kind) ∧ p.w.cell? ⟨w5.heap.size, 1, none⟩ = some (.string (bs gd.hd.text)) ∧ p.w.cell? ⟨w5.heap.size, 2, none⟩ = some (.string (bs gd.hd.type)) ∧ p.w.cell? ⟨w5.heap.size, 3, none⟩ = some (.int .i64 gd.hd.n) ∧ p.w.cell? ⟨w5.heap.size, 4, none⟩ = some (.int .i64 gd.hd.fr) ∧ p.w.cell? ⟨w5.heap.size, 5, none⟩ = some (.int .i64 gd.hd.to_) ∧ p.w.cell? ⟨w5.heap.size, 6, none⟩ = some (.int .i64 gd.hd.at_) ∧ p.w.cell? ⟨w5.heap.size, 7, none⟩ = some (.int .i64 gd.hd.tat) ∧ p.w.cell? ⟨w5.heap.size, 8, none⟩ = some (.slice a6 n6 c6) ∧ p.w.cell? ⟨w7.heap.size, 0, none⟩ = some (.int .i64 pd.hd.kind) ∧ p.w.cell? ⟨w7.heap.size, 1, none⟩ = some (.string (bs pd.hd.text)) ∧ p.w.cell? ⟨w7.heap.size, 2, none⟩ = some (.string (bs pd.hd.type)) ∧ p.w.cell? ⟨w7.heap.size, 3, none⟩ = some (.int .i64 pd.hd.n) ∧ p.w.cell? ⟨w7.heap.size, 4, none⟩ = some (.int .i64 pd.hd.fr) ∧ p.w.cell? ⟨w7.heap.size, 5, none⟩ = some (.int .i64 pd.hd.to_) ∧ p.w.cell? ⟨w7.heap.size, 6, none⟩ = some (.int .i64 pd.hd.at_) ∧ p.w.cell? ⟨w7.heap.size, 7, none⟩ = some (.int .i64 pd.hd.tat) ∧ p.w.cell? ⟨w7.heap.size, 8, none⟩ = some (.slice a8 n8 c8) ∧ p.w.cell? ⟨w9.heap.size, 0, none⟩ = some (.int .i64 Tb.hd.kind) ∧ p.w.cell? ⟨w9.heap.size, 1, none⟩ = some (.string (bs Tb.hd.text)) ∧ p.w.cell? ⟨w9.heap.size, 2, none⟩ = some (.string (bs Tb.hd.type)) ∧ p.w.cell? ⟨w9.heap.size, 3, none⟩ = some (.int .i64 Tb.hd.n) ∧ p.w.cell? ⟨w9.heap.size, 4, none⟩ = some (.int .i64 Tb.hd.fr) ∧ p.w.cell? ⟨w9.heap.size, 5, none⟩ = some (.int .i64 Tb.hd.to_) ∧ p.w.cell? ⟨w9.heap.size, 6, none⟩ = some (.int .i64 Tb.hd.at_) ∧ p.w.cell? ⟨w9.heap.size, 7, none⟩ = some (.int .i64 Tb.hd.tat) ∧ p.w.cell? ⟨w9.heap.size, 8, none⟩ = some (.slice a10 n10 c10) ∧ p.w.cell? ⟨w11.heap.size, 0, none⟩ = some (.int .i64 Ta.hd.kind) ∧ p.w.cell? ⟨w11.heap.size, 1, none⟩ = some (.string (bs Ta.hd.text)) ∧ p.w.cell? ⟨w11.heap.size, 2, none⟩ = some (.string (bs Ta.hd.type)) ∧ p.w.cell? ⟨w11.heap.size, 3, none⟩ = some (.int .i64 Ta.hd.n) ∧ p.w.cell? ⟨w11.heap.size, 4, none⟩ = some (.int .i64 Ta.hd.fr) ∧ p.w.cell? ⟨w11.heap.size, 5, none⟩ = some (.int .i64 Ta.hd.to_) ∧ p.w.cell? ⟨w11.heap.size, 6, none⟩ = some (.int .i64 Ta.hd.at_) ∧ p.w.cell? ⟨w11.heap.size, 7, none⟩ = some (.int .i64 Ta.hd.tat) ∧ p.w.cell? ⟨w11.heap.size, 8, none⟩ = some (.slice a12 n12 c12)) := Lib.hid (fun p => (HS12.out p.w p.h).2)
          have x0 := fun p : InC W12 => (HF.out p).1
          have x1 := fun p : InC W12 => (HF.out p).2.1
          have x2 := fun p : InC W12 => (HF.out p).2.2.1
          have x3 := fun p : InC W12 => (HF.out p).2.2.2.1
          have x4 := fun p : InC W12 => (HF.out p).2.2.2.2.1
          have x5 := fun p : InC W12 => (HF.out p).2.2.2.2.2.1
          have x6 := fun p : InC W12 => (HF.out p).2.2.2.2.2.2.1
          have x7 := fun p : InC W12 => (HF.out p).2.2.2.2.2.2.2.1
          have x8 := fun p : InC W12 => (HF.out p).2.2.2.2.2.2.2.2.1
          have x9 := fun p : InC W12 => (HF.out p).2.2.2.2.2.2.2.2.2.1
          have x10 := fun p : InC W12 => (HF.out p).2.2.2.2.2.2.2.2.2.2.1
          have x11 := fun p : InC W12 => (HF.out p).2.2.2.2.2.2.2.2.2.2.2.1
          have x12 := fun p : InC W12 => (HF.out p).2.2.2.2.2.2.2.2.2.2.2.2.1
          have x13 := fun p : InC W12 => (HF.out p).2.2.2.2.2.2.2.2.2.2.2.2.2.1
          have x14 := fun p : InC W12 => (HF.out p).2.2.2.2.2.2.2.2.2.2.2.2.2.2.1
          have x15 := fun p : InC W12 => (HF.out p).2.2.2.2.2.2.2.2.2.2.2.2.2.2.2.1
          have x16 := fun p : InC W12 => (HF.out p).2.2.2.2.2.2.2.2.2.2.2.2.2.2.2.2.1
          have x17 := fun p : InC W12 => (HF.out p).2.2.2.2.2.2.2.2.2.2.2.2.2.2.2.2.2.1
          have x18 := fun p : InC W12 => (HF.out p).2.2.2.2.2.2.2.2.2.2.2.2.2.2.2.2.2.2.1
          have x19 := fun p : InC W12 => (HF.out p).2.2.2.2.2.2.2.2.2.2.2.2.2.2.2.2.2.2.2.1
          have x20 := fun p : InC W12 => (HF.out p).2.2.2.2.2.2.2.2.2.2.2.2.2.2.2.2.2.2.2.2.1
          have x21 := fun p : InC W12 => (HF.out p).2.2.2.2.2.2.2.2.2.2.2.2.2.2.2.2.2.2.2.2.2.1
          have x22 := fun p : InC W12 => (HF.out p).2.2.2.2.2.2.2.2.2.2.2.2.2.2.2.2.2.2.2.2.2.2.1
          have x23 := fun p : InC W12 => (HF.out p).2.2.2.2.2.2.2.2.2.2.2.2.2.2.2.2.2.2.2.2.2.2.2.1
          have x24 := fun p : InC W12 => (HF.out p).2.2.2.2.2.2.2.2.2.2.2.2.2.2.2.2.2.2.2.2.2.2.2.2.1
          have x25 := fun p : InC W12 => (HF.out p).2.2.2.2.2.2.2.2.2.2.2.2.2.2.2.2.2.2.2.2.2.2.2.2.2.1
          have x26 := fun p : InC W12 => (HF.out p).2.2.2.2.2.2.2.2.2.2.2.2.2.2.2.2.2.2.2.2.2.2.2.2.2.2.1
          have x27 := fun p : InC W12 => (HF.out p).2.2.2.2.2.2.2.2.2.2.2.2.2.2.2.2.2.2.2.2.2.2.2.2.2.2.2.1
          have x28 := fun p : InC W12 => (HF.out p).2.2.2.2.2.2.2.2.2.2.2.2.2.2.2.2.2.2.2.2.2.2.2.2.2.2.2.2.1
          have x29 := fun p : InC W12 => (HF.out p).2.2.2.2.2.2.2.2.2.2.2.2.2.2.2.2.2.2.2.2.2.2.2.2.2.2.2.2.2.1
          have x30 := fun p : InC W12 => (HF.out p).2.2.2.2.2.2.2.2.2.2.2.2.2.2.2.2.2.2.2.2.2.2.2.2.2.2.2.2.2.2.1
          have x31 := fun p : InC W12 => (HF.out p).2.2.2.2.2.2.2.2.2.2.2.2.2.2.2.2.2.2.2.2.2.2.2.2.2.2.2.2.2.2.2.1
          have x32 := fun p : InC W12 => (HF.out p).2.2.2.2.2.2.2.2.2.2.2.2.2.2.2.2.2.2.2.2.2.2.2.2.2.2.2.2.2.2.2.2.1
          have x33 := fun p : InC W12 => (HF.out p).2.2.2.2.2.2.2.2.2.2.2.2.2.2.2.2.2.2.2.2.2.2.2.2.2.2.2.2.2.2.2.2.2.1
          have x34 := fun p : InC W12 => (HF.out p).2.2.2.2.2.2.2.2.2.2.2.2.2.2.2.2.2.2.2.2.2.2.2.2.2.2.2.2.2.2.2.2.2.2.1
          have x35 := fun p : InC W12 => (HF.out p).2.2.2.2.2.2.2.2.2.2.2.2.2.2.2.2.2.2.2.2.2.2.2.2.2.2.2.2.2.2.2.2.2.2.2.1
          have x36 := fun p : InC W12 => (HF.out p).2.2.2.2.2.2.2.2.2.2.2.2.2.2.2.2.2.2.2.2.2.2.2.2.2.2.2.2.2.2.2.2.2.2.2.2.1
          have x37 := fun p : InC W12 => (HF.out p).2.2.2.2.2.2.2.2.2.2.2.2.2.2.2.2.2.2.2.2.2.2.2.2.2.2.2.2.2.2.2.2.2.2.2.2.2.1
          have x38 := fun p : InC W12 => (HF.out p).2.2.2.2.2.2.2.2.2.2.2.2.2.2.2.2.2.2.2.2.2.2.2.2.2.2.2.2.2.2.2.2.2.2.2.2.2.2.1
          have x39 := fun p : InC W12 => (HF.out p).2.2.2.2.2.2.2.2.2.2.2.2.2.2.2.2.2.2.2.2.2.2.2.2.2.2.2.2.2.2.2.2.2.2.2.2.2.2.2.1
          have x40 := fun p : InC W12 => (HF.out p).2.2.2.2.2.2.2.2.2.2.2.2.2.2.2.2.2.2.2.2.2.2.2.2.2.2.2.2.2.2.2.2.2.2.2.2.2.2.2.2.1
          have x41 := fun p : InC W12 => (HF.out p).2.2.2.2.2.2.2.2.2.2.2.2.2.2.2.2.2.2.2.2.2.2.2.2.2.2.2.2.2.2.2.2.2.2.2.2.2.2.2.2.2.1
          have x42 := fun p : InC W12 => (HF.out p).2.2.2.2.2.2.2.2.2.2.2.2.2.2.2.2.2.2.2.2.2.2.2.2.2.2.2.2.2.2.2.2.2.2.2.2.2.2.2.2.2.2.1
          have x43 := fun p : InC W12 => (HF.out p).2.2.2.2.2.2.2.2.2.2.2.2.2.2.2.2.2.2.2.2.2.2.2.2.2.2.2.2.2.2.2.2.2.2.2.2.2.2.2.2.2.2.2.1
          have x44 := fun p : InC W12 => (HF.out p).2.2.2.2.2.2.2.2.2.2.2.2.2.2.2.2.2.2.2.2.2.2.2.2.2.2.2.2.2.2.2.2.2.2.2.2.2.2.2.2.2.2.2.2.1
          have x45 := fun p : InC W12 => (HF.out p).2.2.2.2.2.2.2.2.2.2.2.2.2.2.2.2.2.2.2.2.2.2.2.2.2.2.2.2.2.2.2.2.2.2.2.2.2.2.2.2.2.2.2.2.2.1
          have x46 := fun p : InC W12 => (HF.out p).2.2.2.2.2.2.2.2.2.2.2.2.2.2.2.2.2.2.2.2.2.2.2.2.2.2.2.2.2.2.2.2.2.2.2.2.2.2.2.2.2.2.2.2.2.2.1
          have x47 := fun p : InC W12 => (HF.out p).2.2.2.2.2.2.2.2.2.2.2.2.2.2.2.2.2.2.2.2.2.2.2.2.2.2.2.2.2.2.2.2.2.2.2.2.2.2.2.2.2.2.2.2.2.2.2.1
          have x48 := fun p : InC W12 => (HF.out p).2.2.2.2.2.2.2.2.2.2.2.2.2.2.2.2.2.2.2.2.2.2.2.2.2.2.2.2.2.2.2.2.2.2.2.2.2.2.2.2.2.2.2.2.2.2.2.2.1
          have x49 := fun p : InC W12 => (HF.out p).2.2.2.2.2.2.2.2.2.2.2.2.2.2.2.2.2.2.2.2.2.2.2.2.2.2.2.2.2.2.2.2.2.2.2.2.2.2.2.2.2.2.2.2.2.2.2.2.2.1
          have x50 := fun p : InC W12 => (HF.out p).2.2.2.2.2.2.2.2.2.2.2.2.2.2.2.2.2.2.2.2.2.2.2.2.2.2.2.2.2.2.2.2.2.2.2.2.2.2.2.2.2.2.2.2.2.2.2.2.2.2.1
          have x51 := fun p : InC W12 => (HF.out p).2.2.2.2.2.2.2.2.2.2.2.2.2.2.2.2.2.2.2.2.2.2.2.2.2.2.2.2.2.2.2.2.2.2.2.2.2.2.2.2.2.2.2.2.2.2.2.2.2.2.2.1
          have x52 := fun p : InC W12 => (HF.out p).2.2.2.2.2.2.2.2.2.2.2.2.2.2.2.2.2.2.2.2.2.2.2.2.2.2.2.2.2.2.2.2.2.2.2.2.2.2.2.2.2.2.2.2.2.2.2.2.2.2.2.2.1
          have x53 := fun p : InC W12 => (HF.out p).2.2.2.2.2.2.2.2.2.2.2.2.2.2.2.2.2.2.2.2.2.2.2.2.2.2.2.2.2.2.2.2.2.2.2.2.2.2.2.2.2.2.2.2.2.2.2.2.2.2.2.2.2
          refine wp_region_quiet_in W12 (Below.refl _ _) (by kernel_rfl) (by kernel_rfl) ?_
          repeat (quiet_step (first | (go_at_call 10; with_reducible exact quiet_in (C10a.out _ (InC.aq _))) | (go_at_call 10; with_reducible exact quiet_in (C10b.out _ (InC.aq _))) | (go_at_call 11; with_reducible exact quiet_in (C11p.out _ (InC.aq _))) | (go_at_call 11; with_reducible exact quiet_in (C11g.out _ (InC.aq _))) | (go_at_call 11; with_reducible exact quiet_in (C11a.out _ (InC.aq _))) | (go_at_call 11; with_reducible exact quiet_in (C11b.out _ (InC.aq _)))))
          refine wpQuiet_nil ?_
          intro _ hw'
          obtain ⟨⟨U, hU⟩, rfl⟩ := hw'
          have Hend := Lib.hid (BW.out _ (AQ.later Q12.out hU))
          clear hU
          go_wp2_with fail
          go_ret
          exact ⟨rfl, Hend.out⟩
end Go.Proofs.Ytpnfjiglphogoac
