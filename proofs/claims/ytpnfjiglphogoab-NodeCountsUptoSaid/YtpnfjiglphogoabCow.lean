/-
  For the laws of node: the walk of NodeCounts. Condition: at most 2,000,000 nodes in each tree.
-/
import Derived.Test.YtpnfjiglphogoabAwk
namespace Go.Proofs.Ytpnfjiglphogoab
open Go.RowKit Go.Shelf
set_option linter.unusedSimpArgs false
set_option linter.unusedVariables false

set_option maxRecDepth 100000 in
set_option maxHeartbeats 16000000 in
theorem Counts_any (Ta Tb : Nd) (va vb : Value) (kind : Int) (w : World) (hma : Ta.cnt ≤ 2000000) (hmb : Tb.cnt ≤ 2000000) (hka : KidsAt w Ta.kids va) (hkb : KidsAt w Tb.kids vb) :
    Calls Try.prog 3 #[.agg #[.int .i64 Ta.hd.kind, .string (bs Ta.hd.text), .string (bs Ta.hd.type), .int .i64 Ta.hd.n, .int .i64 Ta.hd.fr, .int .i64 Ta.hd.to_, .int .i64 Ta.hd.at_, .int .i64 Ta.hd.tat, va], .agg #[.int .i64 Tb.hd.kind, .string (bs Tb.hd.text), .string (bs Tb.hd.type), .int .i64 Tb.hd.n, .int .i64 Tb.hd.fr, .int .i64 Tb.hd.to_, .int .i64 Tb.hd.at_, .int .i64 Tb.hd.tat, vb], .int .i64 kind] w fun e w' => e = .returned (.bool true) ∧ Below w.heap.size w w' := by
  have HA := Lib.hid hka
  have HB := Lib.hid hkb
  obtain ⟨aa, capa, rfl, -⟩ := hka.get
  obtain ⟨ab, capb, rfl, -⟩ := hkb.get
  clear hka hkb
  obtain ⟨na, hna⟩ : ∃ n, Hid (Ta.kids.length = n) := ⟨_, Lib.hid rfl⟩
  obtain ⟨nb, hnb⟩ : ∃ n, Hid (Tb.kids.length = n) := ⟨_, Lib.hid rfl⟩
  rw [hna.out] at HA
  rw [hnb.out] at HB
  rw [hna.out, hnb.out]
  obtain ⟨W1, hW1⟩ : ∃ W1, Hid ((w.alloc (.cells #[.int .i64 Ta.hd.kind, .string (bs Ta.hd.text), .string (bs Ta.hd.type), .int .i64 Ta.hd.n, .int .i64 Ta.hd.fr, .int .i64 Ta.hd.to_, .int .i64 Ta.hd.at_, .int .i64 Ta.hd.tat, .slice aa na capa] 24)).alloc (.cells #[.int .i64 Tb.hd.kind, .string (bs Tb.hd.text), .string (bs Tb.hd.type), .int .i64 Tb.hd.n, .int .i64 Tb.hd.fr, .int .i64 Tb.hd.to_, .int .i64 Tb.hd.at_, .int .i64 Tb.hd.tat, .slice ab nb capb] 24) = W1) := ⟨_, Lib.hid rfl⟩
  have B1 : Hid (Below w.heap.size w W1) := by rw [← hW1.out]; exact Lib.hid (((Below.refl _ w).alloc (Nat.le_refl _) _).alloc (by simp) _)
  have hs1 : W1.heap.size = w.heap.size + 2 := by rw [← hW1.out]; simp
  have R1 : Hid (RowAt W1 w.heap.size 24 #[.int .i64 Ta.hd.kind, .string (bs Ta.hd.text), .string (bs Ta.hd.type), .int .i64 Ta.hd.n, .int .i64 Ta.hd.fr, .int .i64 Ta.hd.to_, .int .i64 Ta.hd.at_, .int .i64 Ta.hd.tat, .slice aa na capa]) := by rw [← hW1.out]; exact Lib.hid ((RowAt.new w 24 #[.int .i64 Ta.hd.kind, .string (bs Ta.hd.text), .string (bs Ta.hd.type), .int .i64 Ta.hd.n, .int .i64 Ta.hd.fr, .int .i64 Ta.hd.to_, .int .i64 Ta.hd.at_, .int .i64 Ta.hd.tat, .slice aa na capa]).alloc _)
  have R2 : Hid (RowAt W1 (w.heap.size + 1) 24 #[.int .i64 Tb.hd.kind, .string (bs Tb.hd.text), .string (bs Tb.hd.type), .int .i64 Tb.hd.n, .int .i64 Tb.hd.fr, .int .i64 Tb.hd.to_, .int .i64 Tb.hd.at_, .int .i64 Tb.hd.tat, .slice ab nb capb]) := by
    rw [← hW1.out]
    have := RowAt.new (w.alloc (.cells #[.int .i64 Ta.hd.kind, .string (bs Ta.hd.text), .string (bs Ta.hd.type), .int .i64 Ta.hd.n, .int .i64 Ta.hd.fr, .int .i64 Ta.hd.to_, .int .i64 Ta.hd.at_, .int .i64 Ta.hd.tat, .slice aa na capa] 24)) 24 #[.int .i64 Tb.hd.kind, .string (bs Tb.hd.text), .string (bs Tb.hd.type), .int .i64 Tb.hd.n, .int .i64 Tb.hd.fr, .int .i64 Tb.hd.to_, .int .i64 Tb.hd.at_, .int .i64 Tb.hd.tat, .slice ab nb capb]
    rw [World.size_alloc] at this
    exact Lib.hid this
  have HS : Hid (∀ U, AQ W1 U → AQ W1 U ∧ U.cell? ⟨w.heap.size, 0, none⟩ = some (.int .i64 Ta.hd.kind) ∧ U.cell? ⟨w.heap.size, 1, none⟩ = some (.string (bs Ta.hd.text)) ∧ U.cell? ⟨w.heap.size, 2, none⟩ = some (.string (bs Ta.hd.type)) ∧ U.cell? ⟨w.heap.size, 3, none⟩ = some (.int .i64 Ta.hd.n) ∧ U.cell? ⟨w.heap.size, 4, none⟩ = some (.int .i64 Ta.hd.fr) ∧ U.cell? ⟨w.heap.size, 5, none⟩ = some (.int .i64 Ta.hd.to_) ∧ U.cell? ⟨w.heap.size, 6, none⟩ = some (.int .i64 Ta.hd.at_) ∧ U.cell? ⟨w.heap.size, 7, none⟩ = some (.int .i64 Ta.hd.tat) ∧ U.cell? ⟨w.heap.size, 8, none⟩ = some (.slice aa na capa) ∧ U.cell? ⟨w.heap.size + 1, 0, none⟩ = some (.int .i64 Tb.hd.kind) ∧ U.cell? ⟨w.heap.size + 1, 1, none⟩ = some (.string (bs Tb.hd.text)) ∧ U.cell? ⟨w.heap.size + 1, 2, none⟩ = some (.string (bs Tb.hd.type)) ∧ U.cell? ⟨w.heap.size + 1, 3, none⟩ = some (.int .i64 Tb.hd.n) ∧ U.cell? ⟨w.heap.size + 1, 4, none⟩ = some (.int .i64 Tb.hd.fr) ∧ U.cell? ⟨w.heap.size + 1, 5, none⟩ = some (.int .i64 Tb.hd.to_) ∧ U.cell? ⟨w.heap.size + 1, 6, none⟩ = some (.int .i64 Tb.hd.at_) ∧ U.cell? ⟨w.heap.size + 1, 7, none⟩ = some (.int .i64 Tb.hd.tat) ∧ U.cell? ⟨w.heap.size + 1, 8, none⟩ = some (.slice ab nb capb)) := Lib.hid (fun U hU => by
    have c1 := (show Cells U w.heap.size 0 Ta.hd (.slice aa na capa) from Cells.row (R1.out.later hU))
    have cp := (show Cells U (w.heap.size + 1) 0 Tb.hd (.slice ab nb capb) from Cells.row (R2.out.later hU))
    obtain ⟨d0, d1, d2, d3, d4, d5, d6, d7, d8⟩ := c1
    obtain ⟨e0, e1, e2, e3, e4, e5, e6, e7, e8⟩ := cp
    simp only [Nat.zero_add] at d1 d2 d3 d4 d5 d6 d7 d8 e1 e2 e3 e4 e5 e6 e7 e8
    exact ⟨hU, d0, d1, d2, d3, d4, d5, d6, d7, d8, e0, e1, e2, e3, e4, e5, e6, e7, e8⟩)
  have KA : Hid (∀ U, AQ W1 U → KidsAt U Ta.kids (.slice aa na capa)) := Lib.hid (fun U hU => (HA.out.below B1.out).below hU)
  have KB : Hid (∀ U, AQ W1 U → KidsAt U Tb.kids (.slice ab nb capb)) := Lib.hid (fun U hU => (HB.out.below B1.out).below hU)
  obtain ⟨q, hq⟩ : ∃ q : Bool, Hid (q = true ↔ Ta.map plainH = Tb.map plainH) := by
    by_cases h : Ta.map plainH = Tb.map plainH
    · exact ⟨true, Lib.hid ⟨fun _ => h, fun _ => rfl⟩⟩
    · exact ⟨false, Lib.hid ⟨(fun e => by cases e), fun e => absurd e h⟩⟩
  have cmpq : Hid (∀ e, CmpQ (Ta.map plainH = Tb.map plainH) e → e = .returned (.bool q)) := Lib.hid (fun e h => by
    obtain ⟨r, rfl, hr⟩ := h
    have : r = q := by
      cases r with
      | true => exact (hq.out.2 (hr.1 rfl)).symm
      | false =>
        cases q with
        | false => rfl
        | true => exact absurd (hr.2 (hq.out.1 rfl)) (by simp)
    rw [this])
  obtain ⟨N, hN⟩ : ∃ n, Hid (Ta.cnt = n) := ⟨_, Lib.hid rfl⟩
  obtain ⟨D, hD⟩ : ∃ n, Hid (Ta.ht = n) := ⟨_, Lib.hid rfl⟩
  have C8 : Hid (∀ U, AQ W1 U → Calls Try.prog 8 #[.agg #[.int .i64 Ta.hd.kind, .string (bs Ta.hd.text), .string (bs Ta.hd.type), .int .i64 Ta.hd.n, .int .i64 Ta.hd.fr, .int .i64 Ta.hd.to_, .int .i64 Ta.hd.at_, .int .i64 Ta.hd.tat, .slice aa na capa], .agg #[.int .i64 Tb.hd.kind, .string (bs Tb.hd.text), .string (bs Tb.hd.type), .int .i64 Tb.hd.n, .int .i64 Tb.hd.fr, .int .i64 Tb.hd.to_, .int .i64 Tb.hd.at_, .int .i64 Tb.hd.tat, .slice ab nb capb]] U fun e w' => e = .returned (.bool q) ∧ Below U.heap.size U w') := Lib.hid (fun U hU => (Same_any Ta Tb (.slice aa na capa) (.slice ab nb capb) U hma (KA.out U hU) (KB.out U hU)).mono fun e w' h => ⟨cmpq.out e h.1, h.2⟩)
  have C9 : Hid (∀ U, AQ W1 U → Calls Try.prog 9 #[.agg #[.int .i64 Ta.hd.kind, .string (bs Ta.hd.text), .string (bs Ta.hd.type), .int .i64 Ta.hd.n, .int .i64 Ta.hd.fr, .int .i64 Ta.hd.to_, .int .i64 Ta.hd.at_, .int .i64 Ta.hd.tat, .slice aa na capa], .agg #[.int .i64 Tb.hd.kind, .string (bs Tb.hd.text), .string (bs Tb.hd.type), .int .i64 Tb.hd.n, .int .i64 Tb.hd.fr, .int .i64 Tb.hd.to_, .int .i64 Tb.hd.at_, .int .i64 Tb.hd.tat, .slice ab nb capb]] U fun e w' => e = .returned (.bool q) ∧ Below U.heap.size U w') := Lib.hid (fun U hU => (RefSame_at U Ta (.slice aa na capa) (KA.out U hU) U (Below.refl _ _) Tb (.slice ab nb capb) (KB.out U hU)).mono fun e w' h => ⟨cmpq.out e h.1, h.2⟩)
  have C10 : Hid (∀ U, AQ W1 U → Calls Try.prog 10 #[.agg #[.int .i64 Ta.hd.kind, .string (bs Ta.hd.text), .string (bs Ta.hd.type), .int .i64 Ta.hd.n, .int .i64 Ta.hd.fr, .int .i64 Ta.hd.to_, .int .i64 Ta.hd.at_, .int .i64 Ta.hd.tat, .slice aa na capa]] U fun e w' => e = .returned (.int .i64 (N : Nat)) ∧ Below U.heap.size U w') := Lib.hid (fun U hU => by rw [← hN.out]; exact Count_any Ta (.slice aa na capa) U hma (KA.out U hU))
  have C11 : Hid (∀ U, AQ W1 U → Calls Try.prog 11 #[.agg #[.int .i64 Ta.hd.kind, .string (bs Ta.hd.text), .string (bs Ta.hd.type), .int .i64 Ta.hd.n, .int .i64 Ta.hd.fr, .int .i64 Ta.hd.to_, .int .i64 Ta.hd.at_, .int .i64 Ta.hd.tat, .slice aa na capa]] U fun e w' => e = .returned (.int .i64 (N : Nat)) ∧ Below U.heap.size U w') := Lib.hid (fun U hU => by rw [← hN.out]; exact RefCount_any Ta _ U hma ⟨_, rfl, KA.out U hU⟩)
  have C12 : Hid (∀ U, AQ W1 U → Calls Try.prog 12 #[.agg #[.int .i64 Ta.hd.kind, .string (bs Ta.hd.text), .string (bs Ta.hd.type), .int .i64 Ta.hd.n, .int .i64 Ta.hd.fr, .int .i64 Ta.hd.to_, .int .i64 Ta.hd.at_, .int .i64 Ta.hd.tat, .slice aa na capa]] U fun e w' => e = .returned (.int .i64 (D : Nat)) ∧ Below U.heap.size U w') := Lib.hid (fun U hU => by rw [← hD.out]; exact Depth_any Ta (.slice aa na capa) U hma (KA.out U hU))
  have C13 : Hid (∀ U, AQ W1 U → Calls Try.prog 13 #[.agg #[.int .i64 Ta.hd.kind, .string (bs Ta.hd.text), .string (bs Ta.hd.type), .int .i64 Ta.hd.n, .int .i64 Ta.hd.fr, .int .i64 Ta.hd.to_, .int .i64 Ta.hd.at_, .int .i64 Ta.hd.tat, .slice aa na capa]] U fun e w' => e = .returned (.int .i64 (D : Nat)) ∧ Below U.heap.size U w') := Lib.hid (fun U hU => by rw [← hD.out]; exact RefDepth_at U Ta (.slice aa na capa) (KA.out U hU) U (Below.refl _ _) hma)
  have C15 : Hid (∀ U, AQ W1 U → Calls Try.prog 15 #[.agg #[.int .i64 Ta.hd.kind, .string (bs Ta.hd.text), .string (bs Ta.hd.type), .int .i64 Ta.hd.n, .int .i64 Ta.hd.fr, .int .i64 Ta.hd.to_, .int .i64 Ta.hd.at_, .int .i64 Ta.hd.tat, .slice aa na capa], .int .i64 kind] U fun e w' => (∃ v, e = .returned v ∧ KidsAt w' (allK kind Ta) v) ∧ Below U.heap.size U w') := Lib.hid (fun U hU => All_any Ta (.slice aa na capa) kind U hma (KA.out U hU))
  have C16 : Hid (∀ U, AQ W1 U → Calls Try.prog 16 #[.agg #[.int .i64 Ta.hd.kind, .string (bs Ta.hd.text), .string (bs Ta.hd.type), .int .i64 Ta.hd.n, .int .i64 Ta.hd.fr, .int .i64 Ta.hd.to_, .int .i64 Ta.hd.at_, .int .i64 Ta.hd.tat, .slice aa na capa], .int .i64 kind] U fun e w' => (∃ v, e = .returned v ∧ KidsAt w' (allK kind Ta) v) ∧ Below U.heap.size U w') := Lib.hid (fun U hU => (All_at U kind Ta (.slice aa na capa) (KA.out U hU) U (Below.refl _ _) hma).mono fun e w' h => by
    obtain ⟨⟨v, ps, he, hp, ho⟩, hb⟩ := h
    exact ⟨⟨v, he, by rw [← hp]; exact ho.kids⟩, hb⟩)
  have C14 : Hid (∀ (U0 U : World) (v1 v2 : Value), Below U0.heap.size U0 U → KidsAt U0 (allK kind Ta) v1 → KidsAt U (allK kind Ta) v2 → Calls Try.prog 14 #[v1, v2] U fun e w' => e = .returned (.bool true) ∧ Below U.heap.size U w') := Lib.hid (fun U0 U v1 v2 hb h1 h2 => (Rows_any v1 v2 _ _ U (h1.below hb) h2).mono fun e w' h => ⟨cmp_yes h.1 rfl, h.2⟩)
  have Cfa : Hid (∀ U, AQ W1 U → Calls Try.prog 7 #[.agg #[.int .i64 Ta.hd.kind, .string (bs Ta.hd.text), .string (bs Ta.hd.type), .int .i64 Ta.hd.n, .int .i64 Ta.hd.fr, .int .i64 Ta.hd.to_, .int .i64 Ta.hd.at_, .int .i64 Ta.hd.tat, .slice aa na capa]] U fun e w' => e = .returned (.bool (fewN Ta)) ∧ Below U.heap.size U w') := Lib.hid (fun U hU => few_any Ta _ U hma ⟨_, rfl, KA.out U hU⟩)
  have Cfb : Hid (∀ U, AQ W1 U → Calls Try.prog 7 #[.agg #[.int .i64 Tb.hd.kind, .string (bs Tb.hd.text), .string (bs Tb.hd.type), .int .i64 Tb.hd.n, .int .i64 Tb.hd.fr, .int .i64 Tb.hd.to_, .int .i64 Tb.hd.at_, .int .i64 Tb.hd.tat, .slice ab nb capb]] U fun e w' => e = .returned (.bool (fewN Tb)) ∧ Below U.heap.size U w') := Lib.hid (fun U hU => few_any Tb _ U hmb ⟨_, rfl, KB.out U hU⟩)
  obtain ⟨fa, hfa⟩ : ∃ f, Hid (fewN Ta = f) := ⟨_, Lib.hid rfl⟩
  obtain ⟨fb, hfb⟩ : ∃ f, Hid (fewN Tb = f) := ⟨_, Lib.hid rfl⟩
  rw [hfa.out] at Cfa
  rw [hfb.out] at Cfb
  go_enter Try.func3, Try.ntmps3
  go_wp2_with fail
  rw [hW1.out]
  refine (awake_any _).mono ?_
  rintro e w2 ⟨rfl, b2⟩
  have Q2 : Hid (AQ W1 w2) := Lib.hid b2
  have S2 := HS.out w2 b2
  obtain ⟨-, d0, d1, d2, d3, d4, d5, d6, d7, d8, -⟩ := S2
  clear b2
  go_wp2_with fail
  refine (Cfa.out _ Q2.out).mono ?_
  rintro e w3 ⟨rfl, b3⟩
  have Q3 : Hid (AQ W1 w3) := Lib.hid (AQ.later Q2.out b3)
  clear d0 d1 d2 d3 d4 d5 d6 d7 d8 b3
  have S3 := HS.out w3 Q3.out
  obtain ⟨-, -, -, -, -, -, -, -, -, -, d0, d1, d2, d3, d4, d5, d6, d7, d8⟩ := S3
  go_wp2_with fail
  refine (Cfb.out _ Q3.out).mono ?_
  rintro e w4 ⟨rfl, b4⟩
  have Q4 : Hid (AQ W1 w4) := Lib.hid (AQ.later Q3.out b4)
  clear d0 d1 d2 d3 d4 d5 d6 d7 d8 b4
  cases fa with
  | false =>
    go_wp2_with fail
    go_ret
    exact ⟨rfl, B1.out.trans (Below.mono Q4.out B1.out.size)⟩
  | true =>
    cases fb with
    | false =>
      go_wp2_with fail
      go_ret
      exact ⟨rfl, B1.out.trans (Below.mono Q4.out B1.out.size)⟩
    | true =>
      cases q
      all_goals
        go_upto_region 8 with fail
        go_region_held3 (fun U => AQ W1 U ∧ U.cell? ⟨w.heap.size, 0, none⟩ = some (.int .i64 Ta.hd.kind) ∧ U.cell? ⟨w.heap.size, 1, none⟩ = some (.string (bs Ta.hd.text)) ∧ U.cell? ⟨w.heap.size, 2, none⟩ = some (.string (bs Ta.hd.type)) ∧ U.cell? ⟨w.heap.size, 3, none⟩ = some (.int .i64 Ta.hd.n) ∧ U.cell? ⟨w.heap.size, 4, none⟩ = some (.int .i64 Ta.hd.fr) ∧ U.cell? ⟨w.heap.size, 5, none⟩ = some (.int .i64 Ta.hd.to_) ∧ U.cell? ⟨w.heap.size, 6, none⟩ = some (.int .i64 Ta.hd.at_) ∧ U.cell? ⟨w.heap.size, 7, none⟩ = some (.int .i64 Ta.hd.tat) ∧ U.cell? ⟨w.heap.size, 8, none⟩ = some (.slice aa na capa) ∧ U.cell? ⟨w.heap.size + 1, 0, none⟩ = some (.int .i64 Tb.hd.kind) ∧ U.cell? ⟨w.heap.size + 1, 1, none⟩ = some (.string (bs Tb.hd.text)) ∧ U.cell? ⟨w.heap.size + 1, 2, none⟩ = some (.string (bs Tb.hd.type)) ∧ U.cell? ⟨w.heap.size + 1, 3, none⟩ = some (.int .i64 Tb.hd.n) ∧ U.cell? ⟨w.heap.size + 1, 4, none⟩ = some (.int .i64 Tb.hd.fr) ∧ U.cell? ⟨w.heap.size + 1, 5, none⟩ = some (.int .i64 Tb.hd.to_) ∧ U.cell? ⟨w.heap.size + 1, 6, none⟩ = some (.int .i64 Tb.hd.at_) ∧ U.cell? ⟨w.heap.size + 1, 7, none⟩ = some (.int .i64 Tb.hd.tat) ∧ U.cell? ⟨w.heap.size + 1, 8, none⟩ = some (.slice ab nb capb))
          (first | exact HS.out _ (by assumption) | exact HS.out _ (AQ.drew (AQ.drew Q4.out)) | exact HS.out _ (AQ.drew Q4.out) | (trace_state; fail))
          (first
            | (go_at_call 8; (with_reducible refine (C8.out _ (And.left (by assumption : AQ W1 _ ∧ _))).mono ?_); rintro e w' ⟨rfl, hb⟩; have hs' : AQ W1 w' := AQ.later (And.left (by assumption : AQ W1 _ ∧ _)) hb)
            | (go_at_call 9; (with_reducible refine (C9.out _ (And.left (by assumption : AQ W1 _ ∧ _))).mono ?_); rintro e w' ⟨rfl, hb⟩; have hs' : AQ W1 w' := AQ.later (And.left (by assumption : AQ W1 _ ∧ _)) hb)
            | (go_at_call 10; (with_reducible refine (C10.out _ (And.left (by assumption : AQ W1 _ ∧ _))).mono ?_); rintro e w' ⟨rfl, hb⟩; have hs' : AQ W1 w' := AQ.later (And.left (by assumption : AQ W1 _ ∧ _)) hb)
            | (go_at_call 11; (with_reducible refine (C11.out _ (And.left (by assumption : AQ W1 _ ∧ _))).mono ?_); rintro e w' ⟨rfl, hb⟩; have hs' : AQ W1 w' := AQ.later (And.left (by assumption : AQ W1 _ ∧ _)) hb)
            | (go_at_call 12; (with_reducible refine (C12.out _ (And.left (by assumption : AQ W1 _ ∧ _))).mono ?_); rintro e w' ⟨rfl, hb⟩; have hs' : AQ W1 w' := AQ.later (And.left (by assumption : AQ W1 _ ∧ _)) hb)
            | (go_at_call 13; (with_reducible refine (C13.out _ (And.left (by assumption : AQ W1 _ ∧ _))).mono ?_); rintro e w' ⟨rfl, hb⟩; have hs' : AQ W1 w' := AQ.later (And.left (by assumption : AQ W1 _ ∧ _)) hb)
            | (go_at_call 15; (with_reducible refine (C15.out _ (And.left (by assumption : AQ W1 _ ∧ _))).mono ?_); rintro e w' ⟨⟨v1, rfl, hk1⟩, hb⟩; have hs' : AQ W1 w' := AQ.later (And.left (by assumption : AQ W1 _ ∧ _)) hb)
            | (go_at_call 16; (with_reducible refine (C16.out _ (And.left (by assumption : AQ W1 _ ∧ _))).mono ?_); rintro e w' ⟨⟨v2, rfl, hk2⟩, hb⟩; have hs' : AQ W1 w' := AQ.later (And.left (by assumption : AQ W1 _ ∧ _)) hb)
            | (go_at_call 14; (with_reducible refine (C14.out _ _ _ _ (by assumption) (by assumption) (by assumption)).mono ?_); rintro e w' ⟨rfl, hb⟩; have hs' : AQ W1 w' := AQ.later (And.left (by assumption : AQ W1 _ ∧ _)) hb))
        all_goals
          have hend := And.left (by assumption : AQ W1 _ ∧ _)
          have Hend := Lib.hid hend
          clear hend
          go_wp2_with fail
          go_ret
          exact ⟨rfl, B1.out.trans (Below.mono Hend.out B1.out.size)⟩
end Go.Proofs.Ytpnfjiglphogoab
