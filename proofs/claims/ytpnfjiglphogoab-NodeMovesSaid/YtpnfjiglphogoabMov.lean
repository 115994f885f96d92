/-
  For the laws of node: the walk of NodeMoves. Condition: at most 2,000,000 nodes in the tree.
-/
import Derived.Test.YtpnfjiglphogoabAwk
import Derived.Test.YtpnfjiglphogoabRrn
import Derived.Test.YtpnfjiglphogoabSls
namespace Go.Proofs.Ytpnfjiglphogoab
open Go.RowKit Go.Shelf
set_option linter.unusedSimpArgs false
set_option linter.unusedVariables false

theorem ChgIs.val {f : Hd → Hd} {w w' : World} {T : Nd} {e : Ending} (h : ChgIs f w T e w') : (∃ kv, e = .returned (.agg #[.int .i64 (f T.hd).kind, .string (bs (f T.hd).text), .string (bs (f T.hd).type), .int .i64 (f T.hd).n, .int .i64 (f T.hd).fr, .int .i64 (f T.hd).to_, .int .i64 (f T.hd).at_, .int .i64 (f T.hd).tat, kv]) ∧ KidsAt w' (mapL f T.kids) kv) ∧ Below w.heap.size w w' := by
  obtain ⟨kv, F, he, hs, -, -, hb⟩ := h
  exact ⟨⟨kv, he, hs.kids⟩, hb⟩
theorem RMapIs.val {f : Hd → Hd} {w w' : World} {T : Nd} {e : Ending} (h : RMapIs f w T e w') : ∃ kv, e = .returned (.agg #[.int .i64 (f T.hd).kind, .string (bs (f T.hd).text), .string (bs (f T.hd).type), .int .i64 (f T.hd).n, .int .i64 (f T.hd).fr, .int .i64 (f T.hd).to_, .int .i64 (f T.hd).at_, .int .i64 (f T.hd).tat, kv]) ∧ KidsAt w' (mapL f T.kids) kv := by
  obtain ⟨kv, F, he, hs⟩ := h
  exact ⟨kv, he, hs.kids⟩
set_option maxRecDepth 100000 in
set_option maxHeartbeats 16000000 in
theorem Moves_any (Ta : Nd) (va : Value) (by_ : Int) (vn : Value) (names : List By) (w : World) (hma : Ta.cnt ≤ 2000000) (hka : KidsAt w Ta.kids va) (hn : SlS w vn names) :
    Calls Try.prog 4 #[.agg #[.int .i64 Ta.hd.kind, .string (bs Ta.hd.text), .string (bs Ta.hd.type), .int .i64 Ta.hd.n, .int .i64 Ta.hd.fr, .int .i64 Ta.hd.to_, .int .i64 Ta.hd.at_, .int .i64 Ta.hd.tat, va], .int .i64 by_, vn] w fun e w' => e = .returned (.bool true) ∧ Below w.heap.size w w' := by
  have HA := Lib.hid hka
  have HN := Lib.hid hn
  obtain ⟨aa, capa, rfl, -⟩ := hka.get
  obtain ⟨an, capn, rfl, -⟩ := hn
  clear hka
  obtain ⟨na, hna⟩ : ∃ n, Hid (Ta.kids.length = n) := ⟨_, Lib.hid rfl⟩
  rw [hna.out] at HA
  rw [hna.out]
  obtain ⟨nn, hnn⟩ : ∃ n, Hid (names.length = n) := ⟨_, Lib.hid rfl⟩
  rw [hnn.out] at HN
  rw [hnn.out]
  obtain ⟨W1, hW1⟩ : ∃ W1, Hid (w.alloc (.cells #[.int .i64 Ta.hd.kind, .string (bs Ta.hd.text), .string (bs Ta.hd.type), .int .i64 Ta.hd.n, .int .i64 Ta.hd.fr, .int .i64 Ta.hd.to_, .int .i64 Ta.hd.at_, .int .i64 Ta.hd.tat, .slice aa na capa] 24) = W1) := ⟨_, Lib.hid rfl⟩
  have B1 : Hid (Below w.heap.size w W1) := by rw [← hW1.out]; exact Lib.hid ((Below.refl _ w).alloc (Nat.le_refl _) _)
  have hs1 : W1.heap.size = w.heap.size + 1 := by rw [← hW1.out]; simp
  have R1 : Hid (RowAt W1 w.heap.size 24 #[.int .i64 Ta.hd.kind, .string (bs Ta.hd.text), .string (bs Ta.hd.type), .int .i64 Ta.hd.n, .int .i64 Ta.hd.fr, .int .i64 Ta.hd.to_, .int .i64 Ta.hd.at_, .int .i64 Ta.hd.tat, .slice aa na capa]) := by rw [← hW1.out]; exact Lib.hid (RowAt.new w 24 #[.int .i64 Ta.hd.kind, .string (bs Ta.hd.text), .string (bs Ta.hd.type), .int .i64 Ta.hd.n, .int .i64 Ta.hd.fr, .int .i64 Ta.hd.to_, .int .i64 Ta.hd.at_, .int .i64 Ta.hd.tat, .slice aa na capa])
  have HS : Hid (∀ U, AQ W1 U → AQ W1 U ∧ U.cell? ⟨w.heap.size, 0, none⟩ = some (.int .i64 Ta.hd.kind) ∧ U.cell? ⟨w.heap.size, 1, none⟩ = some (.string (bs Ta.hd.text)) ∧ U.cell? ⟨w.heap.size, 2, none⟩ = some (.string (bs Ta.hd.type)) ∧ U.cell? ⟨w.heap.size, 3, none⟩ = some (.int .i64 Ta.hd.n) ∧ U.cell? ⟨w.heap.size, 4, none⟩ = some (.int .i64 Ta.hd.fr) ∧ U.cell? ⟨w.heap.size, 5, none⟩ = some (.int .i64 Ta.hd.to_) ∧ U.cell? ⟨w.heap.size, 6, none⟩ = some (.int .i64 Ta.hd.at_) ∧ U.cell? ⟨w.heap.size, 7, none⟩ = some (.int .i64 Ta.hd.tat) ∧ U.cell? ⟨w.heap.size, 8, none⟩ = some (.slice aa na capa)) := Lib.hid (fun U hU => by
    have c1 := (show Cells U w.heap.size 0 Ta.hd (.slice aa na capa) from Cells.row (R1.out.later hU))
    obtain ⟨d0, d1, d2, d3, d4, d5, d6, d7, d8⟩ := c1
    simp only [Nat.zero_add] at d1 d2 d3 d4 d5 d6 d7 d8
    exact ⟨hU, d0, d1, d2, d3, d4, d5, d6, d7, d8⟩)
  have KA : Hid (∀ U, AQ W1 U → KidsAt U Ta.kids (.slice aa na capa)) := Lib.hid (fun U hU => (HA.out.below B1.out).below hU)
  have Cfa : Hid (∀ U, AQ W1 U → Calls Try.prog 7 #[.agg #[.int .i64 Ta.hd.kind, .string (bs Ta.hd.text), .string (bs Ta.hd.type), .int .i64 Ta.hd.n, .int .i64 Ta.hd.fr, .int .i64 Ta.hd.to_, .int .i64 Ta.hd.at_, .int .i64 Ta.hd.tat, .slice aa na capa]] U fun e w' => e = .returned (.bool (fewN Ta)) ∧ Below U.heap.size U w') := Lib.hid (fun U hU => few_any Ta _ U hma ⟨_, rfl, KA.out U hU⟩)
  have C17a : Hid (∀ (h : Hd) (ks : List Nd) (U0 U : World) (v1 v2 : Value), Below U0.heap.size U0 U → KidsAt U0 ks v1 → KidsAt U ks v2 → Calls Try.prog 17 #[.agg #[.int .i64 h.kind, .string (bs h.text), .string (bs h.type), .int .i64 h.n, .int .i64 h.fr, .int .i64 h.to_, .int .i64 h.at_, .int .i64 h.tat, v1], .agg #[.int .i64 h.kind, .string (bs h.text), .string (bs h.type), .int .i64 h.n, .int .i64 h.fr, .int .i64 h.to_, .int .i64 h.at_, .int .i64 h.tat, v2]] U fun e w' => e = .returned (.bool true) ∧ Below U.heap.size U w') := Lib.hid (fun h ks U0 U v1 v2 hb h1 h2 => (Exact_at U (.mk h ks) v1 (h1.below hb) U (Below.refl _ _) (.mk h ks) v2 h2).mono fun e w' h => ⟨cmp_yes h.1 rfl, h.2⟩)
  have C17b : Hid (∀ (h : Hd) (ks : List Nd) (U0 U : World) (v1 v2 : Value), Below U0.heap.size U0 U → KidsAt U ks v1 → KidsAt U0 ks v2 → Calls Try.prog 17 #[.agg #[.int .i64 h.kind, .string (bs h.text), .string (bs h.type), .int .i64 h.n, .int .i64 h.fr, .int .i64 h.to_, .int .i64 h.at_, .int .i64 h.tat, v1], .agg #[.int .i64 h.kind, .string (bs h.text), .string (bs h.type), .int .i64 h.n, .int .i64 h.fr, .int .i64 h.to_, .int .i64 h.at_, .int .i64 h.tat, v2]] U fun e w' => e = .returned (.bool true) ∧ Below U.heap.size U w') := Lib.hid (fun h ks U0 U v1 v2 hb h1 h2 => (Exact_at U (.mk h ks) v1 h1 U (Below.refl _ _) (.mk h ks) v2 (h2.below hb)).mono fun e w' h => ⟨cmp_yes h.1 rfl, h.2⟩)
  obtain ⟨hp, hhp⟩ : ∃ h, Hid (plainH Ta.hd = h) := ⟨_, Lib.hid rfl⟩
  obtain ⟨hh, hhh⟩ : ∃ h, Hid (shH by_ Ta.hd = h) := ⟨_, Lib.hid rfl⟩
  have C18 : Hid (∀ U, AQ W1 U → Calls Try.prog 18 #[.agg #[.int .i64 Ta.hd.kind, .string (bs Ta.hd.text), .string (bs Ta.hd.type), .int .i64 Ta.hd.n, .int .i64 Ta.hd.fr, .int .i64 Ta.hd.to_, .int .i64 Ta.hd.at_, .int .i64 Ta.hd.tat, .slice aa na capa]] U fun e w' => (∃ kv, e = .returned (.agg #[.int .i64 hp.kind, .string (bs hp.text), .string (bs hp.type), .int .i64 hp.n, .int .i64 hp.fr, .int .i64 hp.to_, .int .i64 hp.at_, .int .i64 hp.tat, kv]) ∧ KidsAt w' (mapL plainH Ta.kids) kv) ∧ Below U.heap.size U w') := Lib.hid (fun U hU => by rw [← hhp.out]; exact (Plain_any Ta (.slice aa na capa) U hma (KA.out U hU)).mono fun e w' h => h.val)
  have C19 : Hid (∀ U, AQ W1 U → Calls Try.prog 19 #[.agg #[.int .i64 Ta.hd.kind, .string (bs Ta.hd.text), .string (bs Ta.hd.type), .int .i64 Ta.hd.n, .int .i64 Ta.hd.fr, .int .i64 Ta.hd.to_, .int .i64 Ta.hd.at_, .int .i64 Ta.hd.tat, .slice aa na capa]] U fun e w' => (∃ kv, e = .returned (.agg #[.int .i64 hp.kind, .string (bs hp.text), .string (bs hp.type), .int .i64 hp.n, .int .i64 hp.fr, .int .i64 hp.to_, .int .i64 hp.at_, .int .i64 hp.tat, kv]) ∧ KidsAt w' (mapL plainH Ta.kids) kv) ∧ Below U.heap.size U w') := Lib.hid (fun U hU => by rw [← hhp.out]; exact (RefPlain_at U Ta (.slice aa na capa) (KA.out U hU) U (Below.refl _ _) hma).mono fun e w' h => ⟨h.1.val, h.2⟩)
  have C20 : Hid (∀ U, AQ W1 U → Calls Try.prog 20 #[.agg #[.int .i64 Ta.hd.kind, .string (bs Ta.hd.text), .string (bs Ta.hd.type), .int .i64 Ta.hd.n, .int .i64 Ta.hd.fr, .int .i64 Ta.hd.to_, .int .i64 Ta.hd.at_, .int .i64 Ta.hd.tat, .slice aa na capa], .int .i64 by_] U fun e w' => (∃ kv, e = .returned (.agg #[.int .i64 hh.kind, .string (bs hh.text), .string (bs hh.type), .int .i64 hh.n, .int .i64 hh.fr, .int .i64 hh.to_, .int .i64 hh.at_, .int .i64 hh.tat, kv]) ∧ KidsAt w' (mapL (shH by_) Ta.kids) kv) ∧ Below U.heap.size U w') := Lib.hid (fun U hU => by rw [← hhh.out]; exact (Shift_any Ta (.slice aa na capa) by_ U hma (KA.out U hU)).mono fun e w' h => h.val)
  have C21 : Hid (∀ U, AQ W1 U → Calls Try.prog 21 #[.agg #[.int .i64 Ta.hd.kind, .string (bs Ta.hd.text), .string (bs Ta.hd.type), .int .i64 Ta.hd.n, .int .i64 Ta.hd.fr, .int .i64 Ta.hd.to_, .int .i64 Ta.hd.at_, .int .i64 Ta.hd.tat, .slice aa na capa], .int .i64 by_] U fun e w' => (∃ kv, e = .returned (.agg #[.int .i64 hh.kind, .string (bs hh.text), .string (bs hh.type), .int .i64 hh.n, .int .i64 hh.fr, .int .i64 hh.to_, .int .i64 hh.at_, .int .i64 hh.tat, kv]) ∧ KidsAt w' (mapL (shH by_) Ta.kids) kv) ∧ Below U.heap.size U w') := Lib.hid (fun U hU => by rw [← hhh.out]; exact (RefShift_at U by_ Ta (.slice aa na capa) (KA.out U hU) U (Below.refl _ _) hma).mono fun e w' h => ⟨h.1.val, h.2⟩)
  obtain ⟨fa, hfa⟩ : ∃ f, Hid (fewN Ta = f) := ⟨_, Lib.hid rfl⟩
  rw [hfa.out] at Cfa
  go_enter Try.func4, Try.ntmps4
  go_wp2_with fail
  rw [hW1.out]
  refine (awake_any _).mono ?_
  rintro e w2 ⟨rfl, b2⟩
  have Q2 : Hid (AQ W1 w2) := Lib.hid b2
  have S2 := HS.out w2 b2
  obtain ⟨-, d0, d1, d2, d3, d4, d5, d6, d7, d8⟩ := S2
  clear b2
  go_wp2_with fail
  refine (Cfa.out _ Q2.out).mono ?_
  rintro e w3 ⟨rfl, b3⟩
  have Q3 : Hid (AQ W1 w3) := Lib.hid (AQ.later Q2.out b3)
  clear d0 d1 d2 d3 d4 d5 d6 d7 d8 b3
  cases fa with
  | false =>
    go_wp2_with fail
    go_ret
    exact ⟨rfl, B1.out.trans (Below.mono Q3.out B1.out.size)⟩
  | true =>
    by_cases hlen : nn < 2
    · have p1 : decide ((nn : Int) < 2) = true := decide_eq_true (by omega)
      go_wp2_with fail
      go_ret
      exact ⟨rfl, B1.out.trans (Below.mono Q3.out B1.out.size)⟩
    · have p1 : decide ((nn : Int) < 2) = false := decide_eq_false (by omega)
      obtain ⟨bn, on, capn', s0, s1, -, -, en, hnc, hnm, hbn, cn0, cn1⟩ := HN.out.two (by rw [hnn.out]; omega)
      rw [hnn.out] at en hnc
      cases en
      have hnm' := hnm
      unfold maxLen at hnm'
      have CN0 := Lib.hid cn0
      have CN1 := Lib.hid cn1
      clear cn0 cn1
      have HS2 : Hid (∀ U, AQ W1 U → AQ W1 U ∧ U.cell? ⟨w.heap.size, 0, none⟩ = some (.int .i64 Ta.hd.kind) ∧ U.cell? ⟨w.heap.size, 1, none⟩ = some (.string (bs Ta.hd.text)) ∧ U.cell? ⟨w.heap.size, 2, none⟩ = some (.string (bs Ta.hd.type)) ∧ U.cell? ⟨w.heap.size, 3, none⟩ = some (.int .i64 Ta.hd.n) ∧ U.cell? ⟨w.heap.size, 4, none⟩ = some (.int .i64 Ta.hd.fr) ∧ U.cell? ⟨w.heap.size, 5, none⟩ = some (.int .i64 Ta.hd.to_) ∧ U.cell? ⟨w.heap.size, 6, none⟩ = some (.int .i64 Ta.hd.at_) ∧ U.cell? ⟨w.heap.size, 7, none⟩ = some (.int .i64 Ta.hd.tat) ∧ U.cell? ⟨w.heap.size, 8, none⟩ = some (.slice aa na capa) ∧ U.cell? ⟨bn, on, none⟩ = some (.string (bs s0)) ∧ U.cell? ⟨bn, on + 1, none⟩ = some (.string (bs s1))) := Lib.hid (fun U hU => by
        obtain ⟨-, d0, d1, d2, d3, d4, d5, d6, d7, d8⟩ := HS.out U hU
        have bU : Below w.heap.size w U := B1.out.trans (Below.mono hU (by omega))
        exact ⟨hU, d0, d1, d2, d3, d4, d5, d6, d7, d8, (bU.cell (p := ⟨bn, on, none⟩) hbn).trans CN0.out, (bU.cell (p := ⟨bn, on + 1, none⟩) hbn).trans CN1.out⟩)
      have C22 : Hid (∀ k : Int, ∀ h : Hd, Hid (rnH k s0 s1 Ta.hd = h) → ∀ U, AQ W1 U → Calls Try.prog 22 #[.agg #[.int .i64 Ta.hd.kind, .string (bs Ta.hd.text), .string (bs Ta.hd.type), .int .i64 Ta.hd.n, .int .i64 Ta.hd.fr, .int .i64 Ta.hd.to_, .int .i64 Ta.hd.at_, .int .i64 Ta.hd.tat, .slice aa na capa], .int .i64 k, .string (bs s0), .string (bs s1)] U fun e w' => (∃ kv, e = .returned (.agg #[.int .i64 h.kind, .string (bs h.text), .string (bs h.type), .int .i64 h.n, .int .i64 h.fr, .int .i64 h.to_, .int .i64 h.at_, .int .i64 h.tat, kv]) ∧ KidsAt w' (mapL (rnH k s0 s1) Ta.kids) kv) ∧ Below U.heap.size U w') := Lib.hid (fun k h hh2 U hU => by rw [← hh2.out]; exact (Rename_any Ta (.slice aa na capa) k s0 s1 U hma (KA.out U hU)).mono fun e w' h => h.val)
      have C23 : Hid (∀ k : Int, ∀ h : Hd, Hid (rnH k s0 s1 Ta.hd = h) → ∀ U, AQ W1 U → Calls Try.prog 23 #[.agg #[.int .i64 Ta.hd.kind, .string (bs Ta.hd.text), .string (bs Ta.hd.type), .int .i64 Ta.hd.n, .int .i64 Ta.hd.fr, .int .i64 Ta.hd.to_, .int .i64 Ta.hd.at_, .int .i64 Ta.hd.tat, .slice aa na capa], .int .i64 k, .string (bs s0), .string (bs s1)] U fun e w' => (∃ kv, e = .returned (.agg #[.int .i64 h.kind, .string (bs h.text), .string (bs h.type), .int .i64 h.n, .int .i64 h.fr, .int .i64 h.to_, .int .i64 h.at_, .int .i64 h.tat, kv]) ∧ KidsAt w' (mapL (rnH k s0 s1) Ta.kids) kv) ∧ Below U.heap.size U w') := Lib.hid (fun k h hh2 U hU => by rw [← hh2.out]; exact (RefRename_at U k s0 s1 Ta (.slice aa na capa) (KA.out U hU) U (Below.refl _ _) hma).mono fun e w' h => ⟨h.1.val, h.2⟩)
      go_upto_region 7 with fail
      go_region_held3 (fun U => AQ W1 U ∧ U.cell? ⟨w.heap.size, 0, none⟩ = some (.int .i64 Ta.hd.kind) ∧ U.cell? ⟨w.heap.size, 1, none⟩ = some (.string (bs Ta.hd.text)) ∧ U.cell? ⟨w.heap.size, 2, none⟩ = some (.string (bs Ta.hd.type)) ∧ U.cell? ⟨w.heap.size, 3, none⟩ = some (.int .i64 Ta.hd.n) ∧ U.cell? ⟨w.heap.size, 4, none⟩ = some (.int .i64 Ta.hd.fr) ∧ U.cell? ⟨w.heap.size, 5, none⟩ = some (.int .i64 Ta.hd.to_) ∧ U.cell? ⟨w.heap.size, 6, none⟩ = some (.int .i64 Ta.hd.at_) ∧ U.cell? ⟨w.heap.size, 7, none⟩ = some (.int .i64 Ta.hd.tat) ∧ U.cell? ⟨w.heap.size, 8, none⟩ = some (.slice aa na capa))
        (first | exact HS.out _ (by assumption) | exact HS.out _ (AQ.drew (AQ.drew Q3.out)) | exact HS.out _ (AQ.drew Q3.out) | exact HS.out _ Q3.out | (trace_state; fail))
        (first
            | (go_at_call 18; (with_reducible refine (C18.out _ (And.left (by assumption : AQ W1 _ ∧ _))).mono ?_); rintro e w' ⟨⟨k1, rfl, hk1⟩, hb⟩; have hs' : AQ W1 w' := AQ.later (And.left (by assumption : AQ W1 _ ∧ _)) hb)
            | (go_at_call 19; (with_reducible refine (C19.out _ (And.left (by assumption : AQ W1 _ ∧ _))).mono ?_); rintro e w' ⟨⟨k2, rfl, hk2⟩, hb⟩; have hs' : AQ W1 w' := AQ.later (And.left (by assumption : AQ W1 _ ∧ _)) hb)
            | (go_at_call 20; (with_reducible refine (C20.out _ (And.left (by assumption : AQ W1 _ ∧ _))).mono ?_); rintro e w' ⟨⟨k3, rfl, hk3⟩, hb⟩; have hs' : AQ W1 w' := AQ.later (And.left (by assumption : AQ W1 _ ∧ _)) hb)
            | (go_at_call 21; (with_reducible refine (C21.out _ (And.left (by assumption : AQ W1 _ ∧ _))).mono ?_); rintro e w' ⟨⟨k4, rfl, hk4⟩, hb⟩; have hs' : AQ W1 w' := AQ.later (And.left (by assumption : AQ W1 _ ∧ _)) hb)
            | (go_at_call 17; (with_reducible refine (C17a.out _ _ _ _ _ _ (by assumption) (by assumption) (by assumption)).mono ?_); rintro e w' ⟨rfl, hb⟩; have hs' : AQ W1 w' := AQ.later (And.left (by assumption : AQ W1 _ ∧ _)) hb)
            | (go_at_call 17; (with_reducible refine (C17b.out _ _ _ _ _ _ (by assumption) (by assumption) (by assumption)).mono ?_); rintro e w' ⟨rfl, hb⟩; have hs' : AQ W1 w' := AQ.later (And.left (by assumption : AQ W1 _ ∧ _)) hb))
      all_goals
        have hend := And.left (by assumption : AQ W1 _ ∧ _)
        have Hend := Lib.hid hend
        clear hend
        go_wp2_with fail
        go_loopw [9, 10] (fun o c wr => o = .bool true ∧ ∃ k : Nat, c = .int .i64 k ∧ k ≤ 25 ∧ Hid (AQ W1 wr)) (fun _ c _ => 25 - (intOf c).toNat)
        case atStart => exact ⟨rfl, 0, rfl, by omega, Hend⟩
        case round =>
          obtain ⟨rfl, k, rfl, hk, hQ⟩ := hrel
          by_cases hlt : k < 25
          · have p2 : decide ((k : Int) ≤ 24) = true := decide_eq_true (by omega)
            have p3 : (1 : Int) < (nn : Int) := by omega
            have p4 : (0 : Int) < (nn : Int) := by omega
            have p5 : 0 < nn := by omega
            obtain ⟨hr, hhr⟩ : ∃ h, Hid (rnH k s0 s1 Ta.hd = h) := ⟨_, Lib.hid rfl⟩
            have C22k := Lib.hid (C22.out k hr hhr)
            have C23k := Lib.hid (C23.out k hr hhr)
            clear C22 C23 hhr
            go_upto_region 11 with fail
            go_region_held3 (fun U => AQ W1 U ∧ U.cell? ⟨w.heap.size, 0, none⟩ = some (.int .i64 Ta.hd.kind) ∧ U.cell? ⟨w.heap.size, 1, none⟩ = some (.string (bs Ta.hd.text)) ∧ U.cell? ⟨w.heap.size, 2, none⟩ = some (.string (bs Ta.hd.type)) ∧ U.cell? ⟨w.heap.size, 3, none⟩ = some (.int .i64 Ta.hd.n) ∧ U.cell? ⟨w.heap.size, 4, none⟩ = some (.int .i64 Ta.hd.fr) ∧ U.cell? ⟨w.heap.size, 5, none⟩ = some (.int .i64 Ta.hd.to_) ∧ U.cell? ⟨w.heap.size, 6, none⟩ = some (.int .i64 Ta.hd.at_) ∧ U.cell? ⟨w.heap.size, 7, none⟩ = some (.int .i64 Ta.hd.tat) ∧ U.cell? ⟨w.heap.size, 8, none⟩ = some (.slice aa na capa) ∧ U.cell? ⟨bn, on, none⟩ = some (.string (bs s0)) ∧ U.cell? ⟨bn, on + 1, none⟩ = some (.string (bs s1)))
              (first | exact HS2.out _ (by assumption) | exact HS2.out _ (AQ.drew (AQ.drew hQ.out)) | exact HS2.out _ (AQ.drew hQ.out) | exact HS2.out _ hQ.out | (trace_state; fail))
              (first
                  | (go_at_call 22; (with_reducible refine (C22k.out _ (And.left (by assumption : AQ W1 _ ∧ _))).mono ?_); rintro e w' ⟨⟨k1, rfl, hk1⟩, hb⟩; have hs' : AQ W1 w' := AQ.later (And.left (by assumption : AQ W1 _ ∧ _)) hb)
                  | (go_at_call 23; (with_reducible refine (C23k.out _ (And.left (by assumption : AQ W1 _ ∧ _))).mono ?_); rintro e w' ⟨⟨k2, rfl, hk2⟩, hb⟩; have hs' : AQ W1 w' := AQ.later (And.left (by assumption : AQ W1 _ ∧ _)) hb)
                  | (go_at_call 17; (with_reducible refine (C17a.out _ _ _ _ _ _ (by assumption) (by assumption) (by assumption)).mono ?_); rintro e w' ⟨rfl, hb⟩; have hs' : AQ W1 w' := AQ.later (And.left (by assumption : AQ W1 _ ∧ _)) hb)
                  | (go_at_call 17; (with_reducible refine (C17b.out _ _ _ _ _ _ (by assumption) (by assumption) (by assumption)).mono ?_); rintro e w' ⟨rfl, hb⟩; have hs' : AQ W1 w' := AQ.later (And.left (by assumption : AQ W1 _ ∧ _)) hb))
            all_goals
              have hend2 := And.left (by assumption : AQ W1 _ ∧ _)
              have Hend2 := Lib.hid hend2
              clear hend2
              go_wp2_with fail
              exact ⟨⟨rfl, k + 1, by go_num, by omega, Hend2⟩, by simp [intOf]; omega⟩
          · obtain rfl : k = 25 := by omega
            go_wp2_with fail
            go_ret
            exact ⟨rfl, B1.out.trans (Below.mono hQ.out B1.out.size)⟩
end Go.Proofs.Ytpnfjiglphogoab
