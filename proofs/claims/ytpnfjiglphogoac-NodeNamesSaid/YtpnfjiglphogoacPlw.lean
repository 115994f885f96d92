/-
  For the laws of node: the walk of NodePlaces. Condition: at most 2,000,000 nodes in the tree.
-/
import Derived.Test.YtpnfjiglphogoacAwk
import Derived.Test.YtpnfjiglphogoacPuq
import Derived.Deep.Cut
namespace Go.Proofs.Ytpnfjiglphogoac
open Go.RowKit Go.Shelf
set_option linter.unusedSimpArgs false
set_option linter.unusedVariables false

theorem KidsAt.sl {W : World} {ks : List Nd} {v : Value} (h : KidsAt W ks v) : ∃ (a : Option Addr) (c : Nat), v = .slice a ks.length c := by
  obtain ⟨a, c, e, -⟩ := h.get
  exact ⟨a, c, e⟩
set_option maxRecDepth 100000 in
set_option maxHeartbeats 16000000 in
theorem Places_any (Ta : Nd) (va : Value) (at_ by_ : Int) (w : World) (hma : Ta.cnt ≤ 2000000) (hka : KidsAt w Ta.kids va) :
    Calls Try.prog 5 #[.agg #[.int .i64 Ta.hd.kind, .string (bs Ta.hd.text), .string (bs Ta.hd.type), .int .i64 Ta.hd.n, .int .i64 Ta.hd.fr, .int .i64 Ta.hd.to_, .int .i64 Ta.hd.at_, .int .i64 Ta.hd.tat, va], .int .i64 at_, .int .i64 by_] w fun e w' => e = .returned (.bool true) ∧ Below w.heap.size w w' := by
  have HA := Lib.hid hka
  obtain ⟨aa, capa, rfl, -⟩ := hka.get
  clear hka
  obtain ⟨na, hna⟩ : ∃ n, Hid (Ta.kids.length = n) := ⟨_, Lib.hid rfl⟩
  rw [hna.out] at HA
  rw [hna.out]
  obtain ⟨W1, hW1⟩ : ∃ W1, Hid (w.alloc (.cells #[.int .i64 Ta.hd.kind, .string (bs Ta.hd.text), .string (bs Ta.hd.type), .int .i64 Ta.hd.n, .int .i64 Ta.hd.fr, .int .i64 Ta.hd.to_, .int .i64 Ta.hd.at_, .int .i64 Ta.hd.tat, .slice aa na capa] 24) = W1) := ⟨_, Lib.hid rfl⟩
  have B1 : Hid (Below w.heap.size w W1) := by rw [← hW1.out]; exact Lib.hid ((Below.refl _ w).alloc (Nat.le_refl _) _)
  have R1 : Hid (RowAt W1 w.heap.size 24 #[.int .i64 Ta.hd.kind, .string (bs Ta.hd.text), .string (bs Ta.hd.type), .int .i64 Ta.hd.n, .int .i64 Ta.hd.fr, .int .i64 Ta.hd.to_, .int .i64 Ta.hd.at_, .int .i64 Ta.hd.tat, .slice aa na capa]) := by rw [← hW1.out]; exact Lib.hid (RowAt.new w 24 #[.int .i64 Ta.hd.kind, .string (bs Ta.hd.text), .string (bs Ta.hd.type), .int .i64 Ta.hd.n, .int .i64 Ta.hd.fr, .int .i64 Ta.hd.to_, .int .i64 Ta.hd.at_, .int .i64 Ta.hd.tat, .slice aa na capa])
  have HS : Hid (∀ U, AQ W1 U → AQ W1 U ∧ U.cell? ⟨w.heap.size, 0, none⟩ = some (.int .i64 Ta.hd.kind) ∧ U.cell? ⟨w.heap.size, 1, none⟩ = some (.string (bs Ta.hd.text)) ∧ U.cell? ⟨w.heap.size, 2, none⟩ = some (.string (bs Ta.hd.type)) ∧ U.cell? ⟨w.heap.size, 3, none⟩ = some (.int .i64 Ta.hd.n) ∧ U.cell? ⟨w.heap.size, 4, none⟩ = some (.int .i64 Ta.hd.fr) ∧ U.cell? ⟨w.heap.size, 5, none⟩ = some (.int .i64 Ta.hd.to_) ∧ U.cell? ⟨w.heap.size, 6, none⟩ = some (.int .i64 Ta.hd.at_) ∧ U.cell? ⟨w.heap.size, 7, none⟩ = some (.int .i64 Ta.hd.tat) ∧ U.cell? ⟨w.heap.size, 8, none⟩ = some (.slice aa na capa)) := Lib.hid (fun U hU => by
    have c1 := (show Cells U w.heap.size 0 Ta.hd (.slice aa na capa) from Cells.row (R1.out.later hU))
    obtain ⟨d0, d1, d2, d3, d4, d5, d6, d7, d8⟩ := c1
    simp only [Nat.zero_add] at d1 d2 d3 d4 d5 d6 d7 d8
    exact ⟨hU, d0, d1, d2, d3, d4, d5, d6, d7, d8⟩)
  have BW : Hid (∀ U, AQ W1 U → Below w.heap.size w U) := Lib.hid (fun U hU => B1.out.trans (Below.mono hU B1.out.size))
  have KA : Hid (∀ U, AQ W1 U → KidsAt U Ta.kids (.slice aa na capa)) := Lib.hid (fun U hU => HA.out.below (BW.out U hU))
  obtain ⟨M, hM⟩ : ∃ n, Hid ((allK 0 Ta).length = n) := ⟨_, Lib.hid rfl⟩
  have hMb : M ≤ 2000000 := by rw [← hM.out, allK_zero]; exact hma
  have Cfa : Hid (∀ U, AQ W1 U → Calls Try.prog 7 #[.agg #[.int .i64 Ta.hd.kind, .string (bs Ta.hd.text), .string (bs Ta.hd.type), .int .i64 Ta.hd.n, .int .i64 Ta.hd.fr, .int .i64 Ta.hd.to_, .int .i64 Ta.hd.at_, .int .i64 Ta.hd.tat, .slice aa na capa]] U fun e w' => e = .returned (.bool (fewN Ta)) ∧ Below U.heap.size U w') := Lib.hid (fun U hU => few_any Ta _ U hma ⟨_, rfl, KA.out U hU⟩)
  have C12 : Hid (∀ U, AQ W1 U → Calls Try.prog 12 #[.agg #[.int .i64 Ta.hd.kind, .string (bs Ta.hd.text), .string (bs Ta.hd.type), .int .i64 Ta.hd.n, .int .i64 Ta.hd.fr, .int .i64 Ta.hd.to_, .int .i64 Ta.hd.at_, .int .i64 Ta.hd.tat, .slice aa na capa], .int .i64 0] U fun e w' => (∃ (a : Option Addr) (c : Nat), e = .returned (.slice a M c) ∧ KidsAt w' (allK 0 Ta) (.slice a M c)) ∧ Below U.heap.size U w') := Lib.hid (fun U hU => (All_at U 0 Ta (.slice aa na capa) (KA.out U hU) U (Below.refl _ _) hma).mono fun e w' h => by
    obtain ⟨⟨v, ps, he, hp, ho⟩, hb⟩ := h
    have hk : KidsAt w' (allK 0 Ta) v := by rw [← hp]; exact ho.kids
    obtain ⟨a, c, rfl⟩ := hk.sl
    rw [hM.out] at hk he
    exact ⟨⟨a, c, he, hk⟩, hb⟩)
  obtain ⟨fa, hfa⟩ : ∃ f, Hid (fewN Ta = f) := ⟨_, Lib.hid rfl⟩
  rw [hfa.out] at Cfa
  go_enter Try.func5, Try.ntmps5
  go_wp2_with fail
  rw [hW1.out]
  refine (awake_any _).mono ?_
  rintro e w2 ⟨rfl, b2⟩
  have Q2 : Hid (AQ W1 w2) := Lib.hid b2
  obtain ⟨-, d0, d1, d2, d3, d4, d5, d6, d7, d8⟩ := HS.out w2 b2
  clear b2
  go_wp2_with fail
  refine (Cfa.out _ Q2.out).mono ?_
  rintro e w3 ⟨rfl, b3⟩
  have Q3 : Hid (AQ W1 w3) := Lib.hid (AQ.later Q2.out b3)
  clear d0 d1 d2 d3 d4 d5 d6 d7 d8 b3
  cases fa with
  | false =>
    go_wp2_with fail
    go_ret
    exact ⟨rfl, BW.out _ Q3.out⟩
  | true =>
    by_cases hp1 : at_ < 0
    · have p1 : decide (at_ < 0) = true := decide_eq_true hp1
      go_wp2_with fail
      go_ret
      exact ⟨rfl, BW.out _ Q3.out⟩
    have p1 : decide (at_ < 0) = false := decide_eq_false hp1
    by_cases hp2 : at_ > 1000000
    · have p2 : decide (1000000 < at_) = true := decide_eq_true hp2
      go_wp2_with fail
      go_ret
      exact ⟨rfl, BW.out _ Q3.out⟩
    have p2 : decide (1000000 < at_) = false := decide_eq_false hp2
    by_cases hp3 : by_ < 0
    · have p3 : decide (by_ < 0) = true := decide_eq_true hp3
      go_wp2_with fail
      go_ret
      exact ⟨rfl, BW.out _ Q3.out⟩
    have p3 : decide (by_ < 0) = false := decide_eq_false hp3
    by_cases hp4 : by_ > 1000000
    · have p4 : decide (1000000 < by_) = true := decide_eq_true hp4
      go_wp2_with fail
      go_ret
      exact ⟨rfl, BW.out _ Q3.out⟩
    have p4 : decide (1000000 < by_) = false := decide_eq_false hp4
    go_upto_region 7 with fail
    clear p1 p2 p3 p4
    have Hat : Hid (0 ≤ at_ ∧ at_ ≤ 1000000) := Lib.hid ⟨by omega, by omega⟩
    have Hby : Hid (0 ≤ by_ ∧ by_ ≤ 1000000) := Lib.hid ⟨by omega, by omega⟩
    clear hp1 hp2 hp3 hp4
    go_wp2_with fail
    go_loopw [9] (fun c wr => ∃ k : Nat, c = .int .i64 k ∧ k ≤ M ∧ Hid (∀ (j : Nat) (x : Nd), j < k → (allK 0 Ta)[j]? = some x → PosH x.hd) ∧ Hid (AQ W1 wr)) (fun c _ => M - (intOf c).toNat)
    case atStart => exact ⟨0, rfl, by omega, Lib.hid (fun j x h => by omega), Q3⟩
    case round =>
      obtain ⟨k, rfl, hk, hP, hQ⟩ := hrel
      obtain ⟨-, d0, d1, d2, d3, d4, d5, d6, d7, d8⟩ := HS.out _ hQ.out
      go_wp2_with fail
      refine (C12.out _ hQ.out).mono ?_
      rintro e w4 ⟨⟨a4, c4, rfl, k4⟩, b4⟩
      have Q4 : Hid (AQ W1 w4) := Lib.hid (AQ.later hQ.out b4)
      clear d0 d1 d2 d3 d4 d5 d6 d7 d8 b4 k4
      by_cases hlt : k < M
      · have q0 : (k : Int) < (M : Int) := by omega
        have q1 : (0 : Int) ≤ (k : Int) := by omega
        obtain ⟨-, d0, d1, d2, d3, d4, d5, d6, d7, d8⟩ := HS.out _ Q4.out
        go_wp2_with fail
        refine (C12.out _ Q4.out).mono ?_
        rintro e w5 ⟨⟨a5, c5, rfl, k5⟩, b5⟩
        have Q5 : Hid (AQ W1 w5) := Lib.hid (AQ.later Q4.out b5)
        clear d0 d1 d2 d3 d4 d5 d6 d7 d8 b5
        obtain ⟨x, hx⟩ : ∃ x, Hid ((allK 0 Ta)[k]? = some x) := ⟨_, Lib.hid (List.getElem?_eq_getElem (by rw [hM.out]; exact hlt))⟩
        obtain ⟨a5', c5', e5', -, hc5, hx5⟩ := k5.get
        obtain ⟨b, off, kv, ea, cs, hk2⟩ := hx5 k x hx.out
        rw [hM.out] at e5'
        cases e5'
        subst ea
        obtain ⟨a6, c6, rfl, -⟩ := hk2.get
        obtain ⟨n6, hn6⟩ : ∃ n, Hid (x.kids.length = n) := ⟨_, Lib.hid rfl⟩
        rw [hn6.out] at cs
        obtain ⟨d0, d1, d2, d3, d4, d5, d6, d7, d8⟩ := cs
        clear hx5 hk2 k5
        obtain ⟨W6, hW6⟩ : ∃ W, Hid (w5.alloc (.cells #[.int .i64 x.hd.kind, .string (bs x.hd.text), .string (bs x.hd.type), .int .i64 x.hd.n, .int .i64 x.hd.fr, .int .i64 x.hd.to_, .int .i64 x.hd.at_, .int .i64 x.hd.tat, .slice a6 n6 c6] 24) = W) := ⟨_, Lib.hid rfl⟩
        have Q6 : Hid (AQ W1 W6) := by rw [← hW6.out]; exact Lib.hid (AQ.alloc Q5.out _)
        have P6 : Hid (RowAt W6 w5.heap.size 24 #[.int .i64 x.hd.kind, .string (bs x.hd.text), .string (bs x.hd.type), .int .i64 x.hd.n, .int .i64 x.hd.fr, .int .i64 x.hd.to_, .int .i64 x.hd.at_, .int .i64 x.hd.tat, .slice a6 n6 c6]) := by rw [← hW6.out]; exact Lib.hid (RowAt.new _ _ _)
        go_upto_region 11 with fail
        rw [hW6.out]
        clear d0 d1 d2 d3 d4 d5 d6 d7 d8
        obtain ⟨d0, d1, d2, d3, d4, d5, d6, d7, d8⟩ := (show Cells W6 w5.heap.size 0 x.hd (.slice a6 n6 c6) from Cells.row P6.out)
        simp only [Nat.zero_add] at d1 d2 d3 d4 d5 d6 d7 d8
        by_cases ht1 : x.hd.fr < 0
        · have t1 : decide (x.hd.fr < 0) = true := decide_eq_true ht1
          go_wp2_with fail
          go_ret
          exact ⟨rfl, BW.out _ Q6.out⟩
        have t1 : decide (x.hd.fr < 0) = false := decide_eq_false ht1
        by_cases ht2 : x.hd.to_ > 1000000
        · have t2 : decide (1000000 < x.hd.to_) = true := decide_eq_true ht2
          go_wp2_with fail
          go_ret
          exact ⟨rfl, BW.out _ Q6.out⟩
        have t2 : decide (1000000 < x.hd.to_) = false := decide_eq_false ht2
        by_cases ht3 : x.hd.to_ < 0
        · have t3 : decide (x.hd.to_ < 0) = true := decide_eq_true ht3
          go_wp2_with fail
          go_ret
          exact ⟨rfl, BW.out _ Q6.out⟩
        have t3 : decide (x.hd.to_ < 0) = false := decide_eq_false ht3
        by_cases ht4 : x.hd.fr > 1000000
        · have t4 : decide (1000000 < x.hd.fr) = true := decide_eq_true ht4
          go_wp2_with fail
          go_ret
          exact ⟨rfl, BW.out _ Q6.out⟩
        have t4 : decide (1000000 < x.hd.fr) = false := decide_eq_false ht4
        have hpx : Hid (PosH x.hd) := Lib.hid ⟨by omega, by omega, by omega, by omega⟩
        go_wp2_with fail
        exact ⟨⟨k + 1, by go_num, by omega, Lib.hid (fun j y hj hy => by
          by_cases hjk : j < k
          · exact hP.out j y hjk hy
          · obtain rfl : j = k := by omega
            obtain rfl := Option.some.inj (hx.out.symm.trans hy)
            exact hpx.out), Q6⟩, by simp [intOf]; omega⟩
      · obtain rfl : k = M := by omega
        have hall : Hid (AllN PosH Ta) := Lib.hid (fun x hx => by
          obtain ⟨j, hj⟩ := List.getElem?_of_mem hx
          exact hP.out j x (by rw [← hM.out]; exact (List.getElem?_eq_some_iff.1 hj).1) hj)
        clear hP
        obtain ⟨Zw, hZw⟩ : ∃ Z, Hid (zs (wayT at_ Ta) = Z) := ⟨_, Lib.hid rfl⟩
        obtain ⟨Z, hZ⟩ : ∃ n, Hid (Zw.length = n) := ⟨_, Lib.hid rfl⟩
        have hZl : Hid (Zw.length ≤ 2000000) := Lib.hid (by
          rw [← hZw.out]
          unfold zs wayT
          rw [List.length_map]
          split
          · exact Nat.le_trans (Nat.le_trans (wayN_len _ _) (ht_cnt Ta)) hma
          · simp)
        have C15 : Hid (∀ U, AQ W1 U → Calls Try.prog 15 #[.agg #[.int .i64 Ta.hd.kind, .string (bs Ta.hd.text), .string (bs Ta.hd.type), .int .i64 Ta.hd.n, .int .i64 Ta.hd.fr, .int .i64 Ta.hd.to_, .int .i64 Ta.hd.at_, .int .i64 Ta.hd.tat, .slice aa na capa], .int .i64 at_] U fun e w' => (∃ (a : Option Addr) (c : Nat), e = .returned (.slice a Z c) ∧ SlI w' (.slice a Z c) Zw) ∧ Below U.heap.size U w') := Lib.hid (fun U hU => (At_any Ta (.slice aa na capa) at_ U hma (KA.out U hU)).mono fun e w' h => by
          obtain ⟨⟨v, base, he, ho⟩, hb⟩ := h
          have hs := sl_of_way ho
          rw [show List.map (fun (i : Nat) => (i : Int)) (wayT at_ Ta) = Zw from hZw.out] at hs
          have hs2 := hs
          obtain ⟨a, c, rfl, -⟩ := hs2
          rw [hZ.out] at hs he
          exact ⟨⟨a, c, he, hs⟩, hb⟩)
        obtain ⟨hh, hhh⟩ : ∃ h, Hid (shH by_ Ta.hd = h) := ⟨_, Lib.hid rfl⟩
        have C17 : Hid (∀ U, AQ W1 U → Calls Try.prog 17 #[.agg #[.int .i64 Ta.hd.kind, .string (bs Ta.hd.text), .string (bs Ta.hd.type), .int .i64 Ta.hd.n, .int .i64 Ta.hd.fr, .int .i64 Ta.hd.to_, .int .i64 Ta.hd.at_, .int .i64 Ta.hd.tat, .slice aa na capa], .int .i64 by_] U fun e w' => (∃ kv, e = .returned (.agg #[.int .i64 hh.kind, .string (bs hh.text), .string (bs hh.type), .int .i64 hh.n, .int .i64 hh.fr, .int .i64 hh.to_, .int .i64 hh.at_, .int .i64 hh.tat, kv]) ∧ KidsAt w' (mapL (shH by_) Ta.kids) kv) ∧ Below U.heap.size U w') := Lib.hid (fun U hU => by
          rw [← hhh.out]
          refine (Shift_any Ta (.slice aa na capa) by_ U hma (KA.out U hU)).mono fun e w' h => ?_
          obtain ⟨kv, F, he, hs, -, -, hb⟩ := h
          exact ⟨⟨kv, he, hs.kids⟩, hb⟩)
        have C15s : Hid (∀ (U : World) (kv : Value), KidsAt U (mapL (shH by_) Ta.kids) kv → Calls Try.prog 15 #[.agg #[.int .i64 hh.kind, .string (bs hh.text), .string (bs hh.type), .int .i64 hh.n, .int .i64 hh.fr, .int .i64 hh.to_, .int .i64 hh.at_, .int .i64 hh.tat, kv], .int .i64 (at_ + by_)] U fun e w' => (∃ v, e = .returned v ∧ SlI w' v Zw) ∧ Below U.heap.size U w') := Lib.hid (fun U kv hk => by
          have hTs : (Ta.map (shH by_)) = .mk hh (mapL (shH by_) Ta.kids) := by rw [map_kids, hhh.out]
          have h0 := At_any (Ta.map (shH by_)) kv (at_ + by_) U (by rw [map_cnt]; exact hma) (by rw [hTs]; exact hk)
          rw [wayT_shift hall.out Hby.out.1 Hby.out.2, hTs] at h0
          refine h0.mono fun e w' h => ?_
          obtain ⟨⟨v, base, he, ho⟩, hb⟩ := h
          have hs := sl_of_way ho
          rw [show List.map (fun (i : Nat) => (i : Int)) (wayT at_ Ta) = Zw from hZw.out] at hs
          exact ⟨⟨v, he, hs⟩, hb⟩)
        have i1 : IntKind.i64.wrap (at_ + by_) = at_ + by_ := Go.IntWalk.i64_in _ (by have h1 := Hat.out; have h2 := Hby.out; omega)
        obtain ⟨x, hx1, hx2, hx3⟩ := wayT_leads at_ Ta
        rw [hZw.out] at hx1
        have Hx1 := Lib.hid hx1
        have Hx2 := Lib.hid hx2
        have Hx3 := Lib.hid hx3
        clear hx1 hx2 hx3
        obtain ⟨-, d0, d1, d2, d3, d4, d5, d6, d7, d8⟩ := HS.out _ Q4.out
        go_wp2_with fail
        refine (C15.out _ Q4.out).mono ?_
        rintro e w5 ⟨⟨a5, c5, rfl, s5⟩, b5⟩
        have Q5 : Hid (AQ W1 w5) := Lib.hid (AQ.later Q4.out b5)
        have S5 := Lib.hid s5
        clear d0 d1 d2 d3 d4 d5 d6 d7 d8 b5 s5
        obtain ⟨-, d0, d1, d2, d3, d4, d5, d6, d7, d8⟩ := HS.out _ Q5.out
        go_wp2_with fail
        refine (C17.out _ Q5.out).mono ?_
        rintro e w6 ⟨⟨kv6, rfl, k6⟩, b6⟩
        have Q6 : Hid (AQ W1 w6) := Lib.hid (AQ.later Q5.out b6)
        have S6 := Lib.hid (S5.out.below b6)
        have K6 := Lib.hid k6
        clear d0 d1 d2 d3 d4 d5 d6 d7 d8 b6 k6
        go_wp2_with fail
        refine (C15s.out _ _ K6.out).mono ?_
        rintro e w7 ⟨⟨v7, rfl, s7⟩, b7⟩
        have Q7 : Hid (AQ W1 w7) := Lib.hid (AQ.later Q6.out b7)
        have S7 := Lib.hid (S6.out.below b7)
        have T7 := Lib.hid s7
        clear b7 s7
        go_wp2_with fail
        refine (Ints_any _ _ Zw Zw _ T7.out S7.out hZl.out).mono ?_
        rintro e w8 ⟨hcmp, b8⟩
        obtain rfl := cmp_yes hcmp rfl
        have Q8 : Hid (AQ W1 w8) := Lib.hid (AQ.later Q7.out b8)
        have S8 := Lib.hid (S7.out.below b8)
        clear hcmp b8
        obtain ⟨-, d0, d1, d2, d3, d4, d5, d6, d7, d8⟩ := HS.out _ Q8.out
        go_wp2_with fail
        refine (Get_any Ta (.slice aa na capa) Zw (.slice a5 Z c5) _ hma (KA.out _ Q8.out) S8.out hZl.out).mono ?_
        rintro e w9 ⟨hget, b9⟩
        obtain ⟨kv9, rfl, k9⟩ : ∃ kv, e = .returned (.tuple #[x.hd.agg kv, .bool true]) ∧ KidsAt w9 x.kids kv := by
          rcases hget with ⟨h, -⟩ | ⟨y, kv, h, he, hk⟩
          · rw [Hx1.out] at h; cases h
          · rw [Hx1.out] at h
            cases h
            exact ⟨kv, he, hk⟩
        obtain ⟨a9, c9, rfl, -⟩ := k9.get
        obtain ⟨X, hX⟩ : ∃ n, Hid (x.kids.length = n) := ⟨_, Lib.hid rfl⟩
        have hXb : X ≤ 2000000 := by
          have h1 := getN_cnt Zw Ta x Hx1.out
          have h2 := cnt_kids x
          have h3 := cntL_len x.kids
          have h4 := hX.out
          omega
        rw [hX.out] at k9
        rw [hX.out]
        have Q9 : Hid (AQ W1 w9) := Lib.hid (AQ.later Q8.out b9)
        obtain ⟨W10, hW10⟩ : ∃ W, Hid (w9.alloc (.cells #[.int .i64 x.hd.kind, .string (bs x.hd.text), .string (bs x.hd.type), .int .i64 x.hd.n, .int .i64 x.hd.fr, .int .i64 x.hd.to_, .int .i64 x.hd.at_, .int .i64 x.hd.tat, .slice a9 X c9] 24) = W) := ⟨_, Lib.hid rfl⟩
        have Q10 : Hid (AQ W1 W10) := by rw [← hW10.out]; exact Lib.hid (AQ.alloc Q9.out _)
        have P10 : Hid (RowAt W10 w9.heap.size 24 #[.int .i64 x.hd.kind, .string (bs x.hd.text), .string (bs x.hd.type), .int .i64 x.hd.n, .int .i64 x.hd.fr, .int .i64 x.hd.to_, .int .i64 x.hd.at_, .int .i64 x.hd.tat, .slice a9 X c9]) := by rw [← hW10.out]; exact Lib.hid (RowAt.new _ _ _)
        have K10 : Hid (KidsAt W10 x.kids (.slice a9 X c9)) := by rw [← hW10.out]; exact Lib.hid (k9.below ((Below.refl _ _).alloc (Nat.le_refl _) _))
        clear d0 d1 d2 d3 d4 d5 d6 d7 d8 hget b9 k9
        go_upto_region 17 with fail
        rw [hW10.out]
        obtain ⟨-, d0, d1, d2, d3, d4, d5, d6, d7, d8⟩ := HS.out _ Q10.out
        obtain ⟨e0, e1, e2, e3, e4, e5, e6, e7, e8⟩ := (show Cells W10 w9.heap.size 0 x.hd (.slice a9 X c9) from Cells.row P10.out)
        simp only [Nat.zero_add] at e1 e2 e3 e4 e5 e6 e7 e8
        cases hin : inN at_ Ta with
        | false =>
          have hZ0 : Z = 0 := by
            rw [← hZ.out, ← hZw.out, Hx3.out hin]
            rfl
          subst hZ0
          unfold inN at hin
          by_cases h1 : at_ < Ta.hd.fr
          · have g1 : decide (at_ < Ta.hd.fr) = true := decide_eq_true h1
            clear hin
            go_wp2_with fail
            go_ret
            exact ⟨rfl, BW.out _ Q10.out⟩
          · have g1 : decide (at_ < Ta.hd.fr) = false := decide_eq_false h1
            have g2 : decide (Ta.hd.to_ ≤ at_) = true := decide_eq_true (by
              rw [decide_eq_true (by omega : Ta.hd.fr ≤ at_), Bool.true_and] at hin
              have := of_decide_eq_false hin
              omega)
            clear hin
            go_wp2_with fail
            go_ret
            exact ⟨rfl, BW.out _ Q10.out⟩
        | true =>
          obtain ⟨hxin, hxno⟩ := Hx2.out hin
          have Hno : Hid (∀ (k : Nat) (y : Nd), x.kids[k]? = some y → inN at_ y = false) := Lib.hid (fun k y hy => by
            unfold firstIn at hxno
            rw [List.findIdx?_eq_none_iff] at hxno
            exact hxno y (List.mem_of_getElem? hy))
          unfold inN at hin hxin
          rw [Bool.and_eq_true, decide_eq_true_eq, decide_eq_true_eq] at hin hxin
          have g1 : decide (at_ < Ta.hd.fr) = false := decide_eq_false (by omega)
          have g2 : decide (Ta.hd.to_ ≤ at_) = false := decide_eq_false (by omega)
          have g3 : decide (at_ < x.hd.fr) = false := decide_eq_false (by omega)
          have g4 : decide (x.hd.to_ ≤ at_) = false := decide_eq_false (by omega)
          clear hin hxin hxno
          go_upto_region 23 with fail
          clear g1 g2 g3 g4
          go_wp2_with fail
          go_loopw [14] (fun c wr => ∃ k : Nat, c = .int .i64 k ∧ k ≤ X ∧ wr = W10) (fun c _ => X - (intOf c).toNat)
          case atStart => exact ⟨0, rfl, by omega, by trivial⟩
          case round =>
            obtain ⟨k, rfl, hk, hwx⟩ := hrel
            rw [hwx]
            clear hwx
            obtain ⟨a10, c10, e10, hc10, hm10, hx10⟩ := K10.out.get
            rw [hX.out] at e10 hc10
            cases e10
            by_cases hlt : k < X
            · obtain ⟨y, hy⟩ : ∃ y, Hid (x.kids[k]? = some y) := ⟨_, Lib.hid (List.getElem?_eq_getElem (by rw [hX.out]; exact hlt))⟩
              obtain ⟨b, off, kv, ea, cs, -⟩ := hx10 k y hy.out
              subst ea
              obtain ⟨f0, f1, f2, f3, f4, f5, f6, f7, f8⟩ := cs
              have q0 : (k : Int) < (X : Int) := by omega
              have q1 : (0 : Int) ≤ (k : Int) := by omega
              have hno := Hno.out k y hy.out
              clear hx10 hc10 hm10
              unfold inN at hno
              by_cases h1 : y.hd.fr ≤ at_
              · have t1 : decide (y.hd.fr ≤ at_) = true := decide_eq_true h1
                rw [t1, Bool.true_and] at hno
                go_wp2_with fail
                exact ⟨⟨k + 1, by go_num, by omega, by trivial⟩, by simp [intOf]; omega⟩
              · have t1 : decide (y.hd.fr ≤ at_) = false := decide_eq_false h1
                clear hno
                go_wp2_with fail
                exact ⟨⟨k + 1, by go_num, by omega, by trivial⟩, by simp [intOf]; omega⟩
            · obtain rfl : k = X := by omega
              clear hx10 hc10 hm10
              go_wp2_with fail
              go_ret
              exact ⟨rfl, BW.out _ Q10.out⟩
end Go.Proofs.Ytpnfjiglphogoac
