/-
  For the laws of flow: few; the walk of FlowTells. Condition: at most 2,000,000 nodes.
-/
import Derived.Test.YtbnbmjdjkadgoaaFAw
namespace Go.Proofs.Ytbnbmjdjkadgoaa.F
open Go.RowKit Go.Shelf
open Go.Proofs.Ytbnbmjdjkadgoaa.X (wp_gen three_row)
set_option linter.unusedSimpArgs false
set_option linter.unusedVariables false

/-- Are there few nodes, and not too deep? -/
def fewN (t : Nd) : Bool := decide (t.ht ≤ 80) && decide (t.cnt ≤ 400)
theorem few_ok {t : Nd} (h : fewN t = true) : t.ht ≤ 80 ∧ t.cnt ≤ 400 := by
  unfold fewN at h
  rw [Bool.and_eq_true, decide_eq_true_eq, decide_eq_true_eq] at h
  exact h
set_option maxRecDepth 100000 in
set_option maxHeartbeats 8000000 in
theorem few_any (t : Nd) (v : Value) (w : World) (hm : t.cnt ≤ 2000000) (h : NdAt w v t) : Calls Try.prog 25 #[v] w fun e w' => e = .returned (.bool (fewN t)) ∧ Below w.heap.size w w' := by
  obtain ⟨kv, rfl, hk⟩ := h
  have HK := Lib.hid hk
  obtain ⟨a, cap, rfl, -⟩ := hk.get
  obtain ⟨W1, hW1⟩ : ∃ W1, Hid (w.alloc (.cells #[.int .i64 t.hd.kind, .string (bs t.hd.text), .string (bs t.hd.type), .int .i64 t.hd.n, .int .i64 t.hd.fr, .int .i64 t.hd.to_, .int .i64 t.hd.at_, .int .i64 t.hd.tat, .slice a t.kids.length cap] 44) = W1) := ⟨_, Lib.hid rfl⟩
  have R1 : Hid (RowAt W1 w.heap.size 44 (t.hd.vals (.slice a t.kids.length cap))) := by rw [← hW1.out]; exact Lib.hid (RowAt.new w 44 _)
  have B1 : Hid (Below w.heap.size w W1) := by rw [← hW1.out]; exact Lib.hid ((Below.refl _ w).alloc (Nat.le_refl _) _)
  have hs1 := B1.out.size
  have call := Lib.hid (Deep_any t _ 80 W1 (by omega) ⟨_, rfl, HK.out.below B1.out⟩)
  have call2 : Hid (∀ W, Below W1.heap.size W1 W → Calls Try.prog 53 #[t.hd.agg (.slice a t.kids.length cap)] W fun e w' => e = .returned (.int .i64 (t.cnt : Nat)) ∧ Below W.heap.size W w') := Lib.hid fun W hb => RefCount_any t _ W hm ⟨_, rfl, (HK.out.below B1.out).below hb⟩
  clear hk
  show Calls Try.prog 25 #[.agg #[.int .i64 t.hd.kind, .string (bs t.hd.text), .string (bs t.hd.type), .int .i64 t.hd.n, .int .i64 t.hd.fr, .int .i64 t.hd.to_, .int .i64 t.hd.at_, .int .i64 t.hd.tat, .slice a t.kids.length cap]] w _
  change Hid (Calls Try.prog 52 #[.agg #[.int .i64 t.hd.kind, .string (bs t.hd.text), .string (bs t.hd.type), .int .i64 t.hd.n, .int .i64 t.hd.fr, .int .i64 t.hd.to_, .int .i64 t.hd.at_, .int .i64 t.hd.tat, .slice a t.kids.length cap], _] _ _) at call
  change Hid (∀ W, _ → Calls Try.prog 53 #[.agg #[.int .i64 t.hd.kind, .string (bs t.hd.text), .string (bs t.hd.type), .int .i64 t.hd.n, .int .i64 t.hd.fr, .int .i64 t.hd.to_, .int .i64 t.hd.at_, .int .i64 t.hd.tat, .slice a t.kids.length cap]] _ _) at call2
  obtain ⟨n, hn⟩ : ∃ n, Hid (t.kids.length = n) := ⟨_, Lib.hid rfl⟩
  rw [hn.out] at hW1 call call2 R1
  rw [hn.out]
  obtain ⟨c, hc⟩ : ∃ c, Hid (t.cnt = c) := ⟨_, Lib.hid rfl⟩
  rw [hc.out] at call2
  obtain ⟨d, hd⟩ : ∃ d, Hid (decide ((80 : Int) < (t.ht : Int)) = d) := ⟨_, Lib.hid rfl⟩
  rw [hd.out] at call
  cases d with
  | true =>
    have hr : Hid (fewN t = false) := Lib.hid (by
      have := of_decide_eq_true hd.out
      unfold fewN
      rw [decide_eq_false (by omega), Bool.false_and])
    rw [hr.out]
    go_enter Try.func25, Try.ntmps25
    go_wp2_with fail
    rw [hW1.out]
    refine call.out.mono ?_
    rintro e w2 ⟨rfl, b2⟩
    have B2 := Lib.hid (B1.out.trans (b2.mono hs1))
    clear b2
    go_wp2_with fail
    go_ret
    exact ⟨rfl, B2.out⟩
  | false =>
    have hr : Hid (fewN t = decide (c ≤ 400)) := Lib.hid (by
      have := of_decide_eq_false hd.out
      unfold fewN
      rw [decide_eq_true (by omega), Bool.true_and, hc.out])
    rw [hr.out]
    go_enter Try.func25, Try.ntmps25
    go_wp2_with fail
    rw [hW1.out]
    refine call.out.mono ?_
    rintro e w2 ⟨rfl, b2⟩
    have R2 := Lib.hid (R1.out.later b2)
    have B2 := Lib.hid (B1.out.trans (b2.mono hs1))
    have c2 := Lib.hid (call2.out w2 b2)
    have hs2 := B2.out.size
    obtain ⟨d0, d1, d2, d3, d4, d5, d6, d7, d8⟩ := Cells.row R2.out
    simp only [Nat.zero_add] at d1 d2 d3 d4 d5 d6 d7 d8
    clear b2 call2
    go_wp2_with fail
    refine c2.out.mono ?_
    rintro e w3 ⟨rfl, b3⟩
    have B3 := Lib.hid (B2.out.trans (b3.mono hs2))
    clear b3
    go_wp2_with fail
    go_ret
    exact ⟨by simp; omega, B3.out⟩

mutual
theorem dead_cnt : ∀ (t x : Nd), deadN t = some x → x.cnt ≤ t.cnt
  | .mk h ks, x, e => by
    rw [deadN] at e
    have := deadL_cnt (decide (h.kind = 5)) false ks x e
    rw [Nd.cnt]; omega
theorem deadL_cnt (blk ended : Bool) : ∀ (ks : List Nd) (x : Nd), deadL blk ended ks = some x → x.cnt ≤ cntL ks
  | [], x, e => by rw [deadL] at e; cases e
  | t :: ts, x, e => by
    rw [deadL] at e
    rw [cntL]
    split at e
    · obtain rfl := Option.some.inj e; omega
    · cases hd : deadN t with
      | some y =>
        rw [hd] at e
        obtain rfl := Option.some.inj e
        have := dead_cnt t y hd
        omega
      | none =>
        rw [hd] at e
        have := deadL_cnt blk (ended || !endsN t) ts x e
        omega
end
theorem exact_same (w : World) (t : Nd) (k1 k2 : Value) (W : World) (h1 : KidsAt w t.kids k1) (hW : Below w.heap.size w W) (h2 : KidsAt W t.kids k2) :
    Calls Try.prog 30 #[.agg #[.int .i64 t.hd.kind, .string (bs t.hd.text), .string (bs t.hd.type), .int .i64 t.hd.n, .int .i64 t.hd.fr, .int .i64 t.hd.to_, .int .i64 t.hd.at_, .int .i64 t.hd.tat, k1], .agg #[.int .i64 t.hd.kind, .string (bs t.hd.text), .string (bs t.hd.type), .int .i64 t.hd.n, .int .i64 t.hd.fr, .int .i64 t.hd.to_, .int .i64 t.hd.at_, .int .i64 t.hd.tat, k2]] W fun e w' => e = .returned (.bool true) ∧ Below W.heap.size W w' := by
  refine (Exact_at w t k1 h1 W hW t k2 h2).mono ?_
  rintro e w' ⟨⟨r, rfl, hr⟩, hb⟩
  exact ⟨by rw [hr.2 rfl], hb⟩
set_option maxRecDepth 100000 in
set_option maxHeartbeats 16000000 in
theorem Tells_any (T : Nd) (kv : Value) (w : World) (hm : T.cnt ≤ 2000000) (hk : KidsAt w T.kids kv) : Calls Try.prog 5 #[.agg #[.int .i64 T.hd.kind, .string (bs T.hd.text), .string (bs T.hd.type), .int .i64 T.hd.n, .int .i64 T.hd.fr, .int .i64 T.hd.to_, .int .i64 T.hd.at_, .int .i64 T.hd.tat, kv]] w fun e w' => e = .returned (.bool true) ∧ Below w.heap.size w w' := by
  have HK0 := Lib.hid hk
  obtain ⟨a0, cap0, rfl, -⟩ := hk.get
  clear hk
  obtain ⟨n, hn⟩ : ∃ n, Hid (T.kids.length = n) := ⟨_, Lib.hid rfl⟩
  rw [hn.out] at HK0
  rw [hn.out]
  obtain ⟨W1, hW1⟩ : ∃ W1, Hid (w.alloc (.cells #[.int .i64 T.hd.kind, .string (bs T.hd.text), .string (bs T.hd.type), .int .i64 T.hd.n, .int .i64 T.hd.fr, .int .i64 T.hd.to_, .int .i64 T.hd.at_, .int .i64 T.hd.tat, .slice a0 n cap0] 44) = W1) := ⟨_, Lib.hid rfl⟩
  have B1 : Hid (Below w.heap.size w W1) := by rw [← hW1.out]; exact Lib.hid ((Below.refl _ w).alloc (Nat.le_refl _) _)
  have R1 : Hid (RowAt W1 w.heap.size 44 (T.hd.vals (.slice a0 n cap0))) := by rw [← hW1.out]; exact Lib.hid (RowAt.new w 44 _)
  have hs1 := B1.out.size
  have HT := Lib.hid (fun U (hU : Below W1.heap.size W1 U) => (show Cells U w.heap.size 0 T.hd (.slice a0 n cap0) from Cells.row (R1.out.later hU)))
  have HK := Lib.hid (fun U (hU : Below W1.heap.size W1 U) => (HK0.out.below B1.out).below hU)
  obtain ⟨fw, hfw⟩ : ∃ f, Hid (fewN T = f) := ⟨_, Lib.hid rfl⟩
  go_enter Try.func5, Try.ntmps5
  go_wp2_with fail
  rw [hW1.out]
  refine (awake_any W1).mono ?_
  rintro e w2 ⟨rfl, b2⟩
  have Q2 := Lib.hid b2
  obtain ⟨d0, d1, d2, d3, d4, d5, d6, d7, d8⟩ := HT.out w2 b2
  simp only [Nat.zero_add] at d1 d2 d3 d4 d5 d6 d7 d8
  have call := Lib.hid (few_any T _ w2 hm ⟨.slice a0 n cap0, rfl, HK.out w2 b2⟩)
  change Hid (Calls Try.prog 25 #[.agg #[.int .i64 T.hd.kind, .string (bs T.hd.text), .string (bs T.hd.type), .int .i64 T.hd.n, .int .i64 T.hd.fr, .int .i64 T.hd.to_, .int .i64 T.hd.at_, .int .i64 T.hd.tat, .slice a0 n cap0]] _ _) at call
  rw [hfw.out] at call
  clear b2
  go_wp2_with fail
  refine call.out.mono ?_
  rintro e w3 ⟨rfl, b3⟩
  have Q3 := Lib.hid (Q2.out.trans (b3.mono Q2.out.size))
  clear b3 d0 d1 d2 d3 d4 d5 d6 d7 d8 call
  cases fw with
  | false =>
    go_wp2_with fail
    go_ret
    exact ⟨rfl, B1.out.trans (Q3.out.mono hs1)⟩
  | true =>
    have hsz := (few_ok hfw.out).2
    have Hdc : Hid (∀ x, deadN T = some x → x.cnt ≤ 2000000) := Lib.hid (fun x hx => by have := dead_cnt T x hx; omega)
    obtain ⟨d0, d1, d2, d3, d4, d5, d6, d7, d8⟩ := HT.out w3 Q3.out
    simp only [Nat.zero_add] at d1 d2 d3 d4 d5 d6 d7 d8
    have call := Lib.hid (Dead_any T (.slice a0 n cap0) w3 hm (HK.out w3 Q3.out) Hdc.out)
    go_wp2_with fail
    refine call.out.mono ?_
    rintro e w4 ⟨⟨kx, rfl, hkx⟩, b4⟩
    have Q4 := Lib.hid (Q3.out.trans (b4.mono Q3.out.size))
    obtain ⟨x, hx⟩ : ∃ x, Hid ((deadN T).getD zN = x) := ⟨_, Lib.hid rfl⟩
    obtain ⟨is, his⟩ : ∃ b, Hid ((deadN T).isSome = b) := ⟨_, Lib.hid rfl⟩
    rw [hx.out] at hkx ⊢
    rw [his.out]
    have HKX0 := Lib.hid hkx
    obtain ⟨ax, cx, rfl, -⟩ := hkx.get
    obtain ⟨nx, hnx⟩ : ∃ n, Hid (x.kids.length = n) := ⟨_, Lib.hid rfl⟩
    rw [hnx.out] at HKX0
    rw [hnx.out]
    clear b4 hkx d0 d1 d2 d3 d4 d5 d6 d7 d8 call
    go_upto_region 8 with fail
    refine wp_gen (fun W => RowAt W w4.heap.size 44 (x.hd.vals (.slice ax nx cx)) ∧ Below w4.heap.size w4 W) ⟨RowAt.new w4 44 (x.hd.vals (.slice ax nx cx)), (Below.refl _ w4).alloc (Nat.le_refl _) _⟩ ?_
    rintro W5 ⟨r5, b5⟩
    have HX := Lib.hid (fun U (hU : Below W5.heap.size W5 U) => (show Cells U w4.heap.size 0 x.hd (.slice ax nx cx) from Cells.row (r5.later hU)))
    have HKX := Lib.hid (fun U (hU : Below W5.heap.size W5 U) => (HKX0.out.below b5).below hU)
    have Q5 := Lib.hid (Q4.out.trans (b5.mono Q4.out.size))
    clear r5 b5
    obtain ⟨d0, d1, d2, d3, d4, d5, d6, d7, d8⟩ := HT.out W5 Q5.out
    simp only [Nat.zero_add] at d1 d2 d3 d4 d5 d6 d7 d8
    have call := Lib.hid (RefDead_at W5 T (.slice a0 n cap0) (HK.out W5 Q5.out) W5 (Below.refl _ _))
    go_wp2_with fail
    refine call.out.mono ?_
    rintro e w6 ⟨⟨ky, rfl, hky⟩, b6⟩
    rw [hx.out] at hky ⊢
    rw [his.out]
    have HKY0 := Lib.hid (hky.below b6)
    obtain ⟨ay, cy, rfl, -⟩ := hky.get
    rw [hnx.out] at HKY0
    rw [hnx.out]
    have b56 := Lib.hid b6
    have Q6 := Lib.hid (Q5.out.trans (b6.mono Q5.out.size))
    clear b6 hky d0 d1 d2 d3 d4 d5 d6 d7 d8 call
    go_upto_region 9 with fail
    refine wp_gen (fun W => RowAt W w6.heap.size 44 (x.hd.vals (.slice ay nx cy)) ∧ Below w6.heap.size w6 W) ⟨RowAt.new w6 44 (x.hd.vals (.slice ay nx cy)), (Below.refl _ w6).alloc (Nat.le_refl _) _⟩ ?_
    rintro W7 ⟨r7, b7⟩
    have HY := Lib.hid (fun U (hU : Below W7.heap.size W7 U) => (show Cells U w6.heap.size 0 x.hd (.slice ay nx cy) from Cells.row (r7.later hU)))
    have HKY := Lib.hid (fun U (hU : Below W7.heap.size W7 U) => (HKY0.out.below b7).below hU)
    have Q7 := Lib.hid (Q6.out.trans (b7.mono Q6.out.size))
    have b57 := Lib.hid (b56.out.trans (b7.mono b56.out.size))
    clear r7 b7
    obtain ⟨en, hen⟩ : ∃ b, Hid (endsN T = b) := ⟨_, Lib.hid rfl⟩
    obtain ⟨rn, hrn⟩ : ∃ b, Hid (reachN T = b) := ⟨_, Lib.hid rfl⟩
    have C28 : Hid (∀ p : InC W7, Calls Try.prog 28 #[.agg #[.int .i64 T.hd.kind, .string (bs T.hd.text), .string (bs T.hd.type), .int .i64 T.hd.n, .int .i64 T.hd.fr, .int .i64 T.hd.to_, .int .i64 T.hd.at_, .int .i64 T.hd.tat, .slice a0 n cap0]] p.w fun e w' => e = .returned (.bool en) ∧ Below p.w.heap.size p.w w') := Lib.hid (fun p => by rw [← hen.out]; exact Ends_any T _ p.w hm (HK.out p.w (Q7.out.trans (p.h.mono Q7.out.size))))
    have C29 : Hid (∀ p : InC W7, Calls Try.prog 29 #[.agg #[.int .i64 T.hd.kind, .string (bs T.hd.text), .string (bs T.hd.type), .int .i64 T.hd.n, .int .i64 T.hd.fr, .int .i64 T.hd.to_, .int .i64 T.hd.at_, .int .i64 T.hd.tat, .slice a0 n cap0]] p.w fun e w' => e = .returned (.bool en) ∧ Below p.w.heap.size p.w w') := Lib.hid (fun p => by rw [← hen.out]; exact RefEnds_at p.w T _ (HK.out p.w (Q7.out.trans (p.h.mono Q7.out.size))) p.w (Below.refl _ _))
    have C31 : Hid (∀ p : InC W7, Calls Try.prog 31 #[.agg #[.int .i64 T.hd.kind, .string (bs T.hd.text), .string (bs T.hd.type), .int .i64 T.hd.n, .int .i64 T.hd.fr, .int .i64 T.hd.to_, .int .i64 T.hd.at_, .int .i64 T.hd.tat, .slice a0 n cap0]] p.w fun e w' => e = .returned (.int .i64 (rn : Nat)) ∧ Below p.w.heap.size p.w w') := Lib.hid (fun p => by rw [← hrn.out]; exact Reached_any T _ p.w hm (HK.out p.w (Q7.out.trans (p.h.mono Q7.out.size))))
    have C32 : Hid (∀ p : InC W7, Calls Try.prog 32 #[.agg #[.int .i64 T.hd.kind, .string (bs T.hd.text), .string (bs T.hd.type), .int .i64 T.hd.n, .int .i64 T.hd.fr, .int .i64 T.hd.to_, .int .i64 T.hd.at_, .int .i64 T.hd.tat, .slice a0 n cap0]] p.w fun e w' => e = .returned (.int .i64 (rn : Nat)) ∧ Below p.w.heap.size p.w w') := Lib.hid (fun p => by rw [← hrn.out]; exact RefReached_at p.w T _ (HK.out p.w (Q7.out.trans (p.h.mono Q7.out.size))) p.w (Below.refl _ _) hm)
    have C30 : Hid (∀ p : InC W7, Calls Try.prog 30 #[.agg #[.int .i64 x.hd.kind, .string (bs x.hd.text), .string (bs x.hd.type), .int .i64 x.hd.n, .int .i64 x.hd.fr, .int .i64 x.hd.to_, .int .i64 x.hd.at_, .int .i64 x.hd.tat, .slice ax nx cx], .agg #[.int .i64 x.hd.kind, .string (bs x.hd.text), .string (bs x.hd.type), .int .i64 x.hd.n, .int .i64 x.hd.fr, .int .i64 x.hd.to_, .int .i64 x.hd.at_, .int .i64 x.hd.tat, .slice ay nx cy]] p.w fun e w' => e = .returned (.bool true) ∧ Below p.w.heap.size p.w w') := Lib.hid (fun p => exact_same p.w x _ _ p.w (HKX.out p.w (b57.out.trans (p.h.mono b57.out.size))) (Below.refl _ _) (HKY.out p.w p.h))
    have t0 : ∀ p : InC W7, p.w.cell? ⟨w.heap.size, 0, none⟩ = some (.int .i64 T.hd.kind) := fun p => (HT.out p.w (Q7.out.trans (p.h.mono Q7.out.size))).c0
    have t1 : ∀ p : InC W7, p.w.cell? ⟨w.heap.size, 1, none⟩ = some (.string (bs T.hd.text)) := fun p => by have h := (HT.out p.w (Q7.out.trans (p.h.mono Q7.out.size))).c1; rw [Nat.zero_add] at h; exact h
    have t2 : ∀ p : InC W7, p.w.cell? ⟨w.heap.size, 2, none⟩ = some (.string (bs T.hd.type)) := fun p => by have h := (HT.out p.w (Q7.out.trans (p.h.mono Q7.out.size))).c2; rw [Nat.zero_add] at h; exact h
    have t3 : ∀ p : InC W7, p.w.cell? ⟨w.heap.size, 3, none⟩ = some (.int .i64 T.hd.n) := fun p => by have h := (HT.out p.w (Q7.out.trans (p.h.mono Q7.out.size))).c3; rw [Nat.zero_add] at h; exact h
    have t4 : ∀ p : InC W7, p.w.cell? ⟨w.heap.size, 4, none⟩ = some (.int .i64 T.hd.fr) := fun p => by have h := (HT.out p.w (Q7.out.trans (p.h.mono Q7.out.size))).c4; rw [Nat.zero_add] at h; exact h
    have t5 : ∀ p : InC W7, p.w.cell? ⟨w.heap.size, 5, none⟩ = some (.int .i64 T.hd.to_) := fun p => by have h := (HT.out p.w (Q7.out.trans (p.h.mono Q7.out.size))).c5; rw [Nat.zero_add] at h; exact h
    have t6 : ∀ p : InC W7, p.w.cell? ⟨w.heap.size, 6, none⟩ = some (.int .i64 T.hd.at_) := fun p => by have h := (HT.out p.w (Q7.out.trans (p.h.mono Q7.out.size))).c6; rw [Nat.zero_add] at h; exact h
    have t7 : ∀ p : InC W7, p.w.cell? ⟨w.heap.size, 7, none⟩ = some (.int .i64 T.hd.tat) := fun p => by have h := (HT.out p.w (Q7.out.trans (p.h.mono Q7.out.size))).c7; rw [Nat.zero_add] at h; exact h
    have t8 : ∀ p : InC W7, p.w.cell? ⟨w.heap.size, 8, none⟩ = some (.slice a0 n cap0) := fun p => by have h := (HT.out p.w (Q7.out.trans (p.h.mono Q7.out.size))).c8; rw [Nat.zero_add] at h; exact h
    have u0 : ∀ p : InC W7, p.w.cell? ⟨w4.heap.size, 0, none⟩ = some (.int .i64 x.hd.kind) := fun p => (HX.out p.w (b57.out.trans (p.h.mono b57.out.size))).c0
    have u1 : ∀ p : InC W7, p.w.cell? ⟨w4.heap.size, 1, none⟩ = some (.string (bs x.hd.text)) := fun p => by have h := (HX.out p.w (b57.out.trans (p.h.mono b57.out.size))).c1; rw [Nat.zero_add] at h; exact h
    have u2 : ∀ p : InC W7, p.w.cell? ⟨w4.heap.size, 2, none⟩ = some (.string (bs x.hd.type)) := fun p => by have h := (HX.out p.w (b57.out.trans (p.h.mono b57.out.size))).c2; rw [Nat.zero_add] at h; exact h
    have u3 : ∀ p : InC W7, p.w.cell? ⟨w4.heap.size, 3, none⟩ = some (.int .i64 x.hd.n) := fun p => by have h := (HX.out p.w (b57.out.trans (p.h.mono b57.out.size))).c3; rw [Nat.zero_add] at h; exact h
    have u4 : ∀ p : InC W7, p.w.cell? ⟨w4.heap.size, 4, none⟩ = some (.int .i64 x.hd.fr) := fun p => by have h := (HX.out p.w (b57.out.trans (p.h.mono b57.out.size))).c4; rw [Nat.zero_add] at h; exact h
    have u5 : ∀ p : InC W7, p.w.cell? ⟨w4.heap.size, 5, none⟩ = some (.int .i64 x.hd.to_) := fun p => by have h := (HX.out p.w (b57.out.trans (p.h.mono b57.out.size))).c5; rw [Nat.zero_add] at h; exact h
    have u6 : ∀ p : InC W7, p.w.cell? ⟨w4.heap.size, 6, none⟩ = some (.int .i64 x.hd.at_) := fun p => by have h := (HX.out p.w (b57.out.trans (p.h.mono b57.out.size))).c6; rw [Nat.zero_add] at h; exact h
    have u7 : ∀ p : InC W7, p.w.cell? ⟨w4.heap.size, 7, none⟩ = some (.int .i64 x.hd.tat) := fun p => by have h := (HX.out p.w (b57.out.trans (p.h.mono b57.out.size))).c7; rw [Nat.zero_add] at h; exact h
    have u8 : ∀ p : InC W7, p.w.cell? ⟨w4.heap.size, 8, none⟩ = some (.slice ax nx cx) := fun p => by have h := (HX.out p.w (b57.out.trans (p.h.mono b57.out.size))).c8; rw [Nat.zero_add] at h; exact h
    have v0 : ∀ p : InC W7, p.w.cell? ⟨w6.heap.size, 0, none⟩ = some (.int .i64 x.hd.kind) := fun p => (HY.out p.w p.h).c0
    have v1 : ∀ p : InC W7, p.w.cell? ⟨w6.heap.size, 1, none⟩ = some (.string (bs x.hd.text)) := fun p => by have h := (HY.out p.w p.h).c1; rw [Nat.zero_add] at h; exact h
    have v2 : ∀ p : InC W7, p.w.cell? ⟨w6.heap.size, 2, none⟩ = some (.string (bs x.hd.type)) := fun p => by have h := (HY.out p.w p.h).c2; rw [Nat.zero_add] at h; exact h
    have v3 : ∀ p : InC W7, p.w.cell? ⟨w6.heap.size, 3, none⟩ = some (.int .i64 x.hd.n) := fun p => by have h := (HY.out p.w p.h).c3; rw [Nat.zero_add] at h; exact h
    have v4 : ∀ p : InC W7, p.w.cell? ⟨w6.heap.size, 4, none⟩ = some (.int .i64 x.hd.fr) := fun p => by have h := (HY.out p.w p.h).c4; rw [Nat.zero_add] at h; exact h
    have v5 : ∀ p : InC W7, p.w.cell? ⟨w6.heap.size, 5, none⟩ = some (.int .i64 x.hd.to_) := fun p => by have h := (HY.out p.w p.h).c5; rw [Nat.zero_add] at h; exact h
    have v6 : ∀ p : InC W7, p.w.cell? ⟨w6.heap.size, 6, none⟩ = some (.int .i64 x.hd.at_) := fun p => by have h := (HY.out p.w p.h).c6; rw [Nat.zero_add] at h; exact h
    have v7 : ∀ p : InC W7, p.w.cell? ⟨w6.heap.size, 7, none⟩ = some (.int .i64 x.hd.tat) := fun p => by have h := (HY.out p.w p.h).c7; rw [Nat.zero_add] at h; exact h
    have v8 : ∀ p : InC W7, p.w.cell? ⟨w6.heap.size, 8, none⟩ = some (.slice ay nx cy) := fun p => by have h := (HY.out p.w p.h).c8; rw [Nat.zero_add] at h; exact h
    refine wp_quiet_in W7 (Below.refl _ _) (by kernel_rfl) (by kernel_rfl) ?_
    repeat (quiet_step (first | (go_at_call 28; with_reducible exact quiet_in (C28.out _)) | (go_at_call 29; with_reducible exact quiet_in (C29.out _)) | (go_at_call 30; with_reducible exact quiet_in (C30.out _)) | (go_at_call 31; with_reducible exact quiet_in (C31.out _)) | (go_at_call 32; with_reducible exact quiet_in (C32.out _))))
    refine wpQuiet_nil ?_
    intro U hw'
    have hU : Below W7.heap.size W7 U := by obtain ⟨p, rfl⟩ := hw'; exact p.h
    have hfin := Lib.hid (B1.out.trans ((Q7.out.trans (hU.mono Q7.out.size)).mono hs1))
    clear hw' hU t0 t1 t2 t3 t4 t5 t6 t7 t8 u0 u1 u2 u3 u4 u5 u6 u7 u8 v0 v1 v2 v3 v4 v5 v6 v7 v8
    go_wp2_with fail
    go_ret
    exact ⟨by simp, hfin.out⟩
end Go.Proofs.Ytbnbmjdjkadgoaa.F
