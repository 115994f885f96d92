/-
  For the laws of flow: the walk of FlowReached. No condition.
-/
import Derived.Test.YtbnbmjdjkadgoaaFLw
import Derived.Test.YtbnbmjdjkadgoaaFPs
namespace Go.Proofs.Ytbnbmjdjkadgoaa.F
open Go.RowKit Go.Shelf
open Go.Proofs.Ytbnbmjdjkadgoaa.X (wp_gen three_row file_any)
set_option linter.unusedSimpArgs false
set_option linter.unusedVariables false

/-- A text's nodes are no more than its bytes. -/
theorem one_cnt (s : ByteArray) (hs : s.size ≤ 1500) : ((X.oneR (tl s) 2).1.getD X.zN).cnt ≤ 2000000 := by
  have hz : X.zN.cnt ≤ 2000000 := by rw [show X.zN = Nd.mk ⟨0, [], [], 0, 0, 0, 0, 0⟩ [] from rfl, X.cnt_mk, X.cnt_nil]; omega
  unfold X.oneR
  by_cases h0 : (X.lexR 0 (tl s)).2.2 = 0
  · rw [if_neg (by simpa using h0)]
    have hG := X.goodT_lex s (by omega) h0
    have hok := (X.one_ok hG.e (X.fuelT (X.lexR 0 (tl s)).1) 2).2
    have hlen := hG.len
    generalize X.oneF (X.fuelT (X.lexR 0 (tl s)).1) (X.lexR 0 (tl s)).1 2 = q at hok
    unfold X.oneQ
    match q with
    | none => exact hz
    | some (.bad p c) => exact hz
    | some (.ok n m) =>
      obtain ⟨k1, k2, k3⟩ := hok n m rfl
      simp only
      split
      · exact hz
      split
      · exact hz
      · simp only [Option.getD_some]; omega
  · rw [if_pos h0]
    exact hz
theorem zN_good : goodN X.zN := by
  rw [show X.zN = Nd.mk ⟨0, [], [], 0, 0, 0, 0, 0⟩ [] from rfl]
  exact good_zero _ (by rw [stmtsN, stmtsL]; rfl)
/-- A text that is a statement. -/
theorem One_st (s : ByteArray) (w : World) (hs : s.size ≤ 1500) : Calls Try.prog 36 #[.string s, .int .i64 2] w fun e w' => (∃ (n : Nd) (kv : Value) (c at0 : Int), e = .returned (.tuple #[n.hd.agg kv, .agg #[.int .i64 c, .int .i64 0, .int .i64 at0]]) ∧ KidsAt w' n.kids kv ∧ goodN n ∧ n.cnt ≤ 2000000) ∧ Below w.heap.size w w' := by
  refine (X.one_any s 2 w (by omega)).mono ?_
  rintro e w' ⟨⟨kv, rfl, hk⟩, hb⟩
  exact ⟨⟨_, kv, _, _, rfl, hk, one_good (tl s) X.zN zN_good, one_cnt s hs⟩, hb⟩
set_option maxRecDepth 100000 in
set_option maxHeartbeats 16000000 in
theorem ReachedL_any (S : ByteArray) (w : World) : Calls Try.prog 8 #[.string S] w fun e w' => e = .returned (.bool true) ∧ Below w.heap.size w w' := by
  go_enter Try.func8, Try.ntmps8
  go_wp2_with fail
  refine (awake_any w).mono ?_
  rintro e w1 ⟨rfl, b1'⟩
  have B1 := Lib.hid b1'
  have hs1 := b1'.size
  clear b1'
  by_cases h15 : 1500 < S.size
  · have f15 : decide ((S.size : Int) > 1500) = true := decide_eq_true (by omega)
    have f15' : decide (1500 < S.size) = true := decide_eq_true h15
    have H15 := Lib.hid h15
    clear h15
    go_wp2_with fail
    go_ret
    exact ⟨rfl, B1.out⟩
  · have f15 : decide ((S.size : Int) > 1500) = false := decide_eq_false (by omega)
    have f15' : decide (1500 < S.size) = false := decide_eq_false h15
    have call := Lib.hid (One_st S w1 (by omega))
    have H15 := Lib.hid h15
    clear h15
    go_wp2_with fail
    refine call.out.mono ?_
    rintro e w2 ⟨⟨T, kv, c, at0, rfl, hk, hg, hm⟩, b2⟩
    have HK0 := Lib.hid hk
    have HG := Lib.hid hg
    obtain ⟨a0, cap0, rfl, -⟩ := hk.get
    have B2 := Lib.hid (B1.out.trans (b2.mono hs1))
    have hs2 := B2.out.size
    clear hk hg b2 call
    obtain ⟨n, hn⟩ : ∃ n, Hid (T.kids.length = n) := ⟨_, Lib.hid rfl⟩
    rw [hn.out] at HK0
    rw [hn.out]
    go_upto_region 7 with fail
    refine wp_gen (fun W => RowAt W w2.heap.size 44 (T.hd.vals (.slice a0 n cap0)) ∧ W.cell? ⟨w2.heap.size + 1, 0, none⟩ = some (.int .i64 c) ∧ Below w2.heap.size w2 W) ⟨(RowAt.new w2 44 (T.hd.vals (.slice a0 n cap0))).alloc _, (X.row_new (t := 34) (vs := #[.int .i64 c, .int .i64 0, .int .i64 at0]) (by simp)).cell rfl, ((Below.refl _ w2).alloc (Nat.le_refl _) _).alloc (by simp) _⟩ ?_
    rintro W3 ⟨r3, c3, b3⟩
    have HT := Lib.hid (fun U (hU : Below W3.heap.size W3 U) => (show Cells U w2.heap.size 0 T.hd (.slice a0 n cap0) from Cells.row (r3.later hU)))
    have HK := Lib.hid (fun U (hU : Below W3.heap.size W3 U) => (HK0.out.below b3).below hU)
    have B3 := Lib.hid (B2.out.trans (b3.mono hs2))
    have hs3 := B3.out.size
    clear b3 r3
    by_cases hc : c = 0
    · subst hc
      obtain ⟨d0, d1, d2, d3, d4, d5, d6, d7, d8⟩ := HT.out W3 (Below.refl _ _)
      simp only [Nat.zero_add] at d1 d2 d3 d4 d5 d6 d7 d8
      have Hdc : Hid (∀ x, deadN T = some x → x.cnt ≤ 2000000) := Lib.hid (fun x hx => by have := dead_cnt T x hx; omega)
      have call := Lib.hid (Dead_any T (.slice a0 n cap0) W3 hm (HK.out W3 (Below.refl _ _)) Hdc.out)
      have HM := Lib.hid hm
      clear hm
      go_wp2_with fail
      refine call.out.mono ?_
      rintro e w4 ⟨⟨kx, rfl, hkx⟩, b4⟩
      have Q4 := Lib.hid b4
      obtain ⟨x, hx⟩ : ∃ x, Hid ((deadN T).getD zN = x) := ⟨_, Lib.hid rfl⟩
      obtain ⟨is, his⟩ : ∃ b, Hid ((deadN T).isSome = b) := ⟨_, Lib.hid rfl⟩
      rw [hx.out] at hkx ⊢
      rw [his.out]
      obtain ⟨ax, cx, rfl, -⟩ := hkx.get
      obtain ⟨nx, hnx⟩ : ∃ n, Hid (x.kids.length = n) := ⟨_, Lib.hid rfl⟩
      rw [hnx.out]
      clear b4 hkx d0 d1 d2 d3 d4 d5 d6 d7 d8 call
      go_upto_region 10 with fail
      refine wp_gen (fun W => Below w4.heap.size w4 W) ((Below.refl _ w4).alloc (Nat.le_refl _) _) ?_
      intro W7 b7
      have Q7 := Lib.hid (Q4.out.trans (b7.mono Q4.out.size))
      clear b7
      obtain ⟨rn, hrn⟩ : ∃ b, Hid (reachN T = b) := ⟨_, Lib.hid rfl⟩
      obtain ⟨sn, hsn⟩ : ∃ b, Hid (stmtsN T = b) := ⟨_, Lib.hid rfl⟩
      have Hfin : Hid (decide (rn = sn) = !is) := Lib.hid (by rw [← hrn.out, ← hsn.out, ← his.out]; exact all_reached HG.out)
      have C31 : Hid (∀ p : InC W7, Calls Try.prog 31 #[.agg #[.int .i64 T.hd.kind, .string (bs T.hd.text), .string (bs T.hd.type), .int .i64 T.hd.n, .int .i64 T.hd.fr, .int .i64 T.hd.to_, .int .i64 T.hd.at_, .int .i64 T.hd.tat, .slice a0 n cap0]] p.w fun e w' => e = .returned (.int .i64 (rn : Nat)) ∧ Below p.w.heap.size p.w w') := Lib.hid (fun p => by rw [← hrn.out]; exact Reached_any T _ p.w HM.out (HK.out p.w (Q7.out.trans (p.h.mono Q7.out.size))))
      have C37 : Hid (∀ p : InC W7, Calls Try.prog 37 #[.agg #[.int .i64 T.hd.kind, .string (bs T.hd.text), .string (bs T.hd.type), .int .i64 T.hd.n, .int .i64 T.hd.fr, .int .i64 T.hd.to_, .int .i64 T.hd.at_, .int .i64 T.hd.tat, .slice a0 n cap0]] p.w fun e w' => e = .returned (.int .i64 (sn : Nat)) ∧ Below p.w.heap.size p.w w') := Lib.hid (fun p => by rw [← hsn.out]; exact RefStatements_at T _ p.w HM.out (HK.out p.w (Q7.out.trans (p.h.mono Q7.out.size))))
      have t0 : ∀ p : InC W7, p.w.cell? ⟨w2.heap.size, 0, none⟩ = some (.int .i64 T.hd.kind) := fun p => (HT.out p.w (Q7.out.trans (p.h.mono Q7.out.size))).c0
      have t1 : ∀ p : InC W7, p.w.cell? ⟨w2.heap.size, 1, none⟩ = some (.string (bs T.hd.text)) := fun p => by have h := (HT.out p.w (Q7.out.trans (p.h.mono Q7.out.size))).c1; rw [Nat.zero_add] at h; exact h
      have t2 : ∀ p : InC W7, p.w.cell? ⟨w2.heap.size, 2, none⟩ = some (.string (bs T.hd.type)) := fun p => by have h := (HT.out p.w (Q7.out.trans (p.h.mono Q7.out.size))).c2; rw [Nat.zero_add] at h; exact h
      have t3 : ∀ p : InC W7, p.w.cell? ⟨w2.heap.size, 3, none⟩ = some (.int .i64 T.hd.n) := fun p => by have h := (HT.out p.w (Q7.out.trans (p.h.mono Q7.out.size))).c3; rw [Nat.zero_add] at h; exact h
      have t4 : ∀ p : InC W7, p.w.cell? ⟨w2.heap.size, 4, none⟩ = some (.int .i64 T.hd.fr) := fun p => by have h := (HT.out p.w (Q7.out.trans (p.h.mono Q7.out.size))).c4; rw [Nat.zero_add] at h; exact h
      have t5 : ∀ p : InC W7, p.w.cell? ⟨w2.heap.size, 5, none⟩ = some (.int .i64 T.hd.to_) := fun p => by have h := (HT.out p.w (Q7.out.trans (p.h.mono Q7.out.size))).c5; rw [Nat.zero_add] at h; exact h
      have t6 : ∀ p : InC W7, p.w.cell? ⟨w2.heap.size, 6, none⟩ = some (.int .i64 T.hd.at_) := fun p => by have h := (HT.out p.w (Q7.out.trans (p.h.mono Q7.out.size))).c6; rw [Nat.zero_add] at h; exact h
      have t7 : ∀ p : InC W7, p.w.cell? ⟨w2.heap.size, 7, none⟩ = some (.int .i64 T.hd.tat) := fun p => by have h := (HT.out p.w (Q7.out.trans (p.h.mono Q7.out.size))).c7; rw [Nat.zero_add] at h; exact h
      have t8 : ∀ p : InC W7, p.w.cell? ⟨w2.heap.size, 8, none⟩ = some (.slice a0 n cap0) := fun p => by have h := (HT.out p.w (Q7.out.trans (p.h.mono Q7.out.size))).c8; rw [Nat.zero_add] at h; exact h
      refine wp_quiet_in W7 (Below.refl _ _) (by kernel_rfl) (by kernel_rfl) ?_
      repeat (quiet_step (first | (go_at_call 31; with_reducible exact quiet_in (C31.out _)) | (go_at_call 37; with_reducible exact quiet_in (C37.out _))))
      refine wpQuiet_nil ?_
      intro U hw'
      have hU : Below W7.heap.size W7 U := by obtain ⟨p, rfl⟩ := hw'; exact p.h
      have hfin := Lib.hid (B3.out.trans ((Q7.out.trans (hU.mono Q7.out.size)).mono hs3))
      clear hw' hU t0 t1 t2 t3 t4 t5 t6 t7 t8
      by_cases hrs : rn = sn
      · have h2 := Hfin.out
        rw [decide_eq_true hrs] at h2
        obtain rfl : is = false := by cases is with | true => simp at h2 | false => rfl
        subst hrs
        clear h2
        go_wp2_with fail
        go_ret
        exact ⟨by simp, hfin.out⟩
      · have h2 := Hfin.out
        rw [decide_eq_false hrs] at h2
        obtain rfl : is = true := by cases is with | false => simp at h2 | true => rfl
        clear h2
        have hrs2 : ¬ ((rn : Int) = (sn : Int)) := by omega
        go_wp2_with fail
        go_ret
        exact ⟨by simp [hrs2, hrs], hfin.out⟩
    · go_wp2_with fail
      go_ret
      exact ⟨rfl, B3.out⟩
end Go.Proofs.Ytbnbmjdjkadgoaa.F
