/-
  For the laws of span: whether edits may be done, by the program. Condition: as handed in.
-/
import Derived.Test.YtpekbakidhfliaaEds
namespace Go.Proofs.Ytpekbakidhfliaa
open Go.RowKit Go.Shelf

theorem ed_new (W : World) (x y : Int) (t : ByteArray) : RowAt (W.alloc (.cells #[.int .i64 x, .int .i64 y, .string t] 39)) W.heap.size 39 #[.int .i64 x, .int .i64 y, .string t] := RowAt.new _ _ _
/-- The code for whether it may be. -/
def code (b : Bool) : Int := if b then 0 else 20
theorem chk_some {n : Int} {p : Option Ed} {e : Ed} {L : List Ed} (h : okB n e = false) : chkB n p (e :: L) = false := by
  cases p <;> simp [chkB, h]
theorem ok_no1 {n : Int} {e : Ed} (h : e.fr < 0 ∨ e.fr > e.to ∨ e.to > n) : okB n e = false := by
  cases hb : okB n e with
  | false => rfl
  | true =>
    simp only [okB, Bool.and_eq_true, decide_eq_true_eq] at hb
    omega
theorem ok_yes {n : Int} {e : Ed} (h1 : 0 ≤ e.fr) (h2 : e.fr ≤ e.to) (h3 : e.to ≤ n) : okB n e = true := by
  simp [okB, h1, h2, h3]
theorem nx_no {p e : Ed} (h : e.fr < p.to ∨ e.fr = p.fr) : nxB p e = false := by
  cases hb : nxB p e with
  | false => rfl
  | true =>
    simp only [nxB, Bool.and_eq_true, decide_eq_true_eq] at hb
    omega
theorem nx_yes {p e : Ed} (h1 : p.to ≤ e.fr) (h2 : p.fr ≤ p.to) (h3 : e.fr ≠ p.fr) : nxB p e = true := by
  simp only [nxB, Bool.and_eq_true, decide_eq_true_eq]
  omega
set_option maxRecDepth 100000 in
set_option maxHeartbeats 8000000 in
theorem Check_any (n : Int) (v : Value) (L : List Ed) (w : World) (h1 : Eds w v L) : Calls Try.prog 13 #[.int .i64 n, v] w fun e w' => e = .returned (.int .i64 (code (chkB n none L))) ∧ Below w.heap.size w w' := by
  obtain ⟨a, cap, rfl, hc, hm, hat⟩ := h1
  have Hat := Lib.hid hat; clear hat
  unfold maxLen at hm
  obtain ⟨r, hr⟩ : ∃ r, Hid (chkB n none L = r) := ⟨_, Lib.hid rfl⟩
  rw [hr.out]
  go_enter Try.func13, Try.ntmps13
  go_wp2_with fail
  go_loopw [9] (fun c wr => ∃ k : Nat, c = .int .i64 k ∧ k ≤ L.length ∧ Hid (Below w.heap.size w wr) ∧ Hid (chkB n (pr L k) (L.drop k) = r) ∧ Hid (∀ j p, k = j + 1 → L[j]? = some p → p.fr ≤ p.to)) (fun c _ => L.length - (intOf c).toNat)
  case atStart => exact ⟨0, rfl, by omega, Lib.hid (Below.refl _ _), hr, Lib.hid (fun j p h => by omega)⟩
  case round =>
    obtain ⟨k, rfl, hk, hB, hg, hprev⟩ := hrel
    have hbs := hB.out.size
    by_cases hlt : k < L.length
    · obtain ⟨x, hx⟩ : ∃ x, L[k]? = some x := ⟨_, List.getElem?_eq_getElem hlt⟩
      obtain ⟨b, off, rfl, hbl, hl0, hl1, hl2⟩ := Hat.out k x hx
      have c0 : wr.cell? ⟨b, off + k * 3, none⟩ = some (.int .i64 x.fr) := (hB.out.cell (p := ⟨b, off + k * 3, none⟩) hbl).trans hl0
      have c1 : wr.cell? ⟨b, off + k * 3 + 1, none⟩ = some (.int .i64 x.to) := (hB.out.cell (p := ⟨b, off + k * 3 + 1, none⟩) hbl).trans hl1
      have c2 : wr.cell? ⟨b, off + k * 3 + 2, none⟩ = some (.string (bs x.tx)) := (hB.out.cell (p := ⟨b, off + k * 3 + 2, none⟩) hbl).trans hl2
      have hBa := Lib.hid (hB.out.alloc (by omega) (.cells #[.int .i64 x.fr, .int .i64 x.to, .string (bs x.tx)] 39))
      have hrow := ed_new wr x.fr x.to (bs x.tx)
      have d0 := hrow.cell (j := 0) (v := .int .i64 x.fr) rfl
      have d1 := hrow.cell (j := 1) (v := .int .i64 x.to) rfl
      have hgx := hg.out
      have HX := Lib.hid hx
      clear hl0 hl1 hl2 hrow
      by_cases t1 : x.fr < 0
      · have f1 : decide (x.fr < 0) = true := decide_eq_true t1
        rw [drop_at hx, chk_some (ok_no1 (.inl t1))] at hgx
        subst hgx
        clear hx
        go_wp2_with fail
        go_ret
        exact ⟨rfl, hBa.out⟩
      have f1 : decide (x.fr < 0) = false := decide_eq_false t1
      by_cases t2 : x.fr > x.to
      · have f2 : decide (x.fr > x.to) = true := decide_eq_true t2
        rw [drop_at hx, chk_some (ok_no1 (.inr (.inl t2)))] at hgx
        subst hgx
        clear hx
        go_wp2_with fail
        go_ret
        exact ⟨rfl, hBa.out⟩
      have f2 : decide (x.fr > x.to) = false := decide_eq_false t2
      by_cases t3 : x.to > n
      · have f3 : decide (x.to > n) = true := decide_eq_true t3
        rw [drop_at hx, chk_some (ok_no1 (.inr (.inr t3)))] at hgx
        subst hgx
        clear hx
        go_wp2_with fail
        go_ret
        exact ⟨rfl, hBa.out⟩
      have f3 : decide (x.to > n) = false := decide_eq_false t3
      have hok := ok_yes (n := n) (e := x) (by omega) (by omega) (by omega)
      have hnp : Hid (∀ j p, k + 1 = j + 1 → L[j]? = some p → p.fr ≤ p.to) := Lib.hid (fun j p h hp => by
        obtain rfl : k = j := by omega
        rw [HX.out] at hp; cases hp; omega)
      rcases Nat.eq_zero_or_pos k with h0 | h0
      · have Hgx : Hid (chkB n (pr L (k + 1)) (L.drop (k + 1)) = r) := Lib.hid (by
          subst h0
          rw [chk_first hx, hok, Bool.true_and] at hgx
          exact hgx)
        have f4 : decide ((k : Int) > 0) = false := decide_eq_false (by omega)
        have f5 : decide (0 < k) = false := decide_eq_false (by omega)
        clear hx hgx hok h0
        go_wp2_with fail
        go_quiet (fail)
        go_wp2_with fail
        exact ⟨⟨k + 1, by go_num, by omega, Lib.hid (below_draws hBa.out _), Hgx, hnp⟩, by simp [intOf]; omega⟩
      · obtain ⟨y, hy⟩ : ∃ y, L[k - 1]? = some y := ⟨_, List.getElem?_eq_getElem (by omega)⟩
        have hyb := hprev.out (k - 1) y (by omega) hy
        obtain ⟨b', off', e', -, hm0, hm1, -⟩ := Hat.out (k - 1) y hy
        cases e'
        have g0 : wr.cell? ⟨b, off + (k - 1) * 3, none⟩ = some (.int .i64 y.fr) := (hB.out.cell (p := ⟨b, off + (k - 1) * 3, none⟩) hbl).trans hm0
        have g1 : wr.cell? ⟨b, off + (k - 1) * 3 + 1, none⟩ = some (.int .i64 y.to) := (hB.out.cell (p := ⟨b, off + (k - 1) * 3 + 1, none⟩) hbl).trans hm1
        have ge : Hid (∀ o, (wr.alloc (.cells #[.int .i64 x.fr, .int .i64 x.to, .string (bs x.tx)] 39)).cell? ⟨b, o, none⟩ = wr.cell? ⟨b, o, none⟩) := Lib.hid (fun o => by simp [World.cell?, Below.heap_alloc _ _ _ (show b < wr.heap.size by omega)])
        have g2 := (ge.out (off + (k - 1) * 3)).trans g0
        have g3 := (ge.out (off + (k - 1) * 3 + 1)).trans g1
        have hgx2 : (nxB y x && chkB n (pr L (k + 1)) (L.drop (k + 1))) = r := by
          obtain ⟨j, rfl⟩ : ∃ j, k = j + 1 := ⟨k - 1, by omega⟩
          rw [chk_next (by simpa using hy) hx, hok, Bool.true_and] at hgx
          exact hgx
        have p0 : IntKind.i64.wrap ((k : Int) - 1) = ((k - 1 : Nat) : Int) := by rw [Go.IntWalk.i64_left, Go.IntWalk.wrap64_in _ (by omega)]; omega
        have p1 : (0 : Int) ≤ ((k - 1 : Nat) : Int) := by omega
        have p2 : ((k - 1 : Nat) : Int) < (L.length : Int) := by omega
        have f4 : decide ((k : Int) > 0) = true := decide_eq_true (by omega)
        have f5 : decide (0 < k) = true := decide_eq_true (by omega)
        clear hx hgx hok hy hm0 hm1
        by_cases t4 : x.fr < y.to
        · have f6 : decide (x.fr < y.to) = true := decide_eq_true t4
          rw [nx_no (.inl t4)] at hgx2
          subst hgx2
          clear h0
          go_wp2_with fail
          go_quiet (fail)
          go_wp2_with fail
          go_ret
          exact ⟨rfl, below_draws hBa.out _⟩
        have f6 : decide (x.fr < y.to) = false := decide_eq_false t4
        by_cases t5 : x.fr = y.fr
        · have f7 : (x.fr == y.fr) = true := beq_iff_eq.2 t5
          rw [nx_no (.inr t5)] at hgx2
          subst hgx2
          clear h0 t5
          go_wp2_with fail
          go_quiet (fail)
          go_wp2_with fail
          go_ret
          exact ⟨rfl, below_draws hBa.out _⟩
        have f7 : (x.fr == y.fr) = false := beq_eq_false_iff_ne.2 t5
        rw [nx_yes (by omega) hyb t5, Bool.true_and] at hgx2
        have Hgx2 := Lib.hid hgx2
        clear h0 t5 hgx2
        go_wp2_with fail
        go_quiet (fail)
        go_wp2_with fail
        exact ⟨⟨k + 1, by go_num, by omega, Lib.hid (below_draws hBa.out _), Hgx2, hnp⟩, by simp [intOf]; omega⟩
    · obtain rfl : k = L.length := by omega
      have hg2 := hg.out
      rw [List.drop_length] at hg2
      have hg3 : r = true := by rw [← hg2]; cases (pr L L.length) <;> rfl
      subst hg3
      clear hg2
      go_wp2_with fail
      go_ret
      exact ⟨rfl, hB.out⟩
end Go.Proofs.Ytpekbakidhfliaa
