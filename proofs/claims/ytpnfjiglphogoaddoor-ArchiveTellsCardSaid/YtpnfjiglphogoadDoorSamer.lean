/-
  For the laws of tree: whether two rows of files are the same, by the program and by the reference. Condition: none.
-/
import Derived.Test.YtpnfjiglphogoadDoorFiles
namespace Go.Proofs.YtpnfjiglphogoadDoor
open Go.RowKit Go.Shelf

theorem drop_same {A B : List Fl} {k : Nat} {x y : Fl} (hx : A[k]? = some x) (hy : B[k]? = some y) : decide (A.drop k = B.drop k) = (decide (x = y) && decide (A.drop (k + 1) = B.drop (k + 1))) := by
  obtain ⟨h1, rfl⟩ := List.getElem?_eq_some_iff.1 hx
  obtain ⟨h2, rfl⟩ := List.getElem?_eq_some_iff.1 hy
  rw [List.drop_eq_getElem_cons h1, List.drop_eq_getElem_cons h2, Bool.eq_iff_iff]
  simp only [List.cons.injEq, Bool.and_eq_true, decide_eq_true_eq]
theorem same_len {A B : List Fl} (h : A.length ≠ B.length) : decide (A = B) = false := decide_eq_false (fun e => h (by rw [e]))
theorem bs_ne {a b : List UInt8} (h : a ≠ b) : bs a ≠ bs b := fun e => h (by have := congrArg tl e; rwa [tl_bs, tl_bs] at this)
set_option maxRecDepth 100000 in
set_option maxHeartbeats 8000000 in
theorem RefSame_any (u v : Value) (A B : List Fl) (w : World) (h1 : Fls w u A) (h2 : Fls w v B) : Calls Tryd.prog 12 #[u, v] w fun e w' => e = .returned (.bool (decide (A = B))) ∧ Below w.heap.size w w' := by
  obtain ⟨a, cap, rfl, hc, hm, hat⟩ := h1
  obtain ⟨a2, cap2, rfl, hc2, hm2, hat2⟩ := h2
  have Hat := Lib.hid hat; clear hat
  have Hat2 := Lib.hid hat2; clear hat2
  unfold maxLen at hm hm2
  obtain ⟨r, hr⟩ : ∃ r, Hid (decide (A = B) = r) := ⟨_, Lib.hid rfl⟩
  rw [hr.out]
  rcases Decidable.em (¬ A.length = B.length) with hl | hl'
  · have hr2 := hr.out
    rw [same_len hl] at hr2
    subst hr2
    have f0 : ((A.length : Int) == (B.length : Int)) = false := beq_eq_false_iff_ne.2 (by omega)
    go_enter Tryd.func12, Tryd.ntmps12
    go_wp2_with fail
    go_ret
    exact ⟨rfl, Below.refl _ _⟩
  have hl : A.length = B.length := Decidable.not_not.1 hl'
  clear hl'
  have f0 : ((A.length : Int) == (B.length : Int)) = true := beq_iff_eq.2 (by omega)
  have hab : A.length ≤ B.length := by omega
  have Hl := Lib.hid hl
  clear hl
  go_enter Tryd.func12, Tryd.ntmps12
  go_wp2_with fail
  go_loopw [5] (fun c wr => ∃ k : Nat, c = .int .i64 k ∧ k ≤ A.length ∧ Hid (decide (A.drop k = B.drop k) = r) ∧ ∃ q, Hid (wr = w.drewN q)) (fun c _ => A.length - (intOf c).toNat)
  case atStart => exact ⟨0, rfl, by omega, hr, 0, Lib.hid rfl⟩
  case round =>
    obtain ⟨k, rfl, hk, hg, q, hq⟩ := hrel
    by_cases hlt : k < A.length
    · obtain ⟨x, hx⟩ : ∃ x, A[k]? = some x := ⟨_, List.getElem?_eq_getElem hlt⟩
      obtain ⟨y, hy⟩ : ∃ y, B[k]? = some y := ⟨_, List.getElem?_eq_getElem (by omega)⟩
      obtain ⟨b, off, rfl, hbl, hl0, hl1⟩ := Hat.out k x hx
      obtain ⟨b2, off2, rfl, hbl2, hl2, hl3⟩ := Hat2.out k y hy
      have c0 : wr.cell? ⟨b, off + k * 2, none⟩ = some (.string (bs x.path)) := by rw [hq.out]; exact hl0
      have c1 : wr.cell? ⟨b, off + k * 2 + 1, none⟩ = some (.string (bs x.text)) := by rw [hq.out]; exact hl1
      have c2 : wr.cell? ⟨b2, off2 + k * 2, none⟩ = some (.string (bs y.path)) := by rw [hq.out]; exact hl2
      have c3 : wr.cell? ⟨b2, off2 + k * 2 + 1, none⟩ = some (.string (bs y.text)) := by rw [hq.out]; exact hl3
      have p0 : (0 : Int) ≤ (k : Int) := by omega
      have p1 : (k : Int) < (A.length : Int) := by omega
      have p2 : (k : Int) < (cap : Int) := by omega
      have p3 : (k : Int) < (cap2 : Int) := by omega
      have p4 : (k : Int) < (B.length : Int) := by omega
      have hg2 := hg.out
      rw [drop_same hx hy] at hg2
      clear hl0 hl1 hl2 hl3 hx hy
      by_cases e : x = y
      · subst e
        have Hg2 : Hid (decide (A.drop (k + 1) = B.drop (k + 1)) = r) := Lib.hid (by rw [← hg2]; simp)
        clear hg2
        go_wp2_with fail
        go_quiet (fail)
        go_wp2_with fail
        exact ⟨⟨k + 1, by go_num, by omega, Hg2, q + nq, Lib.hid (by rw [hq.out]; exact World.drewN_drewN w q nq)⟩, by simp [intOf]; omega⟩
      · rw [decide_eq_false e, Bool.false_and] at hg2
        subst hg2
        obtain ⟨xp, xt⟩ := x
        obtain ⟨yp, yt⟩ := y
        dsimp only at c0 c1 c2 c3
        by_cases e1 : xp = yp
        · subst e1
          have e2 : ¬ xt = yt := fun h => e (by rw [h])
          clear e
          go_wp2_with fail
          go_quiet (fail)
          go_wp2_with fail
          go_ret
          exact ⟨rfl, by rw [hq.out]; exact below_draws (below_draws (Below.refl _ _) _) _⟩
        · have e2 : bs xp ≠ bs yp := bs_ne e1
          clear e
          go_wp2_with fail
          go_quiet (fail)
          go_wp2_with fail
          go_ret
          exact ⟨rfl, by rw [hq.out]; exact below_draws (below_draws (Below.refl _ _) _) _⟩
    · obtain rfl : k = A.length := by omega
      have hg2 := hg.out
      rw [List.drop_length, Hl.out, List.drop_length] at hg2
      obtain rfl : true = r := by rw [← hg2]; rfl
      go_wp2_with fail
      go_ret
      exact ⟨rfl, by rw [hq.out]; exact below_draws (Below.refl _ _) _⟩
end Go.Proofs.YtpnfjiglphogoadDoor
