/-
  For the laws of tree: Check by the program and by the reference. Condition: at most 1,048,576 bytes of texts, paths no longer than any Go string.
-/
import Derived.Test.YtbfehhblnakcbaaChecks
namespace Go.Proofs.Ytbfehhblnakcbaa
open Go.RowKit Go.Shelf

/-- Are all paths such as may be, and do they rise, from the k-th on? -/
def chk (L : List Fl) (k : Nat) : Bool := (List.range (L.length - k)).all fun j => match L[k + j]? with
  | some x => pathOk x.path && (decide (k + j = 0) || match L[k + j - 1]? with | some y => decide (y.path < x.path) | none => false)
  | none => false
theorem chk_next {L : List Fl} {k : Nat} {x : Fl} (hx : L[k]? = some x) : chk L k = ((pathOk x.path && (decide (k = 0) || match L[k - 1]? with | some y => decide (y.path < x.path) | none => false)) && chk L (k + 1)) := by
  have hk := (List.getElem?_eq_some_iff.1 hx).1
  unfold chk
  rw [show L.length - k = (L.length - (k + 1)) + 1 by omega, List.range_succ_eq_map, List.all_cons, List.all_map]
  simp only [Nat.add_zero, hx]
  congr 1
  congr 1
  funext j
  simp only [Function.comp, Nat.succ_eq_add_one, show k + (j + 1) = k + 1 + j by omega]
theorem chk_end (L : List Fl) : chk L L.length = true := by
  unfold chk
  rw [Nat.sub_self]; rfl
def checkI (L : List Fl) : Int := if 40 < L.length then 2 else if chk L 0 then 0 else 100
def ansI (b : Bool) : Int := if b then 0 else 100
theorem checkI_of {L : List Fl} (h : L.length ≤ 40) : checkI L = ansI (chk L 0) := by
  unfold checkI ansI
  rw [if_neg (by omega)]
theorem pathOk_len {p : List UInt8} (h : pathOk p = true) : p.length ≤ 24 := by
  simp only [pathOk, Bool.and_eq_true, decide_eq_true_eq] at h
  exact h.1.1.1.2
set_option maxRecDepth 100000 in
set_option maxHeartbeats 8000000 in
theorem Check_any (v : Value) (L : List Fl) (w : World) (h1 : Fls w v L) (hsum : sumT L ≤ 1048576) (hp : ∀ f ∈ L, f.path.length ≤ maxLen) : Calls Try.prog 11 #[v] w fun e w' => e = .returned (.int .i64 (checkI L)) ∧ Below w.heap.size w w' := by
  have S1 := Lib.hid (Size_any v L w h1 (by omega))
  obtain ⟨a, cap, rfl, hc, hm, hat⟩ := h1
  have Hat := Lib.hid hat; clear hat
  have Hp := Lib.hid hp; clear hp
  unfold maxLen at hm
  have f1 : decide (((sumT L : Nat) : Int) > 1048576) = false := decide_eq_false (by omega)
  rcases Nat.lt_or_ge 40 L.length with hL | hL
  · have f0 : decide ((L.length : Int) > 40) = true := decide_eq_true (by omega)
    rw [checkI, if_pos hL]
    go_enter Try.func11, Try.ntmps11
    go_wp2_with fail
    go_ret
    exact ⟨rfl, Below.refl _ _⟩
  have f0 : decide ((L.length : Int) > 40) = false := decide_eq_false (by omega)
  rw [checkI_of hL]
  obtain ⟨r, hr⟩ : ∃ r, Hid (chk L 0 = r) := ⟨_, Lib.hid rfl⟩
  rw [hr.out]
  obtain ⟨z, hz⟩ : ∃ z, Hid (ansI r = z) := ⟨_, Lib.hid rfl⟩
  rw [hz.out]
  go_enter Try.func11, Try.ntmps11
  go_wp2_with (go_at_call 13; refine S1.out.mono ?_; rintro e w1 ⟨rfl, b1⟩)
  have B1 := Lib.hid b1
  clear b1
  go_loopw [15] (fun c wr => ∃ k : Nat, c = .int .i64 k ∧ k ≤ L.length ∧ Hid (Below w.heap.size w wr) ∧ Hid (chk L k = r)) (fun c _ => L.length - (intOf c).toNat)
  case atStart => exact ⟨0, rfl, by omega, B1, hr⟩
  case round =>
    obtain ⟨k, rfl, hk, hB, hg⟩ := hrel
    have hbs := hB.out.size
    by_cases hlt : k < L.length
    · obtain ⟨x, hx⟩ : ∃ x, L[k]? = some x := ⟨_, List.getElem?_eq_getElem hlt⟩
      obtain ⟨b, off, rfl, hbl, hl0, hl1⟩ := Hat.out k x hx
      have c0 : wr.cell? ⟨b, off + k * 2, none⟩ = some (.string (bs x.path)) := (hB.out.cell (p := ⟨b, off + k * 2, none⟩) hbl).trans hl0
      have c1 : wr.cell? ⟨b, off + k * 2 + 1, none⟩ = some (.string (bs x.text)) := (hB.out.cell (p := ⟨b, off + k * 2 + 1, none⟩) hbl).trans hl1
      have P9 := fun w => Path_any (bs x.path) w (by rw [bs_size]; exact Hp.out x (List.mem_of_getElem? hx))
      have hg2 := hg.out
      rw [chk_next hx] at hg2
      have hBa := Lib.hid (hB.out.alloc hbs (.cells #[.string (bs x.path), .string (bs x.text)] 43))
      obtain ⟨W2, hW2⟩ : ∃ W2, Hid (wr.alloc (.cells #[.string (bs x.path), .string (bs x.text)] 43) = W2) := ⟨_, Lib.hid rfl⟩
      rw [hW2.out] at hBa
      have r2 : RowAt W2 wr.heap.size 43 #[.string (bs x.path), .string (bs x.text)] := by rw [← hW2.out]; exact RowAt.new _ _ _
      have x0 := r2.cell (j := 0) rfl
      cases hpo : pathOk x.path with
      | false =>
        rw [hpo] at hg2
        obtain rfl : false = r := by rw [← hg2]; rfl
        obtain rfl : 100 = z := hz.out
        rw [tl_bs, hpo] at P9
        have HP9 := Lib.hid P9
        clear hl0 hl1 hx r2 hg2 P9 hpo
        go_wp2_with fail
        rw [hW2.out]
        go_quiet ((go_at_call 9; exact Calls.quiet_of_same (HP9.out _)))
        go_wp2_with fail
        go_ret
        exact ⟨rfl, below_draws hBa.out _⟩
      | true =>
        rw [hpo, Bool.true_and] at hg2
        rw [tl_bs, hpo] at P9
        have HP9 := Lib.hid P9
        clear P9 hpo
        by_cases h0 : k = 0
        · have f3 : decide (0 < k) = false := decide_eq_false (by omega)
          rw [decide_eq_true h0, Bool.true_or, Bool.true_and] at hg2
          have Hg := Lib.hid hg2
          clear hl0 hl1 hx r2 h0 hg2
          go_wp2_with fail
          rw [hW2.out]
          go_quiet ((go_at_call 9; exact Calls.quiet_of_same (HP9.out _)))
          go_wp2_with fail
          exact ⟨⟨k + 1, by go_num, by omega, Lib.hid (below_draws hBa.out _), Hg⟩, by simp [intOf]; omega⟩
        · obtain ⟨y, hy⟩ : ∃ y, L[k - 1]? = some y := ⟨_, List.getElem?_eq_getElem (by omega)⟩
          rw [decide_eq_false h0, Bool.false_or, hy] at hg2
          dsimp only at hg2
          obtain ⟨b', off', e', -, hl2, -⟩ := Hat.out (k - 1) y hy
          cases e'
          have f3 : decide (0 < k) = true := decide_eq_true (by omega)
          have y0 : W2.cell? ⟨b, off + (k - 1) * 2, none⟩ = some (.string (bs y.path)) := (hBa.out.cell (p := ⟨b, off + (k - 1) * 2, none⟩) hbl).trans hl2
          have p0 : IntKind.i64.wrap ((k : Int) - 1) = ((k - 1 : Nat) : Int) := by rw [Go.IntWalk.i64_left, Go.IntWalk.wrap64_in _ (by omega)]; omega
          have p1 : (0 : Int) ≤ ((k - 1 : Nat) : Int) := by omega
          have p2 : ((k - 1 : Nat) : Int) < (L.length : Int) := by omega
          have q1 : Op.bytesLess (bs x.path).toList (bs y.path).toList = decide (x.path < y.path) := by rw [Lib.toList_data, Lib.toList_data]; exact less_iff _ _
          have q3 : Op.bytesLess x.path y.path = decide (x.path < y.path) := less_iff _ _
          clear hl0 hl1 hl2 hx hy r2 h0
          rcases lt_or_le y.path x.path with hlt2 | hle2
          · have n1 : ¬ x.path < y.path := fun e => List.lt_irrefl _ (List.lt_trans e hlt2)
            rw [decide_eq_false n1] at q1 q3
            rw [decide_eq_true hlt2, Bool.true_and] at hg2
            have Hg := Lib.hid hg2
            have q5 : (x.path == y.path) = false := beq_eq_false_iff_ne.2 (fun e2 => by rw [e2] at hlt2; exact List.lt_irrefl _ hlt2)
            have q4 : ¬ x.path = y.path := fun e2 => by rw [e2] at hlt2; exact List.lt_irrefl _ hlt2
            have q2 : ((bs x.path).toList == (bs y.path).toList) = false := by
              rw [Lib.toList_data, Lib.toList_data]; exact q5
            clear hlt2 n1 hg2
            go_wp2_with fail
            rw [hW2.out]
            go_quiet ((go_at_call 9; exact Calls.quiet_of_same (HP9.out _)))
            go_wp2_with fail
            exact ⟨⟨k + 1, by go_num, by omega, Lib.hid (below_draws hBa.out _), Hg⟩, by simp [intOf]; omega⟩
          · have n2 : ¬ y.path < x.path := fun e => List.lt_irrefl _ (lt_of_le_lt hle2 e)
            rw [decide_eq_false n2, Bool.false_and] at hg2
            subst hg2
            obtain rfl : 100 = z := hz.out
            by_cases heq : x.path = y.path
            · have n1 : ¬ x.path < y.path := fun e => by rw [heq] at e; exact List.lt_irrefl _ e
              rw [decide_eq_false n1] at q1 q3
              have q5 : (x.path == y.path) = true := beq_iff_eq.2 heq
              have q2 : ((bs x.path).toList == (bs y.path).toList) = true := by
                rw [Lib.toList_data, Lib.toList_data]; exact q5
              clear hle2 n2 n1 heq
              go_wp2_with fail
              rw [hW2.out]
              go_quiet ((go_at_call 9; exact Calls.quiet_of_same (HP9.out _)))
              go_wp2_with fail
              go_ret
              exact ⟨rfl, below_draws hBa.out _⟩
            · have hlt3 : x.path < y.path := lt_of_le_ne hle2 heq
              rw [decide_eq_true hlt3] at q1 q3
              have q5 : (x.path == y.path) = false := beq_eq_false_iff_ne.2 heq
              clear hle2 n2 hlt3
              go_wp2_with fail
              rw [hW2.out]
              go_quiet ((go_at_call 9; exact Calls.quiet_of_same (HP9.out _)))
              go_wp2_with fail
              go_ret
              exact ⟨rfl, below_draws hBa.out _⟩
    · obtain rfl : k = L.length := by omega
      have hg2 := hg.out
      rw [chk_end] at hg2
      subst hg2
      obtain rfl : 0 = z := hz.out
      go_wp2_with fail
      go_ret
      exact ⟨rfl, hB.out⟩
set_option maxRecDepth 100000 in
set_option maxHeartbeats 8000000 in
theorem RefCheck_any (v : Value) (L : List Fl) (w : World) (h1 : Fls w v L) (hsum : sumT L ≤ 1048576) (hp : ∀ f ∈ L, f.path.length ≤ maxLen) : Calls Try.prog 12 #[v] w fun e w' => e = .returned (.int .i64 (checkI L)) ∧ Below w.heap.size w w' := by
  have S1 := Lib.hid (RefSize_any v L w h1 (by omega))
  obtain ⟨a, cap, rfl, hc, hm, hat⟩ := h1
  have Hat := Lib.hid hat; clear hat
  have Hp := Lib.hid hp; clear hp
  unfold maxLen at hm
  have f1 : decide (((sumT L : Nat) : Int) > 1048576) = false := decide_eq_false (by omega)
  rcases Nat.lt_or_ge 40 L.length with hL | hL
  · have f0 : decide ((L.length : Int) > 40) = true := decide_eq_true (by omega)
    rw [checkI, if_pos hL]
    go_enter Try.func12, Try.ntmps12
    go_wp2_with fail
    go_ret
    exact ⟨rfl, Below.refl _ _⟩
  have f0 : decide ((L.length : Int) > 40) = false := decide_eq_false (by omega)
  rw [checkI_of hL]
  obtain ⟨r, hr⟩ : ∃ r, Hid (chk L 0 = r) := ⟨_, Lib.hid rfl⟩
  rw [hr.out]
  obtain ⟨z, hz⟩ : ∃ z, Hid (ansI r = z) := ⟨_, Lib.hid rfl⟩
  rw [hz.out]
  go_enter Try.func12, Try.ntmps12
  go_wp2_with (go_at_call 14; refine S1.out.mono ?_; rintro e w1 ⟨rfl, b1⟩)
  have B1 := Lib.hid b1
  clear b1
  go_loopw [3, 4] (fun c _ wr => ∃ k : Nat, c = .int .i64 k ∧ k ≤ L.length ∧ Hid (Below w.heap.size w wr) ∧ Hid (chk L k = r)) (fun c _ _ => L.length - (intOf c).toNat)
  case atStart => exact ⟨0, rfl, by omega, B1, hr⟩
  case round =>
    obtain ⟨k, rfl, hk, hB, hg⟩ := hrel
    have hbs := hB.out.size
    by_cases hlt : k < L.length
    · obtain ⟨x, hx⟩ : ∃ x, L[k]? = some x := ⟨_, List.getElem?_eq_getElem hlt⟩
      obtain ⟨b, off, rfl, hbl, hl0, -⟩ := Hat.out k x hx
      have c0 : wr.cell? ⟨b, off + k * 2, none⟩ = some (.string (bs x.path)) := (hB.out.cell (p := ⟨b, off + k * 2, none⟩) hbl).trans hl0
      have P9 := fun w => RefPath_any (bs x.path) w (by rw [bs_size]; exact Hp.out x (List.mem_of_getElem? hx))
      have hg2 := hg.out
      rw [chk_next hx] at hg2
      cases hpo : pathOk x.path with
      | false =>
        rw [hpo] at hg2
        obtain rfl : false = r := by rw [← hg2]; rfl
        obtain rfl : 100 = z := hz.out
        rw [tl_bs, hpo] at P9
        have HP9 := Lib.hid P9
        clear hl0 hx hg2 P9 hpo
        go_wp2_with (go_at_call 10; refine (HP9.out _).mono ?_; rintro e w2 ⟨rfl, rfl⟩)
        go_quiet (fail)
        go_wp2_with fail
        go_ret
        exact ⟨rfl, below_draws hB.out _⟩
      | true =>
        rw [hpo, Bool.true_and] at hg2
        rw [tl_bs, hpo] at P9
        have HP9 := Lib.hid P9
        clear P9 hpo
        by_cases h0 : k = 0
        · have f3 : decide (0 < k) = false := decide_eq_false (by omega)
          rw [decide_eq_true h0, Bool.true_or, Bool.true_and] at hg2
          have Hg := Lib.hid hg2
          clear hl0 hx h0 hg2
          go_wp2_with (go_at_call 10; refine (HP9.out _).mono ?_; rintro e w2 ⟨rfl, rfl⟩)
          go_quiet (fail)
          go_wp2_with fail
          exact ⟨⟨k + 1, by go_num, by omega, Lib.hid (below_draws hB.out _), Hg⟩, by simp [intOf]; omega⟩
        · obtain ⟨y, hy⟩ : ∃ y, L[k - 1]? = some y := ⟨_, List.getElem?_eq_getElem (by omega)⟩
          rw [decide_eq_false h0, Bool.false_or, hy] at hg2
          dsimp only at hg2
          obtain ⟨b', off', e', -, hl2, -⟩ := Hat.out (k - 1) y hy
          cases e'
          have f3 : decide (0 < k) = true := decide_eq_true (by omega)
          have y0 : wr.cell? ⟨b, off + (k - 1) * 2, none⟩ = some (.string (bs y.path)) := (hB.out.cell (p := ⟨b, off + (k - 1) * 2, none⟩) hbl).trans hl2
          have p0 : IntKind.i64.wrap ((k : Int) - 1) = ((k - 1 : Nat) : Int) := by rw [Go.IntWalk.i64_left, Go.IntWalk.wrap64_in _ (by omega)]; omega
          have p1 : (0 : Int) ≤ ((k - 1 : Nat) : Int) := by omega
          have p2 : ((k - 1 : Nat) : Int) < (L.length : Int) := by omega
          have q1 : Op.bytesLess (bs y.path).toList (bs x.path).toList = decide (y.path < x.path) := by rw [Lib.toList_data, Lib.toList_data]; exact less_iff _ _
          have q3 : Op.bytesLess y.path x.path = decide (y.path < x.path) := less_iff _ _
          clear hl0 hl2 hx hy h0
          rcases lt_or_le y.path x.path with hlt2 | hle2
          · rw [decide_eq_true hlt2] at q1 q3 hg2
            rw [Bool.true_and] at hg2
            have Hg := Lib.hid hg2
            clear hlt2 hg2
            go_wp2_with (go_at_call 10; refine (HP9.out _).mono ?_; rintro e w2 ⟨rfl, rfl⟩)
            go_quiet (fail)
            go_wp2_with fail
            exact ⟨⟨k + 1, by go_num, by omega, Lib.hid (below_draws hB.out _), Hg⟩, by simp [intOf]; omega⟩
          · have n2 : ¬ y.path < x.path := fun e => List.lt_irrefl _ (lt_of_le_lt hle2 e)
            rw [decide_eq_false n2] at q1 q3 hg2
            rw [Bool.false_and] at hg2
            subst hg2
            obtain rfl : 100 = z := hz.out
            clear hle2 n2
            go_wp2_with (go_at_call 10; refine (HP9.out _).mono ?_; rintro e w2 ⟨rfl, rfl⟩)
            go_quiet (fail)
            go_wp2_with fail
            go_ret
            exact ⟨rfl, below_draws hB.out _⟩
    · obtain rfl : k = L.length := by omega
      have hg2 := hg.out
      rw [chk_end] at hg2
      subst hg2
      obtain rfl : 0 = z := hz.out
      go_wp2_with fail
      go_ret
      exact ⟨rfl, hB.out⟩
end Go.Proofs.Ytbfehhblnakcbaa
