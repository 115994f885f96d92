/-
  For the laws of tree: Check of a tree, by the program. Condition: at most 40 files, paths that may be, rising.
-/
import Derived.Laws.Cover1
import Derived.BigQuiet
import Derived.Deep.QuietTactic
import Derived.Test.YtbfehhblnakcbaaPathok
import Derived.Test.YtbfehhblnakcbaaSmall
namespace Go.Proofs.Ytbfehhblnakcbaa
open Go.RowKit Go.Shelf

theorem less_not : ∀ {a b : By}, b < a → Op.bytesLess a b = false
  | [], b, h => absurd h (List.not_lt_nil b)
  | x :: a, [], _ => rfl
  | x :: a, y :: b, h => by
    rw [Op.bytesLess]
    rcases List.cons_lt_cons_iff.1 h with h1 | ⟨h1, h2⟩
    · have e1 : decide (x < y) = false := decide_eq_false (by rw [UInt8.lt_iff_toNat_lt] at h1 ⊢; omega)
      have e2 : (x == y) = false := beq_eq_false_iff_ne.2 (fun e => by rw [e, UInt8.lt_iff_toNat_lt] at h1; omega)
      rw [e1, e2]; rfl
    · subst h1
      have e1 : decide (y < y) = false := decide_eq_false (by rw [UInt8.lt_iff_toNat_lt]; omega)
      rw [e1, less_not h2]; simp
set_option maxRecDepth 100000 in
set_option maxHeartbeats 8000000 in
theorem Check_yes (v : Value) (L : List Fl) (w : World) (h1 : Fls w v L) (hL : L.length ≤ 40) (hsum : sumT L ≤ 1048576) (hok : ∀ f ∈ L, pathOk f.path = true) (hri : ∀ (k : Nat) (x y : Fl), L[k]? = some x → L[k + 1]? = some y → x.path < y.path) : Calls Try.prog 11 #[v] w fun e w' => e = .returned (.int .i64 0) ∧ Below w.heap.size w w' := by
  have S1 := Lib.hid (Size_any v L w h1 (by omega))
  obtain ⟨a, cap, rfl, hc, hm, hat⟩ := h1
  have Hat := Lib.hid hat; clear hat
  have Hok := Lib.hid hok; clear hok
  have Hri := Lib.hid hri; clear hri
  unfold maxLen at hm
  have f0 : decide ((L.length : Int) > 40) = false := decide_eq_false (by omega)
  have f1 : decide (((sumT L : Nat) : Int) > 1048576) = false := decide_eq_false (by omega)
  go_enter Try.func11, Try.ntmps11
  go_wp2_with (go_at_call 13; refine S1.out.mono ?_; rintro e w1 ⟨rfl, b1⟩)
  have B1 := Lib.hid b1
  clear b1
  go_loopw [15] (fun c wr => ∃ k : Nat, c = .int .i64 k ∧ k ≤ L.length ∧ Hid (Below w.heap.size w wr)) (fun c _ => L.length - (intOf c).toNat)
  case atStart => exact ⟨0, rfl, by omega, B1⟩
  case round =>
    obtain ⟨k, rfl, hk, hB⟩ := hrel
    have hbs := hB.out.size
    by_cases hlt : k < L.length
    · obtain ⟨x, hx⟩ : ∃ x, L[k]? = some x := ⟨_, List.getElem?_eq_getElem hlt⟩
      obtain ⟨b, off, rfl, hbl, hl0, hl1⟩ := Hat.out k x hx
      have c0 : wr.cell? ⟨b, off + k * 2, none⟩ = some (.string (bs x.path)) := (hB.out.cell (p := ⟨b, off + k * 2, none⟩) hbl).trans hl0
      have c1 : wr.cell? ⟨b, off + k * 2 + 1, none⟩ = some (.string (bs x.text)) := (hB.out.cell (p := ⟨b, off + k * 2 + 1, none⟩) hbl).trans hl1
      have hpx := Hok.out x (List.mem_of_getElem? hx)
      have hbd : x.path.length ≤ 24 := by
        simp only [pathOk, Bool.and_eq_true, decide_eq_true_eq] at hpx
        exact hpx.1.1.1.2
      have P9 := fun w => Path_any (bs x.path) w (by rw [bs_size]; unfold maxLen; omega)
      rw [tl_bs, hpx] at P9
      have HP9 := Lib.hid P9
      have hBa := Lib.hid (hB.out.alloc hbs (.cells #[.string (bs x.path), .string (bs x.text)] 43))
      clear P9 hpx
      obtain ⟨W2, hW2⟩ : ∃ W2, Hid (wr.alloc (.cells #[.string (bs x.path), .string (bs x.text)] 43) = W2) := ⟨_, Lib.hid rfl⟩
      rw [hW2.out] at hBa
      have r2 : RowAt W2 wr.heap.size 43 #[.string (bs x.path), .string (bs x.text)] := by rw [← hW2.out]; exact RowAt.new _ _ _
      have x0 := r2.cell (j := 0) rfl
      by_cases h0 : k = 0
      · have f3 : decide (0 < k) = false := decide_eq_false (by omega)
        clear hl0 hl1 hx r2 h0
        go_wp2_with fail
        rw [hW2.out]
        go_quiet ((go_at_call 9; exact Calls.quiet_of_same (HP9.out _)))
        go_wp2_with fail
        exact ⟨⟨k + 1, by go_num, by omega, Lib.hid (below_draws hBa.out _)⟩, by simp [intOf]; omega⟩
      · obtain ⟨y, hy⟩ : ∃ y, L[k - 1]? = some y := ⟨_, List.getElem?_eq_getElem (by omega)⟩
        have hlt2 := Hri.out (k - 1) y x hy (by rw [show k - 1 + 1 = k by omega]; exact hx)
        obtain ⟨b', off', e', -, hl2, -⟩ := Hat.out (k - 1) y hy
        cases e'
        have d0 : wr.cell? ⟨b, off + (k - 1) * 2, none⟩ = some (.string (bs y.path)) := (hB.out.cell (p := ⟨b, off + (k - 1) * 2, none⟩) hbl).trans hl2
        have f3 : decide (0 < k) = true := decide_eq_true (by omega)
        have y0 : W2.cell? ⟨b, off + (k - 1) * 2, none⟩ = some (.string (bs y.path)) := (hBa.out.cell (p := ⟨b, off + (k - 1) * 2, none⟩) hbl).trans hl2
        have p0 : IntKind.i64.wrap ((k : Int) - 1) = ((k - 1 : Nat) : Int) := by rw [Go.IntWalk.i64_left, Go.IntWalk.wrap64_in _ (by omega)]; omega
        have p1 : (0 : Int) ≤ ((k - 1 : Nat) : Int) := by omega
        have p2 : ((k - 1 : Nat) : Int) < (L.length : Int) := by omega
        have q1 : Op.bytesLess (bs x.path).toList (bs y.path).toList = false := by rw [Lib.toList_data, Lib.toList_data]; exact less_not hlt2
        have q3 : Op.bytesLess x.path y.path = false := less_not hlt2
        have q4 : ¬ x.path = y.path := fun e2 => by rw [e2] at hlt2; exact List.lt_irrefl _ hlt2
        have q5 : (x.path == y.path) = false := beq_eq_false_iff_ne.2 q4
        have q2 : ((bs x.path).toList == (bs y.path).toList) = false := by
          rw [Lib.toList_data, Lib.toList_data]
          refine beq_eq_false_iff_ne.2 fun e => ?_
          have e2 : x.path = y.path := e
          rw [e2] at hlt2
          exact List.lt_irrefl _ hlt2
        clear hl0 hl1 hl2 hx hy r2 d0 hlt2 h0
        go_wp2_with fail
        rw [hW2.out]
        go_quiet ((go_at_call 9; exact Calls.quiet_of_same (HP9.out _)))
        go_wp2_with fail
        exact ⟨⟨k + 1, by go_num, by omega, Lib.hid (below_draws hBa.out _)⟩, by simp [intOf]; omega⟩
    · obtain rfl : k = L.length := by omega
      go_wp2_with fail
      go_ret
      exact ⟨rfl, hB.out⟩
end Go.Proofs.Ytbfehhblnakcbaa
