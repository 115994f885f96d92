/-
  For the laws of heap: Many and Class of a heap in memory, and of none. No condition.
-/
import Derived.Test.YtpaknaaainhgfaaDoorHbase
import Derived.BigQuiet
namespace Go.Proofs.YtpaknaaainhgfaaDoor
open Go.RowKit Go.Maps Go.WideMaps

theorem below_draws {B : Nat} {a w : World} (h : Below B a w) (q : Nat) : Below B a (w.drewN q) := ⟨h.os, h.tape, h.output, h.size, h.block⟩

set_option maxRecDepth 100000 in
theorem Many_nil (w : World) : Calls Tryd.prog 35 #[.pointer none] w fun e w' => e = .returned (.int .i64 0) ∧ w' = w := by
  go_enter Tryd.func35, Tryd.ntmps35
  go_wp2
  go_ret
  exact ⟨rfl, rfl⟩
set_option maxRecDepth 100000 in
theorem Many_in (w : World) (base h m : Nat) (cs : List ByteArray) (f : Store) (H : Hp w base h cs m f) : Calls Tryd.prog 35 #[.pointer (some ⟨h, 0, none⟩)] w fun e w' => e = .returned (.int .i64 cs.length) ∧ w' = w := by
  obtain ⟨p, c, mv, hb, -, -⟩ := H
  have c0 : w.cell? ⟨h, 0, none⟩ = some (.slice p cs.length c) := hb.cell rfl
  go_enter Tryd.func35, Tryd.ntmps35
  go_wp2
  go_ret
  exact ⟨rfl, rfl⟩

set_option maxRecDepth 100000 in
set_option maxHeartbeats 4000000 in
theorem Class_nil (k n : Int) (w : World) : Calls Tryd.prog 33 #[.pointer none, val2 k n] w fun e w' => e = .returned (.tuple #[.string ⟨#[]⟩, .bool false]) ∧ Below w.heap.size w w' := by
  go_enter Tryd.func33, Tryd.ntmps33
  go_wp2_with fail
  go_quiet (fail)
  go_wp2
  go_ret2
  exact ⟨rfl, below_draws ((Below.refl _ _).alloc (Nat.le_refl _) _) _⟩

set_option maxRecDepth 100000 in
set_option maxHeartbeats 4000000 in
theorem Class_no (k n : Int) (w : World) (base h m : Nat) (cs : List ByteArray) (f : Store) (H : Hp w base h cs m f) (hno : ¬ (k = 3 ∧ 1 ≤ n ∧ n ≤ cs.length)) :
    Calls Tryd.prog 33 #[.pointer (some ⟨h, 0, none⟩), val2 k n] w fun e w' => e = .returned (.tuple #[.string ⟨#[]⟩, .bool false]) ∧ Below w.heap.size w w' := by
  obtain ⟨p, c, mv, hb, -, -⟩ := H
  obtain ⟨len, hlen⟩ : ∃ n, cs.length = n := ⟨_, rfl⟩
  rw [hlen] at hb hno
  have hlt := hb.lt
  have c0 : (w.alloc (.cells #[.int .i64 k, .int .i64 n] 44)).cell? ⟨h, 0, none⟩ = some (.slice p len c) := (hb.alloc _).cell rfl
  by_cases h3 : k = 3
  · have g3 : (k != 3) = false := by simpa using h3
    by_cases h1 : n < 1
    · have g1 : decide (n < 1) = true := by simpa using h1
      clear hno h3
      go_enter Tryd.func33, Tryd.ntmps33
      go_wp2_with fail
      go_quiet (fail)
      go_wp2
      go_ret2
      exact ⟨rfl, below_draws ((Below.refl _ _).alloc (Nat.le_refl _) _) _⟩
    · have g1 : decide (n < 1) = false := by simpa using h1
      have g2 : decide ((len : Int) < n) = true := by simp; omega
      clear hno h3 h1
      go_enter Tryd.func33, Tryd.ntmps33
      go_wp2_with fail
      go_quiet (fail)
      go_wp2
      go_ret2
      exact ⟨rfl, below_draws ((Below.refl _ _).alloc (Nat.le_refl _) _) _⟩
  · have g3 : (k != 3) = true := by simpa using h3
    clear hno h3
    go_enter Tryd.func33, Tryd.ntmps33
    go_wp2_with fail
    go_quiet (fail)
    go_wp2
    go_ret2
    exact ⟨rfl, below_draws ((Below.refl _ _).alloc (Nat.le_refl _) _) _⟩

set_option maxRecDepth 100000 in
set_option maxHeartbeats 4000000 in
theorem Class_yes (j : Nat) (s : ByteArray) (w : World) (base h m : Nat) (cs : List ByteArray) (f : Store) (H : Hp w base h cs m f) (hj : cs[j]? = some s) :
    Calls Tryd.prog 33 #[.pointer (some ⟨h, 0, none⟩), val2 3 ((j : Int) + 1)] w fun e w' => e = .returned (.tuple #[.string s, .bool true]) ∧ Below w.heap.size w w' := by
  obtain ⟨p, c, mv, hb, ho, -⟩ := H
  obtain ⟨len, hlen⟩ : ∃ n, cs.length = n := ⟨_, rfl⟩
  have hjl : j < len := by rw [← hlen]; exact (List.getElem?_eq_some_iff.1 hj).1
  rw [hlen] at hb ho
  have hlt := hb.lt
  obtain ⟨g, rfl, hmx, hcell⟩ : ∃ g, p = some ⟨g, 0, none⟩ ∧ len ≤ maxLen ∧ (w.alloc (.cells #[.int .i64 3, .int .i64 ((j : Int) + 1)] 44)).cell? ⟨g, j, none⟩ = some (.string s) := by
    rcases ho.2 with ⟨e1, e2⟩ | ⟨g, cap, cur, e1, _, hg, h1, h2, _⟩
    · omega
    · cases e1
      refine ⟨g, rfl, by omega, ?_⟩
      have := (ho.alloc (.cells #[.int .i64 3, .int .i64 ((j : Int) + 1)] 44)).cells (g := g) rfl j (.string s) (by rw [List.getElem?_map, hj]; rfl)
      rw [show (⟨g, 0, none⟩ : Addr).add j = ⟨g, j, none⟩ by unfold Addr.add; split <;> simp_all] at this
      exact this
  have c0 : (w.alloc (.cells #[.int .i64 3, .int .i64 ((j : Int) + 1)] 44)).cell? ⟨h, 0, none⟩ = some (.slice (some ⟨g, 0, none⟩) len c) := (hb.alloc _).cell rfl
  have g1 : decide ((j : Int) + 1 < 1) = false := by simp; omega
  have g2 : decide ((len : Int) < (j : Int) + 1) = false := by simp; omega
  unfold maxLen at hmx
  have e1 : wrap64 ((j : Int) + 1 - 1) = (j : Int) := by unfold wrap64; omega
  go_enter Tryd.func33, Tryd.ntmps33
  go_wp2_with fail
  go_quiet (fail)
  go_wp2_with fail
  go_quiet (fail)
  go_wp2
  go_ret2
  exact ⟨rfl, below_draws (below_draws ((Below.refl _ _).alloc (Nat.le_refl _) _) _) _⟩
end Go.Proofs.YtpaknaaainhgfaaDoor
