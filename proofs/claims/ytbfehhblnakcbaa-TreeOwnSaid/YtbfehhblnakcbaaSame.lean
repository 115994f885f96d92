/-
  For the laws of tree: the same files, by the program. Condition: none.
-/
import Derived.Test.YtbfehhblnakcbaaFiles
namespace Go.Proofs.Ytbfehhblnakcbaa
open Go.RowKit Go.Shelf

set_option maxRecDepth 100000 in
set_option maxHeartbeats 8000000 in
theorem Same_eq (u v : Value) (L : List Fl) (w : World) (h1 : Fls w u L) (h2 : Fls w v L) : Calls Try.prog 24 #[u, v] w fun e w' => e = .returned (.bool true) ∧ Below w.heap.size w w' := by
  obtain ⟨a, cap, rfl, hc, hm, hat⟩ := h1
  obtain ⟨a2, cap2, rfl, hc2, hm2, hat2⟩ := h2
  have Hat := Lib.hid hat; clear hat
  have Hat2 := Lib.hid hat2; clear hat2
  unfold maxLen at hm hm2
  go_enter Try.func24, Try.ntmps24
  go_wp2_with fail
  go_loopw [13] (fun c wr => ∃ k : Nat, c = .int .i64 k ∧ k ≤ L.length ∧ ∃ q, Hid (wr = w.drewN q)) (fun c _ => L.length - (intOf c).toNat)
  case atStart => exact ⟨0, rfl, by omega, 0, Lib.hid rfl⟩
  case round =>
    obtain ⟨k, rfl, hk, q, hq⟩ := hrel
    by_cases hlt : k < L.length
    · obtain ⟨x, hx⟩ : ∃ x, L[k]? = some x := ⟨_, List.getElem?_eq_getElem hlt⟩
      obtain ⟨b, off, rfl, hbl, hl0, hl1⟩ := Hat.out k x hx
      obtain ⟨b2, off2, rfl, hbl2, hl2, hl3⟩ := Hat2.out k x hx
      have c0 : wr.cell? ⟨b, off + k * 2, none⟩ = some (.string (bs x.path)) := by rw [hq.out]; exact hl0
      have c1 : wr.cell? ⟨b, off + k * 2 + 1, none⟩ = some (.string (bs x.text)) := by rw [hq.out]; exact hl1
      have c2 : wr.cell? ⟨b2, off2 + k * 2, none⟩ = some (.string (bs x.path)) := by rw [hq.out]; exact hl2
      have c3 : wr.cell? ⟨b2, off2 + k * 2 + 1, none⟩ = some (.string (bs x.text)) := by rw [hq.out]; exact hl3
      have p0 : (0 : Int) ≤ (k : Int) := by omega
      have p1 : (k : Int) < (L.length : Int) := by omega
      have p2 : (k : Int) < (cap : Int) := by omega
      have p3 : (k : Int) < (cap2 : Int) := by omega
      clear hl0 hl1 hl2 hl3 hx
      go_wp2_with fail
      go_quiet (fail)
      go_wp2_with fail
      exact ⟨⟨k + 1, by go_num, by omega, q + nq, Lib.hid (by rw [hq.out]; exact World.drewN_drewN w q nq)⟩, by simp [intOf]; omega⟩
    · obtain rfl : k = L.length := by omega
      go_wp2_with fail
      go_ret
      exact ⟨rfl, by rw [hq.out]; exact below_draws (Below.refl _ _) _⟩
end Go.Proofs.Ytbfehhblnakcbaa
