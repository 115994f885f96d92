/-
  For the law LexTells: equal tokens are the same. No condition.
-/
import Derived.Test.YtamhlobjolnlhaaDoorRefk
namespace Go.Proofs.YtamhlobjolnlhaaDoor
open Go.RowKit Go.Shelf

set_option maxRecDepth 100000 in
set_option maxHeartbeats 4000000 in
theorem RefSame_any (v u : Value) (T : List Tk) (w : World) (h1 : Toks w v T) (h2 : Toks w u T) : Calls Tryd.prog 14 #[v, u] w fun e w' => e = .returned (.bool true) ∧ Below w.heap.size w w' := by
  obtain ⟨a, cap, rfl, hc, hm, hat⟩ := h1
  obtain ⟨a', cap', rfl, hc', hm', hat'⟩ := h2
  have Hat := Lib.hid hat
  have Hat' := Lib.hid hat'
  unfold maxLen at hm hm'
  clear hat hat'
  go_enter Tryd.func14, Tryd.ntmps14
  go_wp2_with fail
  go_loopw [5] (fun c wr => ∃ k q : Nat, Hid (wr = w.drewN q) ∧ c = .int .i64 k ∧ k ≤ T.length) (fun c _ => T.length - (intOf c).toNat)
  case atStart => exact ⟨0, 0, Lib.hid rfl, rfl, Nat.zero_le _⟩
  case round =>
    obtain ⟨k, q, hq, rfl, hk⟩ := hrel
    by_cases hlt : k < T.length
    · obtain ⟨t, ht⟩ : ∃ t, T[k]? = some t := ⟨_, List.getElem?_eq_getElem hlt⟩
      obtain ⟨b, off, rfl, hbl, hli⟩ := Hat.out k t ht
      obtain ⟨b', off', rfl, hbl', hli'⟩ := Hat'.out k t ht
      obtain ⟨c0, c1, c2, c3⟩ : t.lies wr b (off + k * 4) := by rw [hq.out]; exact hli
      obtain ⟨d0, d1, d2, d3⟩ : t.lies wr b' (off' + k * 4) := by rw [hq.out]; exact hli'
      clear hli hli' ht
      go_wp2_with fail
      go_quiet (fail)
      go_wp2_with fail
      exact ⟨⟨k + 1, q + nq, Lib.hid (by rw [hq.out, World.drewN_drewN]), by go_num, by omega⟩, by simp [intOf]; omega⟩
    · obtain rfl : k = T.length := by omega
      go_wp2_with fail
      go_ret
      exact ⟨rfl, by rw [hq.out]; exact below_draws (Below.refl _ _) q⟩
end Go.Proofs.YtamhlobjolnlhaaDoor
