/-
  For the laws of token: a slice of texts; equal ones are the same; whether they are few and short. No condition.
-/
import Derived.Test.YtamhlobjolnlhaaDoorTexts
namespace Go.Proofs.YtamhlobjolnlhaaDoor
open Go.RowKit Go.Shelf

/-- The value v is a slice that reads as the texts L. -/
def Strs (W : World) (v : Value) (L : List (List UInt8)) : Prop :=
  ∃ (a : Option Addr) (cap : Nat), v = .slice a L.length cap ∧ L.length ≤ cap ∧ cap ≤ maxLen ∧ ∀ k (x : List UInt8), L[k]? = some x → ∃ b off, a = some ⟨b, off, none⟩ ∧ b < W.heap.size ∧ W.cell? ⟨b, off + k, none⟩ = some (.string (bs x))
theorem Strs.below {W W' : World} {v : Value} {L : List (List UInt8)} (h : Strs W v L) (hb : Below W.heap.size W W') : Strs W' v L := by
  obtain ⟨a, cap, rfl, hc, hm, hx⟩ := h
  refine ⟨a, cap, rfl, hc, hm, fun k x hk => ?_⟩
  obtain ⟨b, off, rfl, hl, hat⟩ := hx k x hk
  exact ⟨b, off, rfl, by have := hb.size; omega, (hb.cell (p := ⟨b, off + k, none⟩) hl).trans hat⟩
theorem own_strs {W : World} {base n : Nat} {v : Value} {L : List (List UInt8)} (h : W.ownsRow base 9 1 v n (strV L)) : Strs W v L := by
  have hl := h.1
  rw [strV, List.length_map] at hl
  obtain rfl : n = L.length := by omega
  rcases h.2 with ⟨rfl, h0⟩ | ⟨g, cap, cur, rfl, _, hg, h1, h2, h3, h4⟩
  · obtain rfl : L = [] := List.eq_nil_of_length_eq_zero h0
    exact ⟨none, 0, rfl, Nat.le_refl _, Nat.zero_le _, by simp⟩
  · refine ⟨_, cap, rfl, h1, h2, fun k x hk => ⟨g, 0, rfl, (Array.getElem?_eq_some_iff.1 hg).1, ?_⟩⟩
    have hkl := (List.getElem?_eq_some_iff.1 hk).1
    have h5 : (strV L)[k]? = some (.string (bs x)) := by rw [strV, List.getElem?_map, hk]; rfl
    rw [← h5, ← h4, List.getElem?_take_of_lt (by omega), Nat.zero_add]
    simp [World.cell?, hg]
set_option maxRecDepth 100000 in
set_option maxHeartbeats 4000000 in
theorem SameStrs_any (v u : Value) (L : List (List UInt8)) (w : World) (h1 : Strs w v L) (h2 : Strs w u L) : Calls Tryd.prog 28 #[v, u] w fun e w' => e = .returned (.bool true) ∧ Below w.heap.size w w' := by
  obtain ⟨a, cap, rfl, hc, hm, hat⟩ := h1
  obtain ⟨a', cap', rfl, hc', hm', hat'⟩ := h2
  have Hat := Lib.hid hat
  have Hat' := Lib.hid hat'
  unfold maxLen at hm hm'
  clear hat hat'
  go_enter Tryd.func28, Tryd.ntmps28
  go_wp2_with fail
  go_loopw [5] (fun c wr => ∃ k q : Nat, Hid (wr = w.drewN q) ∧ c = .int .i64 k ∧ k ≤ L.length) (fun c _ => L.length - (intOf c).toNat)
  case atStart => exact ⟨0, 0, Lib.hid rfl, rfl, Nat.zero_le _⟩
  case round =>
    obtain ⟨k, q, hq, rfl, hk⟩ := hrel
    by_cases hlt : k < L.length
    · obtain ⟨x, hx⟩ : ∃ x, L[k]? = some x := ⟨_, List.getElem?_eq_getElem hlt⟩
      obtain ⟨b, off, rfl, hbl, hli⟩ := Hat.out k x hx
      obtain ⟨b', off', rfl, hbl', hli'⟩ := Hat'.out k x hx
      have c0 : wr.cell? ⟨b, off + k, none⟩ = some (.string (bs x)) := by rw [hq.out]; exact hli
      have d0 : wr.cell? ⟨b', off' + k, none⟩ = some (.string (bs x)) := by rw [hq.out]; exact hli'
      clear hli hli' hx
      go_wp2_with fail
      go_quiet (fail)
      go_wp2_with fail
      exact ⟨⟨k + 1, q + nq, Lib.hid (by rw [hq.out, World.drewN_drewN]), by go_num, by omega⟩, by simp [intOf]; omega⟩
    · obtain rfl : k = L.length := by omega
      go_wp2_with fail
      go_ret
      exact ⟨rfl, by rw [hq.out]; exact below_draws (Below.refl _ _) q⟩
def shortL (L : List (List UInt8)) : Bool := decide (L.length ≤ 60) && decide (∀ x ∈ L, x.length ≤ 60)
set_option maxRecDepth 100000 in
set_option maxHeartbeats 4000000 in
theorem short_any (v : Value) (L : List (List UInt8)) (w : World) (h1 : Strs w v L) : Calls Tryd.prog 26 #[v] w fun e w' => e = .returned (.bool (shortL L)) ∧ w = w' := by
  obtain ⟨a, cap, rfl, hc, hm, hat⟩ := h1
  have Hat := Lib.hid hat
  unfold maxLen at hm
  clear hat
  obtain ⟨r, hr⟩ : ∃ r, Hid (shortL L = r) := ⟨_, Lib.hid rfl⟩
  rw [hr.out]
  go_enter Tryd.func26, Tryd.ntmps26
  by_cases h60 : 60 < L.length
  · have d : decide ((60 : Int) < (L.length : Int)) = true := by simp; omega
    obtain rfl : r = false := by rw [← hr.out]; unfold shortL; rw [decide_eq_false (p := L.length ≤ 60) (by omega)]; rfl
    clear h60
    go_wp2_with fail
    go_ret
    exact ⟨rfl, rfl⟩
  have d : decide ((60 : Int) < (L.length : Int)) = false := by simp; omega
  go_wp2_with fail
  go_loop [3] (fun c => ∃ k : Nat, c = .int .i64 k ∧ k ≤ L.length ∧ Hid (∀ j x, j < k → L[j]? = some x → x.length ≤ 60)) (fun c => L.length - (intOf c).toNat)
  case atStart => exact ⟨0, rfl, Nat.zero_le _, Lib.hid (fun j x h => by omega)⟩
  case round =>
    obtain ⟨k, rfl, hk, hsm⟩ := hrel
    by_cases hlt : k < L.length
    · obtain ⟨x, hx⟩ : ∃ x, L[k]? = some x := ⟨_, List.getElem?_eq_getElem hlt⟩
      obtain ⟨b, off, rfl, hbl, c0⟩ := Hat.out k x hx
      have z : (bs x).size = x.length := bs_size _
      by_cases hl : 60 < x.length
      · have d1 : decide ((60 : Int) < (x.length : Int)) = true := by simp; omega
        obtain rfl : r = false := by
          rw [← hr.out]
          unfold shortL
          rw [decide_eq_false (p := ∀ x ∈ L, x.length ≤ 60) (fun h => by have := h x (List.mem_of_getElem? hx); omega)]
          simp
        clear hx hl
        go_wp2_with fail
        go_ret
        exact ⟨rfl, rfl⟩
      · have d1 : decide ((60 : Int) < (x.length : Int)) = false := by simp; omega
        have hn : Hid (∀ j y, j < k + 1 → L[j]? = some y → y.length ≤ 60) := Lib.hid (fun j y hj hy => by
          rcases Nat.lt_or_ge j k with h | h
          · exact hsm.out j y h hy
          · obtain rfl : j = k := by omega
            rw [hx] at hy
            cases hy
            omega)
        clear hx hl hsm
        go_wp2_with fail
        exact ⟨⟨k + 1, by go_num, by omega, hn⟩, by simp [intOf]; omega⟩
    · obtain rfl : k = L.length := by omega
      obtain rfl : r = true := by
        rw [← hr.out]
        unfold shortL
        rw [decide_eq_true (p := L.length ≤ 60) (by omega), decide_eq_true (p := ∀ x ∈ L, x.length ≤ 60) (fun x hx => by
          obtain ⟨i, hi⟩ := List.mem_iff_getElem?.1 hx
          exact hsm.out i x ((List.getElem?_eq_some_iff.1 hi).1) hi)]
        rfl
      clear hsm
      go_wp2_with fail
      go_ret
      exact ⟨rfl, rfl⟩
end Go.Proofs.YtamhlobjolnlhaaDoor
