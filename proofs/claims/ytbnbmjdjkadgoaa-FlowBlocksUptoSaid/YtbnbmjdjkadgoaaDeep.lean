/-
  For the laws of node: the reference's Deep and Depth. Condition: at most 1,000 asked, at most 2,000,000 nodes.
-/
import Derived.Test.YtbnbmjdjkadgoaaRd
namespace Go.Proofs.Ytbnbmjdjkadgoaa
open Go.RowKit Go.Shelf
set_option linter.unusedSimpArgs false
set_option linter.unusedVariables false

set_option maxRecDepth 100000 in
set_option maxHeartbeats 8000000 in
theorem Deep_d (d : Nat) : ∀ (t : Nd) (kv : Value) (most : Int) (w : World), most ≤ 1000 → Kids w d t.kids kv → Calls Try.prog 52 #[.agg #[.int .i64 t.hd.kind, .string (bs t.hd.text), .string (bs t.hd.type), .int .i64 t.hd.n, .int .i64 t.hd.fr, .int .i64 t.hd.to_, .int .i64 t.hd.at_, .int .i64 t.hd.tat, kv], .int .i64 most] w fun e w' => e = .returned (.bool (decide (most < (t.ht : Int)))) ∧ Below w.heap.size w w' := by
  induction d with
  | zero =>
    intro t kv most w hm hk
    obtain ⟨h0, a, cap, rfl, hcap⟩ := hk
    have hht : t.ht = 1 := by rw [ht_kids, h0]; rfl
    rw [hht]
    by_cases hp : most ≤ 0
    · have f1 : decide (most ≤ 0) = true := decide_eq_true hp
      go_enter Try.func52, Try.ntmps52
      go_wp2_with fail
      go_ret
      exact ⟨by rw [decide_eq_true (by omega)]; rfl, (Below.refl _ w).alloc (Nat.le_refl _) _⟩
    · have f1 : decide (most ≤ 0) = false := decide_eq_false hp
      obtain ⟨W1, hW1⟩ : ∃ W1, Hid (w.alloc (.cells #[.int .i64 t.hd.kind, .string (bs t.hd.text), .string (bs t.hd.type), .int .i64 t.hd.n, .int .i64 t.hd.fr, .int .i64 t.hd.to_, .int .i64 t.hd.at_, .int .i64 t.hd.tat, .slice a 0 cap] 44) = W1) := ⟨_, Lib.hid rfl⟩
      have R1 : Hid (RowAt W1 w.heap.size 44 (t.hd.vals (.slice a 0 cap))) := by rw [← hW1.out]; exact Lib.hid (RowAt.new w 44 _)
      have B1 : Hid (Below w.heap.size w W1) := by rw [← hW1.out]; exact Lib.hid ((Below.refl _ w).alloc (Nat.le_refl _) _)
      have c8 : W1.cell? ⟨w.heap.size, 8, none⟩ = some (.slice a 0 cap) := R1.out.cell (j := 8) rfl
      have hcap' := hcap
      unfold maxLen at hcap'
      go_enter Try.func52, Try.ntmps52
      go_wp2_with fail
      rw [hW1.out]
      go_loopw [5] (fun c wr => c = .int .i64 0 ∧ wr = W1) (fun _ _ => 0)
      case atStart => exact ⟨rfl, rfl⟩
      case round =>
        obtain ⟨rfl, rfl⟩ := hrel
        go_wp2_with fail
        go_ret
        exact ⟨by rw [decide_eq_false (by omega)]; rfl, B1.out⟩
  | succ d ih =>
    intro t kv most w hm hk
    obtain ⟨a, cap, rfl, hc, hcap, hx⟩ := hk
    have Hx := Lib.hid hx
    clear hx
    have hht : (t.ht : Int) = htL t.kids + 1 := by rw [ht_kids]; omega
    rw [hht]
    by_cases hp : most ≤ 0
    · have f1 : decide (most ≤ 0) = true := decide_eq_true hp
      go_enter Try.func52, Try.ntmps52
      go_wp2_with fail
      go_ret
      exact ⟨by rw [decide_eq_true (by omega)]; rfl, (Below.refl _ w).alloc (Nat.le_refl _) _⟩
    · have f1 : decide (most ≤ 0) = false := decide_eq_false hp
      obtain ⟨ks, hks⟩ : ∃ ks, Hid (t.kids = ks) := ⟨_, Lib.hid rfl⟩
      rw [hks.out] at hc Hx
      rw [hks.out]
      obtain ⟨W1, hW1⟩ : ∃ W1, Hid (w.alloc (.cells #[.int .i64 t.hd.kind, .string (bs t.hd.text), .string (bs t.hd.type), .int .i64 t.hd.n, .int .i64 t.hd.fr, .int .i64 t.hd.to_, .int .i64 t.hd.at_, .int .i64 t.hd.tat, .slice a ks.length cap] 44) = W1) := ⟨_, Lib.hid rfl⟩
      have R1 : Hid (RowAt W1 w.heap.size 44 (t.hd.vals (.slice a ks.length cap))) := by rw [← hW1.out]; exact Lib.hid (RowAt.new w 44 _)
      have B1 : Hid (Below w.heap.size w W1) := by rw [← hW1.out]; exact Lib.hid ((Below.refl _ w).alloc (Nat.le_refl _) _)
      have hs1 := B1.out.size
      have hcap' := hcap
      unfold maxLen at hcap'
      go_enter Try.func52, Try.ntmps52
      go_wp2_with fail
      rw [hW1.out]
      go_loopw [5] (fun c wr => ∃ k : Nat, c = .int .i64 k ∧ k ≤ ks.length ∧ Hid ((htL (ks.take k) : Int) ≤ most - 1) ∧ Hid (Below W1.heap.size W1 wr)) (fun c _ => ks.length - (intOf c).toNat)
      case atStart => exact ⟨0, rfl, by omega, Lib.hid (by simp [htL]; omega), Lib.hid (Below.refl _ _)⟩
      case round =>
        obtain ⟨k, rfl, hk, hH, hB⟩ := hrel
        have hbs := hB.out.size
        have c8 : wr.cell? ⟨w.heap.size, 8, none⟩ = some (.slice a ks.length cap) := (R1.out.later hB.out).cell (j := 8) rfl
        by_cases hlt : k < ks.length
        · obtain ⟨x, hx⟩ : ∃ x, ks[k]? = some x := ⟨_, List.getElem?_eq_getElem hlt⟩
          obtain ⟨b, off, kv, rfl, cs, hk2⟩ := Hx.out k x hx
          have cs2 := (cs.later B1.out).later hB.out
          have hk3 := (hk2.below B1.out).below hB.out
          obtain ⟨d0, d1, d2, d3, d4, d5, d6, d7, d8⟩ := cs2
          have htk := Lib.hid (htL_take hx)
          have htm := Lib.hid (htL_mem (List.mem_of_getElem? hx))
          have call := Lib.hid (ih x kv (most - 1) wr (by omega) hk3)
          clear hk2 hk3 cs hx
          go_wp2_with fail
          refine call.out.mono ?_
          rintro e w2 ⟨rfl, b2⟩
          have B2 := Lib.hid (hB.out.trans (b2.mono hbs))
          by_cases hd : most - 1 < (x.ht : Int)
          · rw [decide_eq_true hd]
            clear b2
            go_wp2_with fail
            go_ret
            refine ⟨by rw [decide_eq_true (by have := htm.out; omega)]; rfl, B1.out.trans (B2.out.mono hs1)⟩
          · rw [decide_eq_false hd]
            clear b2
            go_wp2_with fail
            exact ⟨⟨k + 1, by go_num, by omega, Lib.hid (by have := hH.out; rw [htk.out]; omega), B2⟩, by simp [intOf]; omega⟩
        · obtain rfl : k = ks.length := by omega
          rw [List.take_length] at hH
          go_wp2_with fail
          go_ret
          exact ⟨by rw [decide_eq_false (by have := hH.out; omega)]; rfl, B1.out.trans (hB.out.mono hs1)⟩
theorem Deep_any (t : Nd) (v : Value) (most : Int) (w : World) (hm : most ≤ 1000) (h : NdAt w v t) : Calls Try.prog 52 #[v, .int .i64 most] w fun e w' => e = .returned (.bool (decide (most < (t.ht : Int)))) ∧ Below w.heap.size w w' := by
  obtain ⟨kv, rfl, d, hk⟩ := h
  exact Deep_d d t kv most w hm hk
end Go.Proofs.Ytbnbmjdjkadgoaa
