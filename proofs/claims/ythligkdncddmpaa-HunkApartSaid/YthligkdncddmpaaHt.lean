/-
  For the laws of hunk: whether two slices of texts are the same. No condition.
-/
import Derived.Test.YthligkdncddmpaaHk
import Derived.Test.YthligkdncddmpaaRefn
namespace Go.Proofs.Ythligkdncddmpaa
open Go.RowKit

theorem prefix_next {A B : List ByteArray} {k : Nat} {s : ByteArray} (h : A.take k = B.take k) (ha : A[k]? = some s) (hb : B[k]? = some s) : A.take (k + 1) = B.take (k + 1) := by
  rw [take_more ha, take_more hb, h]

set_option maxRecDepth 100000 in
set_option maxHeartbeats 4000000 in
theorem SameT_any (v1 v2 : Value) (A B : List ByteArray) (w : World) (h1 : Vals w v1 (A.map Value.string)) (h2 : Vals w v2 (B.map Value.string)) : Calls Try.prog 35 #[v1, v2] w fun e w' => e = .returned (.bool (decide (A = B))) ∧ Below w.heap.size w w' := by
  obtain ⟨a1, cap1, rfl, hc1, hm1, hat1⟩ := h1.at
  obtain ⟨a2, cap2, rfl, hc2, hm2, hat2⟩ := h2.at
  have Hat1 := Lib.hid hat1; clear hat1
  have Hat2 := Lib.hid hat2; clear hat2
  rw [List.length_map] at hc1 hc2 ⊢
  rw [List.length_map]
  unfold maxLen at hm1 hm2
  obtain ⟨v, hv⟩ : ∃ v, Hid (decide (A = B) = v) := ⟨_, Lib.hid rfl⟩
  rw [hv.out]
  by_cases hl : A.length = B.length
  · obtain ⟨n, hn⟩ : ∃ n, A.length = n := ⟨_, rfl⟩
    have hm : B.length = n := by rw [← hl]; exact hn
    have Hn := Lib.hid hn
    have Hm := Lib.hid hm
    rw [hn] at hc1 ⊢
    rw [hm] at hc2 ⊢
    clear hn hm hl h1 h2
    go_enter Try.func35, Try.ntmps35
    go_wp2_with fail
    go_loopw [5] (fun c wr => ∃ k : Nat, k ≤ n ∧ c = .int .i64 k ∧ A.take k = B.take k ∧ Below w.heap.size w wr) (fun c _ => n - (intOf c).toNat)
    case atStart => exact ⟨0, by omega, rfl, rfl, Below.refl _ _⟩
    case round =>
      obtain ⟨k, hk, rfl, hpre, hB⟩ := hrel
      by_cases hlt : k < n
      · obtain ⟨s, hs⟩ : ∃ s, A[k]? = some s := ⟨_, List.getElem?_eq_getElem (by have := Hn.out; omega)⟩
        obtain ⟨t, ht⟩ : ∃ t, B[k]? = some t := ⟨_, List.getElem?_eq_getElem (by have := Hm.out; omega)⟩
        obtain ⟨b1, off1, rfl, hl1, e1⟩ := Hat1.out k (.string s) (by rw [List.getElem?_map, hs]; rfl)
        obtain ⟨b2, off2, rfl, hl2, e2⟩ := Hat2.out k (.string t) (by rw [List.getElem?_map, ht]; rfl)
        have c1 : wr.cell? ⟨b1, off1 + k, none⟩ = some (.string s) := (hB.cell (p := ⟨b1, off1 + k, none⟩) hl1).trans e1
        have c2 : wr.cell? ⟨b2, off2 + k, none⟩ = some (.string t) := (hB.cell (p := ⟨b2, off2 + k, none⟩) hl2).trans e2
        clear e1 e2
        by_cases hst : s = t
        · subst hst
          have Hnext := Lib.hid (prefix_next hpre hs ht)
          clear hpre hs ht
          go_wp2_with fail
          go_quiet (fail)
          go_wp2_with fail
          exact ⟨⟨k + 1, by omega, by go_num, Hnext.out, below_draws hB _⟩, by simp [intOf]; omega⟩
        · have hne : A ≠ B := fun e => hst (by rw [e, ht] at hs; exact (Option.some.inj hs).symm)
          obtain rfl : v = false := by rw [← hv.out]; exact decide_eq_false hne
          have hd : (s.toList == t.toList) = false := beq_no (fun e => hst (Go.WideShapes.bytes_inj e))
          clear hpre hs ht hne hv hst
          go_wp2_with fail
          go_quiet (fail)
          go_wp2_with fail
          go_ret
          exact ⟨rfl, below_draws hB _⟩
      · obtain rfl : k = n := by omega
        obtain rfl : v = true := by
          rw [← hv.out]
          rw [List.take_of_length_le (by rw [Hn.out]; omega), List.take_of_length_le (by rw [Hm.out]; omega)] at hpre
          exact decide_eq_true hpre
        clear hpre hv
        go_wp2_with fail
        go_ret
        exact ⟨rfl, hB⟩
  · obtain rfl : v = false := by rw [← hv.out]; exact decide_eq_false (fun e => hl (by rw [e]))
    have hd : ((A.length : Int) != (B.length : Int)) = true := by simp; omega
    clear hv
    go_enter Try.func35, Try.ntmps35
    go_wp2_with fail
    go_ret
    exact ⟨rfl, Below.refl _ _⟩
end Go.Proofs.Ythligkdncddmpaa
