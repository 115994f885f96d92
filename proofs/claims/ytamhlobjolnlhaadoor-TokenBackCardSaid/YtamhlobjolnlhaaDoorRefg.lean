/-
  For the law LexTells: whether a number is too great; how long a mark is. Condition: the text has at most 2 to the 62 bytes.
-/
import Derived.Test.YtamhlobjolnlhaaDoorRefk
namespace Go.Proofs.YtamhlobjolnlhaaDoor
open Go.RowKit Go.Shelf

def greatL (l : List UInt8) : Bool := decide (10 < l.length) || decide (2147483647 < valOf l)
theorem valOf_next {l : List UInt8} {k : Nat} {c : UInt8} (h : l[k]? = some c) : valOf (l.take (k + 1)) = 10 * valOf (l.take k) + (c.toNat - 48) := by
  unfold valOf
  rw [List.take_add_one, h, List.foldl_append]
  rfl
theorem valOf_lt {l : List UInt8} (h : ∀ c ∈ l, dig c = true) : ∀ k, k ≤ l.length → valOf (l.take k) < 10 ^ k
  | 0, _ => by simp [valOf]
  | k + 1, hk => by
    have ih := valOf_lt h k (by omega)
    have hc := List.getElem?_eq_getElem (l := l) (i := k) (by omega)
    have := dig_true _ (h _ (List.mem_of_getElem? hc))
    rw [valOf_next hc, Nat.pow_succ]
    omega
theorem ten_le {k : Nat} (h : k ≤ 10) : 10 ^ k ≤ 10000000000 := Nat.pow_le_pow_right (n := 10) (by omega) h
set_option maxRecDepth 100000 in
set_option maxHeartbeats 4000000 in
theorem great_any (s : ByteArray) (w : World) (hd : ∀ c ∈ tl s, dig c = true) : Calls Tryd.prog 48 #[.string s] w fun e w' => e = .returned (.bool (greatL (tl s))) ∧ w = w' := by
  have hl := tl_length s
  have Hd := Lib.hid hd; clear hd
  obtain ⟨v, hv⟩ : ∃ v, Hid (greatL (tl s) = v) := ⟨_, Lib.hid rfl⟩
  rw [hv.out]
  go_enter Tryd.func48, Tryd.ntmps48
  by_cases h10 : 10 < s.size
  · have h1 : decide (10 < (s.size : Int)) = true := by simp; omega
    have hf : v = true := by rw [← hv.out]; unfold greatL; rw [decide_eq_true (p := 10 < (tl s).length) (by omega)]; rfl
    subst hf
    go_wp2_with fail
    go_ret
    exact ⟨rfl, rfl⟩
  have h1 : decide (10 < (s.size : Int)) = false := by simp; omega
  go_wp2_with fail
  go_loop [3, 4] (fun c d => ∃ k : Nat, c = .int .i64 (valOf ((tl s).take k) : Nat) ∧ d = .int .i64 k ∧ k ≤ s.size) (fun _ d => s.size - (intOf d).toNat)
  case atStart => exact ⟨0, rfl, rfl, Nat.zero_le _⟩
  case round =>
    obtain ⟨k, rfl, rfl, hk⟩ := hrel
    have hlt10 := valOf_lt Hd.out k (by omega)
    have h10' := ten_le (k := k) (by omega)
    by_cases hlt : k < s.size
    · obtain ⟨c, hc⟩ : ∃ c, s[k] = c := ⟨_, rfl⟩
      have hg := tl_get s hlt
      rw [hc] at hg
      have hdc := dig_true c (Hd.out c (List.mem_of_getElem? hg))
      have hnx := Lib.hid (valOf_next hg)
      clear hg
      have i1 : IntKind.u8.wrap ((c.toNat : Int) - 48) = (c.toNat : Int) - 48 := Go.IntWalk.u8_in _ (by omega)
      have i2 : IntKind.i64.wrap ((c.toNat : Int) - 48) = (c.toNat : Int) - 48 := Go.IntWalk.i64_in _ (by omega)
      generalize valOf ((tl s).take k) = n at *
      have i3 : IntKind.i64.wrap (10 * (n : Int)) = 10 * (n : Int) := Go.IntWalk.i64_in _ (by omega)
      have i4 : IntKind.i64.wrap (10 * (n : Int) + ((c.toNat : Int) - 48)) = 10 * (n : Int) + ((c.toNat : Int) - 48) := Go.IntWalk.i64_in _ (by omega)
      go_wp2_with fail
      exact ⟨⟨k + 1, by rw [hnx.out]; congr 1; omega, by go_num, by omega⟩, by simp [intOf]; omega⟩
    · obtain rfl : k = s.size := by omega
      have hall : (tl s).take s.size = tl s := List.take_of_length_le (by omega)
      rw [hall] at hlt10 ⊢
      obtain ⟨n, hn⟩ : ∃ n, Hid (valOf (tl s) = n) := ⟨_, Lib.hid rfl⟩
      rw [hn.out] at hlt10 ⊢
      have hf : v = decide (2147483647 < (n : Int)) := by
        rw [← hv.out]
        unfold greatL
        rw [decide_eq_false (p := 10 < (tl s).length) (by omega), hn.out, Bool.false_or, Bool.eq_iff_iff]
        simp
        omega
      subst hf
      clear hall
      go_wp2_with fail
      go_ret
      exact ⟨rfl, rfl⟩
/-- The marks of two bytes lie in a new block. -/
theorem two_row (w : World) : ∃ W2, Hid (w.alloc (.cells #[.string ⟨#[61, 61]⟩, .string ⟨#[33, 61]⟩, .string ⟨#[60, 61]⟩, .string ⟨#[62, 61]⟩, .string ⟨#[38, 38]⟩, .string ⟨#[124, 124]⟩] 9) = W2) ∧ W2.heap.size = w.heap.size + 1 ∧ Below w.heap.size w W2 ∧ ∀ k x, twoM[k]? = some x → W2.cell? ⟨w.heap.size, k, none⟩ = some (.string (bs x)) := by
  refine ⟨_, Lib.hid rfl, by simp, (Below.refl _ w).alloc (Nat.le_refl _) _, fun k x h => ?_⟩
  rw [Lib.cell_of_heap (World.alloc_heap_new w _)]
  have hm : (#[.string ⟨#[61, 61]⟩, .string ⟨#[33, 61]⟩, .string ⟨#[60, 61]⟩, .string ⟨#[62, 61]⟩, .string ⟨#[38, 38]⟩, .string ⟨#[124, 124]⟩] : Array Value).toList = twoM.map (fun x => Value.string (bs x)) := rfl
  show _[k]? = _
  rw [← Array.getElem?_toList, hm, List.getElem?_map, h]
  rfl
theorem two_len : twoM.length = 6 := rfl
theorem one_len : oneM.length = 16 := rfl
theorem two_size {x : List UInt8} (h : x ∈ twoM) : x.length = 2 := by
  simp only [twoM, List.mem_cons, List.not_mem_nil, or_false] at h
  rcases h with rfl | rfl | rfl | rfl | rfl | rfl <;> rfl
theorem ext_beq (s : ByteArray) (k : Nat) (x : List UInt8) : ((s.extract k (k + 2)).toList == x) = decide (((tl s).drop k).take 2 = x) := by
  rw [Lib.toList_data, Bool.eq_iff_iff, show (s.extract k (k + 2)).data.toList = tl (s.extract k (k + 2)) from rfl, ext_bs, tl_bs, show k + 2 - k = 2 from by omega]
  simp
set_option maxRecDepth 100000 in
set_option maxHeartbeats 8000000 in
theorem mark_any (s : ByteArray) (k : Nat) (w : World) (hs : s.size ≤ 2000000000) (hk : k < s.size) : Calls Tryd.prog 49 #[.string s, .int .i64 k] w fun e w' => e = .returned (.int .i64 (markLen ((tl s).drop k) : Nat)) ∧ Below w.heap.size w w' := by
  have hl := tl_length s
  obtain ⟨W2, hW2, hs2, hb2, hrow⟩ := two_row w
  have Hrow := Lib.hid hrow; clear hrow
  obtain ⟨v, hv⟩ : ∃ v, Hid (markLen ((tl s).drop k) = v) := ⟨_, Lib.hid rfl⟩
  rw [hv.out]
  obtain ⟨c, hc⟩ : ∃ c, s[k] = c := ⟨_, rfl⟩
  have hg := tl_get s hk
  rw [hc] at hg
  obtain ⟨r, hr⟩ : ∃ r, (tl s).drop k = c :: r := by
    obtain ⟨h1, h2⟩ := List.getElem?_eq_some_iff.1 hg
    exact ⟨_, by rw [List.drop_eq_getElem_cons h1, h2]⟩
  have Hr := Lib.hid hr; clear hr hg
  obtain ⟨one, hone⟩ : ∃ one, Hid (({ data := #[43, 45, 42, 47, 37, 60, 62, 61, 33, 40, 41, 123, 125, 59, 44, 46] } : ByteArray) = one) := ⟨_, Lib.hid rfl⟩
  have o1 : one.size = 16 := by rw [← hone.out]; rfl
  have o2 : Hid (tl one = oneM) := Lib.hid (by rw [← hone.out]; rfl)
  go_enter Tryd.func49, Tryd.ntmps49
  go_wp2_with fail
  rw [hW2.out]
  go_loopw [6] (fun x wr => ∃ j q : Nat, Hid (wr = W2.drewN q) ∧ x = .int .i64 j ∧ j ≤ 6 ∧ Hid (∀ i x, i < j → twoM[i]? = some x → (c :: r).take 2 ≠ x)) (fun x _ => 6 - (intOf x).toNat)
  case atStart => exact ⟨0, 0, Lib.hid rfl, rfl, by omega, Lib.hid (fun i x h => by omega)⟩
  case round =>
    obtain ⟨j, q, hq, rfl, hj, hno⟩ := hrel
    by_cases hgo : j < 6 ∧ k + 2 ≤ s.size
    · obtain ⟨hj6, hk2⟩ := hgo
      obtain ⟨x, hx⟩ : ∃ x, twoM[j]? = some x := ⟨_, List.getElem?_eq_getElem (by rw [two_len]; exact hj6)⟩
      have c0 : wr.cell? ⟨w.heap.size, j, none⟩ = some (.string (bs x)) := by rw [hq.out]; exact Hrow.out j x hx
      have f := ext_beq s k x
      rw [Hr.out] at f
      have hB : Hid (∀ n, Below w.heap.size w (wr.drewN n)) := Lib.hid (fun n => by rw [hq.out]; exact below_draws (below_draws hb2 q) n)
      by_cases he : (c :: r).take 2 = x
      · have hf : v = 2 := by rw [← hv.out, Hr.out, markLen, if_pos (he ▸ List.mem_of_getElem? hx)]
        subst hf
        rw [decide_eq_true he] at f
        clear he hx hno
        go_wp2_with fail
        go_quiet (fail)
        go_wp2_with fail
        go_ret
        exact ⟨rfl, hB.out nq⟩
      · have hn : Hid (∀ i y, i < j + 1 → twoM[i]? = some y → (c :: r).take 2 ≠ y) := Lib.hid (fun i y hi hy => by
          rcases Nat.lt_or_ge i j with h | h
          · exact hno.out i y h hy
          · obtain rfl : i = j := by omega
            rw [hx] at hy
            exact Option.some.inj hy ▸ he)
        rw [decide_eq_false he] at f
        clear he hx hno
        go_wp2_with fail
        go_quiet (fail)
        go_wp2_with fail
        exact ⟨⟨j + 1, q + nq, Lib.hid (by rw [hq.out, World.drewN_drewN]), by go_num, by omega, hn⟩, by simp [intOf]; omega⟩
    · have hno2 : Hid ((c :: r).take 2 ∉ twoM) := Lib.hid (fun hm => by
        by_cases hk2 : k + 2 ≤ s.size
        · obtain ⟨i, hi⟩ := List.mem_iff_getElem?.1 hm
          have h6 := (List.getElem?_eq_some_iff.1 hi).1
          rw [two_len] at h6
          exact hno.out i _ (by omega) hi rfl
        · have h2 := two_size hm
          rw [← Hr.out, List.length_take, List.length_drop] at h2
          omega)
      have hB : Hid (Below w.heap.size w wr) := Lib.hid (by rw [hq.out]; exact below_draws hb2 q)
      clear hno
      have hk3 : j < 6 → ¬ (k + 2 ≤ s.size) := fun h1 h2 => hgo ⟨h1, h2⟩
      clear hgo
      obtain ⟨W3, hW3⟩ : ∃ W3, W3 = wr := ⟨_, rfl⟩
      subst hW3
      have hor : (j < 6 ∧ ¬ (k + 2 ≤ s.size)) ∨ j = 6 := by
        rcases Nat.lt_or_ge j 6 with h | h
        · exact .inl ⟨h, hk3 h⟩
        · exact .inr (by omega)
      clear hk3
      rcases hor with ⟨h6, hk2⟩ | rfl
      all_goals
        go_wp2_with fail
        rw [hone.out]
        go_loopw [8] (fun x wr => ∃ j q : Nat, Hid (wr = W3.drewN q) ∧ x = .int .i64 j ∧ j ≤ 16 ∧ Hid (∀ i x, i < j → oneM[i]? = some x → c ≠ x)) (fun x _ => 16 - (intOf x).toNat)
        case atStart => exact ⟨0, 0, Lib.hid rfl, rfl, by omega, Lib.hid (fun i x h => by omega)⟩
        case round =>
          obtain ⟨j, q, hq, rfl, hj, hno⟩ := hrel
          by_cases hlt : j < 16
          · obtain ⟨x, hx⟩ : ∃ x, one[j] = x := ⟨_, rfl⟩
            have hg := tl_get one (show j < one.size by omega)
            rw [hx, o2.out] at hg
            have hcx : ((c.toNat : Int) == (x.toNat : Int)) = decide (c = x) := by
              rw [Bool.eq_iff_iff]
              simp only [beq_iff_eq, decide_eq_true_eq]
              constructor
              · intro h; exact UInt8.toNat_inj.1 (by omega)
              · rintro rfl; rfl
            have hB3 : Hid (∀ n, Below w.heap.size w (wr.drewN n)) := Lib.hid (fun n => by rw [hq.out]; exact below_draws (below_draws hB.out q) n)
            by_cases he : c = x
            · have hf : v = 1 := by rw [← hv.out, Hr.out, markLen, if_neg hno2.out, if_pos (he ▸ List.mem_of_getElem? hg)]
              subst hf
              rw [decide_eq_true he] at hcx
              clear he hg hno
              go_wp2_with fail
              go_quiet (fail)
              go_wp2_with fail
              go_ret
              exact ⟨rfl, hB3.out nq⟩
            · have hn : Hid (∀ i y, i < j + 1 → oneM[i]? = some y → c ≠ y) := Lib.hid (fun i y hi hy => by
                rcases Nat.lt_or_ge i j with h | h
                · exact hno.out i y h hy
                · obtain rfl : i = j := by omega
                  rw [hg] at hy
                  exact Option.some.inj hy ▸ he)
              rw [decide_eq_false he] at hcx
              clear he hg hno
              go_wp2_with fail
              go_quiet (fail)
              go_wp2_with fail
              exact ⟨⟨j + 1, q + nq, Lib.hid (by rw [hq.out, World.drewN_drewN]), by go_num, by omega, hn⟩, by simp [intOf]; omega⟩
          · obtain rfl : j = 16 := by omega
            have hno1 : c ∉ oneM := fun hm => by
              obtain ⟨i, hi⟩ := List.mem_iff_getElem?.1 hm
              have h6 := (List.getElem?_eq_some_iff.1 hi).1
              rw [one_len] at h6
              exact hno.out i _ (by omega) hi rfl
            have hf : v = 0 := by rw [← hv.out, Hr.out, markLen, if_neg hno2.out, if_neg hno1]
            subst hf
            have hB3 : Hid (Below w.heap.size w wr) := Lib.hid (by rw [hq.out]; exact below_draws hB.out q)
            clear hno hno1
            go_wp2_with fail
            go_ret
            exact ⟨rfl, hB3.out⟩
end Go.Proofs.YtamhlobjolnlhaaDoor
