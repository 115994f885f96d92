/-
  For the law LexNames. Condition: the library's own variables are as they are laid.
-/
import Derived.Test.YtamhlobjolnlhaaDoorRefk
namespace Go.Proofs.YtamhlobjolnlhaaDoor
open Go.RowKit Go.Shelf

theorem all_small {T : List Tk} : ∀ {k : Nat}, (∀ j t, j < k → T[j]? = some t → t.text.length ≤ 200 ∧ t.lead.length ≤ 200) → (allB (T.take k)).length ≤ 400 * k
  | 0, _ => by simp [allB]
  | k + 1, h => by
    have ih := all_small (k := k) (fun j t hj ht => h j t (by omega) ht)
    cases ht : T[k]? with
    | none => rw [List.take_of_length_le (by rw [List.getElem?_eq_none_iff] at ht; omega)] at ih ⊢; omega
    | some t =>
      have := h k t (by omega) ht
      rw [allB_take ht, List.length_append, List.length_append]
      omega
set_option maxRecDepth 100000 in
set_option maxHeartbeats 8000000 in
theorem lexNames_any (s : ByteArray) (v : Value) (T : List Tk) (w : World) (hv : Toks w v T) (hW : LexW w) : Calls Tryd.prog 4 #[.string s, v] w fun e w' => e = .returned (.bool true) ∧ Below w.heap.size w w' := by
  have Hv := Lib.hid hv
  obtain ⟨a, cap, rfl, hc, hm, hat⟩ := hv
  have Hat := Lib.hid hat; clear hat
  unfold maxLen at hm
  have HW := Lib.hid hW; clear hW
  have hW4 := HW.out.size
  go_enter Tryd.func4, Tryd.ntmps4
  go_wp2_with fail
  refine (awake_any _ HW.out).mono ?_
  rintro e w1 ⟨rfl, b1⟩
  have HB1 := Lib.hid b1
  by_cases hs : 200 < s.size
  · have hd : decide ((200 : Int) < (s.size : Int)) = true := by simp; omega
    go_wp2_with fail
    go_ret
    exact ⟨rfl, b1⟩
  have hd : decide ((200 : Int) < (s.size : Int)) = false := by simp; omega
  by_cases hT : 200 < T.length
  · have hd2 : decide ((200 : Int) < (T.length : Int)) = true := by simp; omega
    go_wp2_with fail
    go_ret
    exact ⟨rfl, b1⟩
  have hd2 : decide ((200 : Int) < (T.length : Int)) = false := by simp; omega
  clear b1
  go_wp2_with fail
  go_loopw [6] (fun c wr => ∃ k q : Nat, Hid (wr = w1.drewN q) ∧ c = .int .i64 k ∧ k ≤ T.length ∧ Hid (∀ j t, j < k → T[j]? = some t → t.text.length ≤ 200 ∧ t.lead.length ≤ 200)) (fun c _ => T.length - (intOf c).toNat)
  case atStart => exact ⟨0, 0, Lib.hid rfl, rfl, Nat.zero_le _, Lib.hid (fun j t h => by omega)⟩
  case round =>
    obtain ⟨k, q, hq, rfl, hk, hsm⟩ := hrel
    have hB : Hid (Below w.heap.size w wr) := Lib.hid (by rw [hq.out]; exact below_draws HB1.out q)
    by_cases hlt : k < T.length
    · obtain ⟨t, ht⟩ : ∃ t, T[k]? = some t := ⟨_, List.getElem?_eq_getElem hlt⟩
      obtain ⟨b, off, rfl, hbl, hli⟩ := Hat.out k t ht
      obtain ⟨c0, c1, c2, c3⟩ : t.lies wr b (off + k * 4) := by rw [hq.out]; exact hli.below (below_draws HB1.out q) hbl
      have z2 : (bs t.text).size = t.text.length := bs_size _
      have z3 : (bs t.lead).size = t.lead.length := bs_size _
      have more : t.text.length ≤ 200 → t.lead.length ≤ 200 → Hid (∀ j t, j < k + 1 → T[j]? = some t → t.text.length ≤ 200 ∧ t.lead.length ≤ 200) := fun y1 y2 => Lib.hid (fun j u hj hu => by
        rcases Nat.lt_or_ge j k with h | h
        · exact hsm.out j u h hu
        · obtain rfl : j = k := by omega
          rw [ht] at hu
          cases hu
          exact ⟨y1, y2⟩)
      have More := Lib.hid more
      clear more hli ht
      by_cases y1 : 200 < t.text.length
      · have hd3 : decide ((200 : Int) < (t.text.length : Int)) = true := by simp; omega
        go_wp2_with fail
        go_ret
        exact ⟨rfl, hB.out⟩
      by_cases y2 : 200 < t.lead.length
      · have hd3 : decide ((200 : Int) < (t.text.length : Int)) = false := by simp; omega
        have hd4 : decide ((200 : Int) < (t.lead.length : Int)) = true := by simp; omega
        go_wp2_with fail
        go_ret
        exact ⟨rfl, hB.out⟩
      have hd3 : decide ((200 : Int) < (t.text.length : Int)) = false := by simp; omega
      have hd4 : decide ((200 : Int) < (t.lead.length : Int)) = false := by simp; omega
      have hn := More.out (by omega) (by omega)
      go_wp2_with fail
      exact ⟨⟨k + 1, q, hq, by go_num, by omega, hn⟩, by simp [intOf]; omega⟩
    · obtain rfl : k = T.length := by omega
      have hal := all_small hsm.out
      rw [List.take_length] at hal
      clear hsm
      go_wp2_with fail
      refine (Kept_any s _).mono ?_
      rintro e w2 ⟨rfl, rfl⟩
      go_wp2_with fail
      refine (RefKept_any s _).mono ?_
      rintro e w2 ⟨rfl, b2⟩
      have hB2 := hB.out.trans (b2.mono hB.out.size)
      have HB2 := Lib.hid hB2
      clear hB2 b2
      go_wp2_with fail
      refine (Name_any s _ (by unfold maxLen; omega)).mono ?_
      rintro e w3 ⟨rfl, rfl⟩
      go_wp2_with fail
      refine (RefName_any s _).mono ?_
      rintro e w3 ⟨rfl, b3⟩
      have HB3 := Lib.hid (HB2.out.trans (b3.mono HB2.out.size))
      clear b3
      go_wp2_with fail
      refine (Unlex_any _ T _ (Hv.out.below HB3.out) (by omega) (by omega)).mono ?_
      rintro e w4 ⟨rfl, b4⟩
      have HB4 := Lib.hid (HB3.out.trans (b4.mono HB3.out.size))
      clear b4
      go_wp2_with fail
      refine (RefUnlex_any _ T _ (Hv.out.below HB4.out) (by omega) (by omega)).mono ?_
      rintro e w5 ⟨rfl, b5⟩
      have HB5 := Lib.hid (HB4.out.trans (b5.mono HB4.out.size))
      clear b5
      go_wp2_with fail
      go_ret
      exact ⟨rfl, HB5.out⟩
end Go.Proofs.YtamhlobjolnlhaaDoor
