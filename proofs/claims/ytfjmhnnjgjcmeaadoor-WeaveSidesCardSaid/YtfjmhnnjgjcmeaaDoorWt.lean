/-
  For the laws of weave: WeaveOne returns true. Condition: the lexer's world.
-/
import Derived.Test.YtfjmhnnjgjcmeaaDoorWr
import Derived.Test.YtfjmhnnjgjcmeaaDoorWq
namespace Go.Proofs.YtfjmhnnjgjcmeaaDoor
open Go.RowKit Go.Shelf
set_option linter.unusedSimpArgs false
set_option linter.unusedVariables false

theorem few_sizes {o a b : ByteArray} (h : fewB o a b = true) : o.size ≤ 600 ∧ a.size ≤ 600 ∧ b.size ≤ 600 := by
  unfold fewB at h
  rw [Bool.and_eq_true, Bool.and_eq_true, decide_eq_true_eq, decide_eq_true_eq, decide_eq_true_eq] at h
  exact ⟨h.1.1, h.1.2, h.2⟩
theorem textP_oob (o b : ByteArray) : textP o o b = (tl b, true) := by unfold textP; rw [if_pos rfl]
theorem textP_oao (o a : ByteArray) : textP o a o = (tl a, true) := by
  unfold textP
  by_cases h : a = o
  · rw [if_pos h, h]
  · rw [if_neg h, if_pos (.inl rfl)]
theorem textP_oaa (o a : ByteArray) : textP o a a = (tl a, true) := by
  unfold textP
  by_cases h : a = o
  · rw [if_pos h]
  · rw [if_neg h, if_pos (.inr rfl)]
theorem joinP_no {l : List Pt} (h : (joinP l).2 = false) : (joinP l).1 = [] := by
  unfold joinP at h ⊢
  split at h
  · rename_i hc; rw [if_pos hc]
  · cases h
theorem textP_no {o a b : ByteArray} (h : (textP o a b).2 = false) : (textP o a b).1 = [] := by
  unfold textP at h ⊢
  split at h
  · cases h
  · rename_i h1
    split at h
    · cases h
    · rename_i h2
      rw [if_neg h1, if_neg h2]
      split at h
      · rename_i h3; rw [if_pos h3]; exact joinP_no h
      · rename_i h3; rw [if_neg h3]; exact joinP_no h
set_option maxRecDepth 100000 in
set_option maxHeartbeats 8000000 in
theorem weaveOne_any (o a b : ByteArray) (w : World) (hW : X.LexW w) : Calls Tryd.prog 5 #[.string o, .string a, .string b] w fun e w' => e = .returned (.bool true) ∧ Below w.heap.size w w' := by
  have hs : 4 ≤ w.heap.size := hW.size
  have CA := Lib.hid (awake_any w hW hs)
  cases hf : fewB o a b with
  | false =>
    have Hf := Lib.hid hf
    clear hf
    go_enter Tryd.func5, Tryd.ntmps5
    go_wp2_with fail
    refine CA.out.mono ?_
    rintro e w1 ⟨rfl, b1⟩
    have B1 := Lib.hid b1
    clear b1
    go_wp2_with fail
    refine (few_any o a b w1).mono ?_
    rw [Hf.out]
    rintro e w2 ⟨rfl, rfl⟩
    go_wp2_with fail
    go_ret
    exact ⟨rfl, B1.out⟩
  | true =>
    obtain ⟨h1, h2, h3⟩ := few_sizes hf
    have Hf := Lib.hid hf
    clear hf
    have CT := Lib.hid (fun (x y z : ByteArray) (k1 : x.size ≤ 600) (k2 : y.size ≤ 600) (k3 : z.size ≤ 600) W (hB : Below w.heap.size w W) => Text_any x y z W (hW.below hB hs) (Nat.le_trans hs hB.size) k1 k2 k3)
    have C1 : Hid (∀ W, Below w.heap.size w W → Calls Tryd.prog 13 #[.string o, .string o, .string b] W fun e w' => e = .returned (.tuple #[.string b, .bool true]) ∧ Below W.heap.size W w') := Lib.hid (fun W hB => by
      have h := CT.out o o b h1 h1 h3 W hB
      rw [textP_oob] at h
      simpa only [bs_tl] using h)
    have C2 : Hid (∀ W, Below w.heap.size w W → Calls Tryd.prog 13 #[.string o, .string a, .string o] W fun e w' => e = .returned (.tuple #[.string a, .bool true]) ∧ Below W.heap.size W w') := Lib.hid (fun W hB => by
      have h := CT.out o a o h1 h2 h1 W hB
      rw [textP_oao] at h
      simpa only [bs_tl] using h)
    have C3 : Hid (∀ W, Below w.heap.size w W → Calls Tryd.prog 13 #[.string o, .string a, .string a] W fun e w' => e = .returned (.tuple #[.string a, .bool true]) ∧ Below W.heap.size W w') := Lib.hid (fun W hB => by
      have h := CT.out o a a h1 h2 h2 W hB
      rw [textP_oaa] at h
      simpa only [bs_tl] using h)
    have C4 := Lib.hid (CT.out o a b h1 h2 h3)
    have C5 := Lib.hid (CT.out o b a h1 h3 h2)
    have hsw := textP_sw o a b h1 h2 h3
    have hno := @textP_no o a b
    rw [hsw] at C5
    clear hsw CT
    obtain ⟨T, hT⟩ : ∃ T, Hid (textP o a b = T) := ⟨_, Lib.hid rfl⟩
    rw [hT.out] at C4 C5 hno
    obtain ⟨t, is⟩ := T
    dsimp only at C4 C5 hno
    have qa : (a.toList == a.toList) = true := yes _
    have qb : (b.toList == b.toList) = true := yes _
    have qt : ((bs t).toList == (bs t).toList) = true := yes _
    have q0 : is = true ∨ (is = false ∧ t = []) := by
      cases is with
      | true => exact .inl rfl
      | false => exact .inr ⟨rfl, hno rfl⟩
    have Q0 := Lib.hid q0
    clear hno q0 h1 h2 h3 hT
    go_enter Tryd.func5, Tryd.ntmps5
    go_wp2_with fail
    refine CA.out.mono ?_
    rintro e w1 ⟨rfl, b1⟩
    have B1 := Lib.hid b1
    clear b1
    go_wp2_with fail
    refine (few_any o a b w1).mono ?_
    rw [Hf.out]
    rintro e w2 ⟨rfl, rfl⟩
    go_wp2_with fail
    refine (C1.out _ B1.out).mono ?_
    rintro e w3 ⟨rfl, b3⟩
    have B3 := Lib.hid (B1.out.trans (b3.mono B1.out.size))
    clear b3
    go_wp2_with fail
    refine (C2.out _ B3.out).mono ?_
    rintro e w4 ⟨rfl, b4⟩
    have B4 := Lib.hid (B3.out.trans (b4.mono B3.out.size))
    clear b4
    go_wp2_with fail
    refine (C3.out _ B4.out).mono ?_
    rintro e w5 ⟨rfl, b5⟩
    have B5 := Lib.hid (B4.out.trans (b5.mono B4.out.size))
    clear b5
    go_wp2_with fail
    refine (C4.out _ B5.out).mono ?_
    rintro e w6 ⟨rfl, b6⟩
    have B6 := Lib.hid (B5.out.trans (b6.mono B5.out.size))
    clear b6
    go_wp2_with fail
    refine (C5.out _ B6.out).mono ?_
    rintro e w7 ⟨rfl, b7⟩
    have B7 := Lib.hid (B6.out.trans (b7.mono B6.out.size))
    clear b7
    rcases Q0.out with rfl | ⟨rfl, rfl⟩
    · go_wp2_with fail
      go_ret
      exact ⟨rfl, B7.out⟩
    · have q1 : ((bs []).toList == (ByteArray.mk #[]).toList) = true := yes _
      go_wp2_with fail
      go_ret
      exact ⟨rfl, B7.out⟩
end Go.Proofs.YtfjmhnnjgjcmeaaDoor
