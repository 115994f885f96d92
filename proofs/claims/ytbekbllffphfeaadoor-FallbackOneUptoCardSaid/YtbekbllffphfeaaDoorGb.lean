/-
  For the laws of fallback: the walk of FallbackOne. Condition: paths and texts of at most 1,048,576 bytes each; marker's table is as it is laid.
-/
import Derived.Test.YtbekbllffphfeaaDoorGa
import Derived.Test.YtbekbllffphfeaaDoorFt
namespace Go.Proofs.YtbekbllffphfeaaDoor
open Go.RowKit Go.Shelf
set_option linter.unusedSimpArgs false
set_option linter.unusedVariables false

theorem lastT_mem : ∀ {L : List T.Fl} {q t : By}, T.lastT L q = some t → ∃ f ∈ L, f.text = t
  | [], _, _, h => by cases h
  | f :: r, q, t, h => by
    unfold T.lastT at h
    split at h
    · rename_i t' he
      cases h
      obtain ⟨g, hg, e⟩ := lastT_mem he
      exact ⟨g, List.mem_cons_of_mem _ hg, e⟩
    · split at h
      · exact ⟨f, List.mem_cons_self, Option.some.inj h⟩
      · cases h
theorem sort_text {L : List T.Fl} {n : Nat} (h : ∀ f ∈ L, f.text.length ≤ n) : ∀ f ∈ T.sortF L, f.text.length ≤ n := by
  intro f hf
  have h1 := T.get_mem (T.rising_sort L) hf
  rw [T.get_sort] at h1
  obtain ⟨g, hg, e⟩ := lastT_mem h1
  rw [← e]
  exact h g hg
theorem own_asl {W : World} {base e s n : Nat} {v : Value} {xs : List Value} (h : W.ownsRow base e s v n xs) : ∃ a c, v = .slice a n c := by
  rcases h.2 with ⟨h1, h2⟩ | ⟨g, cap, cur, h1, -⟩
  · exact ⟨none, 0, by rw [h1, h2]⟩
  · exact ⟨_, _, h1⟩
set_option maxRecDepth 100000 in
set_option maxHeartbeats 16000000 in
theorem fallbackOne_any (vO vA : Value) (O A : List T.Fl) (w : World) (hW : K.MkW w) (h0 : T.Fls w vO O) (h1 : T.Fls w vA A) (s0 : ∀ f ∈ O, f.path.length ≤ 1048576 ∧ f.text.length ≤ 1048576) (s1 : ∀ f ∈ A, f.path.length ≤ 1048576 ∧ f.text.length ≤ 1048576) : Calls Tryd.prog 3 #[vO, vA] w fun e w' => e = .returned (.bool true) ∧ Below w.heap.size w w' := by
  have hs : 1 ≤ w.heap.size := hW.size
  have HW := Lib.hid hW
  have H0 := Lib.hid h0
  have H1 := Lib.hid h1
  have S0 := Lib.hid s0
  have S1 := Lib.hid s1
  clear hW h0 h1 s0 s1
  go_enter Tryd.func3, Tryd.ntmps3
  go_wp2_with fail
  refine (awake_any w HW.out hs).mono ?_
  rintro e w1 ⟨rfl, b1⟩
  have B1 := Lib.hid b1
  clear b1
  go_wp2_with fail
  refine (Few_any vO O w1 (H0.out.below B1.out) S0.out).mono ?_
  rintro e w2 ⟨rfl, b2⟩
  have B2 := Lib.hid (B1.out.trans (b2.mono B1.out.size))
  clear b2
  go_wp2_with fail
  refine (Few_any vA A w2 (H1.out.below B2.out) S1.out).mono ?_
  rintro e w3 ⟨rfl, b3⟩
  have B3 := Lib.hid (B2.out.trans (b3.mono B2.out.size))
  clear b3
  obtain ⟨f0, hf0⟩ : ∃ b, Hid (fewB O = b) := ⟨_, Lib.hid rfl⟩
  obtain ⟨f1, hf1⟩ : ∃ b, Hid (fewB A = b) := ⟨_, Lib.hid rfl⟩
  rw [hf0.out, hf1.out]
  cases f0 with
  | false =>
    go_wp2_with fail
    go_ret
    exact ⟨rfl, B3.out⟩
  | true =>
  cases f1 with
  | false =>
    go_wp2_with fail
    go_ret
    exact ⟨rfl, B3.out⟩
  | true =>
  obtain ⟨l0, t0⟩ := fewB_bd hf0.out
  obtain ⟨l1, t1⟩ := fewB_bd hf1.out
  have L0 := Lib.hid l0
  have L1 := Lib.hid l1
  obtain ⟨S, hS⟩ : ∃ S, Hid (T.sortF O = S) := ⟨_, Lib.hid rfl⟩
  obtain ⟨B, hB⟩ : ∃ S, Hid (T.sortF A = S) := ⟨_, Lib.hid rfl⟩
  have RB : Hid (T.Rising B) := by rw [← hB.out]; exact Lib.hid (T.rising_sort A)
  have T0 : Hid (∀ f ∈ S, f.text.length ≤ 2599) := Lib.hid (by rw [← hS.out]; exact fun f hf => Nat.le_trans (sort_text t0 f hf) (by decide))
  have T1 : Hid (∀ f ∈ B, f.text.length ≤ 2599) := Lib.hid (by rw [← hB.out]; exact fun f hf => Nat.le_trans (sort_text t1 f hf) (by decide))
  have lS : S.length ≤ 10 := by rw [← hS.out]; exact Nat.le_trans (T.sort_len O) l0
  have lB : B.length ≤ 10 := by rw [← hB.out]; exact Nat.le_trans (T.sort_len A) l1
  have PSSB := Lib.hid (show (pathsT S S B).length ≤ 50000 by have := pathsT_len S S B; omega)
  have PSBS := Lib.hid (show (pathsT S B S).length ≤ 50000 by have := pathsT_len S B S; omega)
  have PSBB := Lib.hid (show (pathsT S B B).length ≤ 50000 by have := pathsT_len S B B; omega)
  have FSSB := Lib.hid (show [S, S, B].flatten.length ≤ 1000000 by rw [flat3_len]; omega)
  have FSBS := Lib.hid (show [S, B, S].flatten.length ≤ 1000000 by rw [flat3_len]; omega)
  have FSBB := Lib.hid (show [S, B, B].flatten.length ≤ 1000000 by rw [flat3_len]; omega)
  clear t0 t1 l0 l1 lS lB
  go_wp2_with fail
  refine (T.RefSort_any vO O w3 (H0.out.below B3.out) (Nat.le_trans L0.out (by decide))).mono ?_
  rw [hS.out]
  rintro e w4 ⟨⟨vS, rfl, hvS⟩, b⟩
  have V0 := Lib.hid hvS
  have B4 := Lib.hid (B3.out.trans (b.mono B3.out.size))
  clear b hvS
  go_wp2_with fail
  refine (T.RefSort_any vA A w4 (H1.out.below B4.out) (Nat.le_trans L1.out (by decide))).mono ?_
  rw [hB.out]
  rintro e w5 ⟨⟨vB, rfl, hvB⟩, b⟩
  have V1 := Lib.hid hvB
  have G5 := Lib.hid b
  have V05 := Lib.hid (V0.out.below G5.out)
  have B5 := Lib.hid (B4.out.trans (b.mono B4.out.size))
  clear b hvB
  go_wp2_with fail
  refine (Trees_any vS vS vB S S B true w5 (HW.out.below B5.out hs) (Nat.le_trans hs B5.out.size) V05.out V05.out V1.out T0.out T0.out T1.out PSSB.out FSSB.out).mono ?_
  rw [trees_right RB.out T0.out T1.out true]
  rintro e w6 ⟨uF5, uC5, rfl, oF, oC, b⟩
  obtain ⟨a5, c5, rfl⟩ := own_asl oC
  have PF5 := Lib.hid (T.own_fls oF)
  have G6 := Lib.hid b
  have B6 := Lib.hid (B5.out.trans (b.mono B5.out.size))
  have V06 := Lib.hid (V05.out.below b)
  have V16 := Lib.hid (V1.out.below b)
  clear oF oC b
  go_wp2_with fail
  refine (Trees_any vS vB vS S B S false w6 (HW.out.below B6.out hs) (Nat.le_trans hs B6.out.size) V06.out V16.out V06.out T0.out T1.out T0.out PSBS.out FSBS.out).mono ?_
  rw [trees_left RB.out T0.out T1.out false]
  rintro e w7 ⟨uF6, uC6, rfl, oF, oC, b⟩
  obtain ⟨a6, c6, rfl⟩ := own_asl oC
  have PF6 := Lib.hid (T.own_fls oF)
  have G7 := Lib.hid b
  have B7 := Lib.hid (B6.out.trans (b.mono B6.out.size))
  have V07 := Lib.hid (V06.out.below b)
  have V17 := Lib.hid (V16.out.below b)
  clear oF oC b
  go_wp2_with fail
  refine (Trees_any vS vB vB S B B true w7 (HW.out.below B7.out hs) (Nat.le_trans hs B7.out.size) V07.out V17.out V17.out T0.out T1.out T1.out PSBB.out FSBB.out).mono ?_
  rw [trees_both RB.out T0.out T1.out true]
  rintro e w8 ⟨uF7, uC7, rfl, oF, oC, b⟩
  obtain ⟨a7, c7, rfl⟩ := own_asl oC
  have PF7 := Lib.hid (T.own_fls oF)
  have G8 := Lib.hid b
  have B8 := Lib.hid (B7.out.trans (b.mono B7.out.size))
  have V08 := Lib.hid (V07.out.below b)
  have V18 := Lib.hid (V17.out.below b)
  clear oF oC b
  have g6 : Hid (Below w6.heap.size w6 w8) := Lib.hid (G7.out.trans (G8.out.mono G7.out.size))
  go_wp2_with fail
  refine (T.RefSame_any uF5 vB B B w8 (PF5.out.below g6.out) V18.out).mono ?_
  rw [decide_eq_true rfl]
  rintro e w9 ⟨rfl, b⟩
  have G9 := Lib.hid b
  have B9 := Lib.hid (B8.out.trans (b.mono B8.out.size))
  have V19 := Lib.hid (V18.out.below b)
  clear b
  go_wp2_with fail
  refine (T.RefSame_any uF6 vB B B w9 ((PF6.out.below G8.out).below G9.out) V19.out).mono ?_
  rw [decide_eq_true rfl]
  rintro e w10 ⟨rfl, b⟩
  have G10 := Lib.hid (G9.out.trans (b.mono G9.out.size))
  have B10 := Lib.hid (B9.out.trans (b.mono B9.out.size))
  have V110 := Lib.hid (V19.out.below b)
  clear b
  go_wp2_with fail
  refine (T.RefSame_any uF7 vB B B w10 (PF7.out.below G10.out) V110.out).mono ?_
  rw [decide_eq_true rfl]
  rintro e w11 ⟨rfl, b⟩
  have B11 := Lib.hid (B10.out.trans (b.mono B10.out.size))
  clear b
  go_wp2_with fail
  go_ret
  exact ⟨rfl, B11.out⟩
end Go.Proofs.YtbekbllffphfeaaDoor
