/-
  For the laws of tree: TreeKeeps, by the program. Condition: files, path and text as handed in.
-/
import Derived.Laws.Cover1
import Derived.Test.YtbfehhblnakcbaaWake
import Derived.Test.YtbfehhblnakcbaaKeeps
namespace Go.Proofs.Ytbfehhblnakcbaa
open Go.RowKit Go.Shelf

theorem less_yes : ∀ {a b : By}, a < b → Op.bytesLess a b = true
  | a, [], h => absurd h (List.not_lt_nil a)
  | [], y :: b, _ => rfl
  | x :: a, y :: b, h => by
    rw [Op.bytesLess]
    rcases List.cons_lt_cons_iff.1 h with h1 | ⟨h1, h2⟩
    · have e1 : decide (x < y) = true := decide_eq_true h1
      rw [e1]; rfl
    · subst h1
      rw [less_yes h2]; simp
set_option maxRecDepth 100000 in
set_option maxHeartbeats 8000000 in
theorem Keeps_any (v : Value) (L : List Fl) (p t : ByteArray) (w : World) (h1 : Fls w v L) (hp : p.size ≤ maxLen) (ht : t.size ≤ maxLen) : Calls Try.prog 5 #[v, .string p, .string t] w fun e w' => e = .returned (.bool true) ∧ Below w.heap.size w w' := by
  have H1 := Lib.hid h1
  obtain ⟨a, cap, rfl, -, -, -⟩ := h1
  unfold maxLen at hp ht
  go_enter Try.func5, Try.ntmps5
  go_wp2_with fail
  refine (wake_any w).mono ?_
  rintro e w1 ⟨rfl, b1⟩
  have B1 := Lib.hid b1
  have H2 := Lib.hid (H1.out.below b1)
  clear b1
  go_wp2_with fail
  refine (few_any _ L w1 H2.out).mono ?_
  rintro e w2 ⟨rfl, b2⟩
  have B2 := Lib.hid (B1.out.trans (b2.mono B1.out.size))
  have H3 := Lib.hid (H2.out.below b2)
  clear b2
  cases hf : fewF L with
  | false =>
    clear hf
    go_wp2_with fail
    go_ret
    exact ⟨rfl, B2.out⟩
  | true =>
    obtain ⟨hL, hbd⟩ := few_bd hf
    have Hbd := Lib.hid hbd
    clear hf hbd
    rcases Nat.lt_or_ge 100 p.size with h100 | h100
    · have f1 : decide ((p.size : Int) > 100) = true := decide_eq_true (by omega)
      go_wp2_with fail
      go_ret
      exact ⟨rfl, B2.out⟩
    have f1 : decide ((p.size : Int) > 100) = false := decide_eq_false (by omega)
    rcases Nat.lt_or_ge 300 t.size with h300 | h300
    · have f2 : decide ((t.size : Int) > 300) = true := decide_eq_true (by omega)
      go_wp2_with fail
      go_ret
      exact ⟨rfl, B2.out⟩
    have f2 : decide ((t.size : Int) > 300) = false := decide_eq_false (by omega)
    go_wp2_with fail
    have hLm : ∀ f ∈ L, f.path.length ≤ maxLen := fun f hf => by have := (Hbd.out f hf).1; unfold maxLen; omega
    have HLm := Lib.hid hLm
    have hpl : (tl p).length ≤ maxLen := by rw [tl_length]; unfold maxLen; omega
    have Hpl := Lib.hid hpl
    have hps : Hid (p.size ≤ maxLen) := Lib.hid (by unfold maxLen; omega)
    clear hLm hpl
    obtain ⟨P, hP⟩ : ∃ P, Hid (putF L (tl p) (tl t) = P) := ⟨_, Lib.hid rfl⟩
    obtain ⟨S, hS⟩ : ∃ S, Hid (sortF L = S) := ⟨_, Lib.hid rfl⟩
    have Hri : Hid (Rising P) := Lib.hid (by rw [← hP.out]; exact rising_sort _)
    have hPl : P.length ≤ 61 := by rw [← hP.out]; exact Nat.le_trans (put_len _ _ _) (by omega)
    have hSl : S.length ≤ 60 := by rw [← hS.out]; exact Nat.le_trans (sort_len _) (by omega)
    refine (Sort_any _ L w2 H3.out (by omega) HLm.out).mono ?_
    rw [hS.out]
    rintro e w3 ⟨s0, rfl, hs, b3⟩
    have B3 := Lib.hid (B2.out.trans (b3.mono B2.out.size))
    have H4 := Lib.hid (H3.out.below b3)
    have S4 := Lib.hid hs
    clear b3 hs
    go_wp2_with fail
    refine (Put_any _ L p t w3 H4.out (by omega) HLm.out hps.out).mono ?_
    rw [hP.out]
    rintro e w4 ⟨p0, rfl, hq, b4⟩
    have B4 := Lib.hid (B3.out.trans (b4.mono B3.out.size))
    have S5 := Lib.hid (S4.out.below b4)
    have P5 := Lib.hid hq
    clear b4 hq
    go_wp2_with fail
    refine (Get_any _ P p w4 P5.out).mono ?_
    rw [show getT P (tl p) = some (tl t) by rw [← hP.out]; exact put_at _ _ _]
    simp only [bs_tl]
    rintro e w5 ⟨rfl, b5⟩
    have B5 := Lib.hid (B4.out.trans (b5.mono B4.out.size))
    have S6 := Lib.hid (S5.out.below b5)
    have P6 := Lib.hid (P5.out.below b5)
    clear b5
    go_wp2_with fail
    refine (Remove_any _ P p w5 P6.out (by omega)).mono ?_
    rintro e w6 ⟨⟨r0, rfl, hr⟩, b6⟩
    have B6 := Lib.hid (B5.out.trans (b6.mono B5.out.size))
    have S7 := Lib.hid (S6.out.below b6)
    have P7 := Lib.hid (P6.out.below b6)
    have R7 := Lib.hid hr
    clear b6 hr
    go_wp2_with fail
    refine (Get_any _ _ p w6 R7.out).mono ?_
    rw [show getT (remF P (tl p)) (tl p) = none by rw [← hP.out]; exact put_gone _ _ _]
    rintro e w7 ⟨rfl, b7⟩
    have B7 := Lib.hid (B6.out.trans (b7.mono B6.out.size))
    have S8 := Lib.hid (S7.out.below b7)
    have P8 := Lib.hid (P7.out.below b7)
    clear b7
    go_wp2_with fail
    refine (Remove_any _ P p w7 P8.out (by omega)).mono ?_
    rintro e w8 ⟨⟨r1, rfl, hr1⟩, b8⟩
    have B8 := Lib.hid (B7.out.trans (b8.mono B7.out.size))
    have S9 := Lib.hid (S8.out.below b8)
    have P9 := Lib.hid (P8.out.below b8)
    have R9 := Lib.hid hr1
    clear b8 hr1
    go_wp2_with fail
    refine (Remove_any _ S p w8 S9.out (by omega)).mono ?_
    rw [show remF S (tl p) = remF P (tl p) by rw [← hP.out, ← hS.out, rem_put]]
    rintro e w9 ⟨⟨r2, rfl, hr2⟩, b9⟩
    have B9 := Lib.hid (B8.out.trans (b9.mono B8.out.size))
    have S10 := Lib.hid (S9.out.below b9)
    have P10 := Lib.hid (P9.out.below b9)
    have R10 := Lib.hid (R9.out.below b9)
    have Q10 := Lib.hid hr2
    clear b9 hr2
    go_wp2_with fail
    refine (Same_eq _ _ _ w9 R10.out Q10.out).mono ?_
    rintro e w10 ⟨rfl, b10⟩
    have B10 := Lib.hid (B9.out.trans (b10.mono B9.out.size))
    have S11 := Lib.hid (S10.out.below b10)
    have P11 := Lib.hid (P10.out.below b10)
    clear b10
    go_wp2_with fail
    refine (Put_any _ P p t w10 P11.out (by omega) (by rw [← hP.out]; exact put_small HLm.out Hpl.out) hps.out).mono ?_
    rw [show putF P (tl p) (tl t) = P by rw [← hP.out, put_put]]
    rintro e w11 ⟨p1, rfl, hp1, b11⟩
    have B11 := Lib.hid (B10.out.trans (b11.mono B10.out.size))
    have S12 := Lib.hid (S11.out.below b11)
    have P12 := Lib.hid (P11.out.below b11)
    have U12 := Lib.hid hp1
    clear b11 hp1
    go_wp2_with fail
    refine (Same_eq _ _ P w11 U12.out P12.out).mono ?_
    rintro e w12 ⟨rfl, b12⟩
    have B12 := Lib.hid (B11.out.trans (b12.mono B11.out.size))
    have S13 := Lib.hid (S12.out.below b12)
    have P13 := Lib.hid (P12.out.below b12)
    clear b12
    go_wp2_with fail
    obtain ⟨a9, c9, rfl, hcs, hms, hat9⟩ := S13.out
    obtain ⟨a10, c10, rfl, hcp, hmp, hat10⟩ := P13.out
    have Hat9 := Lib.hid hat9
    have Hat10 := Lib.hid hat10
    unfold maxLen at hms hmp
    clear hat9 hat10
    go_loopw [15] (fun c wr => ∃ k : Nat, c = .int .i64 k ∧ k ≤ S.length ∧ Hid (Below w12.heap.size w12 wr)) (fun c _ => S.length - (intOf c).toNat)
    case atStart => exact ⟨0, rfl, by omega, Lib.hid (Below.refl _ _)⟩
    case round =>
      obtain ⟨k, rfl, hk, hB⟩ := hrel
      have hbs := hB.out.size
      by_cases hlt : k < S.length
      · obtain ⟨x, hx⟩ : ∃ x, S[k]? = some x := ⟨_, List.getElem?_eq_getElem hlt⟩
        obtain ⟨b, off, rfl, hbl, hl0, hl1⟩ := Hat9.out k x hx
        have c0 : wr.cell? ⟨b, off + k * 2, none⟩ = some (.string (bs x.path)) := (hB.out.cell (p := ⟨b, off + k * 2, none⟩) hbl).trans hl0
        have PW := Lib.hid (P13.out.below hB.out)
        obtain ⟨got, hgot, hsame⟩ : ∃ got, getT P x.path = some got ∧ (¬ x.path = tl p → got = x.text) := by
          by_cases e : x.path = tl p
          · exact ⟨tl t, by rw [e, ← hP.out]; exact put_at _ _ _, fun h => absurd e h⟩
          · refine ⟨x.text, ?_, fun _ => rfl⟩
            rw [← hS.out] at hx; rw [← hP.out]; exact put_else hx e
        have Hgot := Lib.hid hgot
        have Hsame := Lib.hid hsame
        have hl0' := Lib.hid hl0
        have hl1' := Lib.hid hl1
        clear hx hgot hsame hl0 hl1
        go_wp2_with fail
        refine (Get_any _ P (bs x.path) wr PW.out).mono ?_
        rw [tl_bs, Hgot.out]
        rintro e wg ⟨rfl, bg⟩
        have hBg := Lib.hid (hB.out.trans (bg.mono hB.out.size))
        have d0 : wg.cell? ⟨b, off + k * 2, none⟩ = some (.string (bs x.path)) := (hBg.out.cell (p := ⟨b, off + k * 2, none⟩) hbl).trans hl0'.out
        have d1 : wg.cell? ⟨b, off + k * 2 + 1, none⟩ = some (.string (bs x.text)) := (hBg.out.cell (p := ⟨b, off + k * 2 + 1, none⟩) hbl).trans hl1'.out
        have f := bs_beq p x.path
        clear bg c0
        by_cases he : x.path = tl p
        · rw [decide_eq_true he] at f
          clear he
          go_wp2_with fail
          exact ⟨⟨k + 1, by go_num, by omega, hBg⟩, by simp [intOf]; omega⟩
        · rw [decide_eq_false he] at f
          obtain rfl := Hsame.out he
          clear he
          go_wp2_with fail
          exact ⟨⟨k + 1, by go_num, by omega, hBg⟩, by simp [intOf]; omega⟩
      · obtain rfl : k = S.length := by omega
        have hB0 := hB
        go_wp2_with fail
        obtain ⟨Wo, hWo⟩ : ∃ Wo : World, Hid (Wo = wr) := ⟨_, Lib.hid rfl⟩
        go_loopw [18] (fun c wi => ∃ k : Nat, c = .int .i64 k ∧ 1 ≤ k ∧ (k ≤ P.length ∨ P.length = 0) ∧ Hid (Below w12.heap.size w12 wi)) (fun c _ => P.length - (intOf c).toNat)
        case atStart => exact ⟨1, rfl, by omega, by omega, hB0⟩
        case round =>
          obtain ⟨k, rfl, hk1, hk, hBi⟩ := hrel
          by_cases hlt : k < P.length
          · obtain ⟨x, hx⟩ : ∃ x, P[k - 1]? = some x := ⟨_, List.getElem?_eq_getElem (by omega)⟩
            obtain ⟨y, hy⟩ : ∃ y, P[k]? = some y := ⟨_, List.getElem?_eq_getElem hlt⟩
            have hlt2 : x.path < y.path := by
              have h := List.pairwise_iff_getElem.1 Hri.out (k - 1) k (by omega) hlt (by omega)
              obtain ⟨h1, rfl⟩ := List.getElem?_eq_some_iff.1 hx
              obtain ⟨h2, rfl⟩ := List.getElem?_eq_some_iff.1 hy
              exact h
            obtain ⟨b, off, rfl, hbl, hl0, -⟩ := Hat10.out (k - 1) x hx
            obtain ⟨b', off', e', -, hl1, -⟩ := Hat10.out k y hy
            cases e'
            have c0 : wr.cell? ⟨b, off + (k - 1) * 2, none⟩ = some (.string (bs x.path)) := (hBi.out.cell (p := ⟨b, off + (k - 1) * 2, none⟩) hbl).trans hl0
            have c1 : wr.cell? ⟨b, off + k * 2, none⟩ = some (.string (bs y.path)) := (hBi.out.cell (p := ⟨b, off + k * 2, none⟩) hbl).trans hl1
            have p0 : IntKind.i64.wrap ((k : Int) - 1) = ((k - 1 : Nat) : Int) := by rw [Go.IntWalk.i64_left, Go.IntWalk.wrap64_in _ (by omega)]; omega
            have p1 : (0 : Int) ≤ ((k - 1 : Nat) : Int) := by omega
            have p2 : ((k - 1 : Nat) : Int) < (P.length : Int) := by omega
            have q1 : Op.bytesLess (bs x.path).toList (bs y.path).toList = true := by rw [Lib.toList_data, Lib.toList_data]; exact less_yes hlt2
            have q3 : Op.bytesLess x.path y.path = true := less_yes hlt2
            clear hl0 hl1 hx hy hlt2
            go_wp2_with fail
            go_quiet (fail)
            go_wp2_with fail
            exact ⟨⟨k + 1, by go_num, by omega, by omega, Lib.hid (below_draws hBi.out _)⟩, by simp [intOf]; omega⟩
          · go_wp2_with fail
            go_ret
            exact ⟨rfl, B12.out.trans (hBi.out.mono B12.out.size)⟩
end Go.Proofs.Ytbfehhblnakcbaa
