/-
  For the law TokenPlaces. Condition: the library's own variables and the table are as they are laid.
-/
import Derived.Test.YtamhlobjolnlhaaDoorWake4
import Derived.Test.YtamhlobjolnlhaaDoorChain
namespace Go.Proofs.YtamhlobjolnlhaaDoor
open Go.RowKit Go.Shelf

theorem okT.bounds : ∀ {s : List UInt8} {n : Nat} {T : List Tk}, okT s n T → ∀ t ∈ T, 0 ≤ t.at_ ∧ t.at_ ≤ s.length ∧ t.text.length ≤ s.length
  | s, n, [], _ => by simp
  | s, n, t :: r, h => by
    obtain ⟨h1, h2, h3, -, -, -, h7⟩ := h
    intro u hu
    rcases List.mem_cons.1 hu with rfl | hu
    · exact ⟨by omega, by omega, by omega⟩
    · exact okT.bounds h7 u hu
theorem okT.byte : ∀ {s : List UInt8} {n : Nat} {T : List Tk}, okT s n T → ∀ t ∈ T, ∃ m : Nat, t.at_ = m ∧ (s.drop m).take t.text.length = t.text
  | s, n, [], _ => by simp
  | s, n, t :: r, h => by
    obtain ⟨h1, h2, h3, h4, -, -, h7⟩ := h
    intro u hu
    rcases List.mem_cons.1 hu with rfl | hu
    · exact ⟨_, h1, h4⟩
    · exact okT.byte h7 u hu
set_option maxRecDepth 100000 in
set_option maxHeartbeats 8000000 in
theorem tokenPlaces_any (s : ByteArray) (p : Int) (w : World) (hW : TokW w) : Calls Tryd.prog 10 #[.string s, .int .i64 p] w fun e w' => e = .returned (.bool true) ∧ Below w.heap.size w w' := by
  have HW := Lib.hid hW; clear hW
  have hW4 := HW.out.lex.size
  go_enter Tryd.func10, Tryd.ntmps10
  go_wp2_with fail
  refine (wake4_any _ HW.out).mono ?_
  rintro e w1 ⟨rfl, b1⟩
  have HW1 := Lib.hid (HW.out.below b1 hW4)
  by_cases hs : 1000 < s.size
  · have hd : decide ((1000 : Int) < (s.size : Int)) = true := by simp; omega
    go_wp2_with fail
    go_ret
    exact ⟨rfl, b1⟩
  have hd : decide ((1000 : Int) < (s.size : Int)) = false := by simp; omega
  by_cases hp0 : p < 0
  · have hd2 : decide (p < 0) = true := by simpa using hp0
    go_wp2_with fail
    go_ret
    exact ⟨rfl, b1⟩
  have hd2 : decide (p < 0) = false := by simpa using hp0
  obtain ⟨n, rfl⟩ : ∃ n : Nat, p = n := ⟨p.toNat, by omega⟩
  by_cases hp1 : s.size ≤ n
  · have hd3 : decide (s.size ≤ n) = true := by simpa using hp1
    have hd4 : decide ((s.size : Int) ≤ (n : Int)) = true := by simp; omega
    go_wp2_with fail
    go_ret
    exact ⟨rfl, b1⟩
  have hd3 : decide (s.size ≤ n) = false := by simpa using hp1
  have hd4 : decide ((s.size : Int) ≤ (n : Int)) = false := by simp; omega
  go_wp2_with fail
  refine (RefLex_any _ _ (by omega)).mono ?_
  unfold LexGives
  obtain ⟨q, hq⟩ : ∃ q, Hid (lexR 0 (tl s) = q) := ⟨_, Lib.hid rfl⟩
  rw [hq.out]
  obtain ⟨T, z, x⟩ := q
  simp only
  rintro e w2 ⟨⟨v2, rfl, t2⟩, b2⟩
  have B2 := b1.trans (b2.mono b1.size)
  have T2 := Lib.hid t2
  clear b1 b2 t2
  by_cases h0 : x = 0
  · subst h0
    have hg := lexR_good _ (tl s) 0 (Nat.le_refl _) (by rw [hq.out]) (tl s) rfl (Nat.zero_le _)
    rw [hq.out] at hg
    have Hok := Lib.hid hg.1
    have hfew := Hok.out.few
    rw [tl_length] at hfew
    clear hg hp0 hd2
    go_wp2_with fail
    refine (At_any _ T n _ T2.out (by omega) (by omega) (fun t ht => by have := Hok.out.bounds t ht; rw [tl_length] at this; omega)).mono ?_
    rintro e w3 ⟨⟨r, rfl, hr⟩, b3⟩
    have B3 := B2.trans (b3.mono B2.size)
    have T3 := Lib.hid (T2.out.below b3)
    have hbs := B3.size
    clear b3
    obtain ⟨a, cap, rfl, hc, hm, hat⟩ := T3.out
    have Hat := Lib.hid hat
    unfold maxLen at hm
    clear hat T3
    rcases hr with ⟨rfl, hno⟩ | ⟨k, t, rfl, hk, hhas⟩
    · have Hno := Lib.hid hno
      clear hno
      have hd5 : decide ((T.length : Int) ≤ -1) = false := by simp; omega
      go_wp2_with fail
      go_loopw [10] (fun d wr => ∃ k m q : Nat, Hid (wr = w3.drewN q) ∧ d = .int .i64 k ∧ k ≤ T.length ∧ m ≤ n ∧ Hid (okT (tl s) m (T.drop k))) (fun d _ => T.length - (intOf d).toNat)
      case atStart => exact ⟨0, 0, 0, Lib.hid rfl, rfl, by omega, by omega, by rw [List.drop_zero]; exact Hok⟩
      case round =>
        obtain ⟨k, m, q, hqw, rfl, hk, hmn, hch⟩ := hrel
        by_cases hlt : k < T.length
        · obtain ⟨t, ht⟩ : ∃ t, T[k]? = some t := ⟨_, List.getElem?_eq_getElem hlt⟩
          obtain ⟨b, off, rfl, hbl, hli⟩ := Hat.out k t ht
          obtain ⟨c0, c1, c2, c3⟩ : t.lies wr b (off + k * 4) := by rw [hqw.out]; exact hli
          clear hli
          have hx := hch.out
          rw [drop_cons ht] at hx
          obtain ⟨e1, e2, e3, e4, e5, e6, e7⟩ := hx
          rw [tl_length] at e3
          have hnh := Hno.out t (List.mem_of_getElem? ht)
          unfold Tk.has at hnh
          have E7 := Lib.hid e7
          clear e2 e4 e5 e6 e7 hch ht
          have z3 : (bs t.lead).size = t.lead.length := bs_size _
          rw [e1] at c2 hnh
          have i1 : IntKind.i64.wrap (((m + t.lead.length : Nat) : Int) - (t.lead.length : Int)) = m := by rw [Go.IntWalk.i64_in _ (by omega)]; omega
          have i1' : IntKind.i64.wrap ((m : Int) + (t.lead.length : Int) - (t.lead.length : Int)) = m := by rw [Go.IntWalk.i64_in _ (by omega)]; omega
          have g1 : decide ((m : Int) ≤ (n : Int)) = true := by simp; omega
          have g1' : decide (m ≤ n) = true := by simp; omega
          by_cases hin : n < m + t.lead.length
          · have g2 : decide ((n : Int) < ((m + t.lead.length : Nat) : Int)) = true := by simp; omega
            have g2' : decide (n < m + t.lead.length) = true := by simp; omega
            have g2'' : decide ((n : Int) < (m : Int) + (t.lead.length : Int)) = true := by simp; omega
            clear hnh e1
            go_wp2_with fail
            go_quiet (fail)
            go_wp2_with fail
            go_ret
            exact ⟨rfl, by rw [hqw.out]; exact below_draws (below_draws B3 q) _⟩
          · have g2 : decide ((n : Int) < ((m + t.lead.length : Nat) : Int)) = false := by simp; omega
            have g2' : decide (n < m + t.lead.length) = false := by simp; omega
            have g2'' : decide ((n : Int) < (m : Int) + (t.lead.length : Int)) = false := by simp; omega
            have hnx : m + t.lead.length + t.text.length ≤ n := by omega
            clear hnh e1
            go_wp2_with fail
            go_quiet (fail)
            go_wp2_with fail
            exact ⟨⟨k + 1, m + t.lead.length + t.text.length, q + nq, Lib.hid (by rw [hqw.out, World.drewN_drewN]), by go_num, by omega, by omega, E7⟩, by simp [intOf]; omega⟩
        · obtain rfl : k = T.length := by omega
          have hend : m = s.size := by
            have := hch.out
            rw [List.drop_length] at this
            have h : m = (tl s).length := this
            rw [h, tl_length]
          omega
    · have hkl := (List.getElem?_eq_some_iff.1 hk).1
      obtain ⟨b, off, rfl, hbl, c0, c1, c2, c3⟩ := Hat.out k t hk
      obtain ⟨m, hm1, hm2⟩ := Hok.out.byte t (List.mem_of_getElem? hk)
      unfold Tk.has at hhas
      rw [hm1] at hhas c2
      have z1 : (bs t.text).size = t.text.length := bs_size _
      have hbd := Hok.out.bounds t (List.mem_of_getElem? hk)
      rw [tl_length] at hbd
      have hd5 : decide ((T.length : Int) ≤ (k : Int)) = false := by simp; omega
      have hd5' : decide (T.length ≤ k) = false := by simp; omega
      have hd6 : decide ((0 : Int) ≤ (k : Int)) = true := by simp
      have hd7 : decide ((m : Int) ≤ (n : Int)) = true := by simp; omega
      have hd7' : decide (m ≤ n) = true := by simp; omega
      have i1 : IntKind.i64.wrap ((m : Int) + (t.text.length : Int)) = (m : Int) + (t.text.length : Int) := Go.IntWalk.i64_in _ (by omega)
      have hd8 : decide ((n : Int) < (m : Int) + (t.text.length : Int)) = true := by simp; omega
      have hd8' : decide (n < m + t.text.length) = true := by simp; omega
      have i2 : IntKind.i64.wrap ((n : Int) - (m : Int)) = ((n - m : Nat) : Int) := by rw [Go.IntWalk.i64_in _ (by omega)]; omega
      have hlt2 : n - m < (bs t.text).size := by omega
      have hlt3 : n < s.size := by omega
      have hbyte : (bs t.text)[n - m] = s[n] := by
        have e1 : (tl (bs t.text))[n - m]? = some (bs t.text)[n - m] := tl_get _ hlt2
        have e2 : (tl s)[n]? = some s[n] := tl_get _ hlt3
        generalize (bs t.text)[n - m] = c at e1 ⊢
        rw [tl_bs, ← hm2, List.getElem?_take, if_pos (by omega), List.getElem?_drop, show m + (n - m) = n from by omega, e2] at e1
        exact (Option.some.inj e1).symm
      clear hm1 hm2 hk
      go_wp2_with fail
      go_quiet (fail)
      go_wp2_with fail
      go_ret
      exact ⟨rfl, below_draws B3 _⟩
  · have hd5 : (x != 0) = true := by simpa using h0
    go_wp2_with fail
    go_ret
    exact ⟨rfl, B2⟩
end Go.Proofs.YtamhlobjolnlhaaDoor
