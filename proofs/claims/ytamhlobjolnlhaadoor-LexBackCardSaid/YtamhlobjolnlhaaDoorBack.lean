/-
  For the law LexBack. Condition: the library's own variables are as they are laid.
-/
import Derived.Test.YtamhlobjolnlhaaDoorAwake
import Derived.Test.YtamhlobjolnlhaaDoorChain
namespace Go.Proofs.YtamhlobjolnlhaaDoor
open Go.RowKit Go.Shelf

set_option maxRecDepth 100000 in
set_option maxHeartbeats 8000000 in
theorem lexBack_any (s : ByteArray) (w : World) (hW : LexW w) : Calls Tryd.prog 5 #[.string s] w fun e w' => e = .returned (.bool true) ∧ Below w.heap.size w w' := by
  have HW := Lib.hid hW; clear hW
  have hW4 := HW.out.size
  go_enter Tryd.func5, Tryd.ntmps5
  go_wp2_with fail
  refine (awake_any _ HW.out).mono ?_
  rintro e w1 ⟨rfl, b1⟩
  have HW1 := Lib.hid (HW.out.below b1 hW4)
  by_cases hs : 3000 < s.size
  · have hd : decide ((3000 : Int) < (s.size : Int)) = true := by simp; omega
    go_wp2_with fail
    go_ret
    exact ⟨rfl, b1⟩
  have hd : decide ((3000 : Int) < (s.size : Int)) = false := by simp; omega
  go_wp2_with fail
  refine (Lex_any _ _ HW1.out (by omega)).mono ?_
  unfold LexGives
  obtain ⟨T, hT⟩ : ∃ T, Hid ((lexR 0 (tl s)).1 = T) := ⟨_, Lib.hid rfl⟩
  obtain ⟨p, hp⟩ : ∃ p, Hid ((lexR 0 (tl s)).2.1 = p) := ⟨_, Lib.hid rfl⟩
  obtain ⟨x, hx⟩ : ∃ x, Hid ((lexR 0 (tl s)).2.2 = x) := ⟨_, Lib.hid rfl⟩
  have hpl := lexR_at _ (tl s) 0 (Nat.le_refl _)
  rw [hp.out, Nat.zero_add, tl_length] at hpl
  rw [hT.out, hp.out, hx.out]
  rintro e w2 ⟨⟨v, rfl, ht⟩, b2⟩
  have B2 := b1.trans (b2.mono b1.size)
  have Ht := Lib.hid ht
  obtain ⟨a, cap, rfl, hc, hm, hat⟩ := ht
  have Hat := Lib.hid hat
  unfold maxLen at hm
  clear b2 hat
  by_cases h0 : x = 0
  · subst h0
    have hg := lexR_good _ (tl s) 0 (Nat.le_refl _) hx.out (tl s) rfl (Nat.zero_le _)
    rw [hT.out] at hg
    obtain ⟨hok, hne⟩ := hg
    have hp0 : p = 0 := by rw [← hp.out]; exact lexR_zero _ _ hx.out
    subst hp0
    have hall := hok.all
    have hfew := hok.few
    rw [List.drop_zero] at hall
    rw [tl_length] at hfew
    have Hok := Lib.hid hok
    have Hall := Lib.hid hall
    clear hok hall hne
    go_wp2_with fail
    go_loopw [7, 8] (fun c d wr => ∃ k n q : Nat, Hid (wr = w2.drewN q) ∧ c = .int .i64 n ∧ d = .int .i64 k ∧ k ≤ T.length ∧ n ≤ s.size ∧ Hid (okT (tl s) n (T.drop k))) (fun _ d _ => T.length - (intOf d).toNat)
    case atStart => exact ⟨0, 0, 0, Lib.hid rfl, rfl, rfl, by omega, by omega, by rw [List.drop_zero]; exact Hok⟩
    case round =>
      obtain ⟨k, n, q, hq, rfl, rfl, hk, hn, hch⟩ := hrel
      by_cases hlt : k < T.length
      · obtain ⟨t, ht⟩ : ∃ t, T[k]? = some t := ⟨_, List.getElem?_eq_getElem hlt⟩
        obtain ⟨b, off, rfl, hbl, hli⟩ := Hat.out k t ht
        obtain ⟨c0, c1, c2, c3⟩ : t.lies wr b (off + k * 4) := by rw [hq.out]; exact hli
        clear hli
        have hx := hch.out
        rw [drop_cons ht] at hx
        obtain ⟨e1, e2, e3, e4, e5, e6, e7⟩ := hx
        rw [drop_nil_iff hlt] at e5 e6
        obtain ⟨L, hL⟩ : ∃ L, Hid (bs t.lead = L) := ⟨_, Lib.hid rfl⟩
        obtain ⟨X, hX⟩ : ∃ X, Hid (bs t.text = X) := ⟨_, Lib.hid rfl⟩
        have sL : t.lead.length = L.size := by rw [← hL.out, bs_size]
        have sX : t.text.length = X.size := by rw [← hX.out, bs_size]
        rw [sL] at e1 e3 e4 e7
        rw [sX] at e3 e4 e7
        rw [tl_length] at e3
        have hcut : s.extract (n + L.size) (n + L.size + X.size) = X := by
          rw [ext_bs, show n + L.size + X.size - (n + L.size) = X.size from by omega, e4, hX.out]
        have f1 : (t.at_ != (n : Int) + (L.size : Int)) = false := by rw [e1]; simp
        have f2 : decide ((s.size : Int) < (n : Int) + (L.size : Int) + (X.size : Int)) = false := by simp; omega
        have E7 := Lib.hid e7
        have i1 : (n : Int) + (L.size : Int) + (X.size : Int) ≤ (s.size : Int) := by omega
        have i2 : IntKind.i64.wrap ((n : Int) + (L.size : Int) + (X.size : Int)) = (n : Int) + (L.size : Int) + (X.size : Int) := Go.IntWalk.i64_in _ (by omega)
        have i7 : IntKind.i64.wrap ((T.length : Int) - 1) = (T.length : Int) - 1 := Go.IntWalk.i64_in _ (by omega)
        have i3 : (0 : Int) ≤ (n : Int) + (L.size : Int) := by omega
        have i4 : (n : Int) + (L.size : Int) ≤ (n : Int) + (L.size : Int) + (X.size : Int) := by omega
        have i5 : ((n : Int) + (L.size : Int)).toNat = n + L.size := by omega
        have i6 : ((n : Int) + (L.size : Int) + (X.size : Int)).toNat = n + L.size + X.size := by omega
        rw [hL.out] at c3
        rw [hX.out] at c1
        clear e1 e2 e4 e7
        obtain ⟨g, hg⟩ : ∃ g, Hid (decide (k = T.length - 1) = g) := ⟨_, Lib.hid rfl⟩
        have f3 : ((k : Int) == (T.length : Int) - 1) = g := by rw [← hg.out, Bool.eq_iff_iff]; simp; omega
        have f4 : (t.kind == 5) = g := by rw [← hg.out, Bool.eq_iff_iff]; simpa using e5
        have f5 : (X.toList == []) = g := by rw [← hg.out, Bool.eq_iff_iff, ← hX.out, Lib.toList_data]; simpa [bs] using e6
        clear e5 e6
        go_wp2_with fail
        go_quiet (fail)
        go_wp2_with fail
        exact ⟨⟨k + 1, n + L.size + X.size, q + nq, Lib.hid (by rw [hq.out, World.drewN_drewN]), by go_num, by go_num, by omega, by omega, E7⟩, by simp [intOf]; omega⟩
      · obtain rfl : k = T.length := by omega
        have hend : n = s.size := by
          have := hch.out
          rw [List.drop_length] at this
          have h : n = (tl s).length := this
          rw [h, tl_length]
        subst hend
        go_wp2_with fail
        refine (Unlex_any _ _ _ (Ht.out.below (by rw [hq.out]; exact below_draws (Below.refl _ _) _)) (by rw [← Hall.out, tl_length]; omega) (by omega)).mono ?_
        rw [← Hall.out, bs_tl]
        rintro e w3 ⟨rfl, b3⟩
        have b4 : Below w2.heap.size w2 w3 := by rw [hq.out] at b3; exact (below_draws (Below.refl _ _) q).trans b3
        have B3 := B2.trans (b4.mono B2.size)
        go_wp2_with fail
        go_ret
        exact ⟨rfl, B3⟩
  · have hnil : T = [] := by rw [← hT.out]; exact lexR_err _ _ (by rw [hx.out]; exact h0)
    subst hnil
    have hd2 : (x != 0) = true := by simpa using h0
    have hd3 : decide ((p : Int) ≤ (s.size : Int)) = true := by simp; omega
    have hd4 : decide ((0 : Int) ≤ (p : Int)) = true := by simp
    clear Hat Ht
    simp only [List.length_nil] at *
    go_wp2_with fail
    go_ret
    exact ⟨rfl, B2⟩
end Go.Proofs.YtamhlobjolnlhaaDoor
