/-
  For the laws of token: what must stand between two tokens, by the document. Condition: at most 1,000 bytes each.
-/
import Derived.Test.YtamhlobjolnlhaaDoorKinds
namespace Go.Proofs.YtamhlobjolnlhaaDoor
open Go.RowKit Go.Shelf

theorem tl_join (a b : ByteArray) : tl (a ++ b) = tl a ++ tl b := by simp [tl]
theorem gap_none {a b : List UInt8} (h : kindOf a = 0 ∨ kindOf b = 0) : gapOf a b = false := by
  unfold gapOf gapIn; rw [if_pos h]
set_option maxRecDepth 100000 in
set_option maxHeartbeats 8000000 in
theorem RefGap_any (a b : ByteArray) (w : World) (ha : a.size ≤ 1000) (hb : b.size ≤ 1000) : Calls Tryd.prog 25 #[.string a, .string b] w fun e w' => e = .returned (.bool (gapOf (tl a) (tl b))) ∧ Below w.heap.size w w' := by
  obtain ⟨r, hr⟩ : ∃ r, Hid (gapOf (tl a) (tl b) = r) := ⟨_, Lib.hid rfl⟩
  rw [hr.out]
  obtain ⟨x, hx⟩ : ∃ x, Hid (kindOf (tl a) = x) := ⟨_, Lib.hid rfl⟩
  obtain ⟨y, hy⟩ : ∃ y, Hid (kindOf (tl b) = y) := ⟨_, Lib.hid rfl⟩
  have hz : (a ++ b).size = a.size + b.size := ByteArray.size_append ..
  go_enter Tryd.func25, Tryd.ntmps25
  go_wp2_with fail
  refine (RefKind_any a _ (by omega)).mono ?_
  rw [hx.out]
  rintro e w1 ⟨rfl, b1⟩
  by_cases x0 : x = 0
  · subst x0
    obtain rfl : r = false := by rw [← hr.out]; exact gap_none (.inl hx.out)
    clear hr hx hy
    go_wp2_with fail
    go_ret
    exact ⟨rfl, b1⟩
  have dx : (x == 0) = false := by simpa using x0
  go_wp2_with fail
  refine (RefKind_any b _ (by omega)).mono ?_
  rw [hy.out]
  rintro e w2 ⟨rfl, b2⟩
  have B2 := b1.trans (b2.mono b1.size)
  clear b1 b2
  by_cases y0 : y = 0
  · subst y0
    obtain rfl : r = false := by rw [← hr.out]; exact gap_none (.inr hy.out)
    clear hr hx hy x0
    go_wp2_with fail
    go_ret
    exact ⟨rfl, B2⟩
  have dy : (y == 0) = false := by simpa using y0
  have hg := gap3_eq (a := tl a) (b := tl b) (by rw [hx.out]; exact x0) (by rw [hy.out]; exact y0)
  rw [hr.out] at hg
  obtain ⟨q, hq⟩ : ∃ q, Hid (lexR 0 (tl a ++ tl b) = q) := ⟨_, Lib.hid rfl⟩
  rw [hq.out] at hg
  obtain ⟨T, z, e0⟩ := q
  simp only at hg
  have Hg := Lib.hid hg
  clear hg x0 y0 hr
  go_wp2_with fail
  refine (RefLex_any (a ++ b) _ (by omega)).mono ?_
  unfold LexGives
  rw [tl_join, hq.out]
  simp only
  rintro e w3 ⟨⟨v3, rfl, a3, cap, rfl, hc, hm, hat⟩, b3⟩
  have B3 := B2.trans (b3.mono B2.size)
  clear b3 B2 hq
  by_cases h0 : e0 = 0
  · subst h0
    by_cases h3 : T.length = 3
    · match T, h3 with
      | [t, u, v], _ =>
        obtain ⟨bk, off, rfl, hbl, c0, c1, c2, c3⟩ := hat 0 t rfl
        obtain ⟨bk', off', e', -, d0, d1, d2, d3⟩ := hat 1 u rfl
        cases e'
        simp only [Nat.zero_mul, Nat.add_zero, Nat.one_mul] at c0 c1 c2 c3 d0 d1 d2 d3
        have hg : (!(decide (t.text = tl a) && decide (u.text = tl b) && decide (u.lead = []))) = r := by rw [← Hg.out]; simp [gap3]
        have f1 := bs_beq a t.text
        have f2 := bs_beq b u.text
        have f3 := bs_beq ⟨#[]⟩ u.lead
        clear hat Hg
        simp only [List.length_cons, List.length_nil, Nat.reduceAdd] at *
        by_cases h1 : t.text = tl a
        · rw [decide_eq_true h1] at f1 hg
          clear h1
          by_cases h2 : u.text = tl b
          · rw [decide_eq_true h2] at f2 hg
            clear h2
            by_cases h3 : u.lead = []
            · obtain rfl : r = false := by rw [← hg, h3]; rfl
              rw [h3, show bs [] = (⟨#[]⟩ : ByteArray) from rfl] at d3
              clear hg f3 h3
              go_wp2_with fail
              go_ret
              exact ⟨rfl, B3⟩
            · have f4 : u.lead.isEmpty = false := by simpa using h3
              obtain rfl : r = true := by rw [← hg, decide_eq_false h3]; rfl
              clear hg h3 f3
              go_wp2_with fail
              go_ret
              exact ⟨rfl, B3⟩
          · rw [decide_eq_false h2] at f2 hg
            obtain rfl : r = true := by rw [← hg]; rfl
            clear hg h2 f3
            go_wp2_with fail
            go_ret
            exact ⟨rfl, B3⟩
        · rw [decide_eq_false h1] at f1 hg
          obtain rfl : r = true := by rw [← hg]; rfl
          clear hg h1 f2 f3
          go_wp2_with fail
          go_ret
          exact ⟨rfl, B3⟩
    · have d1 : ((T.length : Int) != 3) = true := by rw [bne_iff_ne]; omega
      obtain rfl : r = true := by
        rw [← Hg.out]
        unfold gap3
        rw [if_pos rfl]
        split
        · simp at h3
        · rfl
      clear hat h3 Hg
      go_wp2_with fail
      go_ret
      exact ⟨rfl, B3⟩
  · have d0 : (e0 != 0) = true := by simpa using h0
    obtain rfl : r = true := by
      rw [← Hg.out]
      unfold gap3
      rw [if_neg h0]
    clear hat Hg
    go_wp2_with fail
    go_ret
    exact ⟨rfl, B3⟩
end Go.Proofs.YtamhlobjolnlhaaDoor
