/-
  For the laws of archive: the reference's Whole and Read. Condition: at most 50,000 bytes.
-/
import Derived.OwnWalk
import Derived.Test.YtpnfjiglphogoadDoorOne
namespace Go.Proofs.YtpnfjiglphogoadDoor
open Go.RowKit Go.Shelf
set_option linter.unusedSimpArgs false
set_option linter.unusedVariables false

theorem OneIs.yes {s r : By} {f : Fl} {e : Ending} (h : OneIs s e) (hn : nextL s = some (f, r)) : e = .returned (.tuple #[.agg #[.string (bs f.path), .string (bs f.text)], .int .i64 (oneL f).length, .bool true]) := by
  unfold OneIs at h; rw [hn] at h; exact h
theorem OneIs.no {s : By} {e : Ending} (h : OneIs s e) (hn : nextL s = none) : e = .returned (.tuple #[.agg #[.string ⟨#[]⟩, .string ⟨#[]⟩], .int .i64 0, .bool false]) := by
  unfold OneIs at h; rw [hn] at h; exact h
theorem rest_of {r r2 : By} {f : Fl} (e : r = oneL f ++ r2) : (bs r).extract (oneL f).length r.length = bs r2 := by
  rw [ext_bs, tl_bs, e, List.drop_left, List.take_of_length_le (by rw [List.length_append]; omega)]
set_option maxRecDepth 100000 in
set_option maxHeartbeats 16000000 in
theorem RefWhole9_any (s : By) (hs : s.length ≤ 50000) (w : World) : Calls Tryd.prog 9 #[.string (bs s)] w fun e w' => WholeIs s e w' ∧ Below w.heap.size w w' := by
  obtain ⟨i0, hi0, hz0, hz1, hz2⟩ := info_parts infoFl
  go_enter Tryd.func9, Tryd.ntmps9
  go_wp2_with fail
  go_loopw [0, 4] (fun x u wr => ∃ (L : List Fl) (r : By), x = .string (bs r) ∧ Hid (okL L ∧ s = showL L ++ r) ∧ Hid (wr.ownsRow w.heap.size 34 2 u L.length (fv L)) ∧ Hid (Below w.heap.size w wr)) (fun _ u _ => s.length + 1 - lenOf u)
  case atStart => exact ⟨[], s, rfl, Lib.hid ⟨(fun f hf => by cases hf), rfl⟩, Lib.hid (World.ownsRow_nil _ _ _ _), Lib.hid (Below.refl _ _)⟩
  case round =>
    obtain ⟨L, r, rfl, hL, hO, hB⟩ := hrel
    have hsz := hB.out.size
    have hsl := congrArg List.length hL.out.2
    rw [List.length_append] at hsl
    have hll := showL_len L
    have hlen : L.length ≤ 100000 := by omega
    have hrl : r.length ≤ 50000 := by omega
    have hlu := Lib.hid (own_len hO.out)
    by_cases hr : r = []
    · have hr0 : r.length = 0 := by rw [hr]; rfl
      have hfin : Hid (s = showL L) := Lib.hid (by rw [hL.out.2, hr, List.append_nil])
      clear hr hsl
      go_wp2_with fail
      go_ret2
      exact ⟨.inl ⟨L, _, hL.out.1, hfin.out, rfl, own_fls hO.out⟩, hB.out⟩
    · have Hr := Lib.hid hr
      have hrp : 1 ≤ r.length := by
        cases r with
        | nil => exact absurd rfl hr
        | cons a b => simp
      clear hr
      have hltm : L.length < s.length + 1 := by omega
      have Hsl := Lib.hid hsl
      clear hsl
      go_wp2_with fail
      refine (one_any r hrl wr).mono ?_
      rintro e w2 ⟨hn, nb⟩
      have B2 := Lib.hid (hB.out.trans (nb.mono hsz))
      have hs2 := B2.out.size
      have O2 := Lib.hid (own_below hO.out nb)
      cases hnx : nextL r with
      | none =>
        obtain rfl := hn.no hnx
        have hfin : Hid (∀ L', okL L' → s ≠ showL L') := Lib.hid fun L' h' => by
          rw [hL.out.2]
          exact no_rest (by rw [← hL.out.2]; omega) hL.out.1 h' Hr.out hnx
        clear nb hn hnx
        go_wp2_with fail
        go_ret2
        exact ⟨.inr ⟨hfin.out, rfl⟩, B2.out.alloc hs2 _⟩
      | some fr =>
        obtain ⟨f, r2⟩ := fr
        obtain rfl := hn.yes hnx
        have hof := of_next hnx
        have hnL : Hid (okL (L ++ [f]) ∧ s = showL (L ++ [f]) ++ r2) := Lib.hid ⟨fun x hx => by
          rcases List.mem_append.1 hx with hx | hx
          · exact hL.out.1 x hx
          · obtain rfl : x = f := by simpa using hx
            exact hof.1, by
          rw [hL.out.2, hof.2, showL_app, show showL [f] = oneL f by simp [showL], List.append_assoc]⟩
        have hrest := Lib.hid (rest_of hof.2)
        have hol : (oneL f).length ≤ r.length := by rw [hof.2, List.length_append]; omega
        obtain ⟨nn, hnn⟩ : ∃ nn, Hid ((oneL f).length = nn) := ⟨_, Lib.hid rfl⟩
        rw [hnn.out] at hrest hol
        rw [hnn.out]
        clear nb hn hnx hof
        go_wp2_with (at_builtin; refine wpList_append_own _ rfl _ _ 22 rfl w.heap.size 34 i0 _ 2 32 Tryd.underlying22 hi0 hz0 hz1 hz2 rfl (by decide) _ L.length _ rfl ((O2.out.alloc _).alloc _) ⟨w2.heap.size + 1, 0, none⟩ 1 1 (rowF f) rfl rfl (fl_new2 w2 _ f _) (fl_one _) (by unfold maxLen; omega) (by omega) (by simp; omega) ?_; intro v' w4 hown' hgrow _)
        have B4 := Lib.hid (((B2.out.alloc (by omega) (.cells #[.string (bs f.path), .string (bs f.text)] 34)).alloc (by simp; omega) (.cells #[.string (bs f.path), .string (bs f.text)] 34)).grown hgrow (by simp; omega) (fun k hk => by have := (O2.out.lt k hk).1; omega))
        have O4 : Hid (w4.ownsRow w.heap.size 34 2 v' (L ++ [f]).length (fv (L ++ [f]))) := by
          rw [fv_snoc, List.length_append]; exact Lib.hid hown'
        have hl4 := own_len hown'
        go_wp2_with fail
        rw [hrest.out]
        refine ⟨⟨L ++ [f], r2, rfl, hnL, O4, B4⟩, ?_⟩
        show s.length + 1 - lenOf v' < s.length + 1 - lenOf _
        rw [hl4, hlu.out]
        omega
set_option maxRecDepth 100000 in
set_option maxHeartbeats 16000000 in
theorem RefRead_any (s : By) (hs : s.length ≤ 50000) (many : Int) (w : World) : Calls Tryd.prog 11 #[.string (bs s), .int .i64 many] w fun e w' => ReadIs s many e w' ∧ Below w.heap.size w w' := by
  obtain ⟨i0, hi0, hz0, hz1, hz2⟩ := info_parts infoFl
  by_cases hneg : many < 0
  · have g0 : decide (many < 0) = true := decide_eq_true hneg
    go_enter Tryd.func11, Tryd.ntmps11
    go_wp2_with fail
    go_ret3
    exact ⟨.inr ⟨.inl hneg, rfl⟩, Below.refl _ _⟩
  have g0 : decide (many < 0) = false := decide_eq_false hneg
  go_enter Tryd.func11, Tryd.ntmps11
  go_wp2_with fail
  go_loopw [0, 7, 8] (fun x u c wr => ∃ (L : List Fl) (r : By), x = .string (bs r) ∧ c = .int .i64 L.length ∧ (L.length : Int) ≤ many ∧ Hid (okL L ∧ s = showL L ++ r) ∧ Hid (wr.ownsRow w.heap.size 34 2 u L.length (fv L)) ∧ Hid (Below w.heap.size w wr)) (fun _ u _ _ => s.length + 1 - lenOf u)
  case atStart => exact ⟨[], s, rfl, rfl, by simp; omega, Lib.hid ⟨(fun f hf => by cases hf), rfl⟩, Lib.hid (World.ownsRow_nil _ _ _ _), Lib.hid (Below.refl _ _)⟩
  case round =>
    obtain ⟨L, r, rfl, rfl, hlm, hL, hO, hB⟩ := hrel
    have hsz := hB.out.size
    have hsl := congrArg List.length hL.out.2
    rw [List.length_append] at hsl
    have hll := showL_len L
    have hlen : L.length ≤ 100000 := by omega
    have hrl : r.length ≤ 50000 := by omega
    have hlu := Lib.hid (own_len hO.out)
    by_cases hr : (L.length : Int) < many
    · have g1 : decide ((L.length : Int) < many) = true := decide_eq_true hr
      have hltm : L.length < s.length + 1 := by omega
      have Hsl := Lib.hid hsl
      clear hsl
      go_wp2_with fail
      refine (one_any r hrl wr).mono ?_
      rintro e w2 ⟨hn, nb⟩
      have B2 := Lib.hid (hB.out.trans (nb.mono hsz))
      have hs2 := B2.out.size
      have O2 := Lib.hid (own_below hO.out nb)
      cases hnx : nextL r with
      | none =>
        obtain rfl := hn.no hnx
        have hfin : Hid (many < 0 ∨ ∀ L r, okL L → (L.length : Int) = many → s ≠ showL L ++ r) := Lib.hid (.inr fun L' r' h' hm => by
          rw [hL.out.2]
          exact no_more (by rw [← hL.out.2]; omega) hL.out.1 h' (by omega) hnx)
        clear nb hn hnx
        go_wp2_with fail
        go_ret3
        exact ⟨.inr ⟨hfin.out, rfl⟩, B2.out.alloc hs2 _⟩
      | some fr =>
        obtain ⟨f, r2⟩ := fr
        obtain rfl := hn.yes hnx
        have hof := of_next hnx
        have hnL : Hid (okL (L ++ [f]) ∧ s = showL (L ++ [f]) ++ r2) := Lib.hid ⟨fun x hx => by
          rcases List.mem_append.1 hx with hx | hx
          · exact hL.out.1 x hx
          · obtain rfl : x = f := by simpa using hx
            exact hof.1, by
          rw [hL.out.2, hof.2, showL_app, show showL [f] = oneL f by simp [showL], List.append_assoc]⟩
        have hns : (L ++ [f]).length = L.length + 1 := by simp
        have hnm : (((L ++ [f]).length : Nat) : Int) ≤ many := by rw [hns]; omega
        have hrest := Lib.hid (rest_of hof.2)
        have hol : (oneL f).length ≤ r.length := by rw [hof.2, List.length_append]; omega
        obtain ⟨nn, hnn⟩ : ∃ nn, Hid ((oneL f).length = nn) := ⟨_, Lib.hid rfl⟩
        rw [hnn.out] at hrest hol
        rw [hnn.out]
        clear nb hn hnx hof
        go_wp2_with (at_builtin; refine wpList_append_own _ rfl _ _ 22 rfl w.heap.size 34 i0 _ 2 32 Tryd.underlying22 hi0 hz0 hz1 hz2 rfl (by decide) _ L.length _ rfl ((O2.out.alloc _).alloc _) ⟨w2.heap.size + 1, 0, none⟩ 1 1 (rowF f) rfl rfl (fl_new2 w2 _ f _) (fl_one _) (by unfold maxLen; omega) (by omega) (by simp; omega) ?_; intro v' w4 hown' hgrow _)
        have B4 := Lib.hid (((B2.out.alloc (by omega) (.cells #[.string (bs f.path), .string (bs f.text)] 34)).alloc (by simp; omega) (.cells #[.string (bs f.path), .string (bs f.text)] 34)).grown hgrow (by simp; omega) (fun k hk => by have := (O2.out.lt k hk).1; omega))
        have O4 : Hid (w4.ownsRow w.heap.size 34 2 v' (L ++ [f]).length (fv (L ++ [f]))) := by
          rw [fv_snoc, List.length_append]; exact Lib.hid hown'
        have hl4 := own_len hown'
        go_wp2_with fail
        rw [hrest.out]
        refine ⟨⟨L ++ [f], r2, rfl, by rw [hns]; go_num, hnm, hnL, O4, B4⟩, ?_⟩
        show s.length + 1 - lenOf v' < s.length + 1 - lenOf _
        rw [hl4, hlu.out]
        omega
    · have g1 : decide ((L.length : Int) < many) = false := decide_eq_false hr
      have hfin : Hid (s = showL L ++ r) := Lib.hid hL.out.2
      clear hsl
      go_wp2_with fail
      go_ret3
      exact ⟨.inl ⟨L, r, _, by omega, by omega, hL.out.1, hfin.out, rfl, own_fls hO.out⟩, hB.out⟩
end Go.Proofs.YtpnfjiglphogoadDoor
