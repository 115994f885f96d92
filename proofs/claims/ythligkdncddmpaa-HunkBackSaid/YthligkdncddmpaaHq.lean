/-
  For the laws of hunk: a row with hunks. Condition: at most 100,000 texts each.
-/
import Derived.Test.YthligkdncddmpaaHp
import Derived.Test.YthligkdncddmpaaTurned
namespace Go.Proofs.Ythligkdncddmpaa
open Go.RowKit

theorem text_cells : ∀ (xs : List ByteArray) (a b : Nat), ∀ u ∈ ((xs.map Value.string).drop a).take b, u.oneCell' = true := by
  intro xs a b u hu
  obtain ⟨x, _, rfl⟩ := List.mem_map.1 (List.mem_of_mem_drop (List.mem_of_mem_take hu))
  rfl
theorem text_cells' : ∀ (xs : List ByteArray) (a : Nat), ∀ u ∈ (xs.map Value.string).drop a, u.oneCell' = true := by
  intro xs a u hu
  obtain ⟨x, _, rfl⟩ := List.mem_map.1 (List.mem_of_mem_drop hu)
  rfl
theorem RowAt.grown {W W' : World} {b : Nat} {t : TypeId} {vs : Array Value} {row : Option Nat} (h : RowAt W b t vs) (hg : W.grownBy W' row) (hne : some b ≠ row) : RowAt W' b t vs := (hg.block b h.lt hne).trans h
theorem map_cut (xs : List ByteArray) (a b : Nat) : ((xs.map Value.string).drop a).take b = ((xs.drop a).take b).map Value.string := by
  rw [← List.map_drop, ← List.map_take]

theorem far_kind {W : World} {base e size n b t : Nat} {v : Value} {xs : List Value} {vs : Array Value} (h : W.ownsRow base e size v n xs) (hr : RowAt W b t vs) (hne : e ≠ t) : some b ≠ v.ownBlock := by
  intro hb
  rcases h.2 with ⟨rfl, _⟩ | ⟨g, cap, cur, rfl, _, hg, _⟩
  · simp [Value.ownBlock] at hb
  · simp [Value.ownBlock] at hb
    subst hb
    rw [show W.heap[b]? = _ from hr] at hg
    simp at hg
    exact hne hg.2.symm
/-- Behind Patch: what may not be is refused; else the row. -/
def Patches (w : World) (A B : List ByteArray) (H : List Hk) (e : Ending) (w' : World) : Prop :=
  (∃ (v : Value) (c : Int), e = .returned (.tuple #[v, .int .i64 c]) ∧ ((¬ may A.length B.length 0 0 True H ∧ c = 60 ∧ v = .slice none 0 0) ∨ (may A.length B.length 0 0 True H ∧ c = 0 ∧ Vals w' v ((patched A B 0 H).map Value.string)))) ∧ Below w.heap.size w w'

set_option maxRecDepth 100000 in
set_option maxHeartbeats 8000000 in
theorem Patch_any (vA vH vB : Value) (A B : List ByteArray) (H : List Hk) (w : World) (hA : Vals w vA (A.map Value.string)) (hH : Hunks w vH H) (hB : Vals w vB (B.map Value.string)) (hw : ∀ h ∈ H, h.wf) (hlA : A.length ≤ 100000) (hlB : B.length ≤ 100000) :
    Calls Try.prog 31 #[vA, vH, vB] w (Patches w A B H) := by
  obtain ⟨aA, cA, hvA, -⟩ := hA.at
  rw [List.length_map] at hvA
  subst hvA
  obtain ⟨aB, cB, hvB, -⟩ := hB.at
  rw [List.length_map] at hvB
  subst hvB
  have HA := Lib.hid hA; clear hA
  have HB := Lib.hid hB; clear hB
  have HH := Lib.hid hH
  have Hwf := Lib.hid hw; clear hw
  obtain ⟨aH, cH, rfl, hcH, hmH, hat⟩ := hH
  have Hat := Lib.hid hat; clear hat
  unfold maxLen at hmH
  obtain ⟨i9, hi9, hz9, hs9, hb9⟩ := info9
  go_enter Try.func31, Try.ntmps31
  go_wp2_with fail
  refine (Check_any _ H A.length B.length _ HH.out Hwf.out (by unfold maxLen; omega) (by unfold maxLen; omega)).mono ?_
  rintro e w1 ⟨⟨c, rfl, hc, hiff⟩, b1⟩
  have hcase : (c = 60 ∧ ¬ may A.length B.length 0 0 True H) ∨ (c = 0 ∧ may A.length B.length 0 0 True H) := by
    rcases hc with h | h
    · exact .inr ⟨h, hiff.1 h⟩
    · exact .inl ⟨h, fun x => by have := hiff.2 x; omega⟩
  clear hc hiff
  rcases hcase with ⟨rfl, hno⟩ | ⟨rfl, hyes⟩
  · go_wp2_with fail
    go_ret2
    exact ⟨⟨_, _, rfl, .inl ⟨hno, rfl, rfl⟩⟩, b1⟩
  · have Hyes := Lib.hid hyes
    go_wp2_with fail
    go_loopw [9, 10, 24] (fun p d c wr => ∃ (k : Nat) (O : List ByteArray) (x y : Int), k ≤ H.length ∧ c = .int .i64 k ∧ d = .int .i64 x ∧ wr.ownsRow w.heap.size 9 1 p O.length (O.map Value.string) ∧ (0 ≤ x ∧ x ≤ A.length ∧ 0 ≤ y ∧ y ≤ B.length) ∧ O ++ patched A B x (H.drop k) = patched A B 0 H ∧ may A.length B.length x y (k = 0) (H.drop k) ∧ Below w.heap.size w wr) (fun _ _ c _ => H.length - (intOf c).toNat)
    case atStart => exact ⟨0, [], 0, 0, by omega, rfl, rfl, World.ownsRow_nil _ _ _ _, ⟨by omega, by omega, by omega, by omega⟩, by simp, by simpa using Hyes.out, b1⟩
    case round =>
      clear b1
      obtain ⟨k, O, x, y, hk, rfl, rfl, hown, ⟨hx0, hxA, hy0, hyB⟩, hO, hmay, hBel⟩ := hrel
      have htot := patched_length A B H 0 0 True (by omega) (by omega) (by omega) (by omega) Hyes.out
      rw [← hO, List.length_append] at htot
      have hbs := hBel.size
      by_cases hlt : k < H.length
      · obtain ⟨h, hh⟩ : ∃ h, H[k]? = some h := ⟨_, List.getElem?_eq_getElem hlt⟩
        obtain ⟨bH, oH, rfl, hlH, hat⟩ := Hat.out k h hh
        obtain ⟨c0, c1, c2, c3⟩ := hat.below hBel hlH
        obtain ⟨hg, hmay'⟩ := (may_at hh).1 hmay
        rw [patched_at hh] at hO htot
        simp only [List.length_append] at htot
        simp only [Hk.good] at hg
        obtain ⟨g1, g2, g3, g4, g5, g6, g7, g8, g9, g10, g11⟩ := hg
        clear g3 g4 g7
        have HAw := HA.out.below hBel
        have HBw := HB.out.below hBel
        obtain ⟨s1, hs1, hv1⟩ := HAw.cut x h.a hx0 g1 (by simp; omega)
        obtain ⟨s2, hs2, hsv2⟩ := HB.out.cut h.b (h.b + h.bn) (by omega) (by omega) (by simp; omega)
        have hv2 := hsv2.below hBel
        rw [map_cut] at hv1 hv2 hsv2
        obtain ⟨Y1, hY1⟩ : ∃ Y, (A.drop x.toNat).take (h.a.toNat - x.toNat) = Y := ⟨_, rfl⟩
        obtain ⟨Y2, hY2⟩ : ∃ Y, (B.drop h.b.toNat).take ((h.b + h.bn).toNat - h.b.toNat) = Y := ⟨_, rfl⟩
        rw [hY1] at hv1 hO htot
        rw [hY2] at hv2 hsv2 hO htot
        have e5 : wrap64 (h.b + h.bn) = h.b + h.bn := by unfold wrap64; omega
        have e6 : wrap64 (h.a + h.an) = h.a + h.an := by unfold wrap64; omega
        have Hv1 := Lib.hid hv1
        have Hv2 := Lib.hid hv2
        have Hs2v := Lib.hid hsv2
        have HO := Lib.hid hO
        have Hm2 := Lib.hid hmay'
        have Hbel := Lib.hid hBel
        have ho1 : 0 ≤ h.a + h.an ∧ h.a + h.an ≤ A.length ∧ 0 ≤ h.b + h.bn ∧ h.b + h.bn ≤ B.length := by omega
        have Ho1 := Lib.hid ho1
        have t1 : O.length + Y1.length ≤ 1000000 := by omega
        have t2 : O.length + Y1.length + Y2.length ≤ 1000000 := by omega
        clear hv1 hv2 hsv2 hO hmay hmay' hBel hat hY1 hY2 HAw HBw htot ho1 g1 g2 g5 g6 g8 g9 g10 g11 hyes
        obtain ⟨wb, hwb⟩ : ∃ n, Hid (wr.heap.size = n) := ⟨_, Lib.hid rfl⟩
        go_wp2_with (first
          | (at_builtin
             refine wpList_append_vals rfl (.tmp 28) (.tmp 33) 27 9 rfl w.heap.size i9 (.string ⟨#[]⟩) 16 Try.underlying27 hi9 hz9 hs9 hb9 rfl _ s1 O.length (O.map Value.string) (Y1.map Value.string) rfl (hown.alloc _) rfl (Hv1.out.below ((Below.refl _ wr).alloc (Nat.le_refl _) _)) (fun u hu => by obtain ⟨z, _, rfl⟩ := List.mem_map.1 hu; rfl) (by rw [List.length_map]; exact t1) (by decide) (by simp; omega) ?_
             intro p1 w1 hown1 hgrow1
             rw [List.length_map, ← List.map_append] at hown1
             have rb : RowAt w1 wr.heap.size 50 #[.int .i64 h.a, .int .i64 h.an, .int .i64 h.b, .int .i64 h.bn] := (RowAt.new wr 50 _).grown hgrow1 (fun e => by have := (hown.lt _ e.symm).2; omega)
             have HRb := Lib.hid rb
             have f0 : w1.cell? ⟨wr.heap.size, 0, none⟩ = some (.int .i64 h.a) := rb.cell rfl
             have f1 : w1.cell? ⟨wr.heap.size, 1, none⟩ = some (.int .i64 h.an) := rb.cell rfl
             have f2 : w1.cell? ⟨wr.heap.size, 2, none⟩ = some (.int .i64 h.b) := rb.cell rfl
             have f3 : w1.cell? ⟨wr.heap.size, 3, none⟩ = some (.int .i64 h.bn) := rb.cell rfl
             have Hfar : Hid (some wr.heap.size ≠ p1.ownBlock) := Lib.hid (far_kind hown1 rb (by decide))
             have B1 := Lib.hid ((Hbel.out.alloc hbs _).grown hgrow1 (by simp; omega) (fun k hk => (hown.lt k hk).1))
             have V2 : Hid (Vals w1 s2 (Y2.map Value.string)) := Lib.hid (Hs2v.out.below B1.out)
             clear rb hgrow1)
          | (at_builtin
             refine wpList_append_vals rfl (.tmp 35) (.tmp 44) 27 9 rfl w.heap.size i9 (.string ⟨#[]⟩) 16 Try.underlying27 hi9 hz9 hs9 hb9 rfl _ s2 (O.length + Y1.length) ((O ++ Y1).map Value.string) (Y2.map Value.string) rfl hown1 rfl V2.out (fun u hu => by obtain ⟨z, _, rfl⟩ := List.mem_map.1 hu; rfl) (by rw [List.length_map]; exact t2) (by decide) (B1.out.size) ?_
             intro p2 w2 hown2 hgrow2
             rw [List.length_map, ← List.map_append] at hown2
             have rb : RowAt w2 wr.heap.size 50 #[.int .i64 h.a, .int .i64 h.an, .int .i64 h.b, .int .i64 h.bn] := HRb.out.grown hgrow2 (fun e => Hfar.out e)
             have k0 : w2.cell? ⟨wr.heap.size, 0, none⟩ = some (.int .i64 h.a) := rb.cell rfl
             have k1 : w2.cell? ⟨wr.heap.size, 1, none⟩ = some (.int .i64 h.an) := rb.cell rfl
             have B2 := Lib.hid (B1.out.grown hgrow2 B1.out.size (fun k hk => (hown1.lt k hk).1))
             have Hown2 := Lib.hid hown2
             clear rb hgrow2 hown2))
        refine ⟨⟨k + 1, O ++ Y1 ++ Y2, h.a + h.an, h.b + h.bn, by omega, by go_num, by rw [e6], by simpa [Nat.add_assoc] using Hown2.out, Ho1.out, ?_, ?_, B2.out⟩, by simp [intOf]; omega⟩
        · rw [← HO.out]; simp
        · simpa using Hm2.out
      · obtain rfl : k = H.length := by omega
        rw [List.drop_length] at hO hmay
        simp only [patched] at hO
        obtain ⟨s1, hs1, hv1⟩ := (HA.out.below hBel).cutFrom x hx0 (by simp; omega)
        rw [← List.map_drop] at hv1
        obtain ⟨Y1, hY1⟩ : ∃ Y, A.drop x.toNat = Y := ⟨_, rfl⟩
        rw [hY1] at hv1 hO
        have t1 : O.length + Y1.length ≤ 1000000 := by
          have := congrArg List.length hY1
          simp only [patched, List.length_drop, List.drop_length] at htot this
          omega
        have HO := Lib.hid hO
        have Hv1 := Lib.hid hv1
        have Hbel := Lib.hid hBel
        clear hO hmay hv1 hBel htot hY1 hyes
        go_wp2_with (at_builtin
                     refine wpList_append_vals rfl (.tmp 52) (.tmp 55) 27 9 rfl w.heap.size i9 (.string ⟨#[]⟩) 16 Try.underlying27 hi9 hz9 hs9 hb9 rfl _ s1 O.length (O.map Value.string) (Y1.map Value.string) rfl hown rfl Hv1.out (fun u hu => by obtain ⟨z, _, rfl⟩ := List.mem_map.1 hu; rfl) (by rw [List.length_map]; exact t1) (by decide) hbs ?_
                     intro p1 w1 hown1 hgrow1
                     rw [← List.map_append, HO.out] at hown1
                     have B1 := Lib.hid (Hbel.out.grown hgrow1 hbs (fun k hk => (hown.lt k hk).1))
                     have Hown1 := Lib.hid (own_vals hown1)
                     clear hown1 hgrow1)
        go_ret2
        exact ⟨⟨_, _, rfl, .inr ⟨Hyes.out, rfl, Hown1.out⟩⟩, B1.out⟩
end Go.Proofs.Ythligkdncddmpaa
