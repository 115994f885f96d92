/-
  For the laws of cells: without, by the program; the document's kept and without. Condition: at most 10,000 keys, each no longer than any text may be.
-/
import Derived.Test.YtfjmhnnjgjcmeaaGreatDoorCh
namespace Go.Proofs.YtfjmhnnjgjcmeaaGreatDoor
open Go.RowKit Go.Shelf Go.Maps Go.WideMaps
set_option linter.unusedSimpArgs false
set_option linter.unusedVariables false

theorem Clone_any (v : Value) (xs : TL) (w : World) (h : L.Vals w v (xs.map .string)) (hl : xs.length ≤ 1000000) : Calls Tryz.prog 73 #[v] w fun e w' => ∃ v', e = .returned v' ∧ w'.ownsRow w.heap.size 9 1 v' xs.length (xs.map .string) ∧ Below w.heap.size w w' := by
  obtain ⟨a, cap, rfl, hc, hm, hx⟩ := h
  rw [List.length_map] at hc ⊢
  rcases Nat.eq_zero_or_pos xs.length with h0 | h0
  · have hxs : xs = [] := List.eq_nil_of_length_eq_zero h0
    subst hxs
    cases a with
    | none =>
      refine (Tryz.slices_Clone_string_nil _ _ w).mono ?_
      rintro e w' ⟨rfl, rfl⟩
      exact ⟨_, rfl, World.ownsRow_nil _ _ _ _, Below.refl _ _⟩
    | some ad =>
      refine (Tryz.slices_Clone_string_zero ad cap w).mono ?_
      rintro e w' ⟨v', rfl, ho, -, hb⟩
      exact ⟨_, rfl, ho, hb⟩
  · rcases hx with hx | ⟨b, off, rfl, hb, hx⟩
    · rw [List.map_eq_nil_iff] at hx
      rw [hx] at h0
      simp at h0
    · refine (Tryz.slices_Clone_string b off xs.length cap xs w (Nat.le_refl _) (by omega) (fun j hj => ?_)).mono ?_
      · refine hx j _ ?_
        rw [List.getElem?_map, List.getElem?_eq_getElem hj, List.getD_eq_getElem?_getD, List.getElem?_eq_getElem hj]
        rfl
      · rintro e w' ⟨v', rfl, ho, -, hb⟩
        rw [List.take_length] at ho
        exact ⟨_, rfl, ho, hb⟩
set_option maxRecDepth 100000 in
set_option maxHeartbeats 2000000 in
theorem without_any (v : Value) (xs : TL) (m k : Nat) (G : TL) (w : World) (h : L.Vals w v (xs.map .string)) (hS : SetOf w m k (fun t => t ∈ G)) (hs : ∀ s ∈ xs, s.size ≤ maxLen) (hl : xs.length ≤ 10000) : Calls Tryz.prog 57 #[v, .map (some m)] w fun e w' => ∃ v', e = .returned v' ∧ L.Vals w' v' ((noT G xs).map .string) ∧ Below w.heap.size w w' := by
  have bA : Below w.heap.size w (w.alloc (.cells #[.map (some m)] 88)) := (Below.refl _ _).alloc (Nat.le_refl _) _
  have CC := Lib.hid (Clone_any v xs (w.alloc (.cells #[.map (some m)] 88)) (h.below bA) (by omega))
  have hcB : (w.alloc (.cells #[.map (some m)] 88)).cell? ⟨w.heap.size, 0, none⟩ = some (.map (some m)) := (RowAt.new w 88 #[.map (some m)]).cell rfl
  have hml := hS.lt
  have HS : Hid (SetOf (w.alloc (.cells #[.map (some m)] 88)) m k (fun t => t ∈ G)) := Lib.hid (hS.same (Below.heap_alloc w _ m hml))
  have hsz : (w.alloc (.cells #[.map (some m)] 88)).heap.size = w.heap.size + 1 := by simp
  obtain ⟨a, cap, rfl, -⟩ := h
  obtain ⟨W1, hW1⟩ : ∃ W1, Hid (w.alloc (.cells #[.map (some m)] 88) = W1) := ⟨_, Lib.hid rfl⟩
  rw [hW1.out] at CC hcB HS hsz bA
  obtain ⟨z, hz⟩ : ∃ z, Hid ((xs.map Value.string).length = z) := ⟨_, Lib.hid rfl⟩
  rw [hz.out] at CC ⊢
  have HcB := Lib.hid hcB
  have HbA := Lib.hid bA
  clear hcB bA hS
  go_enter Tryz.func57, Tryz.ntmps57
  go_wp2_with fail
  rw [hW1.out]
  refine CC.out.mono ?_
  rintro e w2 ⟨v2, rfl, ho, b2⟩
  have CD := Lib.hid (Delete_any v2 xs w.heap.size m k W1.heap.size G w2 ho ((b2.cell (p := ⟨w.heap.size, 0, none⟩) (by show w.heap.size < W1.heap.size; omega)).trans HcB.out) (by omega) (by omega) b2.size (HS.out.same (b2.block m (by omega))) hs hl)
  have B2 : Hid (Below w.heap.size w w2) := Lib.hid (HbA.out.trans (b2.mono (by omega)))
  obtain ⟨R, hR⟩ : ∃ R, Hid ((noT G xs).map Value.string = R) := ⟨_, Lib.hid rfl⟩
  rw [hR.out] at CD
  obtain ⟨a2, c2, rfl⟩ := own_form ho
  obtain ⟨y, hy⟩ : ∃ z, Hid (xs.length = z) := ⟨_, Lib.hid rfl⟩
  rw [hy.out] at CD ⊢
  clear ho b2
  go_wp2_with fail
  refine CD.out.mono ?_
  rintro e w3 ⟨v3, rfl, hv3, b3⟩
  have V3 := Lib.hid hv3
  have B3 : Hid (Below w.heap.size w w3) := Lib.hid (B2.out.trans (b3.mono (by omega)))
  obtain ⟨a3, c3, rfl, -⟩ := hv3
  clear b3
  go_wp2_with fail
  go_ret
  refine ⟨_, rfl, ?_, B3.out⟩
  rw [hR.out]
  exact V3.out

def kpB (o a b : TL) (s : ByteArray) : Bool := !decide (s ∈ o) || (decide (s ∈ a) && decide (s ∈ b))
theorem keep_take {l o a b : TL} {k : Nat} {x : ByteArray} (h : l[k]? = some x) : keepT (l.take (k + 1)) o a b = keepT (l.take k) o a b ++ (if kpB o a b x then [x] else []) := by
  unfold keepT
  rw [List.take_add_one, h, List.filter_append]
  congr 1
  show [x].filter (kpB o a b) = _
  cases hx : kpB o a b x <;> simp [hx]
theorem keep_len (l o a b : TL) : (keepT l o a b).length ≤ l.length := List.length_filter_le _ _
set_option maxRecDepth 100000 in
set_option maxHeartbeats 4000000 in
theorem RefKept_any (v0 v1 v2 v3 : Value) (l o a b : TL) (w : World) (h0 : L.Vals w v0 (l.map .string)) (h1 : L.Vals w v1 (o.map .string)) (h2 : L.Vals w v2 (a.map .string)) (h3 : L.Vals w v3 (b.map .string)) (hl : l.length ≤ 10000) : Calls Tryz.prog 59 #[v0, v1, v2, v3] w fun e w' => ∃ v', e = .returned v' ∧ w'.ownsRow w.heap.size 9 1 v' (keepT l o a b).length ((keepT l o a b).map .string) ∧ Below w.heap.size w w' := by
  obtain ⟨i0, hi, hz0, hz1, hz2⟩ := info_parts S.try_info9
  have H1 := Lib.hid h1
  have H2 := Lib.hid h2
  have H3 := Lib.hid h3
  obtain ⟨a0, c0, rfl, hc, hm, hat⟩ := h0.at
  obtain ⟨a1, c1, rfl, -⟩ := h1.at
  obtain ⟨a2, c2, rfl, -⟩ := h2.at
  obtain ⟨a3, c3, rfl, -⟩ := h3.at
  rw [List.length_map] at hc ⊢
  unfold maxLen at hm
  obtain ⟨n, hn⟩ : ∃ n, Hid (l.length = n) := ⟨_, Lib.hid rfl⟩
  rw [hn.out] at hc hl ⊢
  obtain ⟨n1, hn1⟩ : ∃ n, Hid ((o.map Value.string).length = n) := ⟨_, Lib.hid rfl⟩
  obtain ⟨n2, hn2⟩ : ∃ n, Hid ((a.map Value.string).length = n) := ⟨_, Lib.hid rfl⟩
  obtain ⟨n3, hn3⟩ : ∃ n, Hid ((b.map Value.string).length = n) := ⟨_, Lib.hid rfl⟩
  rw [hn1.out] at H1 ⊢
  rw [hn2.out] at H2 ⊢
  rw [hn3.out] at H3 ⊢
  have Hat := Lib.hid hat
  clear hat h0 h1 h2 h3
  go_enter Tryz.func59, Tryz.ntmps59
  go_wp2_with fail
  go_loopw [9, 10] (fun o' i wr => ∃ k : Nat, k ≤ n ∧ i = .int .i64 k ∧ Hid (wr.ownsRow w.heap.size 9 1 o' (keepT (l.take k) o a b).length ((keepT (l.take k) o a b).map .string)) ∧ Hid (Below w.heap.size w wr)) (fun _ i _ => n - (intOf i).toNat)
  case atStart => exact ⟨0, Nat.zero_le _, rfl, Lib.hid (World.ownsRow_nil _ _ _ _), Lib.hid (Below.refl _ _)⟩
  case round =>
    obtain ⟨k, hk, rfl, hO, hB⟩ := hrel
    rcases Nat.lt_or_ge k n with hlt | hlt
    · obtain ⟨x, hx⟩ := get_lt (l := l) (k := k) (by rw [hn.out]; exact hlt)
      obtain ⟨b0, off, rfl, hbl, e0⟩ := Hat.out k (.string x) (by rw [List.getElem?_map, hx]; rfl)
      have e1 : wr.cell? ⟨b0, off + k, none⟩ = some (.string x) := (hB.out.cell (p := ⟨b0, off + k, none⟩) hbl).trans e0
      have hst := Lib.hid (keep_take (o := o) (a := a) (b := b) hx)
      have d1 : decide (k < n) = true := decide_eq_true hlt
      have d2 : (0 : Int) ≤ (k : Int) := by omega
      have d3 : (k : Int) < (n : Int) := by omega
      have hul : (keepT (l.take k) o a b).length ≤ 10000 := by
        have h := keep_len (l.take k) o a b
        rw [List.length_take, hn.out] at h
        omega
      clear hx e0
      obtain ⟨U, hU⟩ : ∃ U, Hid (keepT (l.take k) o a b = U) := ⟨_, Lib.hid rfl⟩
      rw [hU.out] at hO hst hul
      obtain ⟨ao, co, rfl⟩ := own_form hO.out
      obtain ⟨nu, hnu⟩ : ∃ n, Hid (U.length = n) := ⟨_, Lib.hid rfl⟩
      rw [hnu.out] at hO hul ⊢
      have C1 := Lib.hid (has_any _ o x wr (H1.out.below hB.out))
      have C2 := Lib.hid (has_any _ a x wr (H2.out.below hB.out))
      have C3 := Lib.hid (has_any _ b x wr (H3.out.below hB.out))
      have hkp : Hid (kpB o a b x = (!decide (x ∈ o) || (decide (x ∈ a) && decide (x ∈ b)))) := Lib.hid rfl
      obtain ⟨y1, hy1⟩ : ∃ d, Hid (decide (x ∈ o) = d) := ⟨_, Lib.hid rfl⟩
      obtain ⟨y2, hy2⟩ : ∃ d, Hid (decide (x ∈ a) = d) := ⟨_, Lib.hid rfl⟩
      obtain ⟨y3, hy3⟩ : ∃ d, Hid (decide (x ∈ b) = d) := ⟨_, Lib.hid rfl⟩
      rw [hy1.out] at C1 hkp
      rw [hy2.out] at C2 hkp
      rw [hy3.out] at C3 hkp
      obtain ⟨kb, hkb⟩ : ∃ kb, kb = (!y1 || (y2 && y3)) := ⟨_, rfl⟩
      rw [← hkb] at hkp
      rw [hkp.out] at hst
      go_wp2_with fail
      refine C1.out.mono ?_
      rintro e w2 ⟨rfl, rfl⟩
      go_wp2_with fail
      refine C2.out.mono ?_
      rintro e w3 ⟨rfl, rfl⟩
      go_wp2_with fail
      refine C3.out.mono ?_
      rintro e w4 ⟨rfl, rfl⟩
      cases kb with
      | false =>
        have hf : Hid (w4.ownsRow w.heap.size 9 1 (.slice ao nu co) (keepT (l.take (k + 1)) o a b).length ((keepT (l.take (k + 1)) o a b).map .string)) := Lib.hid (by
          rw [hst.out]
          simp only [Bool.false_eq_true, if_false, List.append_nil]
          rw [hnu.out]
          exact hO.out)
        cases y1 <;> cases y2 <;> cases y3 <;> first
        | (exfalso; revert hkb; decide)
        | (clear hkb
           go_wp2_with fail
           exact ⟨⟨k + 1, by omega, by go_num, hf, hB⟩, by simp [intOf]; omega⟩)
      | true =>
        cases y1 <;> cases y2 <;> cases y3 <;> first
        | (exfalso; revert hkb; decide)
        | (clear hkb
           go_wp2_with (at_builtin; refine wpList_append_own _ rfl _ _ 27 rfl w.heap.size 9 i0 (.string ⟨#[]⟩) 1 16 Tryz.underlying27 hi hz0 hz1 hz2 rfl (by decide) _ _ _ rfl (hO.out.alloc _) ⟨w4.heap.size, 0, none⟩ 1 1 [.string x] rfl rfl (S.cell_one_new _ _ _) (by simp [Value.oneCell']) (by unfold maxLen; omega) (by omega) (by have := hB.out.size; simp; omega) ?_; intro v' w5 hown' hgrow _)
           have hf : Hid (w5.ownsRow w.heap.size 9 1 v' (keepT (l.take (k + 1)) o a b).length ((keepT (l.take (k + 1)) o a b).map .string)) := Lib.hid (by
             rw [hst.out]
             simp only [if_true]
             rw [List.length_append, List.map_append, hnu.out]
             exact hown')
           have hb := Lib.hid (S.below_appended hB.out hO.out hgrow)
           clear hown' hgrow
           exact ⟨⟨k + 1, by omega, by go_num, hf, hb⟩, by simp [intOf]; omega⟩)
    · have d1 : decide (k < n) = false := decide_eq_false (by omega)
      have h := hO.out
      rw [List.take_of_length_le (by rw [hn.out]; exact hlt)] at h
      have hf := Lib.hid h
      clear h
      go_wp2_with fail
      go_ret
      exact ⟨_, rfl, hf.out, hB.out⟩
set_option maxRecDepth 100000 in
set_option maxHeartbeats 4000000 in
theorem RefWithout_any (v0 v1 : Value) (l o : TL) (w : World) (h0 : L.Vals w v0 (l.map .string)) (h1 : L.Vals w v1 (o.map .string)) (hl : l.length ≤ 10000) : Calls Tryz.prog 61 #[v0, v1] w fun e w' => ∃ v', e = .returned v' ∧ w'.ownsRow w.heap.size 9 1 v' (noT o l).length ((noT o l).map .string) ∧ Below w.heap.size w w' := by
  obtain ⟨i0, hi, hz0, hz1, hz2⟩ := info_parts S.try_info9
  have H1 := Lib.hid h1
  obtain ⟨a0, c0, rfl, hc, hm, hat⟩ := h0.at
  obtain ⟨a1, c1, rfl, -⟩ := h1.at
  rw [List.length_map] at hc ⊢
  unfold maxLen at hm
  obtain ⟨n, hn⟩ : ∃ n, Hid (l.length = n) := ⟨_, Lib.hid rfl⟩
  rw [hn.out] at hc hl ⊢
  obtain ⟨n1, hn1⟩ : ∃ n, Hid ((o.map Value.string).length = n) := ⟨_, Lib.hid rfl⟩
  rw [hn1.out] at H1 ⊢
  have Hat := Lib.hid hat
  clear hat h0 h1
  go_enter Tryz.func61, Tryz.ntmps61
  go_wp2_with fail
  go_loopw [5, 6] (fun o' i wr => ∃ k : Nat, k ≤ n ∧ i = .int .i64 k ∧ Hid (wr.ownsRow w.heap.size 9 1 o' (noT o (l.take k)).length ((noT o (l.take k)).map .string)) ∧ Hid (Below w.heap.size w wr)) (fun _ i _ => n - (intOf i).toNat)
  case atStart => exact ⟨0, Nat.zero_le _, rfl, Lib.hid (World.ownsRow_nil _ _ _ _), Lib.hid (Below.refl _ _)⟩
  case round =>
    obtain ⟨k, hk, rfl, hO, hB⟩ := hrel
    rcases Nat.lt_or_ge k n with hlt | hlt
    · obtain ⟨x, hx⟩ := get_lt (l := l) (k := k) (by rw [hn.out]; exact hlt)
      obtain ⟨b0, off, rfl, hbl, e0⟩ := Hat.out k (.string x) (by rw [List.getElem?_map, hx]; rfl)
      have e1 : wr.cell? ⟨b0, off + k, none⟩ = some (.string x) := (hB.out.cell (p := ⟨b0, off + k, none⟩) hbl).trans e0
      have hst := Lib.hid (no_take (G := o) hx)
      have d1 : decide (k < n) = true := decide_eq_true hlt
      have d2 : (0 : Int) ≤ (k : Int) := by omega
      have d3 : (k : Int) < (n : Int) := by omega
      have hul : (noT o (l.take k)).length ≤ 10000 := by
        have h := no_len o (l.take k)
        rw [List.length_take, hn.out] at h
        omega
      clear hx e0
      obtain ⟨U, hU⟩ : ∃ U, Hid (noT o (l.take k) = U) := ⟨_, Lib.hid rfl⟩
      rw [hU.out] at hO hst hul
      obtain ⟨ao, co, rfl⟩ := own_form hO.out
      obtain ⟨nu, hnu⟩ : ∃ n, Hid (U.length = n) := ⟨_, Lib.hid rfl⟩
      rw [hnu.out] at hO hul ⊢
      have C1 := Lib.hid (has_any _ o x wr (H1.out.below hB.out))
      obtain ⟨d, hd⟩ : ∃ d, Hid (decide (x ∈ o) = d) := ⟨_, Lib.hid rfl⟩
      rw [hd.out] at C1
      go_wp2_with fail
      refine C1.out.mono ?_
      rintro e w2 ⟨rfl, rfl⟩
      cases d with
      | true =>
        have hf : Hid (w2.ownsRow w.heap.size 9 1 (.slice ao nu co) (noT o (l.take (k + 1))).length ((noT o (l.take (k + 1))).map .string)) := Lib.hid (by
          rw [hst.out, if_pos (of_decide_eq_true hd.out), List.append_nil, hnu.out]
          exact hO.out)
        go_wp2_with fail
        exact ⟨⟨k + 1, by omega, by go_num, hf, hB⟩, by simp [intOf]; omega⟩
      | false =>
        go_wp2_with (at_builtin; refine wpList_append_own _ rfl _ _ 27 rfl w.heap.size 9 i0 (.string ⟨#[]⟩) 1 16 Tryz.underlying27 hi hz0 hz1 hz2 rfl (by decide) _ _ _ rfl (hO.out.alloc _) ⟨w2.heap.size, 0, none⟩ 1 1 [.string x] rfl rfl (S.cell_one_new _ _ _) (by simp [Value.oneCell']) (by unfold maxLen; omega) (by omega) (by have := hB.out.size; simp; omega) ?_; intro v' w5 hown' hgrow _)
        have hf : Hid (w5.ownsRow w.heap.size 9 1 v' (noT o (l.take (k + 1))).length ((noT o (l.take (k + 1))).map .string)) := Lib.hid (by
          rw [hst.out, if_neg (of_decide_eq_false hd.out), List.length_append, List.map_append, hnu.out]
          exact hown')
        have hb := Lib.hid (S.below_appended hB.out hO.out hgrow)
        clear hown' hgrow
        exact ⟨⟨k + 1, by omega, by go_num, hf, hb⟩, by simp [intOf]; omega⟩
    · have d1 : decide (k < n) = false := decide_eq_false (by omega)
      have h := hO.out
      rw [List.take_of_length_le (by rw [hn.out]; exact hlt)] at h
      have hf := Lib.hid h
      clear h
      go_wp2_with fail
      go_ret
      exact ⟨_, rfl, hf.out, hB.out⟩
end Go.Proofs.YtfjmhnnjgjcmeaaGreatDoor
