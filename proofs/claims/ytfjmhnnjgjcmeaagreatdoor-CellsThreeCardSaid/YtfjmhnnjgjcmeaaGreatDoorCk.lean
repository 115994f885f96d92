/-
  For the laws of cells: are two rows of keys the same, by the program and by the document. No condition.
-/
import Derived.Test.YtfjmhnnjgjcmeaaGreatDoorCi
namespace Go.Proofs.YtfjmhnnjgjcmeaaGreatDoor
open Go.RowKit Go.Shelf
set_option linter.unusedSimpArgs false
set_option linter.unusedVariables false

theorem take_eq_stepS {A B : TL} {k : Nat} {x y : ByteArray} (hx : A[k]? = some x) (hy : B[k]? = some y) : A.take (k + 1) = B.take (k + 1) ↔ (A.take k = B.take k ∧ x = y) := by
  have la := (List.getElem?_eq_some_iff.1 hx).1
  have lb := (List.getElem?_eq_some_iff.1 hy).1
  rw [List.take_add_one, List.take_add_one, hx, hy]
  constructor
  · intro h
    have h2 := List.append_inj h (by rw [List.length_take, List.length_take]; omega)
    exact ⟨h2.1, by simpa using h2.2⟩
  · rintro ⟨h1, h2⟩
    rw [h1, h2]
set_option maxRecDepth 100000 in
set_option maxHeartbeats 4000000 in
theorem SameS_any (v1 v2 : Value) (A B : TL) (w : World) (h1 : L.Vals w v1 (A.map .string)) (h2 : L.Vals w v2 (B.map .string)) :
    Calls Tryz.prog 20 #[v1, v2] w fun e w' => e = .returned (.bool (decide (A = B))) ∧ ∃ q, w' = w.drewN q := by
  obtain ⟨a1, c1, rfl, hc1, hm1, hat1⟩ := h1.at
  obtain ⟨a2, c2, rfl, hc2, hm2, hat2⟩ := h2.at
  rw [List.length_map] at hc1 hc2 ⊢
  rw [List.length_map]
  unfold maxLen at hm1 hm2
  obtain ⟨n, hn⟩ : ∃ n, Hid (A.length = n) := ⟨_, Lib.hid rfl⟩
  obtain ⟨m, hm⟩ : ∃ n, Hid (B.length = n) := ⟨_, Lib.hid rfl⟩
  obtain ⟨d, hd⟩ : ∃ d, Hid (decide (A = B) = d) := ⟨_, Lib.hid rfl⟩
  rw [hd.out]
  rw [hn.out] at hc1 ⊢
  rw [hm.out] at hc2 ⊢
  have Hat1 := Lib.hid hat1
  have Hat2 := Lib.hid hat2
  clear hat1 hat2 h1 h2
  by_cases hnm : n = m
  · subst hnm
    have d0 : ((n : Int) != (n : Int)) = false := by simp
    go_enter Tryz.func20, Tryz.ntmps20
    go_wp2_with fail
    go_loopw [5] (fun i wr => ∃ k : Nat, k ≤ n ∧ i = .int .i64 k ∧ Hid (A.take k = B.take k) ∧ ∃ q, Hid (wr = w.drewN q)) (fun i _ => n + 1 - (intOf i).toNat)
    case atStart => exact ⟨0, Nat.zero_le _, rfl, Lib.hid rfl, 0, Lib.hid rfl⟩
    case round =>
      obtain ⟨k, hk, rfl, hE, q, hq⟩ := hrel
      rcases Nat.lt_or_ge k n with hlt | hlt
      · obtain ⟨x, hx⟩ := get_lt (l := A) (k := k) (by rw [hn.out]; exact hlt)
        obtain ⟨y, hy⟩ := get_lt (l := B) (k := k) (by rw [hm.out]; exact hlt)
        obtain ⟨b1, o1, rfl, -, e1⟩ := Hat1.out k (.string x) (by rw [List.getElem?_map, hx]; rfl)
        obtain ⟨b2, o2, rfl, -, e2⟩ := Hat2.out k (.string y) (by rw [List.getElem?_map, hy]; rfl)
        have f1 : wr.cell? ⟨b1, o1 + k, none⟩ = some (.string x) := by rw [hq.out]; exact e1
        have f2 : wr.cell? ⟨b2, o2 + k, none⟩ = some (.string y) := by rw [hq.out]; exact e2
        have d1 : decide ((k : Int) < (n : Int)) = true := decide_eq_true (by omega)
        have d2 : (0 : Int) ≤ (k : Int) := by omega
        have d3 : (k : Int) < (n : Int) := by omega
        have hst := Lib.hid (take_eq_stepS hx hy)
        have hne : Hid (x ≠ y → A ≠ B) := Lib.hid (fun h e => by subst e; rw [hx] at hy; exact h (by simpa using hy))
        clear hx hy e1 e2
        by_cases hxy : x = y
        · have d4 : (x.toList == y.toList) = true := by rw [eqB]; exact decide_eq_true hxy
          have d5 : (x.toList != y.toList) = false := by rw [bne, d4]; rfl
          have hE2 : Hid (A.take (k + 1) = B.take (k + 1)) := Lib.hid (hst.out.2 ⟨hE.out, hxy⟩)
          clear hxy
          go_wp2_with fail
          go_quiet (fail)
          go_wp2_with fail
          exact ⟨⟨k + 1, by omega, by go_num, hE2, q + nq, Lib.hid (by rw [hq.out, World.drewN_drewN])⟩, by simp [intOf]; omega⟩
        · have d4 : (x.toList == y.toList) = false := by rw [eqB]; exact decide_eq_false hxy
          have d5 : (x.toList != y.toList) = true := by rw [bne, d4]; rfl
          have hdd : Hid (d = false) := Lib.hid (by rw [← hd.out]; exact decide_eq_false (hne.out hxy))
          clear hxy
          go_wp2_with fail
          go_quiet (fail)
          go_wp2_with fail
          go_ret
          exact ⟨by rw [hdd.out]; rfl, q + nq, by rw [hq.out, World.drewN_drewN]⟩
      · have d1 : decide ((k : Int) < (n : Int)) = false := decide_eq_false (by omega)
        have hdd : Hid (d = true) := Lib.hid (by
          have h := hE.out
          rw [List.take_of_length_le (by rw [hn.out]; exact hlt), List.take_of_length_le (by rw [hm.out]; exact hlt)] at h
          rw [← hd.out]; exact decide_eq_true h)
        go_wp2_with fail
        go_ret
        exact ⟨by rw [hdd.out]; rfl, q, hq.out⟩
  · have d0 : ((n : Int) != (m : Int)) = true := by simp; omega
    have d0' : ((n : Int) == (m : Int)) = false := by simp; omega
    have hdd : Hid (d = false) := Lib.hid (by rw [← hd.out]; exact decide_eq_false (fun e => hnm (by rw [← hn.out, ← hm.out, e])))
    go_enter Tryz.func20, Tryz.ntmps20
    go_wp2_with fail
    go_ret
    exact ⟨by rw [hdd.out]; rfl, 0, rfl⟩
theorem EqualS_any (v1 v2 : Value) (xs ys : TL) (w : World) (h1 : L.Vals w v1 (xs.map .string)) (h2 : L.Vals w v2 (ys.map .string)) :
    Calls Tryz.prog 55 #[v1, v2] w fun e w' => e = .returned (.bool (decide (xs = ys))) ∧ ∃ q, w' = w.drewN q := by
  obtain ⟨a1, c1, rfl, hc1, hm1, h1⟩ := h1
  obtain ⟨a2, c2, rfl, hc2, hm2, h2⟩ := h2
  rw [List.length_map] at hc1 hc2 ⊢
  rw [List.length_map]
  unfold maxLen at hm1 hm2
  rw [List.map_eq_nil_iff] at h1 h2
  by_cases hlen : xs.length = ys.length
  · rcases h1 with rfl | ⟨b1, o1, rfl, hb1, hx1⟩
    · have hy : ys = [] := List.length_eq_zero_iff.1 (by simpa using hlen.symm)
      subst hy
      refine (Tryz.slices_Equal_string_empty a1 a2 c1 0 c2 w (by omega)).mono ?_
      rintro e w' ⟨rfl, rfl⟩
      exact ⟨by simp, 0, rfl⟩
    · rcases h2 with rfl | ⟨b2, o2, rfl, hb2, hx2⟩
      · have hx : xs = [] := List.length_eq_zero_iff.1 (by simpa using hlen)
        subst hx
        refine (Tryz.slices_Equal_string_empty _ a2 c1 0 c2 w (by omega)).mono ?_
        rintro e w' ⟨rfl, rfl⟩
        exact ⟨by simp, 0, rfl⟩
      · refine (Tryz.slices_Equal_string b1 o1 xs.length c1 b2 o2 ys.length c2 xs ys w (Nat.le_refl _) (Nat.le_refl _) (by omega) (by omega) (fun j hj => ?_) (fun j hj => ?_)).mono ?_
        · rw [hx1 j (.string xs[j]) (by rw [List.getElem?_map, List.getElem?_eq_getElem hj]; rfl)]; simp [List.getD, List.getElem?_eq_getElem hj]
        · rw [hx2 j (.string ys[j]) (by rw [List.getElem?_map, List.getElem?_eq_getElem hj]; rfl)]; simp [List.getD, List.getElem?_eq_getElem hj]
        · rintro e w' ⟨rfl, hq⟩
          refine ⟨?_, hq⟩
          rw [List.take_length, List.take_length]
  · refine (Tryz.slices_Equal_string_lens a1 a2 xs.length c1 ys.length c2 w hlen).mono ?_
    rintro e w' ⟨rfl, rfl⟩
    refine ⟨?_, 0, rfl⟩
    have : decide (xs = ys) = false := decide_eq_false (fun h => hlen (by rw [h]))
    rw [this]
end Go.Proofs.YtfjmhnnjgjcmeaaGreatDoor
