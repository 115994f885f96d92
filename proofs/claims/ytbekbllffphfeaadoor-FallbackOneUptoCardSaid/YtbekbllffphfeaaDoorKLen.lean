/-
  For the laws of marker: how long marks are to be, by the program. Condition: texts of at most 5,000,000 bytes each.
-/
import Derived.Test.YtbekbllffphfeaaDoorKRun
namespace Go.Proofs.YtbekbllffphfeaaDoor.K
open Go.RowKit Go.Shelf
set_option linter.unusedSimpArgs false

/-- The lines of texts, one text after the other. -/
def allL (xs : List ByteArray) : List By := xs.flatMap lnB
theorem allL_take {xs : List ByteArray} {i : Nat} {x : ByteArray} (h : xs[i]? = some x) : allL (xs.take (i + 1)) = allL (xs.take i) ++ lnB x := by
  unfold allL
  rw [List.take_add_one, h, List.flatMap_append]; simp
theorem lenL_take {ls : List By} {n j : Nat} {l : By} (h : ls[j]? = some l) : lenL n (ls.take (j + 1)) = max (lenL n (ls.take j)) (runL l + 1) := by
  rw [List.take_add_one, h, lenL_append]; rfl
theorem lenL_bd {ls : List By} {n B : Nat} (hn : n ≤ B) (h : ∀ l ∈ ls, l.length + 1 ≤ B) : lenL n ls ≤ B := by
  induction ls generalizing n with
  | nil => exact hn
  | cons x ls ih =>
    rw [lenL_cons]
    have h1 := h x List.mem_cons_self
    have h2 := runL_le x
    exact ih (by omega) (fun l hl => h l (List.mem_cons_of_mem _ hl))
theorem st_sizes (s : ByteArray) : ∀ k, ∀ x ∈ (st s k).1, x.size ≤ s.size
  | 0, x, hx => by simp [st] at hx
  | k + 1, x, hx => by
    cases h : nlB s k with
    | true =>
      rw [st_yes h] at hx
      rcases List.mem_append.1 hx with hx | hx
      · exact st_sizes s k x hx
      · rw [List.mem_singleton.1 hx, ByteArray.size_extract]; omega
    | false => rw [st_no h] at hx; exact st_sizes s k x hx
theorem lns_sizes (s : ByteArray) : ∀ x ∈ lns s, x.size ≤ s.size := fun x hx => by
  unfold lns at hx
  split at hx
  · rcases List.mem_append.1 hx with hx | hx
    · exact st_sizes s _ x hx
    · rw [List.mem_singleton.1 hx, ByteArray.size_extract]; omega
  · exact st_sizes s _ x hx
theorem lnB_sizes {s : ByteArray} {l : By} (h : l ∈ lnB s) : l.length ≤ s.size := by
  unfold lnB at h
  obtain ⟨x, hx, rfl⟩ := List.mem_map.1 h
  rw [tl_length]
  exact lns_sizes s x hx
theorem allL_bd {xs : List ByteArray} (h : ∀ x ∈ xs, x.size ≤ 50000000) (i : Nat) : lenL 7 (allL (xs.take i)) ≤ 50000001 := by
  refine lenL_bd (by omega) fun l hl => ?_
  unfold allL at hl
  obtain ⟨x, hx, hl⟩ := List.mem_flatMap.1 hl
  have := h x (List.mem_of_mem_take hx)
  have := lnB_sizes hl
  omega
set_option maxRecDepth 100000 in
set_option maxHeartbeats 8000000 in
theorem Length_any (v : Value) (xs : List ByteArray) (hx : ∀ x ∈ xs, x.size ≤ 50000000) (w : World) (h1 : Strz w v xs) : Calls Tryd.prog 21 #[v] w fun e w' => e = .returned (.int .i64 (lenL 7 (allL xs) : Nat)) ∧ Below w.heap.size w w' := by
  obtain ⟨a, cap, rfl, hc, hat⟩ := strs_of_strz h1
  have hm : xs.length ≤ maxLen := h1.choose_spec.choose_spec.2.2.1
  unfold maxLen at hm
  have Hat := Lib.hid hat
  have Hx := Lib.hid hx
  clear hat hx h1
  obtain ⟨r, hr⟩ : ∃ r, Hid (lenL 7 (allL xs) = r) := ⟨_, Lib.hid rfl⟩
  rw [hr.out]
  go_enter Tryd.func21, Tryd.ntmps21
  go_wp2_with fail
  go_loopw [3, 10] (fun m c wr => ∃ (i : Nat), c = .int .i64 i ∧ i ≤ xs.length ∧ m = .int .i64 (lenL 7 (allL (xs.take i)) : Nat) ∧ Hid (Below w.heap.size w wr)) (fun _ c _ => xs.length - (intOf c).toNat)
  case atStart => exact ⟨0, rfl, by omega, rfl, Lib.hid (Below.refl _ _)⟩
  case round =>
    obtain ⟨i, rfl, hi, rfl, hB⟩ := hrel
    have hbs := hB.out.size
    obtain ⟨N, hN⟩ : ∃ N, Hid (lenL 7 (allL (xs.take i)) = N) := ⟨_, Lib.hid rfl⟩
    by_cases hlt : i < xs.length
    · obtain ⟨x, hx⟩ : ∃ x, xs[i]? = some x := ⟨_, List.getElem?_eq_getElem hlt⟩
      obtain ⟨b, off, rfl, hbl, hl0⟩ := Hat.out i x hx
      have c0 : wr.cell? ⟨b, off + i, none⟩ = some (.string x) := (hB.out.cell (p := ⟨b, off + i, none⟩) hbl).trans hl0
      have hxs := Hx.out x (List.mem_of_getElem? hx)
      have Hnx := Lib.hid (allL_take hx)
      have HN : Hid (N ≤ 50000001) := Lib.hid (by rw [← hN.out]; exact allL_bd Hx.out i)
      rw [hN.out]
      clear hl0 hx
      go_wp2_with fail
      refine (Split_any x hxs wr).mono ?_
      rintro e w1 ⟨u, rfl, hu, b1⟩
      obtain ⟨a2, cap2, rfl, hc2, hat2⟩ := strs_of_strz hu
      have hm2 : (lns x).length ≤ 50000000 := Nat.le_trans (lns_len x) hxs
      have Hat2 := Lib.hid hat2
      have HB1 := Lib.hid (hB.out.trans (b1.mono hbs))
      clear hat2 hu b1
      go_wp2_with fail
      go_loopw [3, 17] (fun m c wx => ∃ (j : Nat), c = .int .i64 j ∧ j ≤ (lns x).length ∧ m = .int .i64 (lenL N ((lnB x).take j) : Nat) ∧ Hid (Below w1.heap.size w1 wx)) (fun _ c _ => (lns x).length - (intOf c).toNat)
      case atStart => exact ⟨0, rfl, by omega, rfl, Lib.hid (Below.refl _ _)⟩
      case round =>
        obtain ⟨j, rfl, hj, rfl, hX⟩ := hrel
        have hbx := hX.out.size
        obtain ⟨m, hm'⟩ : ∃ m, Hid (lenL N ((lnB x).take j) = m) := ⟨_, Lib.hid rfl⟩
        rw [hm'.out]
        by_cases hlt2 : j < (lns x).length
        · obtain ⟨l, hl⟩ : ∃ l, (lns x)[j]? = some l := ⟨_, List.getElem?_eq_getElem hlt2⟩
          obtain ⟨b2, off2, rfl, hb2, m0⟩ := Hat2.out j l hl
          have c1 : wr.cell? ⟨b2, off2 + j, none⟩ = some (.string l) := (hX.out.cell (p := ⟨b2, off2 + j, none⟩) hb2).trans m0
          have hls := lns_sizes x l (List.mem_of_getElem? hl)
          have hlB : (lnB x)[j]? = some (tl l) := by unfold lnB; rw [List.getElem?_map, hl]; rfl
          have Hst := Lib.hid (lenL_take (n := N) hlB)
          have hrl := runL_le (tl l)
          rw [tl_length] at hrl
          obtain ⟨r1, hr1⟩ : ∃ r, Hid (runL (tl l) = r) := ⟨_, Lib.hid rfl⟩
          rw [hr1.out] at hrl
          have hw : IntKind.i64.wrap ((r1 : Int) + 1) = (r1 : Int) + 1 := by rw [Go.IntWalk.i64_left, Go.IntWalk.wrap64_in _ (by omega)]
          clear m0 hl hlB
          go_wp2_with fail
          refine (run_any l (by unfold maxLen; omega) wr).mono ?_
          rw [hr1.out]
          rintro e w2 ⟨rfl, b2'⟩
          have HX2 := Lib.hid (hX.out.trans (b2'.mono hbx))
          clear b2'
          go_wp2_with fail
          have hfin : (max (m : Int) ((r1 : Int) + 1)) = ((lenL N ((lnB x).take (j + 1)) : Nat) : Int) := by
            rw [Hst.out, hm'.out, hr1.out]; omega
          exact ⟨⟨j + 1, by go_num, by omega, by rw [hfin], HX2⟩, by simp [intOf]; omega⟩
        · obtain rfl : j = (lns x).length := by omega
          have hm2 := hm'.out
          rw [List.take_of_length_le (by unfold lnB; rw [List.length_map]; exact Nat.le_refl _), ← hN.out, ← lenL_append, ← Hnx.out] at hm2
          have Hm2 := Lib.hid hm2
          have HX3 := Lib.hid (HB1.out.trans (hX.out.mono HB1.out.size))
          clear hm2
          go_wp2_with fail
          exact ⟨⟨i + 1, by go_num, by omega, by rw [Hm2.out], HX3⟩, by simp [intOf]; omega⟩
    · obtain rfl : i = xs.length := by omega
      have hN2 := hN.out
      rw [List.take_length, hr.out] at hN2
      rw [hN.out]
      go_wp2_with fail
      go_ret
      exact ⟨ret_int (congrArg Int.ofNat hN2.symm), hB.out⟩
end Go.Proofs.YtbekbllffphfeaaDoor.K
