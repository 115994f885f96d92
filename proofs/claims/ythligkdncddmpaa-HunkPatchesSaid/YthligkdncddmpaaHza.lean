/-
  For the laws of hunk: the document's hunks of a match. Conditions: at most 1,000,000 places, none above 1,000,000.
-/
import Derived.Test.YthligkdncddmpaaHz
namespace Go.Proofs.Ythligkdncddmpaa
open Go.RowKit

theorem drop_cons {α : Type} {M : List α} {i : Nat} {x : α} (h : M[i]? = some x) : M.drop i = x :: M.drop (i + 1) := by
  obtain ⟨hl, rfl⟩ := List.getElem?_eq_some_iff.1 h
  exact List.drop_eq_getElem_cons hl
theorem ofL_len (M : List Int) (n : Int) : (ofL M n).length ≤ M.length + 1 := by
  have h1 := upAll_len (pairs M n)
  have h2 := preP_len M 0
  unfold ofL pairs at *
  simp at h1
  omega
/-- The state of the document's loop. -/
def OfAt (M : List Int) (n : Int) (i : Nat) (k : Int) (L : List Hk) : Prop :=
  i ≤ M.length ∧ 0 ≤ k ∧ k ≤ n ∧ isMatch n k (M.drop i) ∧ L ++ from_ i k (restP n i (M.drop i)) = ofL M n
theorem OfAt.start {M : List Int} {n : Int} (h : isMatch n 0 M) : OfAt M n 0 0 [] := by
  refine ⟨Nat.zero_le _, Int.le_refl _, isMatch_nonneg h, by simpa using h, ?_⟩
  rw [ofL_from, List.nil_append, List.drop_zero, restP_zero]
  rfl
theorem OfAt.len {M : List Int} {n k : Int} {i : Nat} {L : List Hk} (h : OfAt M n i k L) : L.length ≤ M.length + 1 := by
  have h1 := congrArg List.length h.2.2.2.2
  have h2 := ofL_len M n
  rw [List.length_append] at h1
  omega
theorem OfAt.same {M : List Int} {n k : Int} {i : Nat} {L : List Hk} (h : OfAt M n i k L) (hk : M[i]? = some k) : OfAt M n (i + 1) (k + 1) L := by
  obtain ⟨h1, h2, h3, h4, h5⟩ := h
  have hl : i < M.length := (List.getElem?_eq_some_iff.1 hk).1
  rw [isMatch_at hk, if_pos h2] at h4
  refine ⟨by omega, by omega, by omega, h4.2.2.2, ?_⟩
  rw [← h5, drop_cons hk, restP_hit _ _ _ _ h2, from_same]
  simp
/-- Over what is told nowhere. -/
def Skip (M : List Int) (n k : Int) (i j : Nat) : Prop := i ≤ j ∧ j ≤ M.length ∧ isMatch n k (M.drop j) ∧ restP n i (M.drop i) = restP n j (M.drop j)
theorem Skip.next {M : List Int} {n k x : Int} {i j : Nat} (h : Skip M n k i j) (hx : M[j]? = some x) (hneg : x < 0) : Skip M n k i (j + 1) := by
  obtain ⟨h1, h2, h3, h4⟩ := h
  have hl : j < M.length := (List.getElem?_eq_some_iff.1 hx).1
  rw [isMatch_at hx, if_neg (by omega)] at h3
  refine ⟨by omega, by omega, h3.2.2.2, ?_⟩
  rw [h4, drop_cons hx, restP_miss _ _ _ _ hneg]
/-- The hunk up to a place that is told. -/
theorem OfAt.hunk {M : List Int} {n k x : Int} {i j : Nat} {L : List Hk} (h : OfAt M n i k L) (hs : Skip M n k i j) (hx : M[j]? = some x) (h0 : 0 ≤ x) (hne : M[i]? ≠ some k) : OfAt M n j x (L ++ [⟨i, (j : Int) - i, k, x - k⟩]) := by
  obtain ⟨h1, h2, h3, h4, h5⟩ := h
  obtain ⟨g1, g2, g3, g4⟩ := hs
  rw [isMatch_at hx, if_pos h0] at g3
  obtain ⟨m1, m2, m3, m4⟩ := g3
  have hkx := m3 h0
  have hgap : (i : Int) < j ∨ k < x := by
    by_cases e : i = j
    · subst e
      have : x ≠ k := fun e => hne (by rw [hx, e])
      omega
    · omega
  refine ⟨g2, h0, by omega, ?_, ?_⟩
  · rw [isMatch_at hx, if_pos h0]; exact ⟨m1, m2, fun _ => Int.le_refl _, m4⟩
  · rw [← h5, g4, drop_cons hx, restP_hit _ _ _ _ h0, from_gap _ hgap]
    simp
theorem OfAt.last {M : List Int} {n k : Int} {i : Nat} {L : List Hk} (h : OfAt M n i k L) (hs : Skip M n k i M.length) (hne : i < M.length ∨ k < n) : OfAt M n M.length n (L ++ [⟨i, (M.length : Int) - i, k, n - k⟩]) := by
  obtain ⟨h1, h2, h3, h4, h5⟩ := h
  obtain ⟨g1, g2, g3, g4⟩ := hs
  refine ⟨Nat.le_refl _, by omega, Int.le_refl _, ?_, ?_⟩
  · rw [List.drop_length]; exact isMatch_nonneg h4
  · rw [← h5, g4, List.drop_length]
    have e : restP n M.length [] = [((M.length : Int), n)] := by simp [restP, preP]
    rw [e, from_gap (a := (i : Int)) (b := k) (i := (M.length : Int)) (k := n) [] (by omega)]
    simp
theorem OfAt.done {M : List Int} {n k : Int} {L : List Hk} (h : OfAt M n M.length k L) (hk : n ≤ k) : L = ofL M n := by
  obtain ⟨h1, h2, h3, h4, h5⟩ := h
  obtain rfl : k = n := by omega
  rw [← h5, List.drop_length]
  simp [restP, preP, from_, gap]
def HunkGives (w : World) (L : List Hk) (e : Ending) (w' : World) : Prop := ∃ v', e = .returned v' ∧ Hunks w' v' L ∧ Below w.heap.size w w'

set_option maxRecDepth 100000 in
set_option maxHeartbeats 4000000 in
theorem RefOf_yes (v : Value) (M : List Int) (n : Int) (w : World) (h1 : Ints w .i64 v M) (hlen : M.length ≤ 1000000) (hn1 : n ≤ 1000000) (hM : isMatch n 0 M) :
    Calls Try.prog 27 #[v, .int .i64 n] w (HunkGives w (ofL M n)) := by
  have hn0 := isMatch_nonneg hM
  have H1 := Lib.hid h1
  obtain ⟨a, cap, rfl, hc, hm, hat⟩ := h1.at
  have Hat := Lib.hid hat; clear hat h1
  obtain ⟨i0, hi0, hz0, hz1, hz2⟩ := info50
  unfold maxLen at hm
  go_enter Try.func27, Try.ntmps27
  go_wp2_with (go_at_call 46; refine (RefMatchIs_any _ M n w H1.out (by omega)).mono ?_; rintro e w1 ⟨⟨c, rfl, hc'⟩, hb⟩; obtain rfl : c = true := hc'.2 hM; clear hc')
  go_loopw [6, 7, 8] (fun p ci ck wr => ∃ (i : Nat) (k : Int) (L : List Hk), ci = .int .i64 i ∧ ck = .int .i64 k ∧ wr.ownsRow w.heap.size 50 4 p L.length (L.flatMap Hk.row) ∧ OfAt M n i k L ∧ Below w.heap.size w wr) (fun _ ci ck _ => (M.length - (intOf ci).toNat) + (n - intOf ck).toNat)
  case atStart => exact ⟨0, 0, [], rfl, rfl, World.ownsRow_nil _ _ _ _, OfAt.start hM, hb⟩
  case round =>
    obtain ⟨i, k, L, rfl, rfl, hown, hof, hB⟩ := hrel
    have hil := hof.1
    have hk0 := hof.2.1
    have hkn := hof.2.2.1
    have hLl := hof.len
    by_cases hend : i = M.length ∧ n ≤ k
    · obtain ⟨rfl, hnk⟩ := hend
      have hfin := hof.done hnk
      have Hfin := Lib.hid hfin; clear hfin
      have d1 : decide (k < n) = false := decide_eq_false (by omega)
      go_wp2_with fail
      go_ret
      exact ⟨_, rfl, by rw [← Hfin.out]; exact own_hunks hown, hB⟩
    by_cases hsame : M[i]? = some k
    · have hl : i < M.length := (List.getElem?_eq_some_iff.1 hsame).1
      obtain ⟨b, off, rfl, hbl, e1⟩ := Hat.out i k hsame
      have c1 : wr.cell? ⟨b, off + i, none⟩ = some (.int .i64 k) := (hB.cell (p := ⟨b, off + i, none⟩) hbl).trans e1
      have hnext := hof.same hsame
      have hk2 := hnext.2.2.1
      have Hn := Lib.hid hnext; clear hnext hsame e1
      go_wp2_with fail
      exact ⟨⟨i + 1, k + 1, L, by go_num, rfl, hown, Hn.out, hB⟩, by simp [intOf]; omega⟩
    · have hbs := hB.size
      have hways : Hid (i < M.length ∨ k < n) := Lib.hid (by omega)
      have hsk : Hid (Skip M n k i i) := Lib.hid ⟨Nat.le_refl _, hil, hof.2.2.2.1, rfl⟩
      have Hsame := Lib.hid hsame; clear hsame
      have Hof := Lib.hid hof; clear hof
      by_cases hl : i < M.length
      · obtain ⟨x, hx⟩ : ∃ x, M[i]? = some x := ⟨_, List.getElem?_eq_getElem hl⟩
        obtain ⟨b, off, rfl, hbl, e1⟩ := Hat.out i x hx
        have c1 : wr.cell? ⟨b, off + i, none⟩ = some (.int .i64 x) := (hB.cell (p := ⟨b, off + i, none⟩) hbl).trans e1
        have d1 : (x == k) = false := by
          rw [beq_eq_false_iff_ne]
          rintro rfl
          exact Hsame.out hx
        clear e1 hx hend
        go_wp2_with fail
        obtain ⟨wo, rfl⟩ : ∃ wo : World, wo = wr := ⟨_, rfl⟩
        go_loop [7] (fun cj => ∃ j : Nat, cj = .int .i64 j ∧ Hid (Skip M n k i j)) (fun cj => M.length - (intOf cj).toNat)
        case atStart => exact ⟨i, rfl, hsk⟩
        case round =>
          obtain ⟨j, rfl, hj⟩ := hrel
          have hjl := hj.out.2.1
          have hij := hj.out.1
          by_cases hlj : j < M.length
          · obtain ⟨y, hy⟩ : ∃ y, M[j]? = some y := ⟨_, List.getElem?_eq_getElem hlj⟩
            obtain ⟨b', off', e0, hbl', e1⟩ := Hat.out j y hy
            have hyn : y < n := isMatch_le hM y (List.mem_of_getElem? hy)
            cases e0
            have c2 : wo.cell? ⟨b, off + j, none⟩ = some (.int .i64 y) := (hB.cell (p := ⟨b, off + j, none⟩) hbl).trans e1
            have hblo : b < wo.heap.size := by have := hB.size; omega
            by_cases hneg : y < 0
            · have d2 : decide (y < 0) = true := decide_eq_true hneg
              have hnx := hj.out.next hy hneg
              have Hnx := Lib.hid hnx; clear hnx e1 hy
              go_wp2_with fail
              go_round
              case rel => exact ⟨j + 1, by go_num, Hnx.out⟩
              case measure => simp [intOf]; omega
            · have d2 : decide (y < 0) = false := decide_eq_false hneg
              have hnx := Hof.out.hunk hj.out hy (by omega) Hsame.out
              have hky := hnx.2.1
              have hnl := hnx.len
              have Hnx := Lib.hid hnx; clear hnx
              have hmea : Hid (((M.length - j) + (n - y).toNat) < ((M.length - i) + (n - k).toNat)) := by
                refine Lib.hid ?_
                have h1 := hj.out.2.2.1
                rw [isMatch_at hy] at h1
                have h2 := h1.2.2.1 (by omega)
                by_cases e : i = j
                · subst e
                  have : y ≠ k := fun e => Hsame.out (by rw [hy, e])
                  omega
                · omega
              have hykk : k ≤ y := by
                have h1 := hj.out.2.2.1
                rw [isMatch_at hy] at h1
                exact h1.2.2.1 (by omega)
              clear e1 hy
              go_wp2_with (at_builtin; refine wpList_append_own _ rfl _ _ 37 rfl w.heap.size 50 i0 _ 4 32 Try.underlying37 hi0 hz0 hz1 hz2 rfl (by decide) _ _ _ rfl ((hown.alloc _).alloc _) ⟨wo.heap.size + 1, 0, none⟩ 1 1 (Hk.row ⟨(i : Int), (j : Int) - i, k, y - k⟩) rfl rfl (row_new2 wo _ ⟨(i : Int), (j : Int) - i, k, y - k⟩ _) (row_one _) (by unfold maxLen; omega) (by omega) (by simp; omega) ?_; intro v' w2 hown' hgrow _)
              have hB2 : Below w.heap.size w w2 := ((hB.alloc hbs _).alloc (by simp; omega) _).grown hgrow (by simp; omega) (fun k hk => (hown.lt k hk).1)
              exact ⟨⟨j, y, _, rfl, rfl, by simpa [List.flatMap_append] using hown', Hnx.out, hB2⟩, by simpa [intOf] using hmea.out⟩
          · obtain rfl : j = M.length := by omega
            have hnx := Hof.out.last hj.out hways.out
            have Hnx := Lib.hid hnx; clear hnx
            have hmea : Hid (((M.length - M.length) + (n - n).toNat) < ((M.length - i) + (n - k).toNat)) := Lib.hid (by have := hways.out; omega)
            go_wp2_with (at_builtin; refine wpList_append_own _ rfl _ _ 37 rfl w.heap.size 50 i0 _ 4 32 Try.underlying37 hi0 hz0 hz1 hz2 rfl (by decide) _ _ _ rfl ((hown.alloc _).alloc _) ⟨wo.heap.size + 1, 0, none⟩ 1 1 (Hk.row ⟨(i : Int), (M.length : Int) - i, k, n - k⟩) rfl rfl (row_new2 wo _ ⟨(i : Int), (M.length : Int) - i, k, n - k⟩ _) (row_one _) (by unfold maxLen; omega) (by omega) (by simp; omega) ?_; intro v' w2 hown' hgrow _)
            have hB2 : Below w.heap.size w w2 := ((hB.alloc hbs _).alloc (by simp; omega) _).grown hgrow (by simp; omega) (fun k hk => (hown.lt k hk).1)
            exact ⟨⟨M.length, n, _, rfl, rfl, by simpa [List.flatMap_append] using hown', Hnx.out, hB2⟩, by simpa [intOf] using hmea.out⟩
      · obtain rfl : i = M.length := by omega
        have d1 : decide (k < n) = true := decide_eq_true (by omega)
        clear hend
        go_wp2_with fail
        obtain ⟨wo, rfl⟩ : ∃ wo : World, wo = wr := ⟨_, rfl⟩
        go_loop [7] (fun cj => cj = .int .i64 (M.length : Nat)) (fun _ => 0)
        case atStart => rfl
        case round =>
          subst hrel
          have hnx := Hof.out.last hsk.out hways.out
          have Hnx := Lib.hid hnx; clear hnx
          have hmea : Hid (((M.length - M.length) + (n - n).toNat) < ((M.length - M.length) + (n - k).toNat)) := Lib.hid (by have := hways.out; omega)
          go_wp2_with (at_builtin; refine wpList_append_own _ rfl _ _ 37 rfl w.heap.size 50 i0 _ 4 32 Try.underlying37 hi0 hz0 hz1 hz2 rfl (by decide) _ _ _ rfl ((hown.alloc _).alloc _) ⟨wo.heap.size + 1, 0, none⟩ 1 1 (Hk.row ⟨(M.length : Int), 0, k, n - k⟩) rfl rfl (row_new2 wo _ ⟨(M.length : Int), 0, k, n - k⟩ _) (row_one _) (by unfold maxLen; omega) (by omega) (by simp; omega) ?_; intro v' w2 hown' hgrow _)
          have hB2 : Below w.heap.size w w2 := ((hB.alloc hbs _).alloc (by simp; omega) _).grown hgrow (by simp; omega) (fun k hk => (hown.lt k hk).1)
          exact ⟨⟨M.length, n, L ++ [⟨(M.length : Int), 0, k, n - k⟩], rfl, rfl, by simpa [List.flatMap_append] using hown', by have := Hnx.out; rwa [Int.sub_self] at this, hB2⟩, by simpa [intOf] using hmea.out⟩

set_option maxHeartbeats 1000000 in
theorem RefOf_no (v : Value) (M : List Int) (n : Int) (w : World) (h1 : Ints w .i64 v M) (hn1 : n ≤ 1000000) (hM : ¬ isMatch n 0 M) :
    Calls Try.prog 27 #[v, .int .i64 n] w fun e W' => ∃ v', e = .returned v' ∧ Hunks W' v' [] ∧ Below w.heap.size w W' := by
  have H1 := Lib.hid h1; clear h1
  go_enter Try.func27, Try.ntmps27
  go_wp2_with (go_at_call 46; refine (RefMatchIs_any _ M n w H1.out (by omega)).mono ?_; rintro e w1 ⟨⟨c, rfl, hc'⟩, hb⟩; obtain rfl : c = false := Bool.eq_false_iff.2 (fun h => hM (hc'.1 h)); clear hc')
  go_ret
  exact ⟨_, rfl, ⟨none, 0, rfl, Nat.le_refl _, Nat.zero_le _, by simp⟩, hb⟩
theorem RefOf_any (v : Value) (M : List Int) (n : Int) (w : World) (h1 : Ints w .i64 v M) (hlen : M.length ≤ 1000000) (hn1 : n ≤ 1000000) :
    Calls Try.prog 27 #[v, .int .i64 n] w (HunkGives w (hunksOf M n)) := by
  unfold hunksOf
  by_cases h : isMatch n 0 M
  · rw [if_pos h]; exact RefOf_yes v M n w h1 hlen hn1 h
  · rw [if_neg h]; exact RefOf_no v M n w h1 hn1 h
end Go.Proofs.Ythligkdncddmpaa
