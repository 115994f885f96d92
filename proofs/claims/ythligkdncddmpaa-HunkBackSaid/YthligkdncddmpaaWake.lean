/-
  For the laws of lcs: Texts, Percent, whether two rows are the same, and the document's example. Conditions: at most 1,000,000 things each; each text no longer than any text may be.
-/
import Derived.Test.YthligkdncddmpaaNums
namespace Go.Proofs.Ythligkdncddmpaa
open Go.RowKit

set_option maxRecDepth 100000 in
set_option maxHeartbeats 4000000 in
theorem Same_yes (v1 v2 : Value) (xs : List Int) (w : World) (h1 : Ints w .i64 v1 xs) (h2 : Ints w .i64 v2 xs) : Calls Try.prog 13 #[v1, v2] w fun e w' => e = .returned (.bool true) ∧ Below w.heap.size w w' := by
  obtain ⟨a1, c1, rfl, hc1, hm1, at1⟩ := h1.at
  obtain ⟨a2, c2, rfl, hc2, hm2, at2⟩ := h2.at
  have A1 := Lib.hid at1; clear at1
  have A2 := Lib.hid at2; clear at2
  have hn : xs.length ≤ 9223372036854775807 := by unfold maxLen at hm1; omega
  clear h1 h2 hc1 hm1 hc2 hm2
  go_enter Try.func13, Try.ntmps13
  go_wp2
  go_loopw [5] (fun c wr => ∃ k : Nat, k ≤ xs.length ∧ c = .int .i64 k ∧ Below w.heap.size w wr) (fun c _ => xs.length - (intOf c).toNat)
  case atStart => exact ⟨0, Nat.zero_le _, rfl, Below.refl _ _⟩
  case round =>
    obtain ⟨k, hk, rfl, hB⟩ := hrel
    by_cases hlt : k < xs.length
    · obtain ⟨x, hx⟩ : ∃ x, Hid (xs[k]? = some x) := ⟨xs[k], Lib.hid (List.getElem?_eq_getElem hlt)⟩
      obtain ⟨b1, o1, rfl, l1, e1⟩ := A1.out k x hx.out
      obtain ⟨b2, o2, rfl, l2, e2⟩ := A2.out k x hx.out
      have g1 : wr.cell? ⟨b1, o1 + k, none⟩ = some (.int .i64 x) := (hB.cell (p := ⟨b1, o1 + k, none⟩) l1).trans e1
      have g2 : wr.cell? ⟨b2, o2 + k, none⟩ = some (.int .i64 x) := (hB.cell (p := ⟨b2, o2 + k, none⟩) l2).trans e2
      have Hb := Lib.hid hB
      clear e1 e2 hB
      go_wp2_with fail
      go_quiet (fail)
      go_wp2_with fail
      exact ⟨⟨k + 1, by omega, by go_num, below_draws Hb.out _⟩, by simp [intOf]; omega⟩
    · obtain rfl : k = xs.length := by omega
      go_wp2
      go_ret
      exact ⟨rfl, hB⟩

/-- What Percent tells. -/
def percentOf (a b : List Int) : Int := if a.length + b.length = 0 then 100 else 200 * lenOf a b / ((a.length : Int) + b.length)
theorem lenOf_bd (a b : List Int) : 0 ≤ lenOf a b ∧ lenOf a b ≤ 2 * a.length := by
  unfold lenOf
  have h1 := pfx_le a b
  have h2 := sfx_le a b
  have h3 := lc_le_left a b
  split <;> omega
set_option maxRecDepth 100000 in
set_option maxHeartbeats 4000000 in
theorem Percent_any (v1 v2 : Value) (xs ys : List Int) (w : World) (h1 : Ints w .i64 v1 xs) (h2 : Ints w .i64 v2 ys) (hl1 : xs.length ≤ 1000000) (hl2 : ys.length ≤ 1000000) :
    Calls Try.prog 18 #[v1, v2] w fun e w' => e = .returned (.int .i64 (percentOf xs ys)) ∧ Below w.heap.size w w' := by
  obtain ⟨a1, c1, rfl, -, -, -⟩ := h1.at
  obtain ⟨a2, c2, rfl, -, -, -⟩ := h2.at
  have hbd := lenOf_bd xs ys
  by_cases h0 : xs.length + ys.length = 0
  · have hp : percentOf xs ys = 100 := if_pos h0
    rw [hp]
    have hd : ((xs.length : Int) + (ys.length : Int) == 0) = true := by simp; omega
    clear h0 hp
    go_enter Try.func18, Try.ntmps18
    go_wp2_with fail
    go_ret
    exact ⟨rfl, Below.refl _ _⟩
  · have hp : percentOf xs ys = 200 * lenOf xs ys / ((xs.length : Int) + ys.length) := if_neg h0
    rw [hp]
    have hd : ((xs.length : Int) + (ys.length : Int) == 0) = false := by simp; omega
    have hpos : 1 ≤ (xs.length : Int) + (ys.length : Int) := by omega
    clear hp
    go_enter Try.func18, Try.ntmps18
    go_wp2_with fail
    refine (Length_any _ _ xs ys _ h1 h2 hl1 hl2).mono ?_
    rintro e w1 ⟨rfl, b1⟩
    go_wp2_with fail
    go_ret
    exact ⟨rfl, b1⟩

/-- What Texts tells. -/
def textsOf (a b : List ByteArray) : List Int := matchOf (numRow [] a) (numRow (knownBy [] a) b)
theorem Gives.ints {w w' : World} {l : List Int} {e : Ending} (h : Gives w l e w') (hl : l.length ≤ maxLen) : ∃ v, e = .returned v ∧ Ints w' .i64 v l ∧ Below w.heap.size w w' := by
  obtain ⟨g, rfl, h1, h2, h3⟩ := h
  exact ⟨_, rfl, ints_of_row h2 hl, h3⟩
set_option maxRecDepth 100000 in
set_option maxHeartbeats 4000000 in
theorem Texts_any (v1 v2 : Value) (a b : List ByteArray) (w : World) (h1 : Vals w v1 (a.map .string)) (h2 : Vals w v2 (b.map .string)) (hl1 : a.length ≤ 1000000) (hl2 : b.length ≤ 1000000) (hs1 : ∀ s ∈ a, s.size ≤ maxLen) (hs2 : ∀ s ∈ b, s.size ≤ maxLen) :
    Calls Try.prog 22 #[v1, v2] w (Gives w (textsOf a b)) := by
  obtain ⟨p1, k1, rfl, -, -, -⟩ := h1.at
  obtain ⟨p2, k2, rfl, -, -, -⟩ := h2.at
  generalize (a.map Value.string).length = z1 at h1 ⊢
  generalize (b.map Value.string).length = z2 at h2 ⊢
  have bA : Below w.heap.size w (w.alloc (.cells #[.slice p1 z1 k1, .slice p2 z2 k2] 27)) := (Below.refl _ _).alloc (Nat.le_refl _) _
  have hv : Vals (w.alloc (.cells #[.slice p1 z1 k1, .slice p2 z2 k2] 27)) (.slice (some ⟨w.heap.size, 0, none⟩) 2 2) [.slice p1 z1 k1, .slice p2 z2 k2] := vals_of_row (vs := [.slice p1 z1 k1, .slice p2 z2 k2]) (RowAt.new _ _ _) (by simp [maxLen])
  have g1 := h1.below bA
  have g2 := h2.below bA
  have Hv := Lib.hid hv; clear hv
  have HB := Lib.hid bA; clear bA
  go_enter Try.func22, Try.ntmps22
  go_wp2_with fail
  refine (Numbers_any _ [.slice p1 z1 k1, .slice p2 z2 k2] [a, b] _ Hv.out rfl (fun j x ss hx hs => ?_) (by simp)).mono ?_
  · match j with
    | 0 => simp at hx hs; subst hx hs; exact ⟨g1, hl1, hs1⟩
    | 1 => simp at hx hs; subst hx hs; exact ⟨g2, hl2, hs2⟩
    | j + 2 => simp at hx
  rintro e w1 ⟨v, vals, rfl, hvals, ⟨hvl, hout⟩, b1⟩
  obtain ⟨q0, e0, r0⟩ := hout 0 (numRow [] a) rfl
  obtain ⟨q1, e1, r1⟩ := hout 1 (numRow (knownBy [] a) b) rfl
  have i0 : Ints w1 .i64 (.slice (some ⟨q0, 0, none⟩) (numRow [] a).length (numRow [] a).length) (numRow [] a) := ints_of_row r0 (by rw [numRow_length]; unfold maxLen; omega)
  have i1 : Ints w1 .i64 (.slice (some ⟨q1, 0, none⟩) (numRow (knownBy [] a) b).length (numRow (knownBy [] a) b).length) (numRow (knownBy [] a) b) := ints_of_row r1 (by rw [numRow_length]; unfold maxLen; omega)
  obtain ⟨av, cv, rfl, -, -, hat⟩ := hvals.at
  rw [show vals.length = 2 from hvl]
  obtain ⟨bb, oo, rfl, -, c0⟩ := hat 0 _ e0
  obtain ⟨bb', oo', hh, -, c1⟩ := hat 1 _ e1
  cases hh
  rw [Nat.add_zero] at c0
  have n0 : (numRow [] a).length ≤ 1000000 := by rw [numRow_length]; exact hl1
  have n1 : (numRow (knownBy [] a) b).length ≤ 1000000 := by rw [numRow_length]; exact hl2
  have b2 : Below w.heap.size w w1 := HB.out.trans (b1.mono (by simp))
  clear hout hat e0 e1 r0 r1 hvals b1
  have I0 := Lib.hid i0; clear i0
  have I1 := Lib.hid i1; clear i1
  have Hb2 := Lib.hid b2; clear b2
  have htx : textsOf a b = matchOf (numRow [] a) (numRow (knownBy [] a) b) := rfl
  generalize numRow [] a = x0 at c0 n0 I0 htx
  generalize numRow (knownBy [] a) b = x1 at c1 n1 I1 htx
  have Htx := Lib.hid htx; clear htx
  go_wp2_with fail
  go_still_tail 6, (by kernel_rfl)
  change wpList _ _ _ _ _ w1.drew
  obtain ⟨V, hV⟩ : ∃ V, Hid (w1.drew = V) := ⟨_, Lib.hid rfl⟩
  have J0 : Hid (Ints V .i64 (.slice (some ⟨q0, 0, none⟩) x0.length x0.length) x0) := by rw [← hV.out]; exact I0
  have J1 : Hid (Ints V .i64 (.slice (some ⟨q1, 0, none⟩) x1.length x1.length) x1) := by rw [← hV.out]; exact I1
  have HbV : Hid (Below w.heap.size w V) := by rw [← hV.out]; exact Lib.hid (below_draws Hb2.out 1)
  rw [hV.out]
  clear hV I0 I1 Hb2 c0 c1
  go_wp2_with fail
  refine (Match_any _ _ _ _ _ J0.out J1.out n0 n1).mono ?_
  rintro e w2 ⟨g, rfl, hg, hr, hb⟩
  rw [← Htx.out] at hr
  have hlm : (matchOf x0 x1).length = (textsOf a b).length := by rw [Htx.out]
  rw [hlm]
  have Hr := Lib.hid hr; clear hr
  have hgw : w.heap.size ≤ g := by have := HbV.out.size; omega
  have hbw := HbV.out.trans (hb.mono HbV.out.size)
  clear hlm hb hg
  go_wp2_with fail
  go_ret
  exact ⟨g, rfl, hgw, Hr.out, hbw⟩

/-- Two new rows of numbers. -/
theorem two_ints (W : World) (xs ys : List Int) (hx : xs.length ≤ maxLen) (hy : ys.length ≤ maxLen) :
    Ints ((W.alloc (.cells (xs.map (Value.int .i64)).toArray 3)).alloc (.cells (ys.map (Value.int .i64)).toArray 3)) .i64 (.slice (some ⟨W.heap.size, 0, none⟩) xs.length xs.length) xs ∧
      Ints ((W.alloc (.cells (xs.map (Value.int .i64)).toArray 3)).alloc (.cells (ys.map (Value.int .i64)).toArray 3)) .i64 (.slice (some ⟨W.heap.size + 1, 0, none⟩) ys.length ys.length) ys ∧
      Below W.heap.size W ((W.alloc (.cells (xs.map (Value.int .i64)).toArray 3)).alloc (.cells (ys.map (Value.int .i64)).toArray 3)) := by
  refine ⟨ints_of_row ((RowAt.new W 3 _).alloc _) hx, ?_, ((Below.refl _ W).alloc (Nat.le_refl _) _).alloc (by simp) _⟩
  have h := RowAt.new (W.alloc (.cells (xs.map (Value.int .i64)).toArray 3)) 3 (ys.map (Value.int .i64)).toArray
  rw [World.size_alloc] at h
  exact ints_of_row h hy
theorem one_ints (W : World) (xs : List Int) (hx : xs.length ≤ maxLen) :
    Ints (W.alloc (.cells (xs.map (Value.int .i64)).toArray 3)) .i64 (.slice (some ⟨W.heap.size, 0, none⟩) xs.length xs.length) xs ∧ Below W.heap.size W (W.alloc (.cells (xs.map (Value.int .i64)).toArray 3)) :=
  ⟨ints_of_row (RowAt.new W 3 _) hx, (Below.refl _ W).alloc (Nat.le_refl _) _⟩
/-- Two new rows of texts. -/
theorem two_strs (W : World) (xs ys : List ByteArray) (hx : xs.length ≤ maxLen) (hy : ys.length ≤ maxLen) :
    Vals ((W.alloc (.cells (xs.map Value.string).toArray 9)).alloc (.cells (ys.map Value.string).toArray 9)) (.slice (some ⟨W.heap.size, 0, none⟩) xs.length xs.length) (xs.map Value.string) ∧
      Vals ((W.alloc (.cells (xs.map Value.string).toArray 9)).alloc (.cells (ys.map Value.string).toArray 9)) (.slice (some ⟨W.heap.size + 1, 0, none⟩) ys.length ys.length) (ys.map Value.string) ∧
      Below W.heap.size W ((W.alloc (.cells (xs.map Value.string).toArray 9)).alloc (.cells (ys.map Value.string).toArray 9)) := by
  refine ⟨?_, ?_, ((Below.refl _ W).alloc (Nat.le_refl _) _).alloc (by simp) _⟩
  · have h := vals_of_row (vs := xs.map Value.string) ((RowAt.new W 9 (xs.map Value.string).toArray).alloc (.cells (ys.map Value.string).toArray 9)) (by rw [List.length_map]; exact hx)
    rw [List.length_map] at h
    exact h
  · have h := RowAt.new (W.alloc (.cells (xs.map Value.string).toArray 9)) 9 (ys.map Value.string).toArray
    rw [World.size_alloc] at h
    have h2 := vals_of_row h (by rw [List.length_map]; exact hy)
    rw [List.length_map] at h2
    exact h2
theorem ex_match : matchOf [1, 2, 3, 2] [2, 3, 1, 2] = [-1, 0, 1, 3] := by
  unfold matchOf
  rw [if_neg (by simp)]
  simp [gm, lc]
theorem ex_len : lenOf [1, 2, 3, 2] [2, 3, 1, 2] = 3 := by
  rw [lenOf_small (by simp) (by simp)]
  simp [lc]
theorem ex_percent : percentOf [1, 2, 3, 2] [2, 3, 1, 2] = 75 := by
  unfold percentOf
  rw [ex_len]
  decide
theorem ex_texts : textsOf [⟨#[120]⟩] [⟨#[121]⟩, ⟨#[120]⟩] = [1] := by
  have h1 : numRow [] [⟨#[120]⟩] = [0] := by decide
  have h2 : numRow (knownBy [] [⟨#[120]⟩]) [⟨#[121]⟩, ⟨#[120]⟩] = [1, 0] := by decide
  unfold textsOf
  rw [h1, h2]
  unfold matchOf
  rw [if_neg (by simp)]
  simp [gm, lc]
theorem ex_nums : numRows [] [[⟨#[98]⟩, ⟨#[97]⟩], [⟨#[97]⟩, ⟨#[99]⟩]] = [[0, 1], [1, 2]] := by decide
end Go.Proofs.Ythligkdncddmpaa
