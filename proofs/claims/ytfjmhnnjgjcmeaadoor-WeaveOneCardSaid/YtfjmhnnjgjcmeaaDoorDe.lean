/-
  For the laws of weave: the chunks of three rows of texts. Condition: rows of at most 2,000 texts.
-/
import Derived.Test.YtfjmhnnjgjcmeaaDoorDd
import Derived.Test.YtfjmhnnjgjcmeaaDoorLNums
import Derived.StillTailTactics
namespace Go.Proofs.YtfjmhnnjgjcmeaaDoor.L
open Go.RowKit Go.Shelf
set_option linter.unusedSimpArgs false
set_option linter.unusedVariables false

theorem good_isMatch : ∀ (l a b : List Int) (k : Int), 0 ≤ k → good l a b k → isMatch (k + b.length) k l ∧ l.length = a.length ∧ ∀ (i : Nat) (x : Int), l[i]? = some x → 0 ≤ x → k ≤ x ∧ a[i]? = b[(x - k).toNat]?
  | [], [], b, k, hk, _ => ⟨by show 0 ≤ k + b.length; omega, rfl, by simp⟩
  | m :: l, x :: a, b, k, hk, h => by
    rcases h with ⟨h1, h2⟩ | ⟨h1, h2, h3, h4⟩
    · obtain ⟨g1, g2, g3⟩ := good_isMatch l a b k hk h2
      refine ⟨⟨by omega, by omega, by omega, by rw [if_neg (by omega)]; exact g1⟩, by simp [g2], ?_⟩
      intro i y hy h0
      cases i with
      | zero => simp at hy; omega
      | succ i => simpa using g3 i y (by simpa using hy) h0
    · obtain ⟨g1, g2, g3⟩ := good_isMatch l a (b.drop ((m - k).toNat + 1)) (m + 1) (by omega) h4
      have e : m + 1 + ((b.drop ((m - k).toNat + 1)).length : Int) = k + b.length := by rw [List.length_drop]; omega
      rw [e] at g1
      refine ⟨⟨by omega, h2, fun _ => h1, by rw [if_pos (by omega)]; exact g1⟩, by simp [g2], ?_⟩
      intro i y hy h0
      cases i with
      | zero =>
        obtain rfl : m = y := by simpa using hy
        exact ⟨h1, by rw [h3]; rfl⟩
      | succ i =>
        obtain ⟨q1, q2⟩ := g3 i y (by simpa using hy) h0
        refine ⟨by omega, ?_⟩
        rw [List.getElem?_cons_succ, q2, List.getElem?_drop]
        congr 1
        omega
  | [], _ :: _, _, _, _, h => h.elim
  | _ :: _, [], _, _, _, h => h.elim
/-- The match of two rows that are not too long rises, and matches what is alike. -/
theorem match_ok {a b : List Int} (ha : a.length ≤ 2000) (hb : b.length ≤ 2000) : isMatch b.length 0 (matchOf a b) ∧ ∀ (i : Nat) (x : Int), (matchOf a b)[i]? = some x → 0 ≤ x → a[i]? = b[x.toNat]? := by
  have hm : matchOf a b = gm a b 0 := by unfold matchOf; rw [if_neg (by omega)]
  have hg := gm_good a b 0
  rw [← hm] at hg
  obtain ⟨g1, g2, g3⟩ := good_isMatch _ _ _ 0 (Int.le_refl _) hg
  refine ⟨by simpa using g1, fun i x hx h0 => ?_⟩
  have := (g3 i x hx h0).2
  rwa [Int.sub_zero] at this
/-- The numbers of three rows of texts. -/
def num3 (o a b : List ByteArray) : List Int × List Int × List Int := (numRow [] o, numRow (knownBy [] o) a, numRow (knownBy (knownBy [] o) a) b)
def chunksT (o a b : List ByteArray) : List Ck := chunksOf (num3 o a b).1 (num3 o a b).2.1 (num3 o a b).2.2

set_option maxRecDepth 100000 in
set_option maxHeartbeats 4000000 in
theorem Parts_any (v1 v2 v3 : Value) (o a b : List ByteArray) (w : World) (h1 : Vals w v1 (o.map .string)) (h2 : Vals w v2 (a.map .string)) (h3 : Vals w v3 (b.map .string)) (hl1 : o.length ≤ 2000) (hl2 : a.length ≤ 2000) (hl3 : b.length ≤ 2000) (hs1 : ∀ s ∈ o, s.size ≤ maxLen) (hs2 : ∀ s ∈ a, s.size ≤ maxLen) (hs3 : ∀ s ∈ b, s.size ≤ maxLen) :
    Calls Tryd.prog 28 #[v1, v2, v3] w fun e w' => ∃ v, e = .returned v ∧ w'.ownsRow w.heap.size 71 7 v (chunksT o a b).length (fck (chunksT o a b)) ∧ Below w.heap.size w w' := by
  obtain ⟨p1, k1, rfl, -, -, -⟩ := h1.at
  obtain ⟨p2, k2, rfl, -, -, -⟩ := h2.at
  obtain ⟨p3, k3, rfl, -, -, -⟩ := h3.at
  generalize (o.map Value.string).length = z1 at h1 ⊢
  generalize (a.map Value.string).length = z2 at h2 ⊢
  generalize (b.map Value.string).length = z3 at h3 ⊢
  have bA : Below w.heap.size w (w.alloc (.cells #[.slice p1 z1 k1, .slice p2 z2 k2, .slice p3 z3 k3] 33)) := (Below.refl _ _).alloc (Nat.le_refl _) _
  have hv : Vals (w.alloc (.cells #[.slice p1 z1 k1, .slice p2 z2 k2, .slice p3 z3 k3] 33)) (.slice (some ⟨w.heap.size, 0, none⟩) 3 3) [.slice p1 z1 k1, .slice p2 z2 k2, .slice p3 z3 k3] := vals_of_row (vs := [.slice p1 z1 k1, .slice p2 z2 k2, .slice p3 z3 k3]) (RowAt.new _ _ _) (by simp [maxLen])
  have g1 := h1.below bA
  have g2 := h2.below bA
  have g3 := h3.below bA
  have Hv := Lib.hid hv; clear hv
  have HB := Lib.hid bA; clear bA
  go_enter Tryd.func28, Tryd.ntmps28
  go_wp2_with fail
  refine (Numbers_any _ [.slice p1 z1 k1, .slice p2 z2 k2, .slice p3 z3 k3] [o, a, b] _ Hv.out rfl (fun j x ss hx hs => ?_) (by simp)).mono ?_
  · match j with
    | 0 => simp at hx hs; subst hx hs; exact ⟨g1, by omega, hs1⟩
    | 1 => simp at hx hs; subst hx hs; exact ⟨g2, by omega, hs2⟩
    | 2 => simp at hx hs; subst hx hs; exact ⟨g3, by omega, hs3⟩
    | j + 3 => simp at hx
  rintro e w1 ⟨v, vals, rfl, hvals, ⟨hvl, hout⟩, b1⟩
  obtain ⟨q0, e0, r0⟩ := hout 0 (numRow [] o) rfl
  obtain ⟨q1, e1, r1⟩ := hout 1 (numRow (knownBy [] o) a) rfl
  obtain ⟨q2, e2, r2⟩ := hout 2 (numRow (knownBy (knownBy [] o) a) b) rfl
  have i0 : Ints w1 .i64 (.slice (some ⟨q0, 0, none⟩) (numRow [] o).length (numRow [] o).length) (numRow [] o) := ints_of_row r0 (by rw [numRow_length]; unfold maxLen; omega)
  have i1 : Ints w1 .i64 (.slice (some ⟨q1, 0, none⟩) (numRow (knownBy [] o) a).length (numRow (knownBy [] o) a).length) (numRow (knownBy [] o) a) := ints_of_row r1 (by rw [numRow_length]; unfold maxLen; omega)
  have i2 : Ints w1 .i64 (.slice (some ⟨q2, 0, none⟩) (numRow (knownBy (knownBy [] o) a) b).length (numRow (knownBy (knownBy [] o) a) b).length) (numRow (knownBy (knownBy [] o) a) b) := ints_of_row r2 (by rw [numRow_length]; unfold maxLen; omega)
  obtain ⟨av, cv, rfl, -, -, hat⟩ := hvals.at
  rw [show vals.length = 3 from hvl]
  obtain ⟨bb, oo, rfl, -, c0⟩ := hat 0 _ e0
  obtain ⟨bb', oo', hh, -, c1⟩ := hat 1 _ e1
  cases hh
  obtain ⟨bb', oo', hh, -, c2⟩ := hat 2 _ e2
  cases hh
  rw [Nat.add_zero] at c0
  have n0 : (numRow [] o).length ≤ 2000 := by rw [numRow_length]; exact hl1
  have n1 : (numRow (knownBy [] o) a).length ≤ 2000 := by rw [numRow_length]; exact hl2
  have n2 : (numRow (knownBy (knownBy [] o) a) b).length ≤ 2000 := by rw [numRow_length]; exact hl3
  have b2 : Below w.heap.size w w1 := HB.out.trans (b1.mono (by simp))
  clear hout hat e0 e1 e2 r0 r1 r2 hvals b1
  have I0 := Lib.hid i0; clear i0
  have I1 := Lib.hid i1; clear i1
  have I2 := Lib.hid i2; clear i2
  have Hb2 := Lib.hid b2; clear b2
  have htx : chunksT o a b = chunksOf (numRow [] o) (numRow (knownBy [] o) a) (numRow (knownBy (knownBy [] o) a) b) := rfl
  generalize numRow [] o = x0 at c0 n0 I0 htx
  generalize numRow (knownBy [] o) a = x1 at c1 n1 I1 htx
  generalize numRow (knownBy (knownBy [] o) a) b = x2 at c2 n2 I2 htx
  have Htx := Lib.hid htx; clear htx
  go_wp2_with fail
  go_still_tail 9, (by kernel_rfl)
  change wpList _ _ _ _ _ w1.drew
  obtain ⟨V, hV⟩ : ∃ V, Hid (w1.drew = V) := ⟨_, Lib.hid rfl⟩
  have J0 : Hid (Ints V .i64 (.slice (some ⟨q0, 0, none⟩) x0.length x0.length) x0) := by rw [← hV.out]; exact I0
  have J1 : Hid (Ints V .i64 (.slice (some ⟨q1, 0, none⟩) x1.length x1.length) x1) := by rw [← hV.out]; exact I1
  have J2 : Hid (Ints V .i64 (.slice (some ⟨q2, 0, none⟩) x2.length x2.length) x2) := by rw [← hV.out]; exact I2
  have HbV : Hid (Below w.heap.size w V) := by rw [← hV.out]; exact Lib.hid (below_draws Hb2.out 1)
  rw [hV.out]
  clear hV I0 I1 I2 Hb2 c0 c1 c2
  go_wp2_with fail
  refine ((callsIn_wide (n := 3)).1 (Chunks_in 3 (Nat.le_refl _) V _ _ _ x0 x1 x2 J0.out J1.out J2.out (by omega) (by omega) (by omega) (match_ok n0 n1).1 (match_ok n0 n2).1)).mono ?_
  rintro e w2 ⟨u, rfl, hown, hb⟩
  have hs := HbV.out.size
  have Hown := Lib.hid (own_low hown hs)
  have Hb3 := Lib.hid (HbV.out.trans (hb.mono hs))
  clear hown hb hs
  go_wp2_with fail
  go_ret
  exact ⟨_, rfl, by rw [Htx.out]; exact Hown.out, Hb3.out⟩
end Go.Proofs.YtfjmhnnjgjcmeaaDoor.L
