/-
  For the laws of hunk: the hunks between two rows of texts; the document's example. Condition: at most 2,000 texts each.
-/
import Derived.Test.YthligkdncddmpaaHzb
import Derived.Test.YthligkdncddmpaaNumbers
import Derived.Test.YthligkdncddmpaaHq
import Derived.Test.YthligkdncddmpaaHs
import Derived.Test.YthligkdncddmpaaHt
import Derived.Test.YthligkdncddmpaaHu
import Derived.Test.YthligkdncddmpaaAwake
namespace Go.Proofs.Ythligkdncddmpaa
open Go.RowKit

set_option maxRecDepth 100000 in
set_option maxHeartbeats 4000000 in
theorem HTexts_any (v1 v2 : Value) (a b : List ByteArray) (w : World) (h1 : Vals w v1 (a.map .string)) (h2 : Vals w v2 (b.map .string)) (hl1 : a.length ≤ 2000) (hl2 : b.length ≤ 2000) (hs1 : ∀ s ∈ a, s.size ≤ maxLen) (hs2 : ∀ s ∈ b, s.size ≤ maxLen) :
    Calls Try.prog 28 #[v1, v2] w (HunkGives w (textHunks a b)) := by
  obtain ⟨p2, k2, e2, -, -, -⟩ := h2.at
  rw [List.length_map] at e2
  subst e2
  have H1 := Lib.hid h1; clear h1
  have H2 := Lib.hid h2; clear h2
  have S1 := Lib.hid hs1; clear hs1
  have S2 := Lib.hid hs2; clear hs2
  have hml := (texts_match hl1 hl2).2.1
  have Hml := Lib.hid hml; clear hml
  go_enter Try.func28, Try.ntmps28
  go_wp2_with fail
  refine (Texts_any _ _ a b w H1.out H2.out (by omega) (by omega) S1.out S2.out).mono ?_
  rintro e w1 ⟨g, rfl, -, r1, b1⟩
  have hI := ints_of_row r1 (by rw [Hml.out]; unfold maxLen; omega)
  have HI := Lib.hid hI; clear hI r1
  go_wp2_with fail
  refine (Of_any _ (textsOf a b) b.length w1 HI.out (by rw [Hml.out]; omega) (by omega)).mono ?_
  rintro e w2 ⟨v', rfl, hH, b2⟩
  rw [hunks_texts hl1 hl2] at hH
  have HH := Lib.hid hH; clear hH
  have B2 := b1.trans (b2.mono b1.size)
  clear b1 b2
  go_wp2_with fail
  go_ret
  exact ⟨_, rfl, HH.out, B2⟩
set_option maxRecDepth 100000 in
set_option maxHeartbeats 4000000 in
theorem RefHTexts_any (v1 v2 : Value) (a b : List ByteArray) (w : World) (h1 : Vals w v1 (a.map .string)) (h2 : Vals w v2 (b.map .string)) (hl1 : a.length ≤ 2000) (hl2 : b.length ≤ 2000) (hs1 : ∀ s ∈ a, s.size ≤ maxLen) (hs2 : ∀ s ∈ b, s.size ≤ maxLen) :
    Calls Try.prog 29 #[v1, v2] w (HunkGives w (textHunks a b)) := by
  obtain ⟨p2, k2, e2, -, -, -⟩ := h2.at
  rw [List.length_map] at e2
  subst e2
  have H1 := Lib.hid h1; clear h1
  have H2 := Lib.hid h2; clear h2
  have S1 := Lib.hid hs1; clear hs1
  have S2 := Lib.hid hs2; clear hs2
  have hml := (texts_match hl1 hl2).2.1
  have Hml := Lib.hid hml; clear hml
  go_enter Try.func29, Try.ntmps29
  go_wp2_with fail
  refine (RefTexts_any _ _ a b w H1.out H2.out (by omega) (by omega) S1.out S2.out).mono ?_
  rintro e w1 ⟨v, rfl, hI, b1⟩
  have HI := Lib.hid hI; clear hI
  go_wp2_with fail
  refine (RefOf_any _ (textsOf a b) b.length w1 HI.out (by rw [Hml.out]; omega) (by omega)).mono ?_
  rintro e w2 ⟨v', rfl, hH, b2⟩
  rw [hunks_texts hl1 hl2] at hH
  have HH := Lib.hid hH; clear hH
  have B2 := b1.trans (b2.mono b1.size)
  clear b1 b2
  go_wp2_with fail
  go_ret
  exact ⟨_, rfl, HH.out, B2⟩

/-- What the hunks of two rows of texts are good for. -/
theorem texts_may {a b : List ByteArray} (ha : a.length ≤ 2000) (hb : b.length ≤ 2000) : may a.length b.length 0 0 True (textHunks a b) := by
  unfold textHunks
  rw [ofL_from]
  exact may_from a b _ 0 0 0 0 True (texts_ok ha hb) (Int.le_refl _) rfl (fun _ => trivial)
theorem texts_patched {a b : List ByteArray} (ha : a.length ≤ 2000) (hb : b.length ≤ 2000) : patched a b 0 (textHunks a b) = b := by
  unfold textHunks
  rw [ofL_from]
  exact patched_from a b _ 0 0 0 0 (texts_ok ha hb) (Nat.le_refl _) (Nat.le_refl _) rfl (by simp)
theorem texts_turn_may {a b : List ByteArray} (ha : a.length ≤ 2000) (hb : b.length ≤ 2000) : may b.length a.length 0 0 True ((textHunks a b).map Hk.turn) := by
  unfold textHunks
  rw [ofL_from, from_swap]
  exact may_from b a _ 0 0 0 0 True (okP_swap (texts_ok ha hb)) (Int.le_refl _) rfl (fun _ => trivial)
theorem texts_turn_patched {a b : List ByteArray} (ha : a.length ≤ 2000) (hb : b.length ≤ 2000) : patched b a 0 ((textHunks a b).map Hk.turn) = a := by
  unfold textHunks
  rw [ofL_from, from_swap]
  exact patched_from b a _ 0 0 0 0 (okP_swap (texts_ok ha hb)) (Nat.le_refl _) (Nat.le_refl _) rfl (by simp)
theorem texts_wf {a b : List ByteArray} (ha : a.length ≤ 2000) (hb : b.length ≤ 2000) : ∀ h ∈ textHunks a b, h.wf ∧ 0 ≤ h.an ∧ 0 ≤ h.bn ∧ 0 < h.an + h.bn := by
  unfold textHunks
  rw [ofL_from]
  exact wf_from a b (by omega) (by omega) _ 0 0 (texts_ok ha hb) (Int.le_refl _) (Int.le_refl _)
theorem turn_wf {h : Hk} (hw : h.wf) : h.turn.wf := by
  simp only [Hk.wf, Hk.turn] at hw ⊢
  omega
theorem texts_turn_wf {a b : List ByteArray} (ha : a.length ≤ 2000) (hb : b.length ≤ 2000) : ∀ h ∈ (textHunks a b).map Hk.turn, h.wf := by
  intro h hh
  obtain ⟨g, hg, rfl⟩ := List.mem_map.1 hh
  exact turn_wf (texts_wf ha hb g hg).1
theorem texts_apart {a b : List ByteArray} (ha : a.length ≤ 2000) (hb : b.length ≤ 2000) : apart a b 0 0 (textHunks a b) := by
  unfold textHunks
  rw [ofL_from]
  exact apart_from a b _ 0 0 0 0 (texts_ok ha hb) (Nat.le_refl _) (Nat.le_refl _) rfl (by simp)
theorem texts_cost {a b : List ByteArray} (ha : a.length ≤ 2000) (hb : b.length ≤ 2000) : costOf 0 (textHunks a b) = a.length + b.length - 2 * lenOf (numRow [] a) (numRow (knownBy [] a) b) := by
  have h1 := cost_from a b _ 0 0 (texts_ok ha hb)
  have h2 := texts_wf ha hb
  have h3 := match_many (numRow [] a) (numRow (knownBy [] a) b)
  have h4 : cost (textHunks a b) = a.length + b.length - 2 * lenOf (numRow [] a) (numRow (knownBy [] a) b) := by
    unfold textHunks
    rw [ofL_from, h1]
    unfold pairs
    rw [List.length_append, preP_many, ← h3]
    simp only [List.length_cons, List.length_nil, textsOf]
    push_cast
    omega
  have h5 := lenOf_bd (numRow [] a) (numRow (knownBy [] a) b)
  rw [costOf_eq _ 0 (Int.le_refl _) (fun h hh => ⟨(h2 h hh).2.1, (h2 h hh).2.2.1⟩) (by omega), h4]
  omega
theorem texts_len {a b : List ByteArray} (ha : a.length ≤ 2000) (hb : b.length ≤ 2000) : (textHunks a b).length ≤ 2001 := by
  have h1 := ofL_len (textsOf a b) b.length
  have h2 := (texts_match ha hb).2.1
  unfold textHunks
  omega
theorem texts_none {a b : List ByteArray} (ha : a.length ≤ 2000) (hb : b.length ≤ 2000) : textHunks a b = [] ↔ a = b := by
  constructor
  · intro h
    have := texts_apart ha hb
    rw [h] at this
    simpa [apart] using this.2.2
  · rintro rfl
    have hA : numRow (knownBy [] a) a = numRow [] a := by rw [nums_left a a, nums_right a a]
    have hc := cost_from a a _ 0 0 (texts_ok ha hb)
    have hw := texts_wf ha hb
    have h3 := match_many (numRow [] a) (numRow (knownBy [] a) a)
    rw [hA, lenOf_small (by rw [numRow_length]; exact ha) (by rw [numRow_length]; exact ha), lc_self, numRow_length] at h3
    have h4 : cost (textHunks a a) = 0 := by
      unfold textHunks
      rw [ofL_from, hc]
      unfold pairs
      rw [List.length_append, preP_many]
      have h5 : many (textsOf a a) = a.length := by unfold textsOf; rw [hA]; omega
      rw [h5]
      simp only [List.length_cons, List.length_nil]
      push_cast
      omega
    rcases hL : textHunks a a with _ | ⟨g, H⟩
    · rfl
    · exfalso
      rw [hL] at h4 hw
      have h6 := (hw g (by simp)).2.2.2
      have h7 := cost_nonneg (H := H) (fun x hx => by have := hw x (by simp [hx]); exact ⟨this.2.1, this.2.2.1⟩)
      simp only [cost] at h4
      omega
theorem turn_turn (H : List Hk) : (H.map Hk.turn).map Hk.turn = H := by
  rw [List.map_map]
  have : Hk.turn ∘ Hk.turn = id := by funext h; rfl
  rw [this, List.map_id]
end Go.Proofs.Ythligkdncddmpaa
