/-
  For the law HunkApart: it returns true for any two rows of texts. No condition but what can be read.
-/
import Derived.Test.YthligkdncddmpaaHzd
namespace Go.Proofs.Ythligkdncddmpaa
open Go.RowKit

theorem apart_at {A B : List ByteArray} {i k : Int} {H : List Hk} {q : Nat} {h : Hk} (hq : H[q]? = some h) (hx : apart A B i k (H.drop q)) : i ≤ h.a ∧ h.a - i = h.b - k ∧ (A.drop i.toNat).take (h.a - i).toNat = (B.drop k.toNat).take (h.a - i).toNat ∧ apart A B (h.a + h.an) (h.b + h.bn) (H.drop (q + 1)) := by
  obtain ⟨hl, rfl⟩ := List.getElem?_eq_some_iff.1 hq
  rw [List.drop_eq_getElem_cons hl] at hx
  exact hx
/-- The state at the head of the law's loop. -/
def ApAt (A B : List ByteArray) (H : List Hk) (q : Nat) (i k : Nat) : Prop :=
  q ≤ H.length ∧ i ≤ A.length ∧ k ≤ B.length ∧ apart A B i k (H.drop q) ∧ may A.length B.length i k (q = 0) (H.drop q)
theorem ApAt.start {A B : List ByteArray} {H : List Hk} (h1 : apart A B 0 0 H) (h2 : may A.length B.length 0 0 True H) : ApAt A B H 0 0 0 := by
  refine ⟨Nat.zero_le _, Nat.zero_le _, Nat.zero_le _, by simpa using h1, ?_⟩
  simp only [List.drop_zero]
  exact h2
/-- Up to where things stay the same. -/
def Till (A B : List ByteArray) (H : List Hk) (q i k t o : Nat) : Prop :=
  i ≤ t ∧ t ≤ A.length ∧ k ≤ o ∧ o ≤ B.length ∧ t - i = o - k ∧ (A.drop i).take (t - i) = (B.drop k).take (t - i) ∧ ((q < H.length ∧ 0 < q) → t ≠ i)
theorem ApAt.mid {A B : List ByteArray} {H : List Hk} {q i k : Nat} {h : Hk} (hs : ApAt A B H q i k) (hq : H[q]? = some h) : ∃ t o an bn : Nat, h.a = t ∧ h.b = o ∧ h.an = an ∧ h.bn = bn ∧ Till A B H q i k t o ∧ t + an ≤ A.length ∧ o + bn ≤ B.length ∧ ApAt A B H (q + 1) (t + an) (o + bn) := by
  obtain ⟨h1, h2, h3, h4, h5⟩ := hs
  obtain ⟨a1, a2, a3, a4⟩ := apart_at hq h4
  obtain ⟨g, g2⟩ := (may_at hq).1 h5
  simp only [Hk.good] at g
  obtain ⟨x, xn, y, yn⟩ := h
  dsimp only at a1 a2 a3 a4 g g2 ⊢
  obtain ⟨t, rfl⟩ := Int.eq_ofNat_of_zero_le (show 0 ≤ x by omega)
  obtain ⟨o, rfl⟩ := Int.eq_ofNat_of_zero_le (show 0 ≤ y by omega)
  obtain ⟨an, rfl⟩ := Int.eq_ofNat_of_zero_le (show 0 ≤ xn by omega)
  obtain ⟨bn, rfl⟩ := Int.eq_ofNat_of_zero_le (show 0 ≤ yn by omega)
  have hl := (List.getElem?_eq_some_iff.1 hq).1
  refine ⟨t, o, an, bn, rfl, rfl, rfl, rfl, ⟨by omega, by omega, by omega, by omega, by omega, ?_, ?_⟩, by omega, by omega, by omega, by omega, by omega, by exact_mod_cast a4, ?_⟩
  · rw [show ((t : Int) - i).toNat = t - i from by omega] at a3
    exact a3
  · rintro ⟨-, hq0⟩ e
    have := g.2.2.2.1 (by omega)
    omega
  · have e : (q + 1 = 0) = False := by simp
    rw [e]
    exact_mod_cast g2
theorem ApAt.last {A B : List ByteArray} {H : List Hk} {i k : Nat} (hs : ApAt A B H H.length i k) : Till A B H H.length i k A.length B.length := by
  obtain ⟨h1, h2, h3, h4, h5⟩ := hs
  rw [List.drop_length] at h4
  obtain ⟨g1, g2, g3⟩ := h4
  refine ⟨h2, Nat.le_refl _, h3, Nat.le_refl _, by omega, ?_, by omega⟩
  rw [Int.toNat_natCast, Int.toNat_natCast] at g3
  rw [g3]
theorem Till.same {A B : List ByteArray} {H : List Hk} {q i k t o s : Nat} (h : Till A B H q i k t o) (hs : i + s < t) : ∃ x, A[i + s]? = some x ∧ B[k + s]? = some x := by
  obtain ⟨h1, h2, h3, h4, h5, h6, -⟩ := h
  have hl : i + s < A.length := by omega
  refine ⟨A[i + s], List.getElem?_eq_getElem hl, ?_⟩
  have e := congrArg (fun l : List ByteArray => l[s]?) h6
  rw [List.getElem?_take_of_lt (by omega), List.getElem?_take_of_lt (by omega), List.getElem?_drop, List.getElem?_drop] at e
  rw [← e]
  exact List.getElem?_eq_getElem hl

set_option maxRecDepth 100000 in
set_option maxHeartbeats 16000000 in
theorem HunkApart_in (p1 p2 : Option Addr) (k1 k2 : Nat) (a b : List ByteArray) (w : World) (h1 : Vals w (.slice p1 a.length k1) (a.map .string)) (h2 : Vals w (.slice p2 b.length k2) (b.map .string)) (hs1 : ∀ s ∈ a, s.size ≤ maxLen) (hs2 : ∀ s ∈ b, s.size ≤ maxLen) (hla : a.length ≤ 100) (hlb : b.length ≤ 100) :
    Calls Try.prog 11 #[.slice p1 a.length k1, .slice p2 b.length k2] w fun e w' => e = .returned (.bool true) ∧ Below w.heap.size w w' := by
  have H1 := Lib.hid h1
  have H2 := Lib.hid h2
  have hc1 : a.length ≤ k1 := by obtain ⟨x, y, e, z, -⟩ := h1.at; rw [List.length_map] at e z; cases e; exact z
  have hc2 : b.length ≤ k2 := by obtain ⟨x, y, e, z, -⟩ := h2.at; rw [List.length_map] at e z; cases e; exact z
  clear h1 h2
  have S1 := Lib.hid hs1; clear hs1
  have S2 := Lib.hid hs2; clear hs2
  have hda : decide (a.length ≤ 100) = true := decide_eq_true hla
  have hdb : decide (b.length ≤ 100) = true := decide_eq_true hlb
  have hst : ApAt a b (textHunks a b) 0 0 0 := ApAt.start (texts_apart (by omega) (by omega)) (texts_may (by omega) (by omega))
  have Hst := Lib.hid hst; clear hst
  have hll := texts_len (a := a) (b := b) (by omega) (by omega)
  have hnone := texts_none (a := a) (b := b) (by omega) (by omega)
  have Hnone := Lib.hid hnone; clear hnone
  have hmay := texts_may (a := a) (b := b) (by omega) (by omega)
  have Hmay := Lib.hid hmay; clear hmay
  have hwf : ∀ h ∈ textHunks a b, h.wf := fun h hh => (texts_wf (a := a) (b := b) (by omega) (by omega) h hh).1
  have Hwf := Lib.hid hwf; clear hwf
  go_enter Try.func11, Try.ntmps11
  go_wp2_with fail
  refine (hawake_any _).mono ?_
  rintro e w1 ⟨rfl, b1⟩
  go_wp2_with fail
  refine (short_any _ _ _ _).mono ?_
  rw [hda]
  rintro e w1' ⟨rfl, rfl⟩
  go_wp2_with fail
  refine (short_any _ _ _ _).mono ?_
  rw [hdb]
  rintro e w1' ⟨rfl, rfl⟩
  have A1 := Lib.hid (H1.out.below b1)
  have B1 := Lib.hid (H2.out.below b1)
  clear hda hdb H1 H2
  go_wp2_with fail
  refine (HTexts_any _ _ a b _ A1.out B1.out (by omega) (by omega) S1.out S2.out).mono ?_
  rintro e w2 ⟨vH, rfl, hH, b2⟩
  have A2 := Lib.hid (A1.out.below b2)
  have B2 := Lib.hid (B1.out.below b2)
  have D2 := b1.trans (b2.mono b1.size)
  have H2 := Lib.hid hH
  clear b1 b2 A1 B1
  generalize textHunks a b = H at hH H2 Hst hll Hnone Hmay Hwf
  obtain ⟨aH, cH, rfl, hcH, hmH, hat⟩ := hH
  have Hat := Lib.hid hat; clear hat
  unfold maxLen at hmH
  have hA2 := A2.out
  have hB2 := B2.out
  obtain ⟨xa, ya, ea, -, -, hatA⟩ := hA2.at
  obtain ⟨xb, yb, eb, -, -, hatB⟩ := hB2.at
  rw [List.length_map] at ea eb
  cases ea
  cases eb
  have HatA := Lib.hid hatA
  have HatB := Lib.hid hatB
  clear hatA hatB hA2 hB2
  go_wp2_with fail
  go_loopw [9, 10, 11] (fun ci ck cq wr => ∃ q i k : Nat, ci = .int .i64 i ∧ ck = .int .i64 k ∧ cq = .int .i64 q ∧ q ≤ H.length + 1 ∧ Hid (q ≤ H.length → ApAt a b H q i k) ∧ Below w2.heap.size w2 wr) (fun _ _ cq _ => H.length + 1 - (intOf cq).toNat)
  case atStart => exact ⟨0, 0, 0, rfl, rfl, rfl, by omega, Lib.hid (fun _ => Hst.out), Below.refl _ _⟩
  case round =>
    obtain ⟨q, i, k, rfl, rfl, rfl, hq, hap, hB⟩ := hrel
    by_cases hq1 : q = H.length + 1
    · subst hq1
      have hd : decide (H.length + 1 ≤ H.length) = false := decide_eq_false (by omega)
      have hA3 := Lib.hid (A2.out.below hB)
      have hB3 := Lib.hid (B2.out.below hB)
      have hH3 := Lib.hid (H2.out.below hB)
      have D3 := D2.trans (hB.mono D2.size)
      go_wp2_with fail
      refine (Check_any _ H a.length b.length _ hH3.out Hwf.out (by unfold maxLen; omega) (by unfold maxLen; omega)).mono ?_
      rintro e w4 ⟨⟨c, rfl, -, hc⟩, b4⟩
      obtain rfl : c = 0 := hc.2 Hmay.out
      have hA4 := Lib.hid (hA3.out.below b4)
      have hB4 := Lib.hid (hB3.out.below b4)
      have D4 := D3.trans (b4.mono D3.size)
      clear hc b4 D3 hA3 hB3 hH3
      obtain ⟨c, hc⟩ : ∃ c, Hid (decide (a = b) = c) := ⟨_, Lib.hid rfl⟩
      have hd2 : ((H.length : Int) == 0) = c := by
        rw [← hc.out]
        by_cases e : a = b
        · rw [decide_eq_true e, Hnone.out.2 e]; rfl
        · rw [decide_eq_false e, beq_eq_false_iff_ne]
          intro e2
          exact e (Hnone.out.1 (List.eq_nil_of_length_eq_zero (by omega)))
      go_wp2_with fail
      refine (SameT_any _ _ a b _ hA4.out hB4.out).mono ?_
      rw [hc.out]
      rintro e w5 ⟨rfl, b5⟩
      have D5 := D4.trans (b5.mono D4.size)
      clear D4 b5 hA4 hB4
      have hd3 : (c == c) = true := by simp
      go_wp2_with fail
      go_ret
      exact ⟨by simp, D5⟩
    have hap' := hap.out (by omega)
    have hqb : decide (q ≤ H.length) = true := decide_eq_true (by omega)
    by_cases hql : q < H.length
    · obtain ⟨h, hh⟩ : ∃ h, H[q]? = some h := ⟨_, List.getElem?_eq_getElem hql⟩
      obtain ⟨t, o, an, bn, e1, e2, e3, e4, hT', htn, hon, hnx⟩ := hap'.mid hh
      have hT := Lib.hid hT'
      have Hnx := Lib.hid hnx
      obtain ⟨bq, off, rfl, hl, hat⟩ := Hat.out q h hh
      obtain ⟨x, xn, y, yn⟩ := h
      dsimp only at e1 e2 e3 e4
      subst e1 e2 e3 e4
      obtain ⟨c0, c1, c2, c3⟩ := hat.below hB hl
      have Hlies := Lib.hid hat
      unfold Till at hT'
      have d1 : (((t : Int) - i) != ((o : Int) - k)) = false := by rw [bne_eq_false_iff_eq]; omega
      have d2 : decide (t < i) = false := decide_eq_false (by omega)
      have hti : i ≤ t := by omega
      have htl : t ≤ a.length := by omega
      have hol : o ≤ b.length := by omega
      have hko : k ≤ o := by omega
      have d3 : decide (0 < q) = true → ((t : Int) == (i : Int)) = false := by
        intro e
        rw [beq_eq_false_iff_ne]
        have := hT'.2.2.2.2.2.2 ⟨hql, of_decide_eq_true e⟩
        omega
      clear hT' hnx hat hh hap' hap
      obtain ⟨f, hf⟩ : ∃ f, decide (0 < q) = f := ⟨_, rfl⟩
      cases f
      case' true => have d4 := d3 hf
      all_goals
        clear d3
        go_wp2_with fail
        obtain ⟨wo, rfl⟩ : ∃ wo : World, wo = wr := ⟨_, rfl⟩
        go_loopw [9, 10] (fun ci ck wj => ∃ s : Nat, ci = .int .i64 (i + s : Nat) ∧ ck = .int .i64 (k + s : Nat) ∧ i + s ≤ t ∧ Below w2.heap.size w2 wj) (fun ci _ _ => t - (intOf ci).toNat)
        case atStart => exact ⟨0, rfl, rfl, by omega, hB⟩
        case round =>
          obtain ⟨s, rfl, rfl, hs, hBj⟩ := hrel
          by_cases hst : i + s < t
          · obtain ⟨x, hx1, hx2⟩ := hT.out.same hst
            obtain ⟨ba, oa, ea, hba, ex1⟩ := HatA.out (i + s) (.string x) (by rw [List.getElem?_map, hx1]; rfl)
            obtain ⟨bb, ob, eb, hbb, ex2⟩ := HatB.out (k + s) (.string x) (by rw [List.getElem?_map, hx2]; rfl)
            subst ea eb
            have y1 : wr.cell? ⟨ba, oa + (i + s), none⟩ = some (.string x) := (hBj.cell (p := ⟨ba, oa + (i + s), none⟩) hba).trans ex1
            have y2 : wr.cell? ⟨bb, ob + (k + s), none⟩ = some (.string x) := (hBj.cell (p := ⟨bb, ob + (k + s), none⟩) hbb).trans ex2
            have hls : k + s < o := by have := hT.out.2.2.2.2.1; omega
            have hst2 : decide (i + s < t) = true := decide_eq_true hst
            clear hx1 hx2 ex1 ex2
            go_wp2_with fail
            go_quiet (fail)
            go_wp2_with fail
            exact ⟨⟨s + 1, by go_num, by go_num, by omega, below_draws hBj nq⟩, by simp [intOf]; omega⟩
          · have hsi : i + s = t := by omega
            have hsk : k + s = o := by have := hT.out; unfold Till at this; omega
            rw [hsi, hsk] at *
            clear hsi hsk hst hs
            obtain ⟨c0, c1, c2, c3⟩ := Hlies.out.below hBj hl
            go_wp2_with fail
            exact ⟨⟨q + 1, t + an, o + bn, by go_num, by go_num, by go_num, by omega, Lib.hid (fun _ => Hnx.out), hBj⟩, by simp [intOf]; omega⟩
    · obtain rfl : q = H.length := by omega
      have hT' := hap'.last
      have hT := Lib.hid hT'
      unfold Till at hT'
      have d1 : (((a.length : Int) - i) != ((b.length : Int) - k)) = false := by rw [bne_eq_false_iff_eq]; omega
      have d2 : decide (a.length < i) = false := decide_eq_false (by omega)
      have hti : i ≤ a.length := by omega
      have hko : k ≤ b.length := by omega
      clear hT' hap' hap
      obtain ⟨f, hf⟩ : ∃ f, decide (0 < H.length) = f := ⟨_, rfl⟩
      cases f
      all_goals
        go_wp2_with fail
        obtain ⟨wo, rfl⟩ : ∃ wo : World, wo = wr := ⟨_, rfl⟩
        go_loopw [9, 10] (fun ci ck wj => ∃ s : Nat, ci = .int .i64 (i + s : Nat) ∧ ck = .int .i64 (k + s : Nat) ∧ i + s ≤ a.length ∧ Below w2.heap.size w2 wj) (fun ci _ _ => a.length - (intOf ci).toNat)
        case atStart => exact ⟨0, rfl, rfl, by omega, hB⟩
        case round =>
          obtain ⟨s, rfl, rfl, hs, hBj⟩ := hrel
          by_cases hst : i + s < a.length
          · obtain ⟨x, hx1, hx2⟩ := hT.out.same hst
            obtain ⟨ba, oa, ea, hba, ex1⟩ := HatA.out (i + s) (.string x) (by rw [List.getElem?_map, hx1]; rfl)
            obtain ⟨bb, ob, eb, hbb, ex2⟩ := HatB.out (k + s) (.string x) (by rw [List.getElem?_map, hx2]; rfl)
            subst ea eb
            have y1 : wr.cell? ⟨ba, oa + (i + s), none⟩ = some (.string x) := (hBj.cell (p := ⟨ba, oa + (i + s), none⟩) hba).trans ex1
            have y2 : wr.cell? ⟨bb, ob + (k + s), none⟩ = some (.string x) := (hBj.cell (p := ⟨bb, ob + (k + s), none⟩) hbb).trans ex2
            have hls : k + s < b.length := by have := hT.out.2.2.2.2.1; omega
            have hst2 : decide (i + s < a.length) = true := decide_eq_true hst
            clear hx1 hx2 ex1 ex2
            go_wp2_with fail
            go_quiet (fail)
            go_wp2_with fail
            exact ⟨⟨s + 1, by go_num, by go_num, by omega, below_draws hBj nq⟩, by simp [intOf]; omega⟩
          · have hsi : i + s = a.length := by omega
            have hsk : k + s = b.length := by have := hT.out; unfold Till at this; omega
            rw [hsi, hsk] at *
            clear hsi hsk hst hs
            go_wp2_with fail
            exact ⟨⟨H.length + 1, a.length, b.length, rfl, rfl, by go_num, by omega, Lib.hid (fun e => absurd e (by omega)), hBj⟩, by simp [intOf]⟩

set_option maxRecDepth 100000 in
set_option maxHeartbeats 8000000 in
theorem HunkApart_any (v1 v2 : Value) (a b : List ByteArray) (w : World) (h1 : Vals w v1 (a.map .string) ∧ ∀ s ∈ a, s.size ≤ maxLen) (h2 : Vals w v2 (b.map .string) ∧ ∀ s ∈ b, s.size ≤ maxLen) :
    Calls Try.prog 11 #[v1, v2] w fun e w' => e = .returned (.bool true) ∧ Below w.heap.size w w' := by
  obtain ⟨h1, hs1⟩ := h1
  obtain ⟨h2, hs2⟩ := h2
  obtain ⟨p1, k1, rfl, -, -, -⟩ := h1.at
  obtain ⟨p2, k2, rfl, -, -, -⟩ := h2.at
  rw [List.length_map] at h1 h2 ⊢
  rw [List.length_map]
  by_cases hla : a.length ≤ 100
  · by_cases hlb : b.length ≤ 100
    · exact HunkApart_in p1 p2 k1 k2 a b w h1 h2 hs1 hs2 hla hlb
    · have hda : decide (a.length ≤ 100) = true := decide_eq_true hla
      have hdb : decide (b.length ≤ 100) = false := decide_eq_false hlb
      clear h1 h2 hs1 hs2
      go_enter Try.func11, Try.ntmps11
      go_wp2_with fail
      refine (hawake_any _).mono ?_
      rintro e w1 ⟨rfl, b1⟩
      go_wp2_with fail
      refine (short_any _ _ _ _).mono ?_
      rw [hda]
      rintro e w1' ⟨rfl, rfl⟩
      go_wp2_with fail
      refine (short_any _ _ _ _).mono ?_
      rw [hdb]
      rintro e w1' ⟨rfl, rfl⟩
      go_wp2_with fail
      go_ret
      exact ⟨rfl, b1⟩
  · have hda : decide (a.length ≤ 100) = false := decide_eq_false hla
    clear h1 h2 hs1 hs2
    obtain ⟨c, hdb⟩ : ∃ c, decide (b.length ≤ 100) = c := ⟨_, rfl⟩
    go_enter Try.func11, Try.ntmps11
    go_wp2_with fail
    refine (hawake_any _).mono ?_
    rintro e w1 ⟨rfl, b1⟩
    go_wp2_with fail
    refine (short_any _ _ _ _).mono ?_
    rw [hda]
    rintro e w1' ⟨rfl, rfl⟩
    go_wp2_with fail
    refine (short_any _ _ _ _).mono ?_
    rw [hdb]
    rintro e w1' ⟨rfl, rfl⟩
    go_wp2_with fail
    go_ret
    exact ⟨rfl, b1⟩
end Go.Proofs.Ythligkdncddmpaa
