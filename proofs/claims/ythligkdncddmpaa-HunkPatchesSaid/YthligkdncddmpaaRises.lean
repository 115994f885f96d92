/-
  For the law LcsRises: it returns true for any two rows of numbers. No condition but what can be read.
-/
import Derived.Test.YthligkdncddmpaaAwake
namespace Go.Proofs.Ythligkdncddmpaa
open Go.RowKit

theorem good_step {m A B : List Int} {i k : Nat} {v x : Int} (h : good (m.drop i) (A.drop i) (B.drop k) k) (hm : m[i]? = some v) (hx : A[i]? = some x) :
    (v = -1 ∧ good (m.drop (i + 1)) (A.drop (i + 1)) (B.drop k) k) ∨ ∃ q : Nat, v = q ∧ k ≤ q ∧ B[q]? = some x ∧ good (m.drop (i + 1)) (A.drop (i + 1)) (B.drop (q + 1)) (q + 1 : Nat) := by
  rw [drop_get hm, drop_get hx] at h
  rcases h with ⟨h1, h2⟩ | ⟨h1, h2, h3, h4⟩
  · exact .inl ⟨h1, h2⟩
  · right
    obtain ⟨q, rfl⟩ : ∃ q : Nat, v = q := ⟨v.toNat, by omega⟩
    refine ⟨q, rfl, by omega, ?_, ?_⟩
    · rw [List.getElem?_drop] at h3
      rw [show k + ((q : Int) - k).toNat = q by omega] at h3
      exact h3
    · rw [List.drop_drop, show k + (((q : Int) - k).toNat + 1) = q + 1 by omega] at h4
      exact h4
theorem many_snoc {m : List Int} {i : Nat} {v : Int} (h : m[i]? = some v) : many (m.take (i + 1)) = many (m.take i) + if 0 ≤ v then 1 else 0 := by
  unfold many
  rw [List.take_add_one, h, List.filter_append, List.length_append]
  by_cases e : 0 ≤ v <;> simp [e]
/-- What holds behind i rounds. -/
def Up (m A B : List Int) (i k c : Nat) : Prop := i ≤ m.length ∧ good (m.drop i) (A.drop i) (B.drop k) k ∧ c = many (m.take i)

set_option maxRecDepth 100000 in
set_option maxHeartbeats 8000000 in
theorem LcsRises_any (v1 v2 : Value) (A B : List Int) (w : World) (h1 : Ints w .i64 v1 A) (h2 : Ints w .i64 v2 B) :
    Calls Try.prog 5 #[v1, v2] w fun e w' => e = .returned (.bool true) ∧ Below w.heap.size w w' := by
  obtain ⟨aA, cA, rfl, hcA, hmA, atA⟩ := h1.at
  obtain ⟨aB, cB, rfl, hcB, hmB, atB⟩ := h2.at
  have AtA := Lib.hid atA; clear atA
  have AtB := Lib.hid atB; clear atB
  have HA := Lib.hid h1; clear h1
  have HB := Lib.hid h2; clear h2
  clear hcA hmA hcB hmB
  by_cases hs : 300 < A.length ∨ 300 < B.length
  · by_cases h3 : 300 < A.length
    all_goals
      first
      | have hd1 : decide ((300 : Int) < (A.length : Int)) = true := by simp; omega
      | (have hd1 : decide ((300 : Int) < (A.length : Int)) = false := by simp; omega
         have hd2 : decide ((300 : Int) < (B.length : Int)) = true := by simp; omega)
      clear hs h3
      go_enter Try.func5, Try.ntmps5
      go_wp2_with fail
      refine (awake_any _).mono ?_
      rintro e w1 ⟨rfl, b1⟩
      go_wp2_with fail
      go_ret
      exact ⟨rfl, b1⟩
  · have hlA : A.length ≤ 300 := by omega
    have hlB : B.length ≤ 300 := by omega
    have hd1 : decide ((300 : Int) < (A.length : Int)) = false := by simp; omega
    have hd2 : decide ((300 : Int) < (B.length : Int)) = false := by simp; omega
    have hmo : matchOf A B = gm A B 0 := if_neg (by omega)
    have hml := matchOf_length A B
    have hgood : good (matchOf A B) A B 0 := by rw [hmo]; exact gm_good A B 0
    have hmany : many (matchOf A B) = lc A B := by rw [hmo]; exact gm_many A B 0 (Int.le_refl _)
    have hlen : lenOf A B = lc A B := lenOf_small (by omega) (by omega)
    have hbd : lc A B ≤ A.length := lc_le_left A B
    clear hmo hs
    obtain ⟨m, hm⟩ : ∃ m, Hid (matchOf A B = m) := ⟨_, Lib.hid rfl⟩
    rw [hm.out] at hml hgood hmany
    have Hgood := Lib.hid hgood; clear hgood
    have Hmany := Lib.hid hmany; clear hmany
    have Hlen := Lib.hid hlen; clear hlen
    have HmL := Lib.hid hml
    go_enter Try.func5, Try.ntmps5
    go_wp2_with fail
    refine (awake_any _).mono ?_
    rintro e w1 ⟨rfl, b1⟩
    have HA1 := Lib.hid (HA.out.below b1)
    have HB1 := Lib.hid (HB.out.below b1)
    go_wp2_with fail
    refine (Match_any _ _ A B _ HA1.out HB1.out (by omega) (by omega)).mono ?_
    rw [hm.out]
    rintro e w2 ⟨g, rfl, hg, r2, b2⟩
    have B2 := b1.trans (b2.mono b1.size)
    have hgw : w.heap.size ≤ g := by have := b1.size; omega
    have HA2 := Lib.hid (HA1.out.below b2)
    have HB2 := Lib.hid (HB1.out.below b2)
    have Hr2 := Lib.hid r2; clear r2
    clear b1 b2 hg HA1 HB1
    go_wp2_with fail
    go_loopw [7, 8, 9] (fun l c i wr => ∃ ii k n : Nat, l = .int .i64 ((k : Int) - 1) ∧ c = .int .i64 n ∧ i = .int .i64 ii ∧ Up m A B ii k n ∧ k ≤ 300 ∧ Below w2.heap.size w2 wr) (fun _ _ i _ => m.length - (intOf i).toNat)
    case atStart => exact ⟨0, 0, 0, by go_num, rfl, rfl, ⟨Nat.zero_le _, by simpa using Hgood.out, rfl⟩, by omega, Below.refl _ _⟩
    case round =>
      obtain ⟨i, k, n, rfl, rfl, rfl, ⟨hi, hgd, hn⟩, hk, hB⟩ := hrel
      have Hgd := Lib.hid hgd; clear hgd
      have hnle : n ≤ 300 := by
        rw [hn]
        have := List.length_filter_le (fun v => decide (0 ≤ v)) (m.take i)
        have h2 : (m.take i).length ≤ m.length := List.length_take_le' _ _
        unfold many
        omega
      have Hn := Lib.hid hn; clear hn
      by_cases hlt : i < m.length
      · obtain ⟨v, hv⟩ : ∃ v, Hid (m[i]? = some v) := ⟨m[i], Lib.hid (List.getElem?_eq_getElem hlt)⟩
        have hiA : i < A.length := by omega
        obtain ⟨x, hx⟩ : ∃ x, Hid (A[i]? = some x) := ⟨A[i], Lib.hid (List.getElem?_eq_getElem hiA)⟩
        have r := Hr2.out.later hB
        have cm : wr.cell? ⟨g, i, none⟩ = some (.int .i64 v) := r.cell (by simp [hv.out])
        have hsn := many_snoc hv.out
        rw [← Hn.out] at hsn
        rcases good_step Hgd.out hv.out hx.out with ⟨rfl, hg2⟩ | ⟨q, rfl, hkq, hy, hg2⟩
        · rw [if_neg (by omega)] at hsn
          have HU : Hid (Up m A B (i + 1) k n) := Lib.hid ⟨hlt, hg2, by omega⟩
          clear hg2 hsn r
          go_wp2_with fail
          exact ⟨⟨i + 1, k, n, rfl, rfl, by go_num, HU.out, hk, hB⟩, by simp [intOf]; omega⟩
        · rw [if_pos (by omega)] at hsn
          have HU : Hid (Up m A B (i + 1) (q + 1) (n + 1)) := Lib.hid ⟨hlt, hg2, by omega⟩
          have hqB : q < B.length := (List.getElem?_eq_some_iff.1 hy).1
          have hBw := B2.trans (hB.mono B2.size)
          obtain ⟨bA, oA, rfl, lA, eA⟩ := AtA.out i x hx.out
          obtain ⟨bB, oB, rfl, lB, eB⟩ := AtB.out q x hy
          have ca : wr.cell? ⟨bA, oA + i, none⟩ = some (.int .i64 x) := (hBw.cell (p := ⟨bA, oA + i, none⟩) lA).trans eA
          have cb : wr.cell? ⟨bB, oB + q, none⟩ = some (.int .i64 x) := (hBw.cell (p := ⟨bB, oB + q, none⟩) lB).trans eB
          have q1 : decide ((q : Int) ≤ (k : Int) - 1) = false := by simp; omega
          have q2 : decide (B.length ≤ q) = false := by simp; omega
          have q3 : decide ((q : Int) < 0) = false := by simp
          have hlq : q + 1 ≤ 300 := by omega
          have HBd := Lib.hid hB; clear hB
          clear hg2 hsn r hy eA eB hBw
          go_wp2_with fail
          go_quiet (fail)
          go_wp2_with fail
          refine ⟨⟨i + 1, q + 1, n + 1, by go_num, by go_num, by go_num, HU.out, hlq, below_draws HBd.out _⟩, by simp [intOf]; omega⟩
      · obtain rfl : i = m.length := by omega
        have hfin : n = lc A B := by rw [Hn.out, List.take_length]; exact Hmany.out
        have hBw := B2.trans (hB.mono B2.size)
        have HA3 := Lib.hid (HA2.out.below hB)
        have HB3 := Lib.hid (HB2.out.below hB)
        clear hB hlt hi
        go_wp2_with fail
        refine (Length_any _ _ A B _ HA3.out HB3.out (by omega) (by omega)).mono ?_
        rw [Hlen.out, ← hfin]
        rintro e w3 ⟨rfl, b3⟩
        have B3 := hBw.trans (b3.mono hBw.size)
        clear hfin b3 hBw
        go_wp2_with fail
        go_ret
        exact ⟨rfl, B3⟩
end Go.Proofs.Ythligkdncddmpaa
