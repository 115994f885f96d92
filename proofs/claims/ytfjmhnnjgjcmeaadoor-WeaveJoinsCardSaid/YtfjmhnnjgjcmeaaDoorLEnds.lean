/-
  For the laws of lcs: how much two rows begin and end with. Condition: at most 1,000,000 numbers each.
-/
import Derived.Test.YtfjmhnnjgjcmeaaDoorLRow
namespace Go.Proofs.YtfjmhnnjgjcmeaaDoor.L
open Go.RowKit

theorem pfx_run {a b : List Int} {k : Nat} (h : k < pfx a b) : a[k]? = b[k]? := by
  have h1 := congrArg (fun l => l[k]?) (pfx_take a b)
  simpa [List.getElem?_take_of_lt h] using h1

theorem pfx_stop : ∀ {a b : List Int}, pfx a b < a.length → pfx a b < b.length → a[pfx a b]? ≠ b[pfx a b]?
  | [], _, h, _ => by simp at h
  | _ :: _, [], _, h => by simp at h
  | x :: a, y :: b, h1, h2 => by
    unfold pfx at h1 h2 ⊢
    by_cases h : x = y
    · simp only [if_pos h] at h1 h2 ⊢
      simpa using pfx_stop (a := a) (b := b) (by simpa using h1) (by simpa using h2)
    · simp only [if_neg h]
      simpa using h
theorem pfx_lt {a b : List Int} {k : Nat} (hk : k ≤ pfx a b) (h1 : k < a.length) (h2 : k < b.length) : k < pfx a b ↔ a[k]? = b[k]? := by
  constructor
  · exact pfx_run
  · intro h
    by_cases e : k = pfx a b
    · subst e; exact absurd h (pfx_stop h1 h2)
    · omega
/-- The things at the end, from the end on. -/
theorem rev_drop_get (a : List Int) (p s : Nat) (h : s + p < a.length) : (a.drop p).reverse[s]? = a[a.length - 1 - s]? := by
  rw [List.getElem?_reverse (by simp; omega), List.getElem?_drop]
  congr 1
  simp
  omega

set_option maxRecDepth 100000 in
set_option maxHeartbeats 4000000 in
theorem ends_any (v1 v2 : Value) (xs ys : List Int) (w : World) (h1 : Ints w .i64 v1 xs) (h2 : Ints w .i64 v2 ys) (hl1 : xs.length ≤ 1000000) (hl2 : ys.length ≤ 1000000) :
    Calls Tryd.prog 69 #[v1, v2] w fun e w' => e = .returned (.tuple #[.int .i64 (pfx xs ys : Nat), .int .i64 (sfx xs ys : Nat)]) ∧ Below w.heap.size w w' := by
  obtain ⟨a1, cap1, rfl, hc1, hm1, h1⟩ := h1
  obtain ⟨a2, cap2, rfl, hc2, hm2, h2⟩ := h2
  have hple := pfx_le xs ys
  have hsle := sfx_le xs ys
  have hcell1 : ∀ (wr : World), Below w.heap.size w wr → ∀ k, k < xs.length → ∃ b off, a1 = some ⟨b, off, none⟩ ∧ wr.cell? ⟨b, off + k, none⟩ = some (.int .i64 (xs[k]?.getD 0)) := by
    intro wr hB k hk
    rcases h1 with h | ⟨b, off, rfl, hb, hx⟩
    · rw [h] at hk; simp at hk
    · exact ⟨b, off, rfl, (hB.cell (p := ⟨b, off + k, none⟩) hb).trans (hx k _ (by rw [List.getElem?_eq_getElem hk]; rfl))⟩
  have hcell2 : ∀ (wr : World), Below w.heap.size w wr → ∀ k, k < ys.length → ∃ b off, a2 = some ⟨b, off, none⟩ ∧ wr.cell? ⟨b, off + k, none⟩ = some (.int .i64 (ys[k]?.getD 0)) := by
    intro wr hB k hk
    rcases h2 with h | ⟨b, off, rfl, hb, hx⟩
    · rw [h] at hk; simp at hk
    · exact ⟨b, off, rfl, (hB.cell (p := ⟨b, off + k, none⟩) hb).trans (hx k _ (by rw [List.getElem?_eq_getElem hk]; rfl))⟩
  have Hcell1 := Lib.hid hcell1; clear hcell1
  have Hcell2 := Lib.hid hcell2; clear hcell2
  clear h1 h2
  have hpx := hple.1
  have hpy := hple.2
  have hsx := hsle.1
  have hsy := hsle.2
  clear hple hsle
  unfold maxLen at hm1 hm2
  rcases Nat.lt_or_ge ys.length xs.length with hle | hle
  all_goals
    first | have hle1 := Int.ofNat_le.2 hle | have hle1 := Int.ofNat_lt.2 hle
    go_enter Tryd.func69, Tryd.ntmps69
    go_wp2
    go_loopw [7] (fun p wr => ∃ k : Nat, k ≤ pfx xs ys ∧ p = .int .i64 k ∧ Below w.heap.size w wr) (fun p _ => xs.length + 1 - (intOf p).toNat)
    case atStart => exact ⟨0, Nat.zero_le _, rfl, Below.refl _ _⟩
    case round =>
      obtain ⟨k, hk, rfl, hB⟩ := hrel
      by_cases hlt : k < pfx xs ys
      · obtain ⟨b1, o1, rfl, c1⟩ := Hcell1.out wr hB k (by omega)
        obtain ⟨b2, o2, rfl, c2⟩ := Hcell2.out wr hB k (by omega)
        rw [← pfx_run hlt] at c2
        generalize xs[k]?.getD 0 = x at c1 c2
        have hlx : k < xs.length := by omega
        have hly : k < ys.length := by omega
        have hd : decide (k < xs.length) = true := by simpa using hlx
        have hd' : decide (k < ys.length) = true := by simpa using hly
        go_wp2
        go_quiet (fail)
        go_wp2
        refine ⟨⟨k + 1, by omega, by go_num, below_draws hB nq⟩, by simp [intOf]; omega⟩
      · have hkp : k = pfx xs ys := by omega
        have Hkp := Lib.hid hkp; clear hlt hk hkp
        have hkx : k ≤ xs.length := by rw [Hkp.out]; exact hpx
        have hky : k ≤ ys.length := by rw [Hkp.out]; exact hpy
        have hskx : sfx xs ys + k ≤ xs.length := by rw [Hkp.out]; exact hsx
        have hsky : sfx xs ys + k ≤ ys.length := by rw [Hkp.out]; exact hsy
        clear hpx hpy hsx hsy
        by_cases hn : k < xs.length ∧ k < ys.length
        case' pos =>
          obtain ⟨hlx, hly⟩ := hn
          have hd : decide (k < xs.length) = true := by simpa using hlx
          have hd' : decide (k < ys.length) = true := by simpa using hly
          obtain ⟨b1, o1, he1, c1⟩ := Hcell1.out wr hB _ hlx
          obtain ⟨b2, o2, he2, c2⟩ := Hcell2.out wr hB _ hly
          have hne := pfx_stop (a := xs) (b := ys) (by rw [← Hkp.out]; exact hlx) (by rw [← Hkp.out]; exact hly)
          rw [← Hkp.out, List.getElem?_eq_getElem hlx, List.getElem?_eq_getElem hly] at hne
          rw [List.getElem?_eq_getElem hlx] at c1
          rw [List.getElem?_eq_getElem hly] at c2
          simp only [Option.getD_some] at c1 c2
          have hb : (xs[k] == ys[k]) = false := by rw [beq_eq_false_iff_ne]; intro e; exact hne (by rw [e])
          generalize xs[k] = x at c1 hb
          generalize ys[k] = y at c2 hb
          clear hne
          subst he1 he2
          go_wp2
          go_quiet (fail)
          clear c1 c2 hb hd hd'
          go_wp2
        case' neg =>
          first
          | have hd : decide (k < xs.length) = false := by simp; omega
            go_wp2
            go_quiet (fail)
            clear hd hn
            go_wp2
          | have hd : decide (k < ys.length) = false := by simp; omega
            go_wp2
            go_quiet (fail)
            clear hd hn
            go_wp2
        all_goals
          go_loopw [8] (fun q wr2 => ∃ j : Nat, j ≤ sfx xs ys ∧ q = .int .i64 j ∧ Below w.heap.size w wr2) (fun q _ => xs.length + 1 - (intOf q).toNat)
          case atStart => exact ⟨0, Nat.zero_le _, rfl, below_draws hB nq⟩
          case round =>
            obtain ⟨j, hj, rfl, hB2⟩ := hrel
            have g1 : IntKind.i64.wrap ((xs.length : Int) - (k : Int)) = (xs.length : Int) - k := IntWalk.i64_in _ (by omega)
            have g2 : IntKind.i64.wrap ((ys.length : Int) - (k : Int)) = (ys.length : Int) - k := IntWalk.i64_in _ (by omega)
            by_cases hlt2 : j < sfx xs ys
            · have hjx : j + k < xs.length := by omega
              have hjy : j + k < ys.length := by omega
              obtain ⟨b1, o1, e1, c1⟩ := Hcell1.out wr hB2 (xs.length - 1 - j) (by omega)
              obtain ⟨b2, o2, e2, c2⟩ := Hcell2.out wr hB2 (ys.length - 1 - j) (by omega)
              cases e1
              cases e2
              have hsd := pfx_run (a := (xs.drop k).reverse) (b := (ys.drop k).reverse) (k := j) (by rw [Hkp.out]; exact hlt2)
              rw [rev_drop_get _ _ _ hjx, rev_drop_get _ _ _ hjy] at hsd
              rw [← hsd] at c2
              clear hsd
              generalize xs[xs.length - 1 - j]?.getD 0 = x at c1 c2
              have i1 : IntKind.i64.wrap ((xs.length : Int) - 1) = (xs.length : Int) - 1 := IntWalk.i64_in _ (by omega)
              have i2 : IntKind.i64.wrap ((xs.length : Int) - 1 - (j : Int)) = (xs.length : Int) - 1 - j := IntWalk.i64_in _ (by omega)
              have i3 : ((xs.length : Int) - 1 - (j : Int)).toNat = xs.length - 1 - j := by omega
              have i4 : 0 ≤ (xs.length : Int) - 1 - (j : Int) := by omega
              have i5 : (xs.length : Int) - 1 - (j : Int) < xs.length := by omega
              have j1 : IntKind.i64.wrap ((ys.length : Int) - 1) = (ys.length : Int) - 1 := IntWalk.i64_in _ (by omega)
              have j2 : IntKind.i64.wrap ((ys.length : Int) - 1 - (j : Int)) = (ys.length : Int) - 1 - j := IntWalk.i64_in _ (by omega)
              have j3 : ((ys.length : Int) - 1 - (j : Int)).toNat = ys.length - 1 - j := by omega
              have j4 : 0 ≤ (ys.length : Int) - 1 - (j : Int) := by omega
              have j5 : (ys.length : Int) - 1 - (j : Int) < ys.length := by omega
              have d1 : decide ((j : Int) < (xs.length : Int) - (k : Int)) = true := by simp; omega
              have d2 : decide ((j : Int) < (ys.length : Int) - (k : Int)) = true := by simp; omega
              go_wp2
              go_quiet (fail)
              clear g1 g2 i1 i2 i3 i4 i5 j1 j2 j3 j4 j5 d1 d2
              go_wp2
              refine ⟨⟨j + 1, by omega, by go_num, below_draws hB2 nq⟩, by simp [intOf]; omega⟩
            · have hjs : j = sfx xs ys := by omega
              have Hjs := Lib.hid hjs; clear hjs hlt2 hj
              by_cases hin : j + k < xs.length ∧ j + k < ys.length
              · obtain ⟨hjx, hjy⟩ := hin
                obtain ⟨b1, o1, e1, c1⟩ := Hcell1.out wr hB2 (xs.length - 1 - j) (by omega)
                obtain ⟨b2, o2, e2, c2⟩ := Hcell2.out wr hB2 (ys.length - 1 - j) (by omega)
                cases e1
                cases e2
                have hne := pfx_stop (a := (xs.drop k).reverse) (b := (ys.drop k).reverse) (by rw [Hkp.out]; show sfx xs ys < _; rw [← Hjs.out, ← Hkp.out]; simp; omega) (by rw [Hkp.out]; show sfx xs ys < _; rw [← Hjs.out, ← Hkp.out]; simp; omega)
                rw [show pfx (xs.drop k).reverse (ys.drop k).reverse = j by rw [Hjs.out, Hkp.out]; rfl, rev_drop_get _ _ _ hjx, rev_drop_get _ _ _ hjy, List.getElem?_eq_getElem (show xs.length - 1 - j < xs.length by omega), List.getElem?_eq_getElem (show ys.length - 1 - j < ys.length by omega)] at hne
                rw [List.getElem?_eq_getElem (show xs.length - 1 - j < xs.length by omega)] at c1
                rw [List.getElem?_eq_getElem (show ys.length - 1 - j < ys.length by omega)] at c2
                simp only [Option.getD_some] at c1 c2
                have hb : (xs[xs.length - 1 - j]'(by omega) == ys[ys.length - 1 - j]'(by omega)) = false := by rw [beq_eq_false_iff_ne]; intro e; exact hne (by rw [e])
                generalize xs[xs.length - 1 - j]'(by omega) = x at c1 hb
                generalize ys[ys.length - 1 - j]'(by omega) = y at c2 hb
                clear hne
                have i1 : IntKind.i64.wrap ((xs.length : Int) - 1) = (xs.length : Int) - 1 := IntWalk.i64_in _ (by omega)
                have i2 : IntKind.i64.wrap ((xs.length : Int) - 1 - (j : Int)) = (xs.length : Int) - 1 - j := IntWalk.i64_in _ (by omega)
                have i3 : ((xs.length : Int) - 1 - (j : Int)).toNat = xs.length - 1 - j := by omega
                have i4 : 0 ≤ (xs.length : Int) - 1 - (j : Int) := by omega
                have i5 : (xs.length : Int) - 1 - (j : Int) < xs.length := by omega
                have j1 : IntKind.i64.wrap ((ys.length : Int) - 1) = (ys.length : Int) - 1 := IntWalk.i64_in _ (by omega)
                have j2 : IntKind.i64.wrap ((ys.length : Int) - 1 - (j : Int)) = (ys.length : Int) - 1 - j := IntWalk.i64_in _ (by omega)
                have j3 : ((ys.length : Int) - 1 - (j : Int)).toNat = ys.length - 1 - j := by omega
                have j4 : 0 ≤ (ys.length : Int) - 1 - (j : Int) := by omega
                have j5 : (ys.length : Int) - 1 - (j : Int) < ys.length := by omega
                have d1 : decide ((j : Int) < (xs.length : Int) - (k : Int)) = true := by simp; omega
                have d2 : decide ((j : Int) < (ys.length : Int) - (k : Int)) = true := by simp; omega
                go_wp2
                go_quiet (fail)
                clear g1 g2 i1 i2 j1 j2
                go_wp2
                go_ret2
                exact ⟨by rw [← Hkp.out, ← Hjs.out]; rfl, below_draws hB2 nq⟩
              · first
                | have d1 : decide ((j : Int) < (xs.length : Int) - (k : Int)) = false := by simp; omega
                  go_wp2
                  go_quiet (fail)
                  clear g1 g2
                  go_wp2
                  go_ret2
                  exact ⟨by rw [← Hkp.out, ← Hjs.out]; rfl, below_draws hB2 nq⟩
                | have d2 : decide ((j : Int) < (ys.length : Int) - (k : Int)) = false := by simp; omega
                  go_wp2
                  go_quiet (fail)
                  clear g1 g2
                  go_wp2
                  go_ret2
                  exact ⟨by rw [← Hkp.out, ← Hjs.out]; rfl, below_draws hB2 nq⟩
end Go.Proofs.YtfjmhnnjgjcmeaaDoor.L
