/-
  For the laws of weave: the text of parts, and one side of them, by the reference. Condition: at most 100,000 parts of texts of at most 1,000,000 bytes each.
-/
import Derived.Test.YtfjmhnnjgjcmeaaDoorWa
namespace Go.Proofs.YtfjmhnnjgjcmeaaDoor
open Go.RowKit Go.Shelf
set_option linter.unusedSimpArgs false
set_option linter.unusedVariables false

theorem bs_cat (a b : By) : bs (a ++ b) = bs a ++ bs b := by
  apply ByteArray.ext
  simp [bs, ByteArray.data_append]
set_option maxRecDepth 100000 in
set_option maxHeartbeats 8000000 in
theorem RefSide_any (v : Value) (L : List Pt) (n : Int) (hl : L.length ≤ 100000) (hok : ∀ p ∈ L, okS p) (w : World) (hv : Prts w v L) :
    Calls Tryd.prog 11 #[v, .int .i64 n] w fun e w' => e = .returned (.string (bs (sideP L n))) ∧ Below w.heap.size w w' := by
  obtain ⟨a, cap, rfl, hc, hcm, hat⟩ := prts_at hv
  unfold maxLen at hcm
  have Hat := Lib.hid hat
  have Hok := Lib.hid hok
  clear hat hok hv
  obtain ⟨r, hr⟩ : ∃ r, Hid (sideP L n = r) := ⟨_, Lib.hid rfl⟩
  rw [hr.out]
  obtain ⟨m, hm⟩ : ∃ m, Hid (L.length = m) := ⟨_, Lib.hid rfl⟩
  rw [hm.out] at hc hl ⊢
  go_enter Tryd.func11, Tryd.ntmps11
  go_wp2_with fail
  go_loopw [5, 6] (fun s c wr => ∃ (k : Nat) (X : By), c = .int .i64 k ∧ k ≤ m ∧ Hid (sideP (L.take k) n = X) ∧ s = .string (bs X) ∧ wr = w) (fun _ c _ => m - (intOf c).toNat)
  case atStart => exact ⟨0, [], rfl, by omega, Lib.hid rfl, rfl, rfl⟩
  case round =>
    obtain ⟨k, X, rfl, hk, hX, rfl, hB⟩ := hrel
    obtain rfl : wr = w := hB
    have hB : wr = wr := rfl
    have hpl := sideP_take_le Hok.out n (by rw [hm.out]; exact hl) k
    rw [hX.out] at hpl
    have hxs : (bs X).size ≤ 100000000000 := by rw [bs_size]; exact hpl
    rcases Nat.lt_or_ge k m with hlt | hlt
    · obtain ⟨p, hp⟩ := get_lt (l := L) (k := k) (by rw [hm.out]; exact hlt)
      obtain ⟨b, off, rfl, c0, c1, c2, c3⟩ := Hat.out wr (Below.refl _ _) k p hp
      have hpo := Hok.out p (List.mem_of_getElem? hp)
      have hp1 : (bs p.o).size ≤ 1000000 := by rw [bs_size]; exact hpo.1
      have hp2 : (bs p.a).size ≤ 1000000 := by rw [bs_size]; exact hpo.2.1
      have hp3 : (bs p.b).size ≤ 1000000 := by rw [bs_size]; exact hpo.2.2
      have hnx : Hid (sideP (L.take (k + 1)) n = X ++ p.side n) := Lib.hid (by rw [← hX.out]; exact sideP_take hp n)
      clear hp hpo
      have d1 : decide (k < m) = true := decide_eq_true hlt
      have d2 : (0 : Int) ≤ (k : Int) := by omega
      have d3 : (k : Int) < (m : Int) := by omega
      by_cases n0 : n = 0
      · have f0 : (n == 0) = true := by simpa using n0
        have e1 : p.side n = p.o := by unfold Pt.side; rw [if_pos n0]
        rw [e1] at hnx
        clear n0 e1
        go_wp2_with fail
        exact ⟨⟨k + 1, X ++ p.o, by go_num, by omega, hnx, by rw [bs_cat], by simp⟩, by simp [intOf]; omega⟩
      by_cases n1 : n = 1
      · have f0 : (n == 0) = false := by simpa using n0
        have f1 : (n == 1) = true := by simpa using n1
        have e1 : p.side n = p.a := by unfold Pt.side; rw [if_neg n0, if_pos n1]
        rw [e1] at hnx
        clear n0 n1 e1
        go_wp2_with fail
        exact ⟨⟨k + 1, X ++ p.a, by go_num, by omega, hnx, by rw [bs_cat], by simp⟩, by simp [intOf]; omega⟩
      by_cases n2 : n = 2
      · have f0 : (n == 0) = false := by simpa using n0
        have f1 : (n == 1) = false := by simpa using n1
        have f2 : (n == 2) = true := by simpa using n2
        have e1 : p.side n = p.b := by unfold Pt.side; rw [if_neg n0, if_neg n1, if_pos n2]
        rw [e1] at hnx
        clear n0 n1 n2 e1
        go_wp2_with fail
        exact ⟨⟨k + 1, X ++ p.b, by go_num, by omega, hnx, by rw [bs_cat], by simp⟩, by simp [intOf]; omega⟩
      · have f0 : (n == 0) = false := by simpa using n0
        have f1 : (n == 1) = false := by simpa using n1
        have f2 : (n == 2) = false := by simpa using n2
        have e1 : p.side n = [] := by unfold Pt.side; rw [if_neg n0, if_neg n1, if_neg n2]
        rw [e1, List.append_nil] at hnx
        clear n0 n1 n2 e1
        go_wp2_with fail
        exact ⟨⟨k + 1, X, by go_num, by omega, hnx, rfl, by simp⟩, by simp [intOf]; omega⟩
    · have d1 : decide (k < m) = false := decide_eq_false (by omega)
      have hXr : X = r := by
        rw [← hX.out, List.take_of_length_le (by rw [hm.out]; exact hlt)]
        exact hr.out
      subst hXr
      go_wp2_with fail
      go_ret
      exact ⟨rfl, Below.refl _ _⟩

set_option maxRecDepth 100000 in
set_option maxHeartbeats 8000000 in
theorem RefJoin_any (v : Value) (L : List Pt) (hl : L.length ≤ 100000) (hok : ∀ p ∈ L, okS p) (w : World) (hv : Prts w v L) :
    Calls Tryd.prog 9 #[v] w fun e w' => e = .returned (.tuple #[.string (bs (joinP L).1), .bool (joinP L).2]) ∧ Below w.heap.size w w' := by
  obtain ⟨a, cap, rfl, hc, hcm, hat⟩ := prts_at hv
  unfold maxLen at hcm
  have Hat := Lib.hid hat
  have Hok := Lib.hid hok
  clear hat hok hv
  obtain ⟨⟨jt, jb⟩, hj⟩ : ∃ j : By × Bool, Hid (joinP L = j) := ⟨_, Lib.hid rfl⟩
  rw [hj.out]
  dsimp only
  obtain ⟨m, hm⟩ : ∃ m, Hid (L.length = m) := ⟨_, Lib.hid rfl⟩
  rw [hm.out] at hc hl ⊢
  go_enter Tryd.func9, Tryd.ntmps9
  go_wp2_with fail
  go_loopw [4, 5] (fun s c wr => ∃ (k : Nat) (X : By), c = .int .i64 k ∧ k ≤ m ∧ Hid (sideP (L.take k) 1 = X) ∧ Hid (clashP (L.take k) = false) ∧ s = .string (bs X) ∧ wr = w) (fun _ c _ => m - (intOf c).toNat)
  case atStart => exact ⟨0, [], rfl, by omega, Lib.hid rfl, Lib.hid rfl, rfl, rfl⟩
  case round =>
    obtain ⟨k, X, rfl, hk, hX, hC, rfl, hB⟩ := hrel
    obtain rfl : wr = w := hB
    have hB : wr = wr := rfl
    have hpl := sideP_take_le Hok.out 1 (by rw [hm.out]; exact hl) k
    rw [hX.out] at hpl
    have hxs : (bs X).size ≤ 100000000000 := by rw [bs_size]; exact hpl
    rcases Nat.lt_or_ge k m with hlt | hlt
    · obtain ⟨p, hp⟩ := get_lt (l := L) (k := k) (by rw [hm.out]; exact hlt)
      obtain ⟨b, off, rfl, c0, c1, c2, c3⟩ := Hat.out wr (Below.refl _ _) k p hp
      have hpo := Hok.out p (List.mem_of_getElem? hp)
      have hp2 : (bs p.a).size ≤ 1000000 := by rw [bs_size]; exact hpo.2.1
      have hnx : Hid (sideP (L.take (k + 1)) 1 = X ++ p.a) := Lib.hid (by rw [← hX.out]; exact sideP_take hp 1)
      have Hp := Lib.hid hp
      clear hp hpo
      have d1 : decide (k < m) = true := decide_eq_true hlt
      have d2 : (0 : Int) ≤ (k : Int) := by omega
      have d3 : (k : Int) < (m : Int) := by omega
      cases hcl : p.clash with
      | true =>
        rw [hcl] at c0
        have hall : clashP L = true := by unfold clashP; rw [List.any_eq_true]; exact ⟨p, List.mem_of_getElem? Hp.out, hcl⟩
        have hj2 : joinP L = ([], false) := by unfold joinP; rw [hall]; rfl
        rw [hj.out] at hj2
        cases hj2
        clear hall
        go_wp2_with fail
        go_ret2
        exact ⟨rfl, Below.refl _ _⟩
      | false =>
        rw [hcl] at c0
        have hcx : Hid (clashP (L.take (k + 1)) = false) := Lib.hid (by
          have h1 := hC.out
          unfold clashP at h1 ⊢
          rw [List.take_add_one, Hp.out, List.any_append, h1]
          simp [hcl])
        go_wp2_with fail
        exact ⟨⟨k + 1, X ++ p.a, by go_num, by omega, hnx, hcx, by rw [bs_cat], by simp⟩, by simp [intOf]; omega⟩
    · have d1 : decide (k < m) = false := decide_eq_false (by omega)
      have hj2 : joinP L = (X, true) := by
        have h1 := hC.out
        have h2 := hX.out
        rw [List.take_of_length_le (by rw [hm.out]; exact hlt)] at h1 h2
        unfold joinP
        rw [h1, h2]
        rfl
      rw [hj.out] at hj2
      cases hj2
      go_wp2_with fail
      go_ret2
      exact ⟨rfl, Below.refl _ _⟩
end Go.Proofs.YtfjmhnnjgjcmeaaDoor
