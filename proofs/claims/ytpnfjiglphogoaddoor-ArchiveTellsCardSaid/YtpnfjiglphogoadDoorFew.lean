/-
  For the laws of archive: are files few and short, by the statements' function. No condition.
-/
import Derived.Test.YtpnfjiglphogoadDoorRmath
namespace Go.Proofs.YtpnfjiglphogoadDoor
open Go.RowKit Go.Shelf
set_option linter.unusedSimpArgs false
set_option linter.unusedVariables false

def smallF (x : Fl) : Bool := decide (x.path.length ≤ 60 ∧ x.text.length ≤ 150)
def fewF (L : List Fl) : Bool := decide (L.length ≤ 12) && L.all smallF
theorem drop_at {L : List Fl} {k : Nat} {x : Fl} (h : L[k]? = some x) : L.drop k = x :: L.drop (k + 1) := by
  obtain ⟨h1, rfl⟩ := List.getElem?_eq_some_iff.1 h
  rw [List.drop_eq_getElem_cons h1]
theorem few_ok {L : List Fl} (h : fewF L = true) : L.length ≤ 12 ∧ ∀ f ∈ L, f.path.length ≤ 60 ∧ f.text.length ≤ 150 := by
  unfold fewF at h
  rw [Bool.and_eq_true, decide_eq_true_eq, List.all_eq_true] at h
  exact ⟨h.1, fun p hp => of_decide_eq_true (h.2 p hp)⟩
set_option maxRecDepth 100000 in
set_option maxHeartbeats 8000000 in
theorem few_any (v : Value) (L : List Fl) (w : World) (h1 : Fls w v L) : Calls Tryd.prog 7 #[v] w fun e w' => e = .returned (.bool (fewF L)) ∧ Below w.heap.size w w' := by
  obtain ⟨a, cap, rfl, hc, hm, hat⟩ := h1
  have Hat := Lib.hid hat; clear hat
  unfold maxLen at hm
  by_cases h60 : L.length ≤ 12
  · have f1 : decide ((L.length : Int) > 12) = false := decide_eq_false (by omega)
    have H : Hid (fewF L = L.all smallF) := Lib.hid (by unfold fewF; rw [decide_eq_true h60, Bool.true_and])
    rw [H.out]
    obtain ⟨r, hr⟩ : ∃ r, Hid (L.all smallF = r) := ⟨_, Lib.hid rfl⟩
    rw [hr.out]
    go_enter Tryd.func7, Tryd.ntmps7
    go_wp2_with fail
    go_loopw [3] (fun c wr => ∃ k : Nat, c = .int .i64 k ∧ k ≤ L.length ∧ Hid (Below w.heap.size w wr) ∧ Hid ((L.drop k).all smallF = r)) (fun c _ => L.length - (intOf c).toNat)
    case atStart => exact ⟨0, rfl, by omega, Lib.hid (Below.refl _ _), hr⟩
    case round =>
      obtain ⟨k, rfl, hk, hB, hg⟩ := hrel
      have hbs := hB.out.size
      by_cases hlt : k < L.length
      · obtain ⟨x, hx⟩ : ∃ x, L[k]? = some x := ⟨_, List.getElem?_eq_getElem hlt⟩
        obtain ⟨b, off, rfl, hbl, hl1, hl2⟩ := Hat.out k x hx
        have c1 : wr.cell? ⟨b, off + k * 2, none⟩ = some (.string (bs x.path)) := (hB.out.cell (p := ⟨b, off + k * 2, none⟩) hbl).trans hl1
        have c2 : wr.cell? ⟨b, off + k * 2 + 1, none⟩ = some (.string (bs x.text)) := (hB.out.cell (p := ⟨b, off + k * 2 + 1, none⟩) hbl).trans hl2
        have hg2 := hg.out
        rw [drop_at hx, List.all_cons] at hg2
        clear hl1 hl2 hx
        by_cases t1 : x.path.length ≤ 60
        · have f2 : decide ((x.path.length : Int) > 60) = false := decide_eq_false (by omega)
          by_cases t2 : x.text.length ≤ 150
          · have f3 : decide ((x.text.length : Int) > 150) = false := decide_eq_false (by omega)
            rw [show smallF x = true from decide_eq_true ⟨t1, t2⟩, Bool.true_and] at hg2
            have Hg2 := Lib.hid hg2
            clear hg2
            go_wp2_with fail
            exact ⟨⟨k + 1, by go_num, by omega, hB, Hg2⟩, by simp [intOf]; omega⟩
          · have f3 : decide ((x.text.length : Int) > 150) = true := decide_eq_true (by omega)
            rw [show smallF x = false from decide_eq_false (fun h => t2 h.2), Bool.false_and] at hg2
            subst hg2
            go_wp2_with fail
            go_ret
            exact ⟨rfl, hB.out⟩
        · have f2 : decide ((x.path.length : Int) > 60) = true := decide_eq_true (by omega)
          rw [show smallF x = false from decide_eq_false (fun h => t1 h.1), Bool.false_and] at hg2
          subst hg2
          go_wp2_with fail
          go_ret
          exact ⟨rfl, hB.out⟩
      · obtain rfl : k = L.length := by omega
        have hg2 := hg.out
        rw [List.drop_length, List.all_nil] at hg2
        subst hg2
        go_wp2_with fail
        go_ret
        exact ⟨rfl, hB.out⟩
  · have f1 : decide ((L.length : Int) > 12) = true := decide_eq_true (by omega)
    have H : Hid (fewF L = false) := Lib.hid (by unfold fewF; rw [decide_eq_false h60, Bool.false_and])
    rw [H.out]
    go_enter Tryd.func7, Tryd.ntmps7
    go_wp2_with fail
    go_ret
    exact ⟨rfl, Below.refl _ _⟩
end Go.Proofs.YtpnfjiglphogoadDoor
