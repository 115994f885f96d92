/-
  For the laws of tree: few, and the size of a list of files, by the program. Condition: at most 1,000,000 files.
-/
import Derived.Test.YtbfehhblnakcbaaFiles
namespace Go.Proofs.Ytbfehhblnakcbaa
open Go.RowKit Go.Shelf

def okFew (f : Fl) : Bool := decide (f.path.length ≤ 100) && decide (f.text.length ≤ 300)
def fewF (L : List Fl) : Bool := decide (L.length ≤ 60) && L.all okFew
def sumT : List Fl → Nat
  | [] => 0
  | f :: L => f.text.length + sumT L
theorem few_bd {L : List Fl} (h : fewF L = true) : L.length ≤ 60 ∧ ∀ f ∈ L, f.path.length ≤ 100 ∧ f.text.length ≤ 300 := by
  simpa [fewF, okFew] using h
set_option maxRecDepth 100000 in
set_option maxHeartbeats 8000000 in
theorem few_any (v : Value) (L : List Fl) (w : World) (h1 : Fls w v L) : Calls Try.prog 8 #[v] w fun e w' => e = .returned (.bool (fewF L)) ∧ Below w.heap.size w w' := by
  obtain ⟨a, cap, rfl, hc, hm, hat⟩ := h1
  have Hat := Lib.hid hat; clear hat
  unfold maxLen at hm
  by_cases hs : L.length ≤ 60
  · have f0 : decide ((L.length : Int) > 60) = false := decide_eq_false (by omega)
    obtain ⟨r, hr⟩ : ∃ r, Hid (L.all okFew = r) := ⟨_, Lib.hid rfl⟩
    have hf : Hid (fewF L = r) := Lib.hid (by rw [fewF, decide_eq_true hs, hr.out, Bool.true_and])
    rw [hf.out]
    go_enter Try.func8, Try.ntmps8
    go_wp2_with fail
    go_loopw [3] (fun c wr => ∃ k : Nat, c = .int .i64 k ∧ k ≤ L.length ∧ Hid (Below w.heap.size w wr) ∧ Hid ((L.drop k).all okFew = r)) (fun c _ => L.length - (intOf c).toNat)
    case atStart => exact ⟨0, rfl, by omega, Lib.hid (Below.refl _ _), hr⟩
    case round =>
      obtain ⟨k, rfl, hk, hB, hg⟩ := hrel
      have hbs := hB.out.size
      by_cases hlt : k < L.length
      · obtain ⟨x, hx⟩ : ∃ x, L[k]? = some x := ⟨_, List.getElem?_eq_getElem hlt⟩
        obtain ⟨b, off, rfl, hbl, hl0, hl1⟩ := Hat.out k x hx
        have c0 : wr.cell? ⟨b, off + k * 2, none⟩ = some (.string (bs x.path)) := (hB.out.cell (p := ⟨b, off + k * 2, none⟩) hbl).trans hl0
        have c1 : wr.cell? ⟨b, off + k * 2 + 1, none⟩ = some (.string (bs x.text)) := (hB.out.cell (p := ⟨b, off + k * 2 + 1, none⟩) hbl).trans hl1
        have hd : L.drop k = x :: L.drop (k + 1) := by
          obtain ⟨hk, rfl⟩ := List.getElem?_eq_some_iff.1 hx
          exact List.drop_eq_getElem_cons hk
        have hg2 := hg.out
        rw [hd, List.all_cons, okFew] at hg2
        have g1 := bs_size x.path
        have g2 := bs_size x.text
        clear hl0 hl1 hx hd
        by_cases e1 : x.path.length ≤ 100
        · have f1 : decide ((x.path.length : Int) > 100) = false := decide_eq_false (by omega)
          by_cases e2 : x.text.length ≤ 300
          · have f2 : decide ((x.text.length : Int) > 300) = false := decide_eq_false (by omega)
            rw [decide_eq_true e1, decide_eq_true e2, Bool.true_and, Bool.true_and] at hg2
            have Hg2 := Lib.hid hg2
            clear e1 e2 hg2 g1 g2
            go_wp2_with fail
            exact ⟨⟨k + 1, by go_num, by omega, hB, Hg2⟩, by simp [intOf]; omega⟩
          · have f2 : decide ((x.text.length : Int) > 300) = true := decide_eq_true (by omega)
            rw [decide_eq_false e2, Bool.and_false, Bool.false_and] at hg2
            subst hg2
            clear e1 e2 g1 g2
            go_wp2_with fail
            go_ret
            exact ⟨rfl, hB.out⟩
        · have f1 : decide ((x.path.length : Int) > 100) = true := decide_eq_true (by omega)
          rw [decide_eq_false e1, Bool.false_and, Bool.false_and] at hg2
          subst hg2
          clear e1 g1 g2
          go_wp2_with fail
          go_ret
          exact ⟨rfl, hB.out⟩
      · obtain rfl : k = L.length := by omega
        have hg2 := hg.out
        rw [List.drop_length] at hg2
        obtain rfl : true = r := hg2
        go_wp2_with fail
        go_ret
        exact ⟨rfl, hB.out⟩
  · have f0 : decide ((L.length : Int) > 60) = true := decide_eq_true (by omega)
    rw [fewF, decide_eq_false hs, Bool.false_and]
    go_enter Try.func8, Try.ntmps8
    go_wp2_with fail
    go_ret
    exact ⟨rfl, Below.refl _ _⟩
theorem sum_next {L : List Fl} {k : Nat} {x : Fl} (h : L[k]? = some x) : sumT (L.take (k + 1)) = sumT (L.take k) + x.text.length := by
  rw [List.take_add_one, h]
  show sumT (L.take k ++ [x]) = _
  generalize L.take k = A
  induction A with
  | nil => simp [sumT]
  | cons y A ih => simp only [List.cons_append, sumT, ih]; omega
theorem sum_take (L : List Fl) (k : Nat) : sumT (L.take k) ≤ sumT L := by
  induction L generalizing k with
  | nil => simp [sumT]
  | cons y A ih =>
    cases k with
    | zero => simp [sumT]
    | succ k => simp only [List.take_succ_cons, sumT]; have := ih k; omega
set_option maxRecDepth 100000 in
set_option maxHeartbeats 8000000 in
theorem Size_any (v : Value) (L : List Fl) (w : World) (h1 : Fls w v L) (hsum : sumT L ≤ 1000000000000000000) : Calls Try.prog 13 #[v] w fun e w' => e = .returned (.int .i64 (sumT L : Nat)) ∧ Below w.heap.size w w' := by
  obtain ⟨a, cap, rfl, hc, hm, hat⟩ := h1
  have Hat := Lib.hid hat; clear hat
  unfold maxLen at hm
  go_enter Try.func13, Try.ntmps13
  go_wp2_with fail
  go_loopw [3, 8] (fun s c wr => ∃ k : Nat, c = .int .i64 k ∧ k ≤ L.length ∧ s = .int .i64 (sumT (L.take k) : Nat) ∧ Hid (Below w.heap.size w wr)) (fun _ c _ => L.length - (intOf c).toNat)
  case atStart => exact ⟨0, rfl, by omega, rfl, Lib.hid (Below.refl _ _)⟩
  case round =>
    obtain ⟨k, rfl, hk, rfl, hB⟩ := hrel
    have hbs := hB.out.size
    have hle := sum_take L k
    by_cases hlt : k < L.length
    · obtain ⟨x, hx⟩ : ∃ x, L[k]? = some x := ⟨_, List.getElem?_eq_getElem hlt⟩
      obtain ⟨b, off, rfl, hbl, hl0, hl1⟩ := Hat.out k x hx
      have c0 : wr.cell? ⟨b, off + k * 2, none⟩ = some (.string (bs x.path)) := (hB.out.cell (p := ⟨b, off + k * 2, none⟩) hbl).trans hl0
      have c1 : wr.cell? ⟨b, off + k * 2 + 1, none⟩ = some (.string (bs x.text)) := (hB.out.cell (p := ⟨b, off + k * 2 + 1, none⟩) hbl).trans hl1
      have hnx := sum_next hx
      have hle2 := sum_take L (k + 1)
      have g2 := bs_size x.text
      have hBa := Lib.hid (hB.out.alloc (by omega) (.cells #[.string (bs x.path), .string (bs x.text)] 43))
      clear hl0 hl1 hx
      obtain ⟨S, hS⟩ : ∃ S, sumT (L.take k) = S := ⟨_, rfl⟩
      obtain ⟨S', hS'⟩ : ∃ S, sumT (L.take (k + 1)) = S := ⟨_, rfl⟩
      rw [hS'] at hnx hle2
      rw [hS] at hnx hle
      rw [hS]
      have HS' := Lib.hid hS'
      clear hS hS'
      have f1 : wrap64 ((S : Int) + (x.text.length : Int)) = ((S' : Nat) : Int) := by rw [Go.IntWalk.wrap64_in _ (by omega)]; omega
      have F1 := Lib.hid hnx
      clear hnx
      go_wp2_with fail
      exact ⟨⟨k + 1, by go_num, by omega, by rw [f1, HS'.out], hBa⟩, by simp [intOf]; omega⟩
    · obtain rfl : k = L.length := by omega
      rw [List.take_length]
      go_wp2_with fail
      go_ret
      exact ⟨rfl, hB.out⟩
end Go.Proofs.Ytbfehhblnakcbaa
