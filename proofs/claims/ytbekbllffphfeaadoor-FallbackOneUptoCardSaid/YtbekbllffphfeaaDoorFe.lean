/-
  For the laws of fallback: one side of parts, by the program and by the document, with bounds of the parts as premises.
-/
import Derived.Test.YtbekbllffphfeaaDoorFd
namespace Go.Proofs.YtbekbllffphfeaaDoor
open Go.RowKit Go.Shelf
set_option linter.unusedSimpArgs false
set_option linter.unusedVariables false

def okB (p : Pt) : Prop := p.o.length ≤ 100000000 ∧ p.a.length ≤ 100000000 ∧ p.b.length ≤ 100000000
set_option maxRecDepth 100000 in
set_option maxHeartbeats 8000000 in
theorem SideG_any (v : Value) (L : List Pt) (n : Int) (hl : L.length ≤ 100000000) (hok : ∀ p ∈ L, okB p) (hbd : ∀ k, (sideP (L.take k) n).length ≤ 100000000000) (w : World) (hv : Prts w v L) :
    Calls Tryd.prog 19 #[v, .int .i64 n] w fun e w' => e = .returned (.string (bs (sideP L n))) ∧ Below w.heap.size w w' := by
  obtain ⟨a, cap, rfl, hc, hcm, hat⟩ := prts_at hv
  unfold maxLen at hcm
  have Hat := Lib.hid hat
  have Hok := Lib.hid hok
  have Hbd := Lib.hid hbd
  clear hat hok hv hbd
  obtain ⟨r, hr⟩ : ∃ r, Hid (sideP L n = r) := ⟨_, Lib.hid rfl⟩
  rw [hr.out]
  obtain ⟨W1, hW1'⟩ : ∃ W1, Hid (w.alloc (.cells #[.pointer none, .slice none 0 0] 74) = W1) := ⟨_, Lib.hid rfl⟩
  have B1 : Hid (Below w.heap.size w W1) := by rw [← hW1'.out]; exact Lib.hid ((Below.refl _ w).alloc (Nat.le_refl _) _)
  have U1 : Hid (Lib.IsBuilder 74 5 w.heap.size w.heap.size (Lib.byteCells []) W1) := by rw [← hW1'.out]; exact Lib.hid (builder_new w)
  obtain ⟨m, hm⟩ : ∃ m, Hid (L.length = m) := ⟨_, Lib.hid rfl⟩
  rw [hm.out] at hc hl ⊢
  go_enter Tryd.func19, Tryd.ntmps19
  go_wp2_with fail
  rw [hW1'.out]
  go_loopw [10] (fun c wr => ∃ k : Nat, c = .int .i64 k ∧ k ≤ m ∧ Hid (Below w.heap.size w wr) ∧ Hid (Lib.IsBuilder 74 5 w.heap.size w.heap.size (Lib.byteCells (sideP (L.take k) n)) wr)) (fun c _ => m - (intOf c).toNat)
  case atStart => exact ⟨0, rfl, by omega, B1, U1⟩
  case round =>
    obtain ⟨k, rfl, hk, hB, hU⟩ := hrel
    have hbs := hB.out.size
    have hpl := Hbd.out k
    obtain ⟨X, hX⟩ : ∃ X, Hid (sideP (L.take k) n = X) := ⟨_, Lib.hid rfl⟩
    rw [hX.out] at hU hpl
    rcases Nat.lt_or_ge k m with hlt | hlt
    · obtain ⟨p, hp⟩ := get_lt (l := L) (k := k) (by rw [hm.out]; exact hlt)
      obtain ⟨b, off, rfl, c0, c1, c2, c3⟩ := Hat.out wr hB.out k p hp
      have hpo := Hok.out p (List.mem_of_getElem? hp)
      have hp1 := hpo.1
      have hp2 := hpo.2.1
      have hp3 := hpo.2.2
      have hnx : Hid (sideP (L.take (k + 1)) n = X ++ p.side n) := Lib.hid (by rw [← hX.out]; exact sideP_take hp n)
      clear hp hpo
      have d1 : decide (k < m) = true := decide_eq_true hlt
      have d2 : (0 : Int) ≤ (k : Int) := by omega
      have d3 : (k : Int) < (m : Int) := by omega
      obtain ⟨W2, hW2⟩ : ∃ W2, Hid (wr.alloc (.cells #[.bool p.clash, .string (bs p.o), .string (bs p.a), .string (bs p.b)] 52) = W2) := ⟨_, Lib.hid rfl⟩
      have B2 : Hid (Below wr.heap.size wr W2) := by rw [← hW2.out]; exact Lib.hid ((Below.refl _ wr).alloc (Nat.le_refl _) _)
      have R2 : Hid (RowAt W2 wr.heap.size 52 #[.bool p.clash, .string (bs p.o), .string (bs p.a), .string (bs p.b)]) := by rw [← hW2.out]; exact Lib.hid (RowAt.new wr 52 _)
      have U2 := Lib.hid (builder_below hU.out B2.out)
      have B3 := Lib.hid (hB.out.trans (B2.out.mono hbs))
      have h3 := B3.out.size
      by_cases n0 : n = 0
      · have f0 : (n == 0) = true := by simpa using n0
        have e1 : p.side n = p.o := by unfold Pt.side; rw [if_pos n0]
        rw [e1] at hnx
        clear n0 e1
        go_wp2_with fail
        rw [hW2.out]
        refine (WriteString_k w.heap.size w.heap.size _ (bs p.o) W2 U2.out (by rw [byteCells_length, bs_size]; omega) h3).mono ?_
        rintro e w4 ⟨rfl, g4, b4, -⟩
        rw [strCells_bs, ← byteCells_append, ← hnx.out] at g4
        have U4 : Hid (Lib.IsBuilder 74 5 w.heap.size w.heap.size (Lib.byteCells (sideP (L.take (k + 1)) n)) w4) := Lib.hid (.inr g4)
        have B5 := Lib.hid (B3.out.trans b4)
        clear g4 b4 c0 c1 c2 c3
        go_wp2_with fail
        exact ⟨⟨k + 1, by go_num, by omega, B5, U4⟩, by simp [intOf]; omega⟩
      by_cases n1 : n = 1
      · have f0 : (n == 0) = false := by simpa using n0
        have f1 : (n == 1) = true := by simpa using n1
        have e1 : p.side n = p.a := by unfold Pt.side; rw [if_neg n0, if_pos n1]
        rw [e1] at hnx
        clear n0 n1 e1
        go_wp2_with fail
        rw [hW2.out]
        refine (WriteString_k w.heap.size w.heap.size _ (bs p.a) W2 U2.out (by rw [byteCells_length, bs_size]; omega) h3).mono ?_
        rintro e w4 ⟨rfl, g4, b4, -⟩
        rw [strCells_bs, ← byteCells_append, ← hnx.out] at g4
        have U4 : Hid (Lib.IsBuilder 74 5 w.heap.size w.heap.size (Lib.byteCells (sideP (L.take (k + 1)) n)) w4) := Lib.hid (.inr g4)
        have B5 := Lib.hid (B3.out.trans b4)
        clear g4 b4 c0 c1 c2 c3
        go_wp2_with fail
        exact ⟨⟨k + 1, by go_num, by omega, B5, U4⟩, by simp [intOf]; omega⟩
      by_cases n2 : n = 2
      · have f0 : (n == 0) = false := by simpa using n0
        have f1 : (n == 1) = false := by simpa using n1
        have f2 : (n == 2) = true := by simpa using n2
        have e1 : p.side n = p.b := by unfold Pt.side; rw [if_neg n0, if_neg n1, if_pos n2]
        rw [e1] at hnx
        clear n0 n1 n2 e1
        go_wp2_with fail
        rw [hW2.out]
        refine (WriteString_k w.heap.size w.heap.size _ (bs p.b) W2 U2.out (by rw [byteCells_length, bs_size]; omega) h3).mono ?_
        rintro e w4 ⟨rfl, g4, b4, -⟩
        rw [strCells_bs, ← byteCells_append, ← hnx.out] at g4
        have U4 : Hid (Lib.IsBuilder 74 5 w.heap.size w.heap.size (Lib.byteCells (sideP (L.take (k + 1)) n)) w4) := Lib.hid (.inr g4)
        have B5 := Lib.hid (B3.out.trans b4)
        clear g4 b4 c0 c1 c2 c3
        go_wp2_with fail
        exact ⟨⟨k + 1, by go_num, by omega, B5, U4⟩, by simp [intOf]; omega⟩
      · have f0 : (n == 0) = false := by simpa using n0
        have f1 : (n == 1) = false := by simpa using n1
        have f2 : (n == 2) = false := by simpa using n2
        have e1 : p.side n = [] := by unfold Pt.side; rw [if_neg n0, if_neg n1, if_neg n2]
        rw [e1, List.append_nil] at hnx
        have U5 : Hid (Lib.IsBuilder 74 5 w.heap.size w.heap.size (Lib.byteCells (sideP (L.take (k + 1)) n)) W2) := Lib.hid (by rw [hnx.out]; exact U2.out)
        clear n0 n1 n2 e1
        go_wp2_with fail
        rw [hW2.out]
        exact ⟨⟨k + 1, by go_num, by omega, B3, U5⟩, by simp [intOf]; omega⟩
    · have d1 : decide (k < m) = false := decide_eq_false (by omega)
      rw [List.take_of_length_le (by rw [hm.out]; exact hlt), hr.out] at hX
      rw [← hX.out] at hU
      go_wp2_with fail
      refine (Tryd.Builder_String_any _ _ r wr hU.out hbs).mono ?_
      rintro e w5 ⟨rfl, b5⟩
      go_wp2_with fail
      go_ret
      exact ⟨rfl, hB.out.trans b5⟩

end Go.Proofs.YtbekbllffphfeaaDoor
