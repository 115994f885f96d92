/-
  For the laws of marker: parts printed by the program. Condition: at most 1,000 parts of texts of at most 100,000 bytes each, marks of at most 100,000; the program's table of marks is as it is laid.
-/
import Derived.Test.YtbekbllffphfeaaDoorKClash
namespace Go.Proofs.YtbekbllffphfeaaDoor.K
open Go.RowKit Go.Shelf
set_option linter.unusedSimpArgs false

/-- A part, printed. -/
def oneP (m : Nat) (old : Bool) (p : Pt) : By := if p.clash then clashL p m old else p.a
def printM (L : List Pt) (m : Nat) (old : Bool) : By := L.flatMap (oneP m old)
def okS (p : Pt) : Prop := p.o.length ≤ 100000 ∧ p.a.length ≤ 100000 ∧ p.b.length ≤ 100000
theorem clashL_le {p : Pt} (h : okS p) {m : Nat} (hm : m ≤ 100000) (old : Bool) : (clashL p m old).length ≤ 1000000 := by
  obtain ⟨h1, h2, h3⟩ := h
  have la := whole_le p.a
  have lo := whole_le p.o
  have lb := whole_le p.b
  have m1 := mk_le 60 m false oursW
  have m2 := mk_le 124 m (cutOf p.a) baseW
  have m3 := mk_le 61 m (cutOf p.o) []
  have m4 := mk_le 61 m (cutOf p.a) []
  have m5 := mk_le 62 m (cutOf p.b) theirsW
  have k1 : oursW.length = 4 := rfl
  have k2 : baseW.length = 4 := rfl
  have k3 : theirsW.length = 6 := rfl
  have k4 : ([] : By).length = 0 := rfl
  unfold clashL
  cases old <;> simp only [List.length_append, if_true, if_false, Bool.false_eq_true] <;> omega
theorem oneP_le {p : Pt} (h : okS p) {m : Nat} (hm : m ≤ 100000) (old : Bool) : (oneP m old p).length ≤ 1000000 := by
  unfold oneP
  split
  · exact clashL_le h hm old
  · have := h.2.1; omega
theorem printM_take {L : List Pt} {k : Nat} {p : Pt} (h : L[k]? = some p) (m : Nat) (old : Bool) : printM (L.take (k + 1)) m old = printM (L.take k) m old ++ oneP m old p := by
  unfold printM
  rw [List.take_add_one, h, List.flatMap_append]; simp
theorem printM_le {L : List Pt} (h : ∀ p ∈ L, okS p) {m : Nat} (hm : m ≤ 100000) (old : Bool) : (printM L m old).length ≤ L.length * 1000000 := by
  unfold printM
  induction L with
  | nil => simp
  | cons x L ih =>
    have h1 := oneP_le (h x (by simp)) hm old
    have h2 := ih (fun p hp => h p (by simp [hp]))
    rw [List.flatMap_cons, List.length_append, List.length_cons, Nat.add_mul]
    omega
theorem printM_take_le {L : List Pt} (h : ∀ p ∈ L, okS p) {m : Nat} (hm : m ≤ 100000) (old : Bool) (hl : L.length ≤ 20000) (k : Nat) : (printM (L.take k) m old).length ≤ 100000000000 := by
  have h1 := printM_le (L := L.take k) (fun p hp => h p (List.mem_of_mem_take hp)) hm old
  have h2 : (L.take k).length ≤ 20000 := Nat.le_trans (List.length_take_le' _ _) hl
  omega
set_option maxRecDepth 100000 in
set_option maxHeartbeats 8000000 in
theorem Print_any (v : Value) (L : List Pt) (n : Int) (m : Nat) (hm : max n 1 = (m : Int)) (hm2 : m ≤ 100000) (old : Bool) (hl : L.length ≤ 20000) (hok : ∀ p ∈ L, okS p) (w : World) (hW : MkW w) (hv : Prts w v L) :
    Calls Tryd.prog 24 #[v, .int .i64 n, .bool old] w fun e w' => e = .returned (.string (bs (printM L m old))) ∧ Below w.heap.size w w' := by
  obtain ⟨a, cap, rfl, hc, hcm, hat⟩ := hv
  unfold maxLen at hcm
  have Hat := Lib.hid hat
  have HW := Lib.hid hW
  have Hok := Lib.hid hok
  have hW1 := hW.size
  clear hat hW hok
  obtain ⟨r, hr⟩ : ∃ r, Hid (printM L m old = r) := ⟨_, Lib.hid rfl⟩
  rw [hr.out]
  obtain ⟨W1, hW1'⟩ : ∃ W1, Hid (w.alloc (.cells #[.pointer none, .slice none 0 0] 74) = W1) := ⟨_, Lib.hid rfl⟩
  have B1 : Hid (Below w.heap.size w W1) := by rw [← hW1'.out]; exact Lib.hid ((Below.refl _ w).alloc (Nat.le_refl _) _)
  have U1 : Hid (Lib.IsBuilder 74 5 w.heap.size w.heap.size (Lib.byteCells []) W1) := by rw [← hW1'.out]; exact Lib.hid (builder_new w)
  go_enter Tryd.func24, Tryd.ntmps24
  go_wp2_with fail
  rw [hW1'.out]
  go_loopw [12] (fun c wr => ∃ k : Nat, c = .int .i64 k ∧ k ≤ L.length ∧ Hid (Below w.heap.size w wr) ∧ Hid (Lib.IsBuilder 74 5 w.heap.size w.heap.size (Lib.byteCells (printM (L.take k) m old)) wr)) (fun c _ => L.length - (intOf c).toNat)
  case atStart => exact ⟨0, rfl, by omega, B1, U1⟩
  case round =>
    obtain ⟨k, rfl, hk, hB, hU⟩ := hrel
    have hbs := hB.out.size
    have hpl := printM_take_le Hok.out hm2 old hl k
    obtain ⟨X, hX⟩ : ∃ X, Hid (printM (L.take k) m old = X) := ⟨_, Lib.hid rfl⟩
    rw [hX.out] at hU hpl
    by_cases hlt : k < L.length
    · obtain ⟨p, hp⟩ : ∃ p, L[k]? = some p := ⟨_, List.getElem?_eq_getElem hlt⟩
      obtain ⟨b, off, rfl, hbl, l0, l1, l2, l3⟩ := Hat.out k p hp
      have c0 : wr.cell? ⟨b, off + k * 4, none⟩ = some (.bool p.clash) := (hB.out.cell (p := ⟨b, off + k * 4, none⟩) hbl).trans l0
      have c1 : wr.cell? ⟨b, off + k * 4 + 1, none⟩ = some (.string (bs p.o)) := (hB.out.cell (p := ⟨b, off + k * 4 + 1, none⟩) hbl).trans l1
      have c2 : wr.cell? ⟨b, off + k * 4 + 2, none⟩ = some (.string (bs p.a)) := (hB.out.cell (p := ⟨b, off + k * 4 + 2, none⟩) hbl).trans l2
      have c3 : wr.cell? ⟨b, off + k * 4 + 3, none⟩ = some (.string (bs p.b)) := (hB.out.cell (p := ⟨b, off + k * 4 + 3, none⟩) hbl).trans l3
      have hpo := Hok.out p (List.mem_of_getElem? hp)
      have hone := oneP_le hpo hm2 old
      have hnx : Hid (printM (L.take (k + 1)) m old = X ++ oneP m old p) := Lib.hid (by rw [← hX.out]; exact printM_take hp m old)
      have Hpo := Lib.hid hpo
      clear l0 l1 l2 l3 hp hpo
      obtain ⟨W2, hW2⟩ : ∃ W2, Hid (wr.alloc (.cells #[.bool p.clash, .string (bs p.o), .string (bs p.a), .string (bs p.b)] 52) = W2) := ⟨_, Lib.hid rfl⟩
      have B2 : Hid (Below wr.heap.size wr W2) := by rw [← hW2.out]; exact Lib.hid ((Below.refl _ wr).alloc (Nat.le_refl _) _)
      have R2 : Hid (RowAt W2 wr.heap.size 52 #[.bool p.clash, .string (bs p.o), .string (bs p.a), .string (bs p.b)]) := by rw [← hW2.out]; exact Lib.hid (RowAt.new wr 52 _)
      have U2 := Lib.hid (builder_below hU.out B2.out)
      have B3 := Lib.hid (hB.out.trans (B2.out.mono hbs))
      cases hcl : p.clash with
      | true =>
        have e1 : Hid (oneP m old p = clashL p m old) := Lib.hid (by unfold oneP; rw [hcl]; rfl)
        rw [hcl] at c0 hW2 R2
        rw [e1.out] at hone hnx
        clear hcl
        go_wp2_with fail
        rw [hW2.out]
        refine (clash_any ⟨true, p.o, p.a, p.b⟩ Hpo.out.1 Hpo.out.2.1 Hpo.out.2.2 m hm2 old W2 (HW.out.below B3.out hW1)).mono ?_
        rw [show clashL ⟨true, p.o, p.a, p.b⟩ m old = clashL p m old from rfl]
        rintro e w3 ⟨rfl, b3⟩
        have U3 := Lib.hid (builder_below U2.out b3)
        have B4 := Lib.hid (B3.out.trans (b3.mono B3.out.size))
        have h4 := B4.out.size
        clear b3 c0 c1 c2 c3
        go_wp2_with fail
        refine (WriteString_k w.heap.size w.heap.size _ (bs (clashL p m old)) w3 U3.out (by rw [byteCells_length, bs_size]; omega) h4).mono ?_
        rintro e w4 ⟨rfl, g4, b4, -⟩
        rw [strCells_bs, ← byteCells_append, ← hnx.out] at g4
        have U4 : Hid (Lib.IsBuilder 74 5 w.heap.size w.heap.size (Lib.byteCells (printM (L.take (k + 1)) m old)) w4) := Lib.hid (.inr g4)
        have B5 := Lib.hid (B4.out.trans b4)
        clear g4 b4
        go_wp2_with fail
        exact ⟨⟨k + 1, by go_num, by omega, B5, U4⟩, by simp [intOf]; omega⟩
      | false =>
        have e1 : Hid (oneP m old p = p.a) := Lib.hid (by unfold oneP; rw [hcl]; rfl)
        rw [hcl] at c0 hW2 R2
        rw [e1.out] at hone hnx
        have h3 := B3.out.size
        clear hcl
        go_wp2_with fail
        rw [hW2.out]
        refine (WriteString_k w.heap.size w.heap.size _ (bs p.a) W2 U2.out (by rw [byteCells_length, bs_size]; omega) h3).mono ?_
        rintro e w4 ⟨rfl, g4, b4, -⟩
        rw [strCells_bs, ← byteCells_append, ← hnx.out] at g4
        have U4 : Hid (Lib.IsBuilder 74 5 w.heap.size w.heap.size (Lib.byteCells (printM (L.take (k + 1)) m old)) w4) := Lib.hid (.inr g4)
        have B5 := Lib.hid (B3.out.trans b4)
        clear g4 b4 c0 c1 c2 c3
        go_wp2_with fail
        exact ⟨⟨k + 1, by go_num, by omega, B5, U4⟩, by simp [intOf]; omega⟩
    · obtain rfl : k = L.length := by omega
      rw [List.take_length, hr.out] at hX
      rw [← hX.out] at hU
      go_wp2_with fail
      refine (Tryd.Builder_String_any _ _ r wr hU.out hbs).mono ?_
      rintro e w5 ⟨rfl, b5⟩
      go_wp2_with fail
      go_ret
      exact ⟨rfl, hB.out.trans b5⟩
end Go.Proofs.YtbekbllffphfeaaDoor.K
