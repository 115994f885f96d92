/-
  For the laws of archive: the files shown, and a text's first lines, by the program. Condition: at most 1,000 files with paths and texts of at most 100,000 bytes; the listed variables hold what the program's text lays.
-/
import Derived.Test.YtpnfjiglphogoadDoorHead
namespace Go.Proofs.YtpnfjiglphogoadDoor
open Go.RowKit Go.Shelf
set_option linter.unusedSimpArgs false

def okS (f : Fl) : Prop := f.path.length ≤ 100000 ∧ f.text.length ≤ 100000
/-- A file, shown. -/
def oneL (f : Fl) : By := headL f ++ whole f.text
def showL (L : List Fl) : By := L.flatMap oneL
theorem oneL_le {f : Fl} (h : okS f) : (oneL f).length ≤ 300000 := by
  have h1 := headL_le h.1 h.2
  have h2 := whole_le f.text
  have := h.2
  unfold oneL
  rw [List.length_append]; omega
theorem showL_take {L : List Fl} {k : Nat} {f : Fl} (h : L[k]? = some f) : showL (L.take (k + 1)) = showL (L.take k) ++ oneL f := by
  unfold showL
  rw [List.take_add_one, h, List.flatMap_append]; simp
theorem showL_le {L : List Fl} (h : ∀ f ∈ L, okS f) : (showL L).length ≤ L.length * 300000 := by
  unfold showL
  induction L with
  | nil => simp
  | cons x L ih =>
    have h1 := oneL_le (h x (by simp))
    have h2 := ih (fun p hp => h p (by simp [hp]))
    rw [List.flatMap_cons, List.length_append, List.length_cons, Nat.add_mul]
    omega
theorem showL_take_le {L : List Fl} (h : ∀ f ∈ L, okS f) (hl : L.length ≤ 1000) (k : Nat) : (showL (L.take k)).length ≤ 300000000 := by
  have h1 := showL_le (L := L.take k) (fun p hp => h p (List.mem_of_mem_take hp))
  have h2 : (L.take k).length ≤ 1000 := Nat.le_trans (List.length_take_le' _ _) hl
  omega
theorem builder_lt {B b : Nat} {xs : List Value} {w : World} (h : Lib.IsBuilder 48 5 B b xs w) : b < w.heap.size := by
  rcases h with ⟨-, v, h2, -, -⟩ | ⟨-, v, h2, -, -⟩ <;> exact (Array.getElem?_eq_some_iff.1 h2).1
set_option maxRecDepth 100000 in
set_option maxHeartbeats 8000000 in
theorem Show_any (v : Value) (L : List Fl) (hl : L.length ≤ 1000) (hok : ∀ f ∈ L, okS f) (w : World) (hW : AW w) (hv : Fls w v L) :
    Calls Tryd.prog 13 #[v] w fun e w' => e = .returned (.string (bs (showL L))) ∧ Below w.heap.size w w' := by
  obtain ⟨a, cap, rfl, hc, hcm, hat⟩ := hv
  unfold maxLen at hcm
  have Hat := Lib.hid hat
  have HW := Lib.hid hW
  have Hok := Lib.hid hok
  clear hat hW hok
  obtain ⟨r, hr⟩ : ∃ r, Hid (showL L = r) := ⟨_, Lib.hid rfl⟩
  rw [hr.out]
  obtain ⟨W1, hW1'⟩ : ∃ W1, Hid (w.alloc (.cells #[.pointer none, .slice none 0 0] 48) = W1) := ⟨_, Lib.hid rfl⟩
  have B1 : Hid (Below w.heap.size w W1) := by rw [← hW1'.out]; exact Lib.hid ((Below.refl _ w).alloc (Nat.le_refl _) _)
  have U1 : Hid (Lib.IsBuilder 48 5 w.heap.size w.heap.size (Lib.byteCells []) W1) := by rw [← hW1'.out]; exact Lib.hid (builder_new w)
  go_enter Tryd.func13, Tryd.ntmps13
  go_wp2_with fail
  rw [hW1'.out]
  go_loopw [8] (fun c wr => ∃ k : Nat, c = .int .i64 k ∧ k ≤ L.length ∧ Hid (Below w.heap.size w wr) ∧ Hid (Lib.IsBuilder 48 5 w.heap.size w.heap.size (Lib.byteCells (showL (L.take k))) wr)) (fun c _ => L.length - (intOf c).toNat)
  case atStart => exact ⟨0, rfl, by omega, B1, U1⟩
  case round =>
    obtain ⟨k, rfl, hk, hB, hU⟩ := hrel
    have hbs := hB.out.size
    have hpl := showL_take_le Hok.out hl k
    obtain ⟨X, hX⟩ : ∃ X, Hid (showL (L.take k) = X) := ⟨_, Lib.hid rfl⟩
    rw [hX.out] at hU hpl
    by_cases hlt : k < L.length
    · obtain ⟨p, hp⟩ : ∃ p, L[k]? = some p := ⟨_, List.getElem?_eq_getElem hlt⟩
      obtain ⟨b, off, rfl, hbl, l0, l1⟩ := Hat.out k p hp
      have c0 : wr.cell? ⟨b, off + k * 2, none⟩ = some (.string (bs p.path)) := (hB.out.cell (p := ⟨b, off + k * 2, none⟩) hbl).trans l0
      have c1 : wr.cell? ⟨b, off + k * 2 + 1, none⟩ = some (.string (bs p.text)) := (hB.out.cell (p := ⟨b, off + k * 2 + 1, none⟩) hbl).trans l1
      have hpo := Hok.out p (List.mem_of_getElem? hp)
      have hnx : Hid (showL (L.take (k + 1)) = X ++ headL p ++ whole p.text) := Lib.hid (by rw [← hX.out, showL_take hp, oneL, List.append_assoc])
      have Hpo := Lib.hid hpo
      have hh := headL_le hpo.1 hpo.2
      have hw := whole_le p.text
      have htl := hpo.2
      clear l0 l1 hp hpo
      obtain ⟨W2, hW2⟩ : ∃ W2, Hid (wr.alloc (.cells #[.string (bs p.path), .string (bs p.text)] 34) = W2) := ⟨_, Lib.hid rfl⟩
      have B2 : Hid (Below wr.heap.size wr W2) := by rw [← hW2.out]; exact Lib.hid ((Below.refl _ wr).alloc (Nat.le_refl _) _)
      have R2 : Hid (RowAt W2 wr.heap.size 34 #[.string (bs p.path), .string (bs p.text)]) := by rw [← hW2.out]; exact Lib.hid (RowAt.new wr 34 _)
      have hblt := builder_lt hU.out
      have U2 := Lib.hid (builder_below hU.out B2.out)
      have B3 := Lib.hid (hB.out.trans (B2.out.mono hbs))
      obtain ⟨H, hH⟩ : ∃ H, Hid (headL p = H) := ⟨_, Lib.hid rfl⟩
      obtain ⟨T, hT⟩ : ∃ T, Hid (whole p.text = T) := ⟨_, Lib.hid rfl⟩
      rw [hH.out] at hh hnx
      rw [hT.out] at hw hnx
      go_wp2_with fail
      rw [hW2.out]
      refine (Head_any p Hpo.out.1 Hpo.out.2 W2 (HW.out.below B3.out)).mono ?_
      rw [hH.out]
      rintro e w3 ⟨rfl, b3⟩
      have U3 := Lib.hid (builder_below U2.out b3)
      have B4 := Lib.hid (B3.out.trans (b3.mono B3.out.size))
      have R3 := Lib.hid (R2.out.later b3)
      have h4 := B4.out.size
      clear b3 c0 c1
      go_wp2_with fail
      refine (WriteString_k w.heap.size w.heap.size _ (bs H) w3 U3.out (by rw [byteCells_length, bs_size]; omega) h4).mono ?_
      rintro e w4 ⟨rfl, g4, b4, q4⟩
      rw [strCells_bs, ← byteCells_append] at g4
      have U4 : Hid (Lib.IsBuilder 48 5 w.heap.size w.heap.size (Lib.byteCells (X ++ H)) w4) := Lib.hid (.inr g4)
      have B5 := Lib.hid (B4.out.trans b4)
      have h5 := B5.out.size
      have R4 := Lib.hid (R3.out.same (q4 _ _ _ _ R3.out (by decide) (by omega)))
      have d1 := R4.out.cell (j := 1) rfl
      clear g4 b4 q4
      go_wp2_with fail
      refine (Whole_any (bs p.text) (by rw [bs_size]; omega) _).mono ?_
      rw [show wholeS (bs p.text) = bs T from by rw [wholeS_bs, tl_bs, hT.out]]
      rintro e w5 ⟨rfl, rfl⟩
      go_wp2_with fail
      refine (WriteString_k w.heap.size w.heap.size _ (bs T) _ U4.out (by rw [byteCells_length, bs_size, List.length_append]; omega) h5).mono ?_
      rintro e w6 ⟨rfl, g6, b6, -⟩
      rw [strCells_bs, ← byteCells_append, ← hnx.out] at g6
      have U6 : Hid (Lib.IsBuilder 48 5 w.heap.size w.heap.size (Lib.byteCells (showL (L.take (k + 1)))) w6) := Lib.hid (.inr g6)
      have B6 := Lib.hid (B5.out.trans b6)
      clear g6 b6 d1
      go_wp2_with fail
      exact ⟨⟨k + 1, by go_num, by omega, B6, U6⟩, by simp [intOf]; omega⟩
    · obtain rfl : k = L.length := by omega
      rw [List.take_length, hr.out] at hX
      rw [← hX.out] at hU
      go_wp2_with fail
      refine (Tryd.Builder_String_any _ _ r wr hU.out hbs).mono ?_
      rintro e w5 ⟨rfl, b5⟩
      go_wp2_with fail
      go_ret
      exact ⟨rfl, hB.out.trans b5⟩
end Go.Proofs.YtpnfjiglphogoadDoor
