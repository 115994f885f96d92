/-
  For the laws of token: tokens spelt. Condition: at most 1,000 texts of at most 1,000 bytes each; the library's own variables and the table are as they are laid.
-/
import Derived.Test.YtamhlobjolnlhaaDoorByte
import Derived.Test.YtamhlobjolnlhaaDoorGap
namespace Go.Proofs.YtamhlobjolnlhaaDoor
open Go.RowKit Go.Shelf

def textAt (L : List (List UInt8)) (k : Nat) : List UInt8 := (L[k]?).getD []
def gapAt (L : List (List UInt8)) (k : Nat) : Bool := decide (0 < k) && gapOf (textAt L (k - 1)) (textAt L k)
/-- The first k texts spelt. -/
def spellTo (L : List (List UInt8)) : Nat → List UInt8
  | 0 => []
  | k + 1 => (spellTo L k ++ (if gapAt L k = true then [32] else [])) ++ textAt L k
theorem spell_le {L : List (List UInt8)} (h : ∀ x ∈ L, x.length ≤ 1000) : ∀ k, (spellTo L k).length ≤ 1001 * k
  | 0 => by simp [spellTo]
  | k + 1 => by
    have ih := spell_le h k
    have ht : (textAt L k).length ≤ 1000 := by
      unfold textAt
      cases hx : L[k]? with
      | none => simp
      | some x => exact h x (List.mem_of_getElem? hx)
    unfold spellTo
    rw [List.length_append, List.length_append]
    split
    · simp only [List.length_singleton]; omega
    · simp only [List.length_nil]; omega
theorem spell_next (L : List (List UInt8)) (k : Nat) : spellTo L (k + 1) = (spellTo L k ++ (if gapAt L k = true then [32] else [])) ++ textAt L k := rfl
theorem builder_below {B b : Nat} {xs : List Value} {w w' : World} (h : Lib.IsBuilder 55 5 B b xs w) (hb : Below w.heap.size w w') : Lib.IsBuilder 55 5 B b xs w' := by
  have one : ∀ p, Lib.BuilderAt 55 5 B b p xs w → Lib.BuilderAt 55 5 B b p xs w' := by
    rintro p ⟨h1, v, h2, h3, h4⟩
    exact ⟨h1, v, (hb.block _ (Array.getElem?_eq_some_iff.1 h2).1).trans h2, own_below h3 hb, h4⟩
  exact h.imp (one _) (one _)
def SpellGives (w : World) (L : List (List UInt8)) (e : Ending) (w' : World) : Prop :=
  (((∃ x ∈ L, kindOf x = 0) ∧ e = .returned (.tuple #[.string ⟨#[]⟩, .bool false])) ∨ ((∀ x ∈ L, kindOf x ≠ 0) ∧ e = .returned (.tuple #[.string (bs (spellTo L L.length)), .bool true]))) ∧ Below w.heap.size w w'
set_option maxRecDepth 100000 in
set_option maxHeartbeats 8000000 in
theorem Spell_any (v : Value) (L : List (List UInt8)) (w : World) (h1 : Strs w v L) (hW : TokW w) (hL : L.length ≤ 1000) (hx : ∀ x ∈ L, x.length ≤ 1000) : Calls Tryd.prog 27 #[v] w (SpellGives w L) := by
  obtain ⟨a, cap, rfl, hc, hm, hat⟩ := h1
  have Hat := Lib.hid hat
  have HW := Lib.hid hW
  have hW4 := hW.lex.size
  have Hx := Lib.hid hx
  unfold maxLen at hm
  have Hb0 := Lib.hid (builder_new w)
  clear hat hW hx
  go_enter Tryd.func27, Tryd.ntmps27
  go_wp2_with fail
  go_loopw [9] (fun c wr => ∃ k : Nat, c = .int .i64 k ∧ k ≤ L.length ∧ Hid (Below w.heap.size w wr) ∧ w.heap.size + 1 ≤ wr.heap.size ∧ Hid (Lib.IsBuilder 55 5 w.heap.size w.heap.size (Lib.byteCells (spellTo L k)) wr) ∧ Hid (∀ j x, j < k → L[j]? = some x → kindOf x ≠ 0)) (fun c _ => L.length - (intOf c).toNat)
  case atStart => exact ⟨0, rfl, by omega, Lib.hid ((Below.refl _ w).alloc (Nat.le_refl _) _), by simp, Hb0, Lib.hid (fun j x h => by omega)⟩
  case round =>
    obtain ⟨k, rfl, hk, hB, hsz, hbu, hno⟩ := hrel
    have hle := spell_le Hx.out k
    by_cases hlt : k < L.length
    · obtain ⟨x, hx⟩ : ∃ x, L[k]? = some x := ⟨_, List.getElem?_eq_getElem hlt⟩
      have hxs := Hx.out x (List.mem_of_getElem? hx)
      obtain ⟨b, off, rfl, hbl, hli⟩ := Hat.out k x hx
      have c0 : wr.cell? ⟨b, off + k, none⟩ = some (.string (bs x)) := (hB.out.cell (p := ⟨b, off + k, none⟩) hbl).trans hli
      have Hk := Lib.hid hx
      clear hli hx
      go_wp2_with fail
      refine (Kind_any (bs x) _ (HW.out.lex.below hB.out hW4) (by rw [bs_size]; omega)).mono ?_
      rw [tl_bs]
      rintro e w2 ⟨rfl, b2⟩
      have hB2 := Lib.hid (hB.out.trans (b2.mono hB.out.size))
      have hbu2 := Lib.hid (builder_below hbu.out b2)
      have hs2 := b2.size
      clear b2 c0
      obtain ⟨kd, hkd⟩ : ∃ kd, Hid (kindOf x = kd) := ⟨_, Lib.hid rfl⟩
      rw [hkd.out]
      by_cases h0 : kd = 0
      · subst h0
        go_wp2_with fail
        go_ret2
        exact ⟨.inl ⟨⟨x, List.mem_of_getElem? Hk.out, hkd.out⟩, rfl⟩, hB2.out⟩
      · have d0 : (kd == 0) = false := by simpa using h0
        have hnx : Hid (∀ j y, j < k + 1 → L[j]? = some y → kindOf y ≠ 0) := Lib.hid (fun j y hj hy => by
          rcases Nat.lt_or_ge j k with h | h
          · exact hno.out j y h hy
          · obtain rfl : j = k := by omega
            rw [Hk.out] at hy
            cases hy
            rw [hkd.out]
            exact h0)
        clear h0 hno
        have hta : Hid (textAt L k = x) := Lib.hid (by unfold textAt; rw [Hk.out]; rfl)
        by_cases k0 : k = 0
        · subst k0
          have hgap : Hid (gapAt L 0 = false) := Lib.hid rfl
          go_wp2_with fail
          refine (WriteString_k _ _ _ (bs x) _ hbu2.out (by rw [byteCells_length, bs_size]; omega) (by omega)).mono ?_
          rintro e w9 ⟨rfl, hw9, hb9, -⟩
          have hB9 := Lib.hid (hB2.out.trans hb9)
          have hs9 := hb9.size
          have Hw9 : Hid (Lib.IsBuilder 55 5 w.heap.size w.heap.size (Lib.byteCells (spellTo L (0 + 1))) w9) := Lib.hid (by
            rw [strCells_bs] at hw9
            have e : Lib.byteCells (spellTo L (0 + 1)) = Lib.byteCells (spellTo L 0) ++ Lib.byteCells x := by
              rw [spell_next, hgap.out, hta.out]
              simp [Lib.byteCells]
            rw [e]
            exact .inr hw9)
          clear hw9 hb9
          go_wp2_with fail
          exact ⟨⟨0 + 1, by go_num, by omega, hB9, by omega, Hw9, hnx⟩, by simp [intOf]; omega⟩
        · obtain ⟨x', hx'⟩ : ∃ x', L[k - 1]? = some x' := ⟨_, List.getElem?_eq_getElem (by omega)⟩
          have hxs' := Hx.out x' (List.mem_of_getElem? hx')
          obtain ⟨b', off', e', hbl', hli'⟩ := Hat.out (k - 1) x' hx'
          cases e'
          have c9 : w2.cell? ⟨b, off + (k - 1), none⟩ = some (.string (bs x')) := (hB2.out.cell (p := ⟨b, off + (k - 1), none⟩) hbl).trans hli'
          have hgo : Hid (gapAt L k = gapOf x' x) := Lib.hid (by unfold gapAt; rw [hta.out]; unfold textAt; rw [hx', decide_eq_true (by omega : 0 < k)]; rfl)
          clear hli' hx'
          go_wp2_with fail
          refine (Gap_any (bs x') (bs x) _ (HW.out.below hB2.out hW4) (by rw [bs_size]; omega) (by rw [bs_size]; omega)).mono ?_
          rw [tl_bs, tl_bs]
          rintro e w3 ⟨rfl, b3⟩
          have hB3 := Lib.hid (hB2.out.trans (b3.mono hB2.out.size))
          have hbu3 := Lib.hid (builder_below hbu2.out b3)
          have hs3 := b3.size
          clear b3 c9
          obtain ⟨g, hg⟩ : ∃ g, Hid (gapOf x' x = g) := ⟨_, Lib.hid rfl⟩
          rw [hg.out]
          have hgap : Hid (gapAt L k = g) := Lib.hid (hgo.out.trans hg.out)
          cases g with
          | false =>
            go_wp2_with fail
            refine (WriteString_k _ _ _ (bs x) _ hbu3.out (by rw [byteCells_length, bs_size]; omega) (by omega)).mono ?_
            rintro e w9 ⟨rfl, hw9, hb9, -⟩
            have hB9 := Lib.hid (hB3.out.trans hb9)
            have hs9 := hb9.size
            have Hw9 : Hid (Lib.IsBuilder 55 5 w.heap.size w.heap.size (Lib.byteCells (spellTo L (k + 1))) w9) := Lib.hid (by
              rw [strCells_bs] at hw9
              have e : Lib.byteCells (spellTo L (k + 1)) = Lib.byteCells (spellTo L k) ++ Lib.byteCells x := by
                rw [spell_next, hgap.out, hta.out]
                simp [Lib.byteCells]
              rw [e]
              exact .inr hw9)
            clear hw9 hb9
            go_wp2_with fail
            exact ⟨⟨k + 1, by go_num, by omega, hB9, by omega, Hw9, hnx⟩, by simp [intOf]; omega⟩
          | true =>
            go_wp2_with fail
            refine (WriteByte_any _ _ _ 32 _ hbu3.out (by rw [byteCells_length]; omega) (by omega)).mono ?_
            rintro e w4 ⟨rfl, hw4, hb4⟩
            have hB4 := Lib.hid (hB3.out.trans hb4)
            have hs4 := hb4.size
            have hbu4 : Hid (Lib.IsBuilder 55 5 w.heap.size w.heap.size (Lib.byteCells (spellTo L k) ++ [.int .u8 32]) w4) := Lib.hid (.inr hw4)
            clear hw4 hb4
            go_wp2_with fail
            refine (WriteString_k _ _ _ (bs x) _ hbu4.out (by simp only [byteCells_length, bs_size, List.length_append, List.length_singleton]; omega) (by omega)).mono ?_
            rintro e w9 ⟨rfl, hw9, hb9, -⟩
            have hB9 := Lib.hid (hB4.out.trans hb9)
            have hs9 := hb9.size
            have Hw9 : Hid (Lib.IsBuilder 55 5 w.heap.size w.heap.size (Lib.byteCells (spellTo L (k + 1))) w9) := Lib.hid (by
              rw [strCells_bs] at hw9
              have e : Lib.byteCells (spellTo L (k + 1)) = Lib.byteCells (spellTo L k) ++ [.int .u8 32] ++ Lib.byteCells x := by
                rw [spell_next, hgap.out, hta.out]
                simp [Lib.byteCells]
              rw [e]
              exact .inr hw9)
            clear hw9 hb9
            go_wp2_with fail
            exact ⟨⟨k + 1, by go_num, by omega, hB9, by omega, Hw9, hnx⟩, by simp [intOf]; omega⟩
    · obtain rfl : k = L.length := by omega
      go_wp2_with fail
      refine (Tryd.Builder_String_any _ _ _ _ hbu.out (by omega)).mono ?_
      rintro e w2 ⟨rfl, hb2⟩
      have hB2 := hB.out.trans hb2
      go_wp2_with fail
      go_ret2
      exact ⟨.inr ⟨fun x hx => by
        obtain ⟨i, hi⟩ := List.mem_iff_getElem?.1 hx
        exact hno.out i x ((List.getElem?_eq_some_iff.1 hi).1) hi, rfl⟩, hB2⟩
end Go.Proofs.YtamhlobjolnlhaaDoor
