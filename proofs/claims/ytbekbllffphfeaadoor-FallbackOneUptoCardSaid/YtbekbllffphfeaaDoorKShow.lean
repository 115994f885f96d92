/-
  For the laws of marker: parts shown, by the program and by the reference. Condition: at most 1,000 parts of texts of at most 50,000 bytes each; the program's table of marks is as it is laid.
-/
import Derived.Test.YtbekbllffphfeaaDoorKWhole
import Derived.Test.YtbekbllffphfeaaDoorKRun
import Derived.Test.YtbekbllffphfeaaDoorKPrint
import Derived.Deep.RegionHeldLaw
namespace Go.Proofs.YtbekbllffphfeaaDoor.K
open Go.RowKit Go.Shelf
set_option linter.unusedSimpArgs false

/-- All texts of parts. -/
def tx3 (L : List Pt) : List By := L.flatMap fun p => [p.o, p.a, p.b]
theorem tx3_len (L : List Pt) : (tx3 L).length = 3 * L.length := by
  unfold tx3
  induction L with
  | nil => rfl
  | cons x L ih => rw [List.flatMap_cons, List.length_append, ih, List.length_cons]; simp; omega
theorem tx3_take {L : List Pt} {k : Nat} {p : Pt} (h : L[k]? = some p) : tx3 (L.take (k + 1)) = tx3 (L.take k) ++ [p.o, p.a, p.b] := by
  unfold tx3
  rw [List.take_add_one, h, List.flatMap_append]; simp
theorem strV_app (A B : List By) : strV (A ++ B) = strV A ++ strV B := by simp [strV]
/-- How long marks are to be, for parts. -/
def showN (L : List Pt) : Nat := lenL 7 (allL ((tx3 L).map bs))
def okH (p : Pt) : Prop := p.o.length ≤ 50000 ∧ p.a.length ≤ 50000 ∧ p.b.length ≤ 50000
theorem okH.okS {p : Pt} (h : okH p) : okS p := ⟨by have := h.1; omega, by have := h.2.1; omega, by have := h.2.2; omega⟩
theorem tx3_mem {L : List Pt} (h : ∀ p ∈ L, okH p) : ∀ x ∈ (tx3 L).map bs, x.size ≤ 50000 := by
  intro x hx
  obtain ⟨y, hy, rfl⟩ := List.mem_map.1 hx
  unfold tx3 at hy
  obtain ⟨p, hp, hy⟩ := List.mem_flatMap.1 hy
  obtain ⟨h1, h2, h3⟩ := h p hp
  rw [bs_size]
  simp at hy
  rcases hy with rfl | rfl | rfl <;> assumption
theorem allL_bd2 {xs : List ByteArray} {B : Nat} (hB : 7 ≤ B + 1) (h : ∀ x ∈ xs, x.size ≤ B) : lenL 7 (allL xs) ≤ B + 1 := by
  refine lenL_bd hB fun l hl => ?_
  unfold allL at hl
  obtain ⟨x, hx, hl⟩ := List.mem_flatMap.1 hl
  have := h x hx
  have := lnB_sizes hl
  omega
theorem showN_le {L : List Pt} (h : ∀ p ∈ L, okH p) : showN L ≤ 50001 := allL_bd2 (by omega) (tx3_mem h)
theorem showN_ge (L : List Pt) : 7 ≤ showN L := (lenL_ge _ 7).1
theorem strz_tx3 {W : World} {base : Nat} {v : Value} {L : List Pt} (h : W.ownsRow base 9 1 v (tx3 L).length (strV (tx3 L))) : Strz W v ((tx3 L).map bs) := by
  refine strz_of_owns (base := base) ?_
  rw [List.length_map, List.map_map]
  exact h
theorem three_new (W : World) (o : Obj) (x y z : By) (t : TypeId) : ∀ j u, ([.string (bs x), .string (bs y), .string (bs z)] : List Value)[j]? = some u → ((W.alloc o).alloc (.cells #[.string (bs x), .string (bs y), .string (bs z)] t)).cell? ((⟨W.heap.size + 1, 0, none⟩ : Addr).add j) = some u := by
  intro j u hj
  have h := World.alloc_heap_new (W.alloc o) (.cells #[.string (bs x), .string (bs y), .string (bs z)] t)
  rw [World.size_alloc] at h
  rw [add_flat, Nat.zero_add, Lib.cell_of_heap h]
  simpa using hj
theorem three_one (x y z : By) : ∀ u ∈ ([.string (bs x), .string (bs y), .string (bs z)] : List Value), u.oneCell' = true := by
  intro u hu
  simp at hu
  rcases hu with rfl | rfl | rfl <;> rfl
set_option maxRecDepth 100000 in
set_option maxHeartbeats 8000000 in
theorem Show_any (v : Value) (L : List Pt) (old : Bool) (hl : L.length ≤ 20000) (hok : ∀ p ∈ L, okH p) (w : World) (hW : MkW w) (hv : Prts w v L) :
    Calls Tryd.prog 17 #[v, .bool old] w fun e w' => e = .returned (.tuple #[.string (bs (printM L (showN L) old)), .int .i64 (showN L : Nat)]) ∧ Below w.heap.size w w' := by
  have Hv := Lib.hid hv
  obtain ⟨a, cap, rfl, hc, hcm, hat⟩ := hv
  unfold maxLen at hcm
  have Hat := Lib.hid hat
  have HW := Lib.hid hW
  have Hok := Lib.hid hok
  have hW1 := hW.size
  clear hat hW hok
  obtain ⟨N, hN⟩ : ∃ N, Hid (showN L = N) := ⟨_, Lib.hid rfl⟩
  have hN1 : 7 ≤ N := by rw [← hN.out]; exact showN_ge L
  have hN2 : N ≤ 50001 := by rw [← hN.out]; exact showN_le Hok.out
  obtain ⟨i0, hi0, hz0, hz1, hz2⟩ := info_parts infoStr
  obtain ⟨r, hr⟩ : ∃ r, Hid (printM L N old = r) := ⟨_, Lib.hid rfl⟩
  rw [hN.out, hr.out]
  go_enter Tryd.func17, Tryd.ntmps17
  go_wp2_with fail
  go_loopw [6, 12] (fun u c wr => ∃ k : Nat, c = .int .i64 k ∧ k ≤ L.length ∧ Hid (wr.ownsRow w.heap.size 9 1 u (tx3 (L.take k)).length (strV (tx3 (L.take k)))) ∧ Hid (Below w.heap.size w wr)) (fun _ c _ => L.length - (intOf c).toNat)
  case atStart => exact ⟨0, rfl, by omega, Lib.hid (World.ownsRow_nil _ _ _ _), Lib.hid (Below.refl _ _)⟩
  case round =>
    obtain ⟨k, rfl, hk, hown, hB⟩ := hrel
    have hbs := hB.out.size
    by_cases hlt : k < L.length
    · obtain ⟨p, hp⟩ : ∃ p, L[k]? = some p := ⟨_, List.getElem?_eq_getElem hlt⟩
      obtain ⟨b, off, rfl, hbl, l0, l1, l2, l3⟩ := Hat.out k p hp
      have c0 : wr.cell? ⟨b, off + k * 4, none⟩ = some (.bool p.clash) := (hB.out.cell (p := ⟨b, off + k * 4, none⟩) hbl).trans l0
      have c1 : wr.cell? ⟨b, off + k * 4 + 1, none⟩ = some (.string (bs p.o)) := (hB.out.cell (p := ⟨b, off + k * 4 + 1, none⟩) hbl).trans l1
      have c2 : wr.cell? ⟨b, off + k * 4 + 2, none⟩ = some (.string (bs p.a)) := (hB.out.cell (p := ⟨b, off + k * 4 + 2, none⟩) hbl).trans l2
      have c3 : wr.cell? ⟨b, off + k * 4 + 3, none⟩ = some (.string (bs p.b)) := (hB.out.cell (p := ⟨b, off + k * 4 + 3, none⟩) hbl).trans l3
      have hnx : Hid (tx3 (L.take (k + 1)) = tx3 (L.take k) ++ [p.o, p.a, p.b]) := Lib.hid (tx3_take hp)
      have hle : (tx3 (L.take k)).length ≤ 60000 := by rw [tx3_len, List.length_take]; omega
      clear l0 l1 l2 l3 hp
      go_wp2_with (at_builtin; refine wpList_append_own _ rfl _ _ 57 rfl w.heap.size 9 i0 (.string ⟨#[]⟩) 1 16 Tryd.underlying57 hi0 hz0 hz1 hz2 rfl (by decide) _ _ _ rfl ((hown.out.alloc _).alloc _) ⟨wr.heap.size + 1, 0, none⟩ 3 3 [.string (bs p.o), .string (bs p.a), .string (bs p.b)] rfl rfl (three_new wr _ p.o p.a p.b _) (three_one _ _ _) (by unfold maxLen; omega) (by omega) (by simp; omega) ?_; intro v' w2 hown' hgrow _)
      have HB2 := Lib.hid (((hB.out.alloc hbs (.cells #[.bool p.clash, .string (bs p.o), .string (bs p.a), .string (bs p.b)] 52)).alloc (by simp; omega) (.cells #[.string (bs p.o), .string (bs p.a), .string (bs p.b)] 9)).grown hgrow (by simp; omega) (fun k hk => (hown.out.lt k hk).1))
      have ho2 : Hid (w2.ownsRow w.heap.size 9 1 v' (tx3 (L.take (k + 1))).length (strV (tx3 (L.take (k + 1))))) := Lib.hid (by
        rw [hnx.out, strV_app, List.length_append]
        exact hown')
      exact ⟨⟨k + 1, by go_num, by omega, ho2, HB2⟩, by simp [intOf]; omega⟩
    · obtain rfl : k = L.length := by omega
      rw [List.take_length] at hown
      have hs : Hid (Strz wr u6 ((tx3 L).map bs)) := Lib.hid (strz_tx3 hown.out)
      go_wp2_with fail
      refine (Length_any _ _ (fun x hx => Nat.le_trans (tx3_mem Hok.out x hx) (by omega)) _ hs.out).mono ?_
      rw [show lenL 7 (allL ((tx3 L).map bs)) = N from hN.out]
      rintro e w1 ⟨rfl, b1⟩
      have HB1 := Lib.hid (hB.out.trans (b1.mono hbs))
      clear b1
      go_wp2_with fail
      refine (Print_any _ L N N (by omega) (by omega) old hl (fun p hp => (Hok.out p hp).okS) _ (HW.out.below HB1.out hW1) (Hv.out.below HB1.out)).mono ?_
      rw [hr.out]
      rintro e w3 ⟨rfl, b3⟩
      go_wp2_with fail
      go_ret2
      exact ⟨rfl, HB1.out.trans (b3.mono HB1.out.size)⟩
end Go.Proofs.YtbekbllffphfeaaDoor.K
