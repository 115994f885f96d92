/-
  For the laws of token: what the token rows' listed variables give; a world in which the variables read as listed; an argument of texts. No condition.
-/
import Derived.Test.YtamhlobjolnlhaaDoorLaid
import Derived.Test.YtamhlobjolnlhaaDoorArg
import Derived.Test.YtamhlobjolnlhaaDoorGap
import Derived.Test.YtamhlobjolnlhaaDoorStrs
namespace Go.Proofs.YtamhlobjolnlhaaDoor
open Go.ChangeShapes Go.WideShapes Go.ChangeAt Go.RowKit Go.Deep

theorem door_met4 (os : Os) (args : Array Value) : laidMetH Tryd.prog Rows.tokenKindsRow.laid ((World.doorLaid Tryd.prog 200 os).forCall (fun _ _ => 0) ⟨#[], args, []⟩).memory :=
  laidMetH_of_parts3 (fuel := 8) (laidMet_of_run' 8 (by kernel_rfl) (by kernel_rfl)) (by kernel_rfl) (by kernel_rfl)
theorem gPairs : Tryd.prog.globalNamed "concordat/token.pairs" = some 0 := by kernel_rfl
theorem gPairsType : (Tryd.prog.globals[0]?).map (·.type) = some 63 := by kernel_rfl
theorem cells62 : Tryd.prog.cellsOf 62 = 2 := by kernel_rfl
theorem cells63 : Tryd.prog.cellsOf 63 = 20 := by kernel_rfl
def pairData {H : Type} (p : List UInt8 × List UInt8) : DataW H := .agg [.lit (.string p.1), .lit (.string p.2)]
theorem laid_pairs_eq : (Rows.laid_concordat_token_pairs : DataW Unit) = .agg (pairsL.map pairData) := rfl
theorem bs_of_tl {s : ByteArray} {l : List UInt8} (h : s.data.toList = l) : s = bs l := by
  have h2 : tl s = l := h
  rw [← h2, bs_tl]
theorem tokW_of_laid {W : World} (h : laidMetH Tryd.prog Rows.tokenKindsRow.laid W) (hs : W.ShapedOpen Tryd.prog) : TokW W := by
  rw [MakeChecks.laidMetH_plain _ _ _ (by kernel_rfl)] at h
  have h3 := laidMet.tail (laidMet.tail (laidMet.tail h))
  obtain ⟨a0, s0, v0, -, -, -⟩ := laid_sentinel h3 gER gERType Tryd.underlying57 rowErr Tryd.underlying93 Tryd.underlying95 rfl rfl Tryd.underlying9 cells95 cells9
  have c3 : W.cell? ⟨3, 0, none⟩ = some (.iface 93 (.pointer (some a0))) := by simpa using World.var?_cell gER v0 0
  have h5 := laidMet.tail (laidMet.tail h3)
  refine ⟨⟨maxCell hs, ⟨_, _, c3⟩, ?_⟩, ?_⟩
  · rcases Nat.lt_or_ge 3 W.heap.size with h4 | h4
    · omega
    · exact absurd c3 (by unfold World.cell?; simp [Array.getElem?_eq_none h4])
  · obtain ⟨ps, ⟨g0, t0, cs, fuel, p0, q0, hg0, ht0, hv0, hd0, -, -⟩, -⟩ := h5
    obtain rfl := Option.some.inj (gPairs.symm.trans hg0)
    obtain rfl := Option.some.inj (gPairsType.symm.trans ht0)
    obtain ⟨xs, m, -, hx, hl, hxl, hf⟩ := DataW.trod_array Tryd.underlying63 hd0
    rw [cells63] at hl
    have hx1 : pairsL.map pairData = xs.map (·.1) := by
      have := congrArg Prod.fst hx
      rw [laid_pairs_eq] at this
      simpa using this
    intro k x y hk
    have hk10 : k < 10 := by
      have := (List.getElem?_eq_some_iff.1 hk).1
      rw [pairs_len] at this; exact this
    have hfk := hf k hk10
    have hxk : ∃ pl, xs[k]? = some (pairData (x, y), pl) := by
      have := congrArg (fun l => l[k]?) hx1
      simp only [List.getElem?_map, hk, Option.map_some] at this
      cases hq : xs[k]? with
      | none => rw [hq] at this; simp at this
      | some q =>
        rw [hq] at this
        obtain ⟨q1, q2⟩ := q
        have e : pairData (x, y) = q1 := by simpa using this
        exact ⟨q2, by rw [e]⟩
    obtain ⟨pl, hpl⟩ := hxk
    rw [hpl, cells62] at hfk
    obtain ⟨y0, y1, n, hy, hcl, f0, f1⟩ := trod_struct2 Tryd.underlying62 hfk
    simp only [cellsOf9] at f0 f1
    obtain ⟨s1, e1, w1, -⟩ := DataW.trod_string Tryd.underlying9 f0
    obtain ⟨s2, e2, w2, -⟩ := DataW.trod_string Tryd.underlying9 f1
    subst w1 w2
    have hy' := congrArg Prod.fst hy
    simp only [pairData, DataW.agg.injEq, List.cons.injEq, DataW.lit.injEq, Lit.string.injEq, and_true] at hy'
    have b1 := bs_of_tl hy'.1.symm
    have b2 := bs_of_tl hy'.2.symm
    subst b1 b2
    have g1 : cs[k * 2]? = some (.string (bs x)) := by
      have := congrArg (fun l => l[0]?) e1
      simp only [List.getElem?_cons_zero] at this
      rw [List.getElem?_take, if_pos (by omega), List.getElem?_drop, List.getElem?_take, if_pos (by omega), List.getElem?_drop] at this
      simpa using this
    have g2 : cs[k * 2 + 1]? = some (.string (bs y)) := by
      have := congrArg (fun l => l[0]?) e2
      simp only [List.getElem?_cons_zero] at this
      rw [List.getElem?_take, if_pos (by omega), List.getElem?_drop, List.getElem?_take, if_pos (by omega), List.getElem?_drop] at this
      simpa using this
    exact ⟨(World.var?_cell gPairs hv0 _).trans g1, (World.var?_cell gPairs hv0 _).trans g2⟩
section
variable {H : Type} {enc : TypeId × Value → H} {W : World} {sp : Nat → Bool} {r : Reach} {b0 : Nat} {v : Value} {d : DataW H} {p : List MemPlace}
set_option maxRecDepth 100000 in
theorem strs_of_arg (hv : Value.okWide Tryd.prog W r b0 35 v) (h : DataW.Trod enc Tryd.prog W 0 sp true 35 v d p) : ∃ L : List (List UInt8), Strs W v L := by
  obtain ⟨a1, len, cap, rfl⟩ := okWide_slice Tryd.underlying35 hv
  obtain ⟨fuel, hf⟩ := h
  rcases open_slice1 Tryd.underlying35 cellsOf9 hf with ⟨hcs, hx⟩ | ⟨a, len', cap', m, n, V, D, Pl, hcs, _, hl, hm, hmm, hx, hi⟩
  · simp [Value.cells] at hcs
    obtain ⟨rfl, rfl, rfl⟩ := hcs
    exact ⟨[], none, 0, rfl, Nat.le_refl _, Nat.zero_le _, by simp⟩
  · simp [Value.cells] at hcs
    obtain ⟨rfl, rfl, rfl⟩ := hcs
    have hlm : len ≤ m := by rw [hmm]; split <;> omega
    have hone : ∀ i, i < len → ∃ x : List UInt8, ∃ b off, a = ⟨b, off, none⟩ ∧ b < W.heap.size ∧ W.cell? ⟨b, off + i, none⟩ = some (.string (bs x)) := by
      intro i hil
      obtain ⟨c0, f0⟩ := hi i (by omega)
      obtain ⟨s, e, -, -⟩ := DataW.trod_string Tryd.underlying9 f0
      have e : V i = .string s := by simpa using e
      rw [e] at c0
      obtain ⟨blk, off, el⟩ := a
      obtain rfl : el = none := by
        obtain ⟨cz, -⟩ := hi 0 (by omega)
        have := World.cell?_spot cz
        simpa [Addr.add] using this
      rw [add_flat] at c0
      exact ⟨tl s, blk, off, rfl, World.block_lt_of_cell? W _ c0, by rw [bs_tl]; exact c0⟩
    obtain ⟨L, hLl, hL⟩ := list_of len _ hone
    refine ⟨L, some a, cap, by rw [hLl], by omega, by omega, fun k h hk => ?_⟩
    obtain ⟨b, off, e, rest⟩ := hL k h hk
    exact ⟨b, off, by rw [e], rest⟩
end
end Go.Proofs.YtamhlobjolnlhaaDoor
