/-
  What an argument holds: a row of nodes. Condition: their count is at most its bulk.
-/
import Derived.Test.YtbnbmjdjkadgoaaArg
namespace Go.Proofs.Ytbnbmjdjkadgoaa
open Go.ChangeShapes Go.WideShapes Go.ChangeAt Go.RowKit Go.Deep
set_option linter.unusedVariables false

set_option maxRecDepth 100000 in
theorem nodes_of_arg {H : Type} {enc : TypeId × Value → H} {W : World} {sp : Nat → Bool} {r : Reach} {b0 : Nat} {v : Value} {d : DataW H} {p : List MemPlace} (hv : Value.okWide Try.prog W r b0 42 v) (h : DataW.Trod enc Try.prog W 0 sp true 42 v d p) : ∃ ks, KidsAt W ks v ∧ cntL ks ≤ Rows.uptoBulk d := by
  obtain ⟨a1, len1, cap1, rfl⟩ := okWide_slice Try.underlying42 hv
  obtain ⟨fuel, hf⟩ := h
  have key : ∀ (q8 : Value) (y8 : DataW H × List MemPlace), DataW.trod enc Try.prog W 0 sp true fuel 42 [q8] = some y8 → ∃ ks, KidsAt W ks q8 ∧ cntL ks + 1 ≤ Rows.uptoBulk y8.1 + 1 := by
    intro q8 y8 hf
    rcases DataW.trod_slice Try.underlying42 hf with ⟨hcs, hx⟩ | ⟨a, len, cap, elems, rest, n2, hn2, hcs, hx, -, hl, hm, hel, hat, -⟩
    · simp only [List.cons.injEq, and_true] at hcs
      subst hcs
      exact ⟨[], KidsAt.nil W, by rw [cntL]; omega⟩
    · simp only [List.cons.injEq, and_true] at hcs
      subst hcs
      have hone : ∀ i, i < len → ∃ t : Nd, (∃ b off kv, a = ⟨b, off, none⟩ ∧ Cells W b (off + i * 9) t.hd kv ∧ KidsAt W t.kids kv) ∧ ∀ e, elems[i]? = some e → t.cnt ≤ Rows.uptoBulk e.1 := by
        intro i hil
        have hi := hat i hil
        rw [List.getElem?_eq_getElem (by omega), Option.bind_eq_some_iff] at hi
        obtain ⟨cs, hc, hts⟩ := hi
        obtain ⟨t, kv, rfl, hk, hb⟩ := node_cells n2 cs _ hts
        rw [cellsOf44] at hc
        obtain ⟨_, hcl2, hat2⟩ := World.cells?_some hc
        have g := fun j (hj : j < 9) => hat2 j (by omega)
        obtain ⟨blk, off, el⟩ := a
        have hel2 : el = none := by
          have hz := hat 0 (by omega)
          rw [List.getElem?_eq_getElem (by omega), Option.bind_eq_some_iff] at hz
          obtain ⟨cz, hcz, -⟩ := hz
          rw [cellsOf44] at hcz
          obtain ⟨_, hclz, hatz⟩ := World.cells?_some hcz
          have h0 := hatz 0 (by omega)
          rw [List.getElem?_eq_getElem (by omega)] at h0
          have := World.cell?_spot h0
          simpa [Addr.add] using this
        subst hel2
        refine ⟨t, ⟨blk, off, kv, rfl, ?_, hk⟩, fun e he => ?_⟩
        · have gg : ∀ j, j < 9 → W.cell? ⟨blk, off + i * 9 + j, none⟩ = (t.hd.vals kv).toList[j]? := fun j hj => by
            have := g j hj
            rw [add_flat, add_flat] at this
            exact this
          exact ⟨gg 0 (by omega), gg 1 (by omega), gg 2 (by omega), gg 3 (by omega), gg 4 (by omega), gg 5 (by omega), gg 6 (by omega), gg 7 (by omega), gg 8 (by omega)⟩
        · rw [List.getElem?_eq_getElem (by omega)] at he
          obtain rfl := Option.some.inj he
          exact hb
      obtain ⟨L, hLl, hL⟩ := list_of len _ hone
      refine ⟨L, ?_, ?_⟩
      · have := KidsAt.mk (W := W) (ks := L) (a := some a) (cap := cap) (by omega) hm (fun k t hk => by
          obtain ⟨⟨b, off, kv, e, c, h⟩, -⟩ := hL k t hk
          exact ⟨b, off, kv, by rw [e], c, h⟩)
        rw [hLl] at this
        exact this
      · have hb := cnt_bulk L (elems.map (·.1)) (by simp; omega) (fun i t dd h1 h2 => by
          rw [List.getElem?_map] at h2
          cases he : elems[i]? with
          | none => rw [he] at h2; cases h2
          | some e =>
            rw [he] at h2
            obtain rfl := Option.some.inj h2
            exact (hL i t h1).2 e he)
        rw [hx]
        simp only [Rows.uptoBulk]
        omega

  obtain ⟨ks, hk, hc⟩ := key _ _ hf
  have hc2 : cntL ks + 1 ≤ Rows.uptoBulk d + 1 := hc
  exact ⟨ks, hk, by omega⟩
end Go.Proofs.Ytbnbmjdjkadgoaa
