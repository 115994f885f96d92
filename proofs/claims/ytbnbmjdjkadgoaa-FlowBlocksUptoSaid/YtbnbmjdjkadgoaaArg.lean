/-
  What an argument holds: a number, a node. Condition: none; a node's count is at most its bulk.
-/
import Derived.Test.YtbnbmjdjkadgoaaRows
import Derived.Test.YtbnbmjdjkadgoaaRd
import Derived.Deep.Slices
import Derived.ProofKit
import Derived.OpenShut
import Derived.ShutString
import Derived.SliceStrings
import Derived.ChangeSlices
namespace Go.Proofs.Ytbnbmjdjkadgoaa
open Go.ChangeShapes Go.WideShapes Go.ChangeAt Go.RowKit Go.Deep
open Go.ChangeMaps (open_string)
set_option linter.unusedVariables false

theorem laidOut : laidOutB Try.prog = true := by kernel_rfl
theorem cellsOf2 : Try.prog.cellsOf 2 = 1 := by kernel_rfl
theorem cellsOf3 : Try.prog.cellsOf 3 = 1 := by kernel_rfl
theorem cellsOf9 : Try.prog.cellsOf 9 = 1 := by kernel_rfl
theorem cellsOf42 : Try.prog.cellsOf 42 = 1 := by kernel_rfl
theorem cellsOf44 : Try.prog.cellsOf 44 = 9 := by kernel_rfl
theorem list_of {α : Type} (n : Nat) (P : Nat → α → Prop) (h : ∀ i, i < n → ∃ x, P i x) : ∃ L : List α, L.length = n ∧ ∀ i x, L[i]? = some x → P i x := by
  induction n with
  | zero => exact ⟨[], rfl, by simp⟩
  | succ n ih =>
    obtain ⟨L, hl, hL⟩ := ih (fun i hi => h i (by omega))
    obtain ⟨x, hx⟩ := h n (by omega)
    refine ⟨L ++ [x], by simp [hl], fun i y hy => ?_⟩
    by_cases hi : i < L.length
    · rw [List.getElem?_append_left hi] at hy
      exact hL i y hy
    · rw [List.getElem?_append_right (by omega)] at hy
      have : i - L.length = 0 := by
        have := (List.getElem?_eq_some_iff.1 hy).1
        simpa using this
      rw [this] at hy
      obtain rfl : x = y := by simpa using hy
      obtain rfl : i = n := by omega
      exact hx
theorem cnt_bulk {H : Type} : ∀ (L : List Nd) (D : List (DataW H)), L.length = D.length → (∀ (i : Nat) (t : Nd) (d : DataW H), L[i]? = some t → D[i]? = some d → t.cnt ≤ Rows.uptoBulk d) → cntL L ≤ Rows.uptoBulkAll D
  | [], [], _, _ => by rw [cntL]; exact Nat.zero_le _
  | t :: L, d :: D, hl, h => by
    have h0 := h 0 t d rfl rfl
    have ih := cnt_bulk L D (by simpa using hl) (fun i t d h1 h2 => h (i + 1) t d (by simpa using h1) (by simpa using h2))
    rw [cntL, Rows.uptoBulkAll]
    omega
  | [], _ :: _, hl, _ => by simp at hl
  | _ :: _, [], hl, _ => by simp at hl
section
variable {H : Type} {enc : TypeId × Value → H} {W : World} {sp : Nat → Bool} {r : Reach} {b0 : Nat} {v : Value} {d : DataW H} {p : List MemPlace}
set_option maxRecDepth 100000 in
theorem node_cells : ∀ (fuel : Nat) (cs : List Value) (x : DataW H × List MemPlace), DataW.trod enc Try.prog W 0 sp true fuel 44 cs = some x → ∃ (t : Nd) (kv : Value), cs = (t.hd.vals kv).toList ∧ KidsAt W t.kids kv ∧ t.cnt ≤ Rows.uptoBulk x.1 := by
  intro fuel
  induction fuel using Nat.strongRecOn with
  | _ fuel ih =>
    intro cs x ht
    obtain ⟨xs, n', hfu, rfl, hcl, hxl, hfd⟩ := DataW.trod_struct Try.underlying44 ht
    rw [cellsOf44] at hcl
    match cs, hcl with
    | [q0, q1, q2, q3, q4, q5, q6, q7, q8], _ =>
      have hxl' : xs.length = 9 := hxl
      match xs, hxl' with
      | [y0, y1, y2, y3, y4, y5, y6, y7, y8], _ =>
        have f0 : DataW.trod enc Try.prog W 0 sp true n' 3 [q0] = some y0 := by have := hfd 0 _ rfl; simpa [cellsOf3] using this
        have f1 : DataW.trod enc Try.prog W 0 sp true n' 9 [q1] = some y1 := by have := hfd 1 _ rfl; simpa [cellsOf9] using this
        have f2 : DataW.trod enc Try.prog W 0 sp true n' 9 [q2] = some y2 := by have := hfd 2 _ rfl; simpa [cellsOf9] using this
        have f3 : DataW.trod enc Try.prog W 0 sp true n' 2 [q3] = some y3 := by have := hfd 3 _ rfl; simpa [cellsOf2] using this
        have f4 : DataW.trod enc Try.prog W 0 sp true n' 3 [q4] = some y4 := by have := hfd 4 _ rfl; simpa [cellsOf3] using this
        have f5 : DataW.trod enc Try.prog W 0 sp true n' 3 [q5] = some y5 := by have := hfd 5 _ rfl; simpa [cellsOf3] using this
        have f6 : DataW.trod enc Try.prog W 0 sp true n' 3 [q6] = some y6 := by have := hfd 6 _ rfl; simpa [cellsOf3] using this
        have f7 : DataW.trod enc Try.prog W 0 sp true n' 3 [q7] = some y7 := by have := hfd 7 _ rfl; simpa [cellsOf3] using this
        have f8 : DataW.trod enc Try.prog W 0 sp true n' 42 [q8] = some y8 := by have := hfd 8 _ rfl; simpa [cellsOf42] using this
        obtain ⟨x0, e0, -, -⟩ := DataW.trod_int Try.underlying3 f0
        obtain ⟨x1, e1, -, -⟩ := DataW.trod_string Try.underlying9 f1
        obtain ⟨x2, e2, -, -⟩ := DataW.trod_string Try.underlying9 f2
        obtain ⟨x3, e3, -, -⟩ := DataW.trod_int Try.underlying2 f3
        obtain ⟨x4, e4, -, -⟩ := DataW.trod_int Try.underlying3 f4
        obtain ⟨x5, e5, -, -⟩ := DataW.trod_int Try.underlying3 f5
        obtain ⟨x6, e6, -, -⟩ := DataW.trod_int Try.underlying3 f6
        obtain ⟨x7, e7, -, -⟩ := DataW.trod_int Try.underlying3 f7
        simp only [List.cons.injEq, and_true] at e0 e1 e2 e3 e4 e5 e6 e7
        subst e0 e1 e2 e3 e4 e5 e6 e7
        have hkids : ∃ ks, KidsAt W ks q8 ∧ cntL ks + 1 ≤ Rows.uptoBulk y8.1 + 1 := by
          rcases DataW.trod_slice Try.underlying42 f8 with ⟨hcs, hx⟩ | ⟨a, len, cap, elems, rest, n2, hn2, hcs, hx, -, hl, hm, hel, hat, -⟩
          · simp only [List.cons.injEq, and_true] at hcs
            subst hcs
            exact ⟨[], KidsAt.nil W, by rw [cntL]; omega⟩
          · simp only [List.cons.injEq, and_true] at hcs
            subst hcs
            have hone : ∀ i, i < len → ∃ t : Nd, (∃ b off kv, a = ⟨b, off, none⟩ ∧ Cells W b (off + i * 9) t.hd kv ∧ KidsAt W t.kids kv) ∧ ∀ e, elems[i]? = some e → t.cnt ≤ Rows.uptoBulk e.1 := by
              intro i hil
              have hi := hat i hil
              rw [List.getElem?_eq_getElem (by omega), Option.bind_eq_some_iff] at hi
              obtain ⟨cs, hc, hts⟩ := hi
              obtain ⟨t, kv, rfl, hk, hb⟩ := ih n2 (by omega) cs _ hts
              rw [cellsOf44] at hc
              obtain ⟨_, hcl2, hat2⟩ := World.cells?_some hc
              have g := fun j (hj : j < 9) => hat2 j (by omega)
              obtain ⟨blk, off, el⟩ := a
              have hel2 : el = none := by
                have hz := hat 0 (by omega)
                rw [List.getElem?_eq_getElem (by omega), Option.bind_eq_some_iff] at hz
                obtain ⟨cz, hcz, -⟩ := hz
                rw [cellsOf44] at hcz
                obtain ⟨_, hclz, hatz⟩ := World.cells?_some hcz
                have h0 := hatz 0 (by omega)
                rw [List.getElem?_eq_getElem (by omega)] at h0
                have := World.cell?_spot h0
                simpa [Addr.add] using this
              subst hel2
              refine ⟨t, ⟨blk, off, kv, rfl, ?_, hk⟩, fun e he => ?_⟩
              · have gg : ∀ j, j < 9 → W.cell? ⟨blk, off + i * 9 + j, none⟩ = (t.hd.vals kv).toList[j]? := fun j hj => by
                  have := g j hj
                  rw [add_flat, add_flat] at this
                  exact this
                exact ⟨gg 0 (by omega), gg 1 (by omega), gg 2 (by omega), gg 3 (by omega), gg 4 (by omega), gg 5 (by omega), gg 6 (by omega), gg 7 (by omega), gg 8 (by omega)⟩
              · rw [List.getElem?_eq_getElem (by omega)] at he
                obtain rfl := Option.some.inj he
                exact hb
            obtain ⟨L, hLl, hL⟩ := list_of len _ hone
            refine ⟨L, ?_, ?_⟩
            · have := KidsAt.mk (W := W) (ks := L) (a := some a) (cap := cap) (by omega) hm (fun k t hk => by
                obtain ⟨⟨b, off, kv, e, c, h⟩, -⟩ := hL k t hk
                exact ⟨b, off, kv, by rw [e], c, h⟩)
              rw [hLl] at this
              exact this
            · have hb := cnt_bulk L (elems.map (·.1)) (by simp; omega) (fun i t dd h1 h2 => by
                rw [List.getElem?_map] at h2
                cases he : elems[i]? with
                | none => rw [he] at h2; cases h2
                | some e =>
                  rw [he] at h2
                  obtain rfl := Option.some.inj h2
                  exact (hL i t h1).2 e he)
              rw [hx]
              simp only [Rows.uptoBulk]
              omega
        obtain ⟨ks, hk, hc⟩ := hkids
        refine ⟨.mk ⟨x0, tl x1, tl x2, x3, x4, x5, x6, x7⟩ ks, q8, ?_, hk, ?_⟩
        · simp only [Nd.hd, Hd.vals, bs_tl]
        · simp only [Nd.cnt, Rows.uptoBulk, Rows.uptoBulkAll, List.map_cons, List.map_nil]
          omega
end
theorem nd_of_arg {H : Type} {enc : TypeId × Value → H} {W : World} {sp : Nat → Bool} {v : Value} {d : DataW H} {p : List MemPlace} (h : DataW.Trod enc Try.prog W 0 sp true 44 v d p) : ∃ t : Nd, NdAt W v t ∧ t.cnt ≤ Rows.uptoBulk d := by
  obtain ⟨fuel, hf⟩ := h
  obtain ⟨t, kv, hc, hk, hb⟩ := node_cells fuel _ _ hf
  refine ⟨t, ⟨kv, ?_, hk⟩, hb⟩
  have hc2 : v.cells = t.hd.vals kv := by
    have := congrArg List.toArray hc
    simpa using this
  cases v with
  | agg cs => exact congrArg Value.agg hc2
  | _ => exact absurd (congrArg Array.size hc2) (by simp [Value.cells, Hd.vals])
end Go.Proofs.Ytbnbmjdjkadgoaa
