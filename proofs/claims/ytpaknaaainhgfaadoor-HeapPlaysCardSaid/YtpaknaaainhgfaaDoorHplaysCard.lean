/-
  Proved: the law HeapPlays returns true for every script, which reads behind the call as it did. Condition: the three listed variables of the library start as the text of the program lays them (the card ties them).
-/
import Derived.Test.YtpaknaaainhgfaaDoorHlaid
import Derived.Test.YtpaknaaainhgfaaDoorCards
import Derived.Test.YtpaknaaainhgfaaDoorTie
import Derived.Test.YtpaknaaainhgfaaDoorHu
import Derived.Deep.DeepHandedRow
import Derived.Deep.Slices
import Derived.ProofKit
import Derived.LaidMore
import Derived.OpenShut
import Derived.Stop.Joined
import Derived.SevenTiedAt
import Derived.ShutString
import Derived.Lib.SmallJoins
namespace Go.Proofs.YtpaknaaainhgfaaDoor.heapPlays
open Go.ChangeShapes Go.WideShapes Go.ChangeAt Go.RowKit Go.Deep
set_option linter.unusedVariables false

section
variable {H : Type} {enc : TypeId × Value → H} {W : World} {sp : Nat → Bool} {r : Reach} {b0 : Nat} {v : Value} {d : DataW H} {p : List MemPlace}
theorem cellsOf46 : Tryd.prog.cellsOf 46 = 6 := by kernel_rfl
theorem cellsOf44 : Tryd.prog.cellsOf 44 = 2 := by kernel_rfl
theorem cellsOf9 : Tryd.prog.cellsOf 9 = 1 := by kernel_rfl
theorem cellsOf3 : Tryd.prog.cellsOf 3 = 1 := by kernel_rfl
theorem cellsOf2 : Tryd.prog.cellsOf 2 = 1 := by kernel_rfl
theorem add_flat (b off j : Nat) : (⟨b, off, none⟩ : Addr).add j = ⟨b, off + j, none⟩ := by
  by_cases h0 : j = 0 <;> simp [Addr.add, h0]
theorem list_of {α : Type} (n : Nat) (P : Nat → α → Prop) (h : ∀ i, i < n → ∃ x, P i x) : ∃ L : List α, L.length = n ∧ ∀ i x, L[i]? = some x → P i x := by
  induction n with
  | zero => exact ⟨[], rfl, by simp⟩
  | succ n ih =>
    obtain ⟨L, hl, hL⟩ := ih (fun i hi => h i (by omega))
    obtain ⟨x, hx⟩ := h n (by omega)
    refine ⟨L ++ [x], by simp [hl], fun i y hy => ?_⟩
    by_cases hi : i < L.length
    · rw [List.getElem?_append_left hi] at hy
      exact hL i y hy
    · have hil := (List.getElem?_eq_some_iff.1 hy).1
      simp at hil
      have : i = L.length := by omega
      subst this
      rw [List.getElem?_append_right (Nat.le_refl _)] at hy
      simp at hy
      subst hy
      rw [hl]
      exact hx
set_option maxRecDepth 100000 in
theorem acs_of_arg (hv : Value.okWide Tryd.prog W r b0 36 v) (h : DataW.Trod enc Tryd.prog W 0 sp true 36 v d p) : ∃ S : List Ac, Acs W v S := by
  obtain ⟨a1, len, cap, rfl⟩ := okWide_slice Tryd.underlying36 hv
  obtain ⟨fuel, hf⟩ := h
  rcases open_slice Tryd.underlying36 hf with ⟨hcs, hx⟩ | ⟨a, len', cap', m, n, D, Pl, hcs, _, hl, hm, hmm, hx, hi⟩
  · simp [Value.cells] at hcs
    obtain ⟨rfl, rfl, rfl⟩ := hcs
    exact ⟨[], ⟨none, 0, rfl, Nat.le_refl _, Nat.zero_le _, by simp⟩⟩
  · simp [Value.cells] at hcs
    obtain ⟨rfl, rfl, rfl⟩ := hcs
    have hlm : len ≤ m := by rw [hmm]; split <;> omega
    have hone : ∀ i, i < len → ∃ t : Ac, ((Lit.int .i64 t.vn).wf = true ∧ t.id.size ≤ maxLen) ∧ ∃ b off, a = ⟨b, off, none⟩ ∧ b < W.heap.size ∧ ∀ j u, (acRow t)[j]? = some u → W.cell? ⟨b, off + i * 6 + j, none⟩ = some u := by
      intro i hil
      obtain ⟨cs, hc, ht⟩ := hi i (by omega)
      rw [cellsOf46] at hc
      obtain ⟨_, hcl, hat⟩ := World.cells?_some hc
      obtain ⟨xs, n', _, hag, _, hxl, hfd⟩ := DataW.trod_struct Tryd.underlying46 ht
      match cs, hcl with
      | [q0, q1, q2, q3, q4, q5], _ =>
        have hxl' : xs.length = 4 := hxl
        match xs, hxl' with
        | [y0, y1, y2, y3], _ =>
          have f0 : DataW.trod enc Tryd.prog W 0 sp true n' 3 [q0] = some y0 := by have := hfd 0 _ rfl; simpa [cellsOf3, cellsOf9, cellsOf44] using this
          have f1 : DataW.trod enc Tryd.prog W 0 sp true n' 44 [q1, q2] = some y1 := by have := hfd 1 _ rfl; simpa [cellsOf3, cellsOf9, cellsOf44] using this
          have f2 : DataW.trod enc Tryd.prog W 0 sp true n' 9 [q3] = some y2 := by have := hfd 2 _ rfl; simpa [cellsOf3, cellsOf9, cellsOf44] using this
          have f3 : DataW.trod enc Tryd.prog W 0 sp true n' 44 [q4, q5] = some y3 := by have := hfd 3 _ rfl; simpa [cellsOf3, cellsOf9, cellsOf44] using this
          obtain ⟨w0, w1, n1, -, -, k0, k1⟩ := trod_struct2 Tryd.underlying44 f1
          obtain ⟨w2, w3, n2, -, -, k2, k3⟩ := trod_struct2 Tryd.underlying44 f3
          simp only [cellsOf3, cellsOf2] at k0 k1 k2 k3
          have k0' : DataW.trod enc Tryd.prog W 0 sp true n1 3 [q1] = some w0 := by simpa using k0
          have k1' : DataW.trod enc Tryd.prog W 0 sp true n1 2 [q2] = some w1 := by simpa using k1
          have k2' : DataW.trod enc Tryd.prog W 0 sp true n2 3 [q4] = some w2 := by simpa using k2
          have k3' : DataW.trod enc Tryd.prog W 0 sp true n2 2 [q5] = some w3 := by simpa using k3
          obtain ⟨x0, e0, -, -⟩ := DataW.trod_int Tryd.underlying3 f0
          obtain ⟨x1, e1, -, -⟩ := DataW.trod_int Tryd.underlying3 k0'
          obtain ⟨x2, e2, -, hwf⟩ := DataW.trod_int Tryd.underlying2 k1'
          obtain ⟨x3, e3, -, hsz⟩ := DataW.trod_string Tryd.underlying9 f2
          obtain ⟨x4, e4, -, -⟩ := DataW.trod_int Tryd.underlying3 k2'
          obtain ⟨x5, e5, -, -⟩ := DataW.trod_int Tryd.underlying2 k3'
          simp only [List.cons.injEq, and_true] at e0 e1 e2 e3 e4 e5
          subst e0 e1 e2 e3 e4 e5
          obtain ⟨blk, off, el⟩ := a
          have hel : el = none := by
            obtain ⟨cz, hcz, -⟩ := hi 0 (by omega)
            rw [cellsOf46] at hcz
            obtain ⟨_, hcl, hatz⟩ := World.cells?_some hcz
            have hz := hatz 0 (by omega)
            rw [List.getElem?_eq_getElem (by omega)] at hz
            have := World.cell?_spot hz
            simpa [Addr.add] using this
          subst hel
          have hcell : ∀ j u, (acRow ⟨x0, x1, x2, x3, x4, x5⟩)[j]? = some u → W.cell? ⟨blk, off + i * 6 + j, none⟩ = some u := by
            intro j u hj
            have hjl : j < 6 := (Array.getElem?_eq_some_iff.1 hj).1
            have g := hat j (by omega)
            simp only [add_flat] at g
            rw [g]
            match j, hjl with
            | 0, _ => exact hj
            | 1, _ => exact hj
            | 2, _ => exact hj
            | 3, _ => exact hj
            | 4, _ => exact hj
            | 5, _ => exact hj
          exact ⟨⟨x0, x1, x2, x3, x4, x5⟩, ⟨hwf, hsz⟩, blk, off, rfl, World.block_lt_of_cell? W _ (hcell 0 _ rfl), hcell⟩
    obtain ⟨L, hLl, hL⟩ := list_of len _ hone
    refine ⟨L, ⟨some a, cap, by rw [hLl], by omega, by omega, fun k h hk => ?_⟩⟩
    obtain ⟨h1, b, off, e, h2, h3⟩ := hL k h hk
    exact ⟨h1, b, off, by rw [e], h2, h3⟩
end

set_option maxRecDepth 100000 in
theorem lifted (os : Os) (started : os.Started) (H : Type) (enc : TypeId × Value → H) :
    ReturnsInHanded {} Tryd.checked os 8 .any (fun w args => (Rows.heapPlaysSpec.pre enc Tryd.prog Tryd.f8 [] false w args ∧ laidMetH Tryd.prog Rows.heapPlaysRow.laid w) ∧ sizedMet enc Tryd.prog Tryd.f8 (OpenSpec.ofChange Rows.heapPlaysSpec) false w args)
      (Rows.heapPlaysSpec.post enc Tryd.prog Tryd.f8 false true false false) := by
  refine returnsInHanded_of_change_and (C := Tryd.checked) (X := fun w _ => laidMetH Tryd.prog Rows.heapPlaysRow.laid w) (fun _ _ _ hh h => h.of_heap hh) own started (by kernel_rfl) Tryd.func8
    (ChangeSpec.witness_shaped (enc := enc) (C := Tryd.checked) (os := os) (X := fun w _ => laidMetH Tryd.prog Rows.heapPlaysRow.laid w) false (World.doorLaid Tryd.prog 62 os) #[.slice none 0 0] 8 rfl (World.shaped_of_RefB (by kernel_rfl) (by kernel_rfl)) (by kernel_rfl) (by kernel_rfl) (by kernel_rfl) (door_metH os _)) ?_
  intro W base args ds gs before hval0 hW _ _ hL _
  have hval : ∀ (j : Nat) t v, Tryd.f8.params[j]? = some t → args[j]? = some v → Value.okWide Tryd.prog W .any base t v := hval0
  have hW' := hW
  obtain ⟨p, q, hA0, hV, rfl, hfz, hnd⟩ := hW
  have hA : DataW.TrodAll enc Tryd.prog W 0 (fun _ => true) true Tryd.f8.params.toList args.toList ds p := hA0
  rw [Tryd.params8] at hA hval
  obtain ⟨v0, vs0, d0, ds0, p0, q0, hargs, rfl, rfl, h0, r0⟩ := trodAll_cons hA
  obtain ⟨rfl, rfl, rfl⟩ := trodAll_nil r0
  obtain rfl : args = #[v0] := by cases args; simp_all
  obtain ⟨rfl, rfl⟩ := trodVars_none hV
  clear hA0
  simp only [List.append_nil] at hW'
  have harg0 : ∀ (W' : World), Below W.heap.size W W' → DataW.Trod enc Tryd.prog W' 0 (fun b => decide (b < W.heap.size)) true 36 v0 d0 p0 :=
    fun W' hn => Below.trod laidOutP (by kernel_rfl) (of_decide_eq_true (by kernel_rfl)) h0 hn (fun x hx => by have h := hW'.lt x (by simp [hx]); simpa using h)
  obtain ⟨S, w0⟩ := acs_of_arg (hval 0 36 v0 rfl rfl) h0
  have hp : Pow W := pow_of_laidH hL
  clear hval0
  refine (HeapPlays_any v0 S W hp w0).mono fun e W' ⟨he, hg⟩ => ?_
  subst he
  exact ⟨_, rfl, _, _, _, [], _, [], hW', (trodAll_cons_mk (shut_bool Tryd.underlying4 _) trodAll_mk0), (trodAll_cons_mk (harg0 W' hg) trodAll_mk0), rfl, hg.frame _, fun h => by cases h⟩

theorem said : Rows.HeapPlaysSaid :=
  OpenClaim.holds_of_wide 8 Tryd.f8 rfl rfl rfl rfl rfl rfl rfl ⟨rfl, rfl, rfl, rfl, rfl⟩ rfl rfl rfl rfl rfl (by kernel_rfl) Tryd.func8 (by kernel_rfl)
    (of_decide_eq_true (by kernel_rfl)) (by unfold Func.isWrapper; first | (rw [if_pos (by decide +kernel)]; kernel_rfl) | (rw [if_neg (by decide +kernel)]; exact ⟨rfl, rfl⟩))
    (fun os started H enc _ => lifted os started H enc)

theorem plain (f : FuncId) (fn : Func) (hf : Tryd.pinned.checked.prog.funcNamed Tryd.f8.name = some f) (hfn : Tryd.pinned.checked.prog.funcs[f]? = some fn) :
    true = Tryd.pinned.checked.prog.looks [] ∧ ∀ (j : Nat) t, fn.params[j]? = some t → Tryd.pinned.checked.prog.wantsStandIn t = false := by
  obtain rfl : f = 8 := Option.some.inj ((show Tryd.prog.funcNamed Tryd.f8.name = some 8 by kernel_rfl).symm.trans hf) |>.symm
  obtain rfl : fn = Tryd.f8 := (Option.some.inj (Tryd.func8.symm.trans hfn)).symm
  refine ⟨by kernel_rfl, fun j t ht => ?_⟩
  rw [Tryd.params8] at ht
  have hm : t ∈ [36] := by simpa using Array.mem_of_getElem? ht
  have hall : ([36].all fun u => !Tryd.prog.wantsStandIn u) = true := by kernel_rfl
  exact (show Tryd.prog.wantsStandIn t = false by simpa using List.all_eq_true.1 hall t hm)

theorem proved : Rows.HeapPlaysCardSaid :=
  Claim7.holds_tied_plain_at .later [] _ _ _ _ said (fun _ h => by cases h) (by kernel_rfl) (fun _ h => by cases h) heapPlays_row_tie rfl ⟨rfl, rfl⟩ (by kernel_rfl) rfl plain (by kernel_rfl)
#print axioms proved
end Go.Proofs.YtpaknaaainhgfaaDoor.heapPlays
