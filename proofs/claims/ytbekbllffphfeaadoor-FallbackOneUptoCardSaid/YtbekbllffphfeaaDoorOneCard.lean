/-
  Proved: the law FallbackOne returns true for every two rows of files, which read behind the call as they did. Condition: what is read is of bulk at most 1048576; the listed variables of the program start as the text of the program lays them (the card ties them).
-/
import Derived.Test.YtbekbllffphfeaaDoorFo
import Derived.Test.YtbekbllffphfeaaDoorCards
import Derived.Test.YtbekbllffphfeaaDoorTie
import Derived.Test.YtbekbllffphfeaaDoorGb
import Derived.ProofKit
import Derived.LaidMore
import Derived.SevenTiedAt
import Derived.JoinedCond
import Derived.ShutString
import Derived.Lib.SmallJoins
namespace Go.Proofs.YtbekbllffphfeaaDoor.fallbackOne
open Go.ChangeShapes Go.WideShapes Go.ChangeAt Go.RowKit Go.Deep
set_option linter.unusedVariables false

section
variable {H : Type} {enc : TypeId × Value → H} {W : World} {sp : Nat → Bool} {r : Reach} {b0 : Nat} {v : Value} {d : DataW H} {p : List MemPlace}
theorem cellsOf34 : Tryd.prog.cellsOf 34 = 2 := by kernel_rfl
theorem list_of {α : Type} (n : Nat) (P : Nat → α → Prop) (h : ∀ i, i < n → ∃ x, P i x) : ∃ L : List α, L.length = n ∧ ∀ i x, L[i]? = some x → P i x := by
  induction n with
  | zero => exact ⟨[], rfl, by simp⟩
  | succ n ih =>
    obtain ⟨L, hl, hL⟩ := ih (fun i hi => h i (by omega))
    obtain ⟨x, hx⟩ := h n (by omega)
    refine ⟨L ++ [x], by simp [hl], fun i y hy => ?_⟩
    by_cases hi : i < L.length
    · rw [List.getElem?_append_left hi] at hy
      exact hL i y hy
    · have hil := (List.getElem?_eq_some_iff.1 hy).1
      simp at hil
      have : i = L.length := by omega
      subst this
      rw [List.getElem?_append_right (Nat.le_refl _)] at hy
      simp at hy
      subst hy
      rw [hl]
      exact hx
set_option maxRecDepth 100000 in
theorem fls_data (hv : Value.okWide Tryd.prog W r b0 22 v) (h : DataW.Trod enc Tryd.prog W 0 sp true 22 v d p) : ∃ L : List T.Fl, T.Fls W v L ∧ ∀ x ∈ L, ∃ es ss, d = .slice es ss ∧ DataW.agg [.lit (.string x.path), .lit (.string x.text)] ∈ es := by
  obtain ⟨a1, len, cap, rfl⟩ := okWide_slice Tryd.underlying22 hv
  obtain ⟨fuel, hf⟩ := h
  rcases open_slice Tryd.underlying22 hf with ⟨hcs, hx⟩ | ⟨a, len', cap', m, n, D, Pl, hcs, _, hl, hm, hmm, hx, hi⟩
  · simp [Value.cells] at hcs
    obtain ⟨rfl, rfl, rfl⟩ := hcs
    exact ⟨[], ⟨none, 0, rfl, Nat.le_refl _, Nat.zero_le _, by simp⟩, by simp⟩
  · simp [Value.cells] at hcs
    obtain ⟨rfl, rfl, rfl⟩ := hcs
    have hlm : len ≤ m := by rw [hmm]; split <;> omega
    have hone : ∀ i, i < len → ∃ t : T.Fl, ∃ b off, a = ⟨b, off, none⟩ ∧ b < W.heap.size ∧ W.cell? ⟨b, off + i * 2, none⟩ = some (.string (T.bs t.path)) ∧ (W.cell? ⟨b, off + i * 2 + 1, none⟩ = some (.string (T.bs t.text)) ∧ D i = .agg [.lit (.string t.path), .lit (.string t.text)]) := by
      intro i hil
      obtain ⟨cs, hc, ht⟩ := hi i (by omega)
      rw [cellsOf34] at hc
      obtain ⟨_, hcl, hat⟩ := World.cells?_some hc
      obtain ⟨y0, y1, n', hag, -, f0, f1⟩ := trod_struct2 Tryd.underlying34 ht
      simp only [cellsOf9] at f0 f1
      match cs, hcl with
      | [q0, q1], _ =>
        have f0' : DataW.trod enc Tryd.prog W 0 sp true n' 9 [q0] = some y0 := by simpa using f0
        have f1' : DataW.trod enc Tryd.prog W 0 sp true n' 9 [q1] = some y1 := by simpa using f1
        obtain ⟨x0, e0, r0, -⟩ := DataW.trod_string Tryd.underlying9 f0'
        obtain ⟨x1, e1, r1, -⟩ := DataW.trod_string Tryd.underlying9 f1'
        simp only [List.cons.injEq, and_true] at e0 e1
        subst e0 e1
        have g0 := hat 0 (by omega)
        have g1 := hat 1 (by omega)
        obtain ⟨blk, off, el⟩ := a
        have hel : el = none := by
          obtain ⟨cz, hcz, -⟩ := hi 0 (by omega)
          rw [cellsOf34] at hcz
          obtain ⟨_, hcl, hatz⟩ := World.cells?_some hcz
          have hz := hatz 0 (by omega)
          rw [List.getElem?_eq_getElem (by omega)] at hz
          have := World.cell?_spot hz
          simpa [Addr.add] using this
        subst hel
        simp only [T.add_flat, List.getElem?_cons_zero, List.getElem?_cons_succ, Nat.add_zero] at g0 g1
        exact ⟨⟨T.tl x0, T.tl x1⟩, blk, off, rfl, World.block_lt_of_cell? W _ g0, g0.trans (congrArg (fun s => some (Value.string s)) (bs_tl x0).symm), g1.trans (congrArg (fun s => some (Value.string s)) (bs_tl x1).symm), by subst r0 r1; exact congrArg Prod.fst hag⟩
    obtain ⟨L, hLl, hL⟩ := list_of len _ hone
    refine ⟨L, ⟨some a, cap, by rw [hLl], by omega, by omega, fun k h hk => ?_⟩, fun x hxm => ?_⟩
    · obtain ⟨b, off, e, h1, h2, h3, -⟩ := hL k h hk
      exact ⟨b, off, by rw [e], h1, h2, h3⟩
    · obtain ⟨k, hk⟩ := List.getElem?_of_mem hxm
      obtain ⟨b, off, e, h1, h2, h3, h4⟩ := hL k x hk
      have hkl := (List.getElem?_eq_some_iff.1 hk).1
      have hd : d = _ := congrArg Prod.fst hx
      exact ⟨_, _, hd, List.mem_map.2 ⟨k, List.mem_range.2 (by omega), h4⟩⟩
end
theorem bulk_mem {H : Type} : ∀ {l : List (DataW H)} {d : DataW H}, d ∈ l → Rows.uptoBulk d ≤ Rows.uptoBulkAll l
  | [], _, h => by simp at h
  | x :: l, d, h => by
    rw [Rows.uptoBulkAll]
    rcases List.mem_cons.1 h with rfl | h
    · omega
    · have := bulk_mem h; omega
set_option maxRecDepth 100000 in
theorem contract (H : Type) (enc : TypeId × Value → H) (W : World) (base : Nat) (args : Array Value) (ds gs : List (DataW H)) (before : List MemPlace)
    (hval : ∀ (j : Nat) t v, Tryd.f3.params[j]? = some t → args[j]? = some v → Value.okWide Tryd.prog W .any base t v)
    (hW : DataW.Whole enc Tryd.prog Tryd.f3.params.toList Rows.fallbackOneSpec.vars false W args.toList ds gs before) (hk : Rows.uptoSmall H (ds ++ gs) = true)
    (hL : laidMetH Tryd.prog Rows.fallbackOneUptoRow.laid W) (hsh : W.ShapedOpen Tryd.prog) :
    Calls Tryd.prog 3 args W fun e W' => ∃ v, e = .returned v ∧ Rows.fallbackOneSpec.post enc Tryd.prog Tryd.f3 false true false false W args v W' := by
  have hW' := hW
  obtain ⟨p, q, hA0, hV, rfl, hfz, hnd⟩ := hW
  have hA : DataW.TrodAll enc Tryd.prog W 0 (fun _ => true) true Tryd.f3.params.toList args.toList ds p := hA0
  rw [Tryd.params3] at hA hval
  obtain ⟨v0, vs0, d0, ds0, p0, q0, hargs, rfl, rfl, h0, r0⟩ := trodAll_cons hA
  obtain ⟨v1, vs1, d1, ds1, p1, q1, rfl, rfl, rfl, h1, r1⟩ := trodAll_cons r0
  obtain ⟨rfl, rfl, rfl⟩ := trodAll_nil r1
  obtain rfl : args = #[v0, v1] := by cases args; simp_all
  obtain ⟨rfl, rfl⟩ := trodVars_none hV
  clear hA0
  simp only [List.append_nil] at hW'
  have harg0 : ∀ (W' : World), Below W.heap.size W W' → DataW.Trod enc Tryd.prog W' 0 (fun b => decide (b < W.heap.size)) true 22 v0 d0 p0 :=
    fun W' hn => Below.trod laidOut (by kernel_rfl) (of_decide_eq_true (by kernel_rfl)) h0 hn (fun x hx => by have h := hW'.lt x (by simp [hx]); simpa using h)
  have harg1 : ∀ (W' : World), Below W.heap.size W W' → DataW.Trod enc Tryd.prog W' 0 (fun b => decide (b < W.heap.size)) true 22 v1 d1 p1 :=
    fun W' hn => Below.trod laidOut (by kernel_rfl) (of_decide_eq_true (by kernel_rfl)) h1 hn (fun x hx => by have h := hW'.lt x (by simp [hx]); simpa using h)
  obtain ⟨L0, w0, z0⟩ := fls_data (hval 0 22 v0 rfl rfl) h0
  obtain ⟨L1, w1, z1⟩ := fls_data (hval 1 22 v1 rfl rfl) h1
  have hkb : Rows.uptoBulkAll ([d0, d1] : List (DataW H)) ≤ 1048576 := by
    have := of_decide_eq_true hk
    simpa using this
  simp only [Rows.uptoBulkAll] at hkb
  have zf : ∀ {d : DataW H} {L : List T.Fl}, Rows.uptoBulk d ≤ 1048576 → (∀ x ∈ L, ∃ es ss, d = .slice es ss ∧ DataW.agg [.lit (.string x.path), .lit (.string x.text)] ∈ es) → ∀ r ∈ L, r.path.length ≤ 1048576 ∧ r.text.length ≤ 1048576 := by
    intro d L hb hx r hr
    obtain ⟨es, ss, rfl, hm⟩ := hx r hr
    have := bulk_mem hm
    simp only [Rows.uptoBulk, Rows.uptoBulkAll] at this hb
    omega
  have hp : K.MkW W := mkW_of_laid hL
  refine (fallbackOne_any v0 v1 L0 L1 W hp w0 w1 (zf (by omega) z0) (zf (by omega) z1)).mono fun e W' ⟨he, hg⟩ => ?_
  subst he
  exact ⟨_, rfl, _, _, _, [], _, [], hW', (trodAll_cons_mk (shut_bool Tryd.underlying4 _) trodAll_mk0), (trodAll_cons_mk (harg0 W' hg) (trodAll_cons_mk (harg1 W' hg) trodAll_mk0)), rfl, hg.frame _, fun h => by cases h⟩
set_option maxRecDepth 100000 in
theorem lifted (os : Os) (started : os.Started) (H : Type) (enc : TypeId × Value → H) (F : Stop.Interp) :
    ReturnsInHanded {} Tryd.checked os 3 .any ((Rows.OpenSpec.upto Rows.fallbackOneSpec).preRow enc Tryd.prog Tryd.f3 [] false Rows.fallbackOneUptoRow.laid) (((Rows.OpenSpec.upto Rows.fallbackOneSpec).at F).post enc Tryd.prog Tryd.f3 false true false false) := by
  refine returnsInHanded_of_row (C := Tryd.checked) (s := Rows.OpenSpec.upto Rows.fallbackOneSpec) (laid := Rows.fallbackOneUptoRow.laid) own started (by kernel_rfl) Tryd.func3
    (witness_row_at false (World.doorLaid Tryd.prog 200 os) #[.slice none 0 0, .slice none 0 0] rfl (by kernel_rfl) (by kernel_rfl) (by kernel_rfl)
      ⟨⟨OpenSpec.pre_of_parts (DataW.Whole_of_whole (fuel := 8) (x := ([.nil, .nil], [], [])) (by kernel_rfl)) rfl (fun k hk => by cases hk; kernel_rfl), door_met os _⟩, sizedMet_of_sizedB (fuel := 8) (by kernel_rfl)⟩) ?_
  intro W base args ds gs before hval hW _ hk _ hL hsh _
  exact contract H enc W base args ds gs before hval hW (hk Rows.uptoSmall rfl) hL hsh
theorem said : Rows.FallbackOneUptoSaid :=
  OpenClaim.holds_of_cond 3 Tryd.f3 rfl rfl rfl rfl rfl rfl rfl ⟨rfl, rfl, rfl, rfl, rfl⟩ rfl rfl rfl rfl rfl (by kernel_rfl) Tryd.func3 (by kernel_rfl)
    (of_decide_eq_true (by kernel_rfl)) (by unfold Func.isWrapper; first | (rw [if_pos (by decide +kernel)]; kernel_rfl) | (rw [if_neg (by decide +kernel)]; exact ⟨rfl, rfl⟩))
    (fun os started H enc _ F => by rw [OpenClaim.pre_eq_preRow]; exact lifted os started H enc F)
theorem plain (f : FuncId) (fn : Func) (hf : Tryd.pinned.checked.prog.funcNamed Tryd.f3.name = some f) (hfn : Tryd.pinned.checked.prog.funcs[f]? = some fn) :
    false = Tryd.pinned.checked.prog.looks [] ∧ ∀ (j : Nat) t, fn.params[j]? = some t → Tryd.pinned.checked.prog.wantsStandIn t = false := by
  obtain rfl : f = 3 := Option.some.inj ((show Tryd.prog.funcNamed Tryd.f3.name = some 3 by kernel_rfl).symm.trans hf) |>.symm
  obtain rfl : fn = Tryd.f3 := (Option.some.inj (Tryd.func3.symm.trans hfn)).symm
  refine ⟨by kernel_rfl, fun j t ht => ?_⟩
  rw [Tryd.params3] at ht
  have hm : t ∈ [22, 22] := by simpa using Array.mem_of_getElem? ht
  have hall : ([22, 22].all fun u => !Tryd.prog.wantsStandIn u) = true := by kernel_rfl
  exact (show Tryd.prog.wantsStandIn t = false by simpa using List.all_eq_true.1 hall t hm)
theorem proved : Rows.FallbackOneUptoCardSaid :=
  Claim7.holds_tied_plain_at .later [] _ _ _ _ said (fun _ h => by cases h) (by kernel_rfl) (fun _ h => by cases h) fallbackOneUpto_row_tie rfl ⟨rfl, rfl⟩ (by kernel_rfl) rfl plain (by kernel_rfl)
#print axioms proved
end Go.Proofs.YtbekbllffphfeaaDoor.fallbackOne
