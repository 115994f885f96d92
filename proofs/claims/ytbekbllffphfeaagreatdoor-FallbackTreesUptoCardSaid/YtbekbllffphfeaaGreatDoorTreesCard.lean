/-
  Proved: the law FallbackTrees returns true for every three rows of files, which read behind the call as they did. Condition: what is read is of bulk at most 1048576; the listed variables of the program start as the text of the program lays them (the card ties them).
-/
import Derived.Test.YtbekbllffphfeaaGreatDoorFo
import Derived.Test.YtbekbllffphfeaaGreatDoorCards
import Derived.Test.YtbekbllffphfeaaGreatDoorTie
import Derived.Test.YtbekbllffphfeaaGreatDoorFt
import Derived.ProofKit
import Derived.LaidMore
import Derived.SevenTiedAt
import Derived.JoinedCond
import Derived.ShutString
import Derived.Lib.SmallJoins
namespace Go.Proofs.YtbekbllffphfeaaGreatDoor.fallbackTrees
open Go.ChangeShapes Go.WideShapes Go.ChangeAt Go.RowKit Go.Deep
set_option linter.unusedVariables false

section
variable {H : Type} {enc : TypeId × Value → H} {W : World} {sp : Nat → Bool} {r : Reach} {b0 : Nat} {v : Value} {d : DataW H} {p : List MemPlace}
theorem cellsOf48 : Tryz.prog.cellsOf 48 = 2 := by kernel_rfl
theorem list_of {α : Type} (n : Nat) (P : Nat → α → Prop) (h : ∀ i, i < n → ∃ x, P i x) : ∃ L : List α, L.length = n ∧ ∀ i x, L[i]? = some x → P i x := by
  induction n with
  | zero => exact ⟨[], rfl, by simp⟩
  | succ n ih =>
    obtain ⟨L, hl, hL⟩ := ih (fun i hi => h i (by omega))
    obtain ⟨x, hx⟩ := h n (by omega)
    refine ⟨L ++ [x], by simp [hl], fun i y hy => ?_⟩
    by_cases hi : i < L.length
    · rw [List.getElem?_append_left hi] at hy
      exact hL i y hy
    · have hil := (List.getElem?_eq_some_iff.1 hy).1
      simp at hil
      have : i = L.length := by omega
      subst this
      rw [List.getElem?_append_right (Nat.le_refl _)] at hy
      simp at hy
      subst hy
      rw [hl]
      exact hx
set_option maxRecDepth 100000 in
theorem fls_data (hv : Value.okWide Tryz.prog W r b0 33 v) (h : DataW.Trod enc Tryz.prog W 0 sp true 33 v d p) : ∃ L : List T.Fl, T.Fls W v L ∧ ∀ x ∈ L, ∃ es ss, d = .slice es ss ∧ DataW.agg [.lit (.string x.path), .lit (.string x.text)] ∈ es := by
  obtain ⟨a1, len, cap, rfl⟩ := okWide_slice Tryz.underlying33 hv
  obtain ⟨fuel, hf⟩ := h
  rcases open_slice Tryz.underlying33 hf with ⟨hcs, hx⟩ | ⟨a, len', cap', m, n, D, Pl, hcs, _, hl, hm, hmm, hx, hi⟩
  · simp [Value.cells] at hcs
    obtain ⟨rfl, rfl, rfl⟩ := hcs
    exact ⟨[], ⟨none, 0, rfl, Nat.le_refl _, Nat.zero_le _, by simp⟩, by simp⟩
  · simp [Value.cells] at hcs
    obtain ⟨rfl, rfl, rfl⟩ := hcs
    have hlm : len ≤ m := by rw [hmm]; split <;> omega
    have hone : ∀ i, i < len → ∃ t : T.Fl, ∃ b off, a = ⟨b, off, none⟩ ∧ b < W.heap.size ∧ W.cell? ⟨b, off + i * 2, none⟩ = some (.string (T.bs t.path)) ∧ (W.cell? ⟨b, off + i * 2 + 1, none⟩ = some (.string (T.bs t.text)) ∧ D i = .agg [.lit (.string t.path), .lit (.string t.text)]) := by
      intro i hil
      obtain ⟨cs, hc, ht⟩ := hi i (by omega)
      rw [cellsOf48] at hc
      obtain ⟨_, hcl, hat⟩ := World.cells?_some hc
      obtain ⟨y0, y1, n', hag, -, f0, f1⟩ := trod_struct2 Tryz.underlying48 ht
      simp only [cellsOf9] at f0 f1
      match cs, hcl with
      | [q0, q1], _ =>
        have f0' : DataW.trod enc Tryz.prog W 0 sp true n' 9 [q0] = some y0 := by simpa using f0
        have f1' : DataW.trod enc Tryz.prog W 0 sp true n' 9 [q1] = some y1 := by simpa using f1
        obtain ⟨x0, e0, r0, -⟩ := DataW.trod_string Tryz.underlying9 f0'
        obtain ⟨x1, e1, r1, -⟩ := DataW.trod_string Tryz.underlying9 f1'
        simp only [List.cons.injEq, and_true] at e0 e1
        subst e0 e1
        have g0 := hat 0 (by omega)
        have g1 := hat 1 (by omega)
        obtain ⟨blk, off, el⟩ := a
        have hel : el = none := by
          obtain ⟨cz, hcz, -⟩ := hi 0 (by omega)
          rw [cellsOf48] at hcz
          obtain ⟨_, hcl, hatz⟩ := World.cells?_some hcz
          have hz := hatz 0 (by omega)
          rw [List.getElem?_eq_getElem (by omega)] at hz
          have := World.cell?_spot hz
          simpa [Addr.add] using this
        subst hel
        simp only [T.add_flat, List.getElem?_cons_zero, List.getElem?_cons_succ, Nat.add_zero] at g0 g1
        exact ⟨⟨T.tl x0, T.tl x1⟩, blk, off, rfl, World.block_lt_of_cell? W _ g0, by rw [T.bs_tl]; exact g0, by rw [T.bs_tl]; exact g1, by subst r0 r1; exact congrArg Prod.fst hag⟩
    obtain ⟨L, hLl, hL⟩ := list_of len _ hone
    refine ⟨L, ⟨some a, cap, by rw [hLl], by omega, by omega, fun k h hk => ?_⟩, fun x hxm => ?_⟩
    · obtain ⟨b, off, e, h1, h2, h3, -⟩ := hL k h hk
      exact ⟨b, off, by rw [e], h1, h2, h3⟩
    · obtain ⟨k, hk⟩ := List.getElem?_of_mem hxm
      obtain ⟨b, off, e, h1, h2, h3, h4⟩ := hL k x hk
      have hkl := (List.getElem?_eq_some_iff.1 hk).1
      have hd : d = _ := congrArg Prod.fst hx
      exact ⟨_, _, hd, List.mem_map.2 ⟨k, List.mem_range.2 (by omega), h4⟩⟩
end
theorem bulk_mem {H : Type} : ∀ {l : List (DataW H)} {d : DataW H}, d ∈ l → Rows.uptoBulk d ≤ Rows.uptoBulkAll l
  | [], _, h => by simp at h
  | x :: l, d, h => by
    rw [Rows.uptoBulkAll]
    rcases List.mem_cons.1 h with rfl | h
    · omega
    · have := bulk_mem h; omega
set_option maxRecDepth 100000 in
theorem contract (H : Type) (enc : TypeId × Value → H) (W : World) (base : Nat) (args : Array Value) (ds gs : List (DataW H)) (before : List MemPlace)
    (hval : ∀ (j : Nat) t v, Tryz.f4.params[j]? = some t → args[j]? = some v → Value.okWide Tryz.prog W .any base t v)
    (hW : DataW.Whole enc Tryz.prog Tryz.f4.params.toList Rows.fallbackTreesSpec.vars false W args.toList ds gs before) (hk : Rows.uptoSmall H (ds ++ gs) = true)
    (hL : laidMetH Tryz.prog Rows.fallbackTreesUptoRow.laid W) (hsh : W.ShapedOpen Tryz.prog) :
    Calls Tryz.prog 4 args W fun e W' => ∃ v, e = .returned v ∧ Rows.fallbackTreesSpec.post enc Tryz.prog Tryz.f4 false true false false W args v W' := by
  have hW' := hW
  obtain ⟨p, q, hA0, hV, rfl, hfz, hnd⟩ := hW
  have hA : DataW.TrodAll enc Tryz.prog W 0 (fun _ => true) true Tryz.f4.params.toList args.toList ds p := hA0
  rw [Tryz.params4] at hA hval
  obtain ⟨v0, vs0, d0, ds0, p0, q0, hargs, rfl, rfl, h0, r0⟩ := trodAll_cons hA
  obtain ⟨v1, vs1, d1, ds1, p1, q1, rfl, rfl, rfl, h1, r1⟩ := trodAll_cons r0
  obtain ⟨v2, vs2, d2, ds2, p2, q2, rfl, rfl, rfl, h2, r2⟩ := trodAll_cons r1
  obtain ⟨rfl, rfl, rfl⟩ := trodAll_nil r2
  obtain rfl : args = #[v0, v1, v2] := by cases args; simp_all
  obtain ⟨rfl, rfl⟩ := trodVars_none hV
  clear hA0
  simp only [List.append_nil] at hW'
  have harg0 : ∀ (W' : World), Below W.heap.size W W' → DataW.Trod enc Tryz.prog W' 0 (fun b => decide (b < W.heap.size)) true 33 v0 d0 p0 :=
    fun W' hn => Below.trod laidOut (by kernel_rfl) (of_decide_eq_true (by kernel_rfl)) h0 hn (fun x hx => by have h := hW'.lt x (by simp [hx]); simpa using h)
  have harg1 : ∀ (W' : World), Below W.heap.size W W' → DataW.Trod enc Tryz.prog W' 0 (fun b => decide (b < W.heap.size)) true 33 v1 d1 p1 :=
    fun W' hn => Below.trod laidOut (by kernel_rfl) (of_decide_eq_true (by kernel_rfl)) h1 hn (fun x hx => by have h := hW'.lt x (by simp [hx]); simpa using h)
  have harg2 : ∀ (W' : World), Below W.heap.size W W' → DataW.Trod enc Tryz.prog W' 0 (fun b => decide (b < W.heap.size)) true 33 v2 d2 p2 :=
    fun W' hn => Below.trod laidOut (by kernel_rfl) (of_decide_eq_true (by kernel_rfl)) h2 hn (fun x hx => by have h := hW'.lt x (by simp [hx]); simpa using h)
  obtain ⟨L0, w0, z0⟩ := fls_data (hval 0 33 v0 rfl rfl) h0
  obtain ⟨L1, w1, z1⟩ := fls_data (hval 1 33 v1 rfl rfl) h1
  obtain ⟨L2, w2, z2⟩ := fls_data (hval 2 33 v2 rfl rfl) h2
  have hkb : Rows.uptoBulkAll ([d0, d1, d2] : List (DataW H)) ≤ 1048576 := by
    have := of_decide_eq_true hk
    simpa using this
  simp only [Rows.uptoBulkAll] at hkb
  have zf : ∀ {d : DataW H} {L : List T.Fl}, Rows.uptoBulk d ≤ 1048576 → (∀ x ∈ L, ∃ es ss, d = .slice es ss ∧ DataW.agg [.lit (.string x.path), .lit (.string x.text)] ∈ es) → ∀ r ∈ L, r.path.length ≤ 1048576 ∧ r.text.length ≤ 1048576 := by
    intro d L hb hx r hr
    obtain ⟨es, ss, rfl, hm⟩ := hx r hr
    have := bulk_mem hm
    simp only [Rows.uptoBulk, Rows.uptoBulkAll] at this hb
    omega
  have hp : K.MkW W := mkW_of_laid hL
  refine (fallbackTrees_any v0 v1 v2 L0 L1 L2 W hp w0 w1 w2 (zf (by omega) z0) (zf (by omega) z1) (zf (by omega) z2)).mono fun e W' ⟨he, hg⟩ => ?_
  subst he
  exact ⟨_, rfl, _, _, _, [], _, [], hW', (trodAll_cons_mk (shut_bool Tryz.underlying4 _) trodAll_mk0), (trodAll_cons_mk (harg0 W' hg) (trodAll_cons_mk (harg1 W' hg) (trodAll_cons_mk (harg2 W' hg) trodAll_mk0))), rfl, hg.frame _, fun h => by cases h⟩
set_option maxRecDepth 100000 in
theorem lifted (os : Os) (started : os.Started) (H : Type) (enc : TypeId × Value → H) (F : Stop.Interp) :
    ReturnsInHanded {} Tryz.checked os 4 .any ((Rows.OpenSpec.upto Rows.fallbackTreesSpec).preRow enc Tryz.prog Tryz.f4 [] false Rows.fallbackTreesUptoRow.laid) (((Rows.OpenSpec.upto Rows.fallbackTreesSpec).at F).post enc Tryz.prog Tryz.f4 false true false false) := by
  refine returnsInHanded_of_row (C := Tryz.checked) (s := Rows.OpenSpec.upto Rows.fallbackTreesSpec) (laid := Rows.fallbackTreesUptoRow.laid) own started (by kernel_rfl) Tryz.func4
    (witness_row_at false (World.doorLaid Tryz.prog 200 os) #[.slice none 0 0, .slice none 0 0, .slice none 0 0] rfl (by kernel_rfl) (by kernel_rfl) (by kernel_rfl)
      ⟨⟨OpenSpec.pre_of_parts (DataW.Whole_of_whole (fuel := 8) (x := ([.nil, .nil, .nil], [], [])) (by kernel_rfl)) rfl (fun k hk => by cases hk; kernel_rfl), door_met os _⟩, sizedMet_of_sizedB (fuel := 8) (by kernel_rfl)⟩) ?_
  intro W base args ds gs before hval hW _ hk _ hL hsh _
  exact contract H enc W base args ds gs before hval hW (hk Rows.uptoSmall rfl) hL hsh
theorem said : Rows.FallbackTreesUptoSaid :=
  OpenClaim.holds_of_cond 4 Tryz.f4 rfl rfl rfl rfl rfl rfl rfl ⟨rfl, rfl, rfl, rfl, rfl⟩ rfl rfl rfl rfl rfl (by kernel_rfl) Tryz.func4 (by kernel_rfl)
    (of_decide_eq_true (by kernel_rfl)) (by unfold Func.isWrapper; first | (rw [if_pos (by decide +kernel)]; kernel_rfl) | (rw [if_neg (by decide +kernel)]; exact ⟨rfl, rfl⟩))
    (fun os started H enc _ F => by rw [OpenClaim.pre_eq_preRow]; exact lifted os started H enc F)
theorem plain (f : FuncId) (fn : Func) (hf : Tryz.pinned.checked.prog.funcNamed Tryz.f4.name = some f) (hfn : Tryz.pinned.checked.prog.funcs[f]? = some fn) :
    false = Tryz.pinned.checked.prog.looks [] ∧ ∀ (j : Nat) t, fn.params[j]? = some t → Tryz.pinned.checked.prog.wantsStandIn t = false := by
  obtain rfl : f = 4 := Option.some.inj ((show Tryz.prog.funcNamed Tryz.f4.name = some 4 by kernel_rfl).symm.trans hf) |>.symm
  obtain rfl : fn = Tryz.f4 := (Option.some.inj (Tryz.func4.symm.trans hfn)).symm
  refine ⟨by kernel_rfl, fun j t ht => ?_⟩
  rw [Tryz.params4] at ht
  have hm : t ∈ [33, 33, 33] := by simpa using Array.mem_of_getElem? ht
  have hall : ([33, 33, 33].all fun u => !Tryz.prog.wantsStandIn u) = true := by kernel_rfl
  exact (show Tryz.prog.wantsStandIn t = false by simpa using List.all_eq_true.1 hall t hm)
theorem proved : Rows.FallbackTreesUptoCardSaid :=
  Claim7.holds_tied_plain_at .later [] _ _ _ _ said (fun _ h => by cases h) (by kernel_rfl) (fun _ h => by cases h) fallbackTreesUpto_row_tie rfl ⟨rfl, rfl⟩ (by kernel_rfl) rfl plain (by kernel_rfl)
#print axioms proved
end Go.Proofs.YtbekbllffphfeaaGreatDoor.fallbackTrees
