/-
  Proved: the law ReportParts returns true for every two rows of requests and every row of conflicts, which read behind the call as they did. Condition: what is read is of bulk at most 1048576; the listed variables of the program start as the text of the program lays them (the card ties them).
-/
import Derived.Test.YtmklpanehnkfbaaDoorLaid
import Derived.Test.YtmklpanehnkfbaaDoorParts
import Derived.Test.YtmklpanehnkfbaaDoorCards
import Derived.Test.YtmklpanehnkfbaaDoorTie
import Derived.SevenTiedAt
import Derived.JoinedCond
import Derived.ShutString
import Derived.Lib.SmallJoins
namespace Go.Proofs.YtmklpanehnkfbaaDoor.reportParts
open Go.ChangeShapes Go.WideShapes Go.ChangeAt Go.RowKit Go.Deep
set_option linter.unusedVariables false

section
variable {H : Type} {enc : TypeId × Value → H} {W : World} {sp : Nat → Bool} {r : Reach} {b0 : Nat} {v : Value} {d : DataW H} {p : List MemPlace}
set_option maxRecDepth 100000 in
theorem cfs_data (hv : Value.okWide Tryd.prog W r b0 31 v) (h : DataW.Trod enc Tryd.prog W 0 sp true 31 v d p) : ∃ L : List Cf, Cfs W v L ∧ ∀ x ∈ L, ∃ es ss, d = .slice es ss ∧ DataW.agg [.lit (.int .i64 x.kind), .lit (.string x.key)] ∈ es := by
  obtain ⟨a1, len, cap, rfl⟩ := okWide_slice Tryd.underlying31 hv
  obtain ⟨fuel, hf⟩ := h
  rcases open_slice Tryd.underlying31 hf with ⟨hcs, hx⟩ | ⟨a, len', cap', m, n, D, Pl, hcs, _, hl, hm, hmm, hx, hi⟩
  · simp [Value.cells] at hcs
    obtain ⟨rfl, rfl, rfl⟩ := hcs
    exact ⟨[], ⟨none, 0, rfl, Nat.le_refl _, Nat.zero_le _, by simp⟩, by simp⟩
  · simp [Value.cells] at hcs
    obtain ⟨rfl, rfl, rfl⟩ := hcs
    have hlm : len ≤ m := by rw [hmm]; split <;> omega
    have hone : ∀ i, i < len → ∃ t : Cf, ∃ b off, a = ⟨b, off, none⟩ ∧ b < W.heap.size ∧ W.cell? ⟨b, off + i * 2, none⟩ = some (.int .i64 t.kind) ∧ (W.cell? ⟨b, off + i * 2 + 1, none⟩ = some (.string (bs t.key)) ∧ D i = .agg [.lit (.int .i64 t.kind), .lit (.string t.key)]) := by
      intro i hil
      obtain ⟨cs, hc, ht⟩ := hi i (by omega)
      rw [cellsOf23] at hc
      obtain ⟨_, hcl, hat⟩ := World.cells?_some hc
      obtain ⟨y0, y1, n', hag, -, f0, f1⟩ := trod_struct2 Tryd.underlying23 ht
      simp only [cellsOf3, cellsOf9] at f0 f1
      match cs, hcl with
      | [q0, q1], _ =>
        have f0' : DataW.trod enc Tryd.prog W 0 sp true n' 3 [q0] = some y0 := by simpa using f0
        have f1' : DataW.trod enc Tryd.prog W 0 sp true n' 9 [q1] = some y1 := by simpa using f1
        obtain ⟨x0, e0, r0, -⟩ := DataW.trod_int Tryd.underlying3 f0'
        obtain ⟨x1, e1, r1, -⟩ := DataW.trod_string Tryd.underlying9 f1'
        simp only [List.cons.injEq, and_true] at e0 e1
        subst e0 e1
        have g0 := hat 0 (by omega)
        have g1 := hat 1 (by omega)
        obtain ⟨blk, off, el⟩ := a
        have hel : el = none := by
          obtain ⟨cz, hcz, -⟩ := hi 0 (by omega)
          rw [cellsOf23] at hcz
          obtain ⟨_, hcl, hatz⟩ := World.cells?_some hcz
          have hz := hatz 0 (by omega)
          rw [List.getElem?_eq_getElem (by omega)] at hz
          have := World.cell?_spot hz
          simpa [Addr.add] using this
        subst hel
        simp only [add_flat, List.getElem?_cons_zero, List.getElem?_cons_succ, Nat.add_zero] at g0 g1
        exact ⟨⟨x0, tl x1⟩, blk, off, rfl, World.block_lt_of_cell? W _ g0, g0, by rw [bs_tl]; exact g1, by subst r0 r1; exact congrArg Prod.fst hag⟩
    obtain ⟨L, hLl, hL⟩ := list_of len _ hone
    refine ⟨L, ⟨some a, cap, by rw [hLl], by omega, by omega, fun k h hk => ?_⟩, fun x hxm => ?_⟩
    · obtain ⟨b, off, e, h1, h2, h3, -⟩ := hL k h hk
      exact ⟨b, off, by rw [e], h1, h2, h3⟩
    · obtain ⟨k, hk⟩ := List.getElem?_of_mem hxm
      obtain ⟨b, off, e, h1, h2, h3, h4⟩ := hL k x hk
      have hkl := (List.getElem?_eq_some_iff.1 hk).1
      have hd : d = _ := congrArg Prod.fst hx
      exact ⟨_, _, hd, List.mem_map.2 ⟨k, List.mem_range.2 (by omega), h4⟩⟩
set_option maxRecDepth 100000 in
theorem rqs_data (hv : Value.okWide Tryd.prog W r b0 30 v) (h : DataW.Trod enc Tryd.prog W 0 sp true 30 v d p) : ∃ L : List Rq, Rqs W v L ∧ ∀ x ∈ L, ∃ es ss, d = .slice es ss ∧ DataW.agg [.lit (.int .i64 x.kind), .lit (.string x.id), .lit (.string x.to)] ∈ es := by
  obtain ⟨a1, len, cap, rfl⟩ := okWide_slice Tryd.underlying30 hv
  obtain ⟨fuel, hf⟩ := h
  rcases open_slice Tryd.underlying30 hf with ⟨hcs, hx⟩ | ⟨a, len', cap', m, n, D, Pl, hcs, _, hl, hm, hmm, hx, hi⟩
  · simp [Value.cells] at hcs
    obtain ⟨rfl, rfl, rfl⟩ := hcs
    exact ⟨[], ⟨none, 0, rfl, Nat.le_refl _, Nat.zero_le _, by simp⟩, by simp⟩
  · simp [Value.cells] at hcs
    obtain ⟨rfl, rfl, rfl⟩ := hcs
    have hlm : len ≤ m := by rw [hmm]; split <;> omega
    have hone : ∀ i, i < len → ∃ t : Rq, ∃ b off, a = ⟨b, off, none⟩ ∧ b < W.heap.size ∧ W.cell? ⟨b, off + i * 3, none⟩ = some (.int .i64 t.kind) ∧ W.cell? ⟨b, off + i * 3 + 1, none⟩ = some (.string (bs t.id)) ∧ (W.cell? ⟨b, off + i * 3 + 2, none⟩ = some (.string (bs t.to)) ∧ D i = .agg [.lit (.int .i64 t.kind), .lit (.string t.id), .lit (.string t.to)]) := by
      intro i hil
      obtain ⟨cs, hc, ht⟩ := hi i (by omega)
      rw [cellsOf33] at hc
      obtain ⟨_, hcl, hat⟩ := World.cells?_some hc
      obtain ⟨xs, n', _, hag, _, hxl, hfd⟩ := DataW.trod_struct Tryd.underlying33 ht
      match cs, hcl with
      | [q0, q1, q2], _ =>
        have hxl' : xs.length = 3 := hxl
        match xs, hxl' with
        | [y0, y1, y2], _ =>
          have f0 : DataW.trod enc Tryd.prog W 0 sp true n' 3 [q0] = some y0 := by have := hfd 0 _ rfl; simpa [cellsOf3] using this
          have f1 : DataW.trod enc Tryd.prog W 0 sp true n' 9 [q1] = some y1 := by have := hfd 1 _ rfl; simpa [cellsOf9] using this
          have f2 : DataW.trod enc Tryd.prog W 0 sp true n' 9 [q2] = some y2 := by have := hfd 2 _ rfl; simpa [cellsOf9] using this
          obtain ⟨x0, e0, r0, -⟩ := DataW.trod_int Tryd.underlying3 f0
          obtain ⟨x1, e1, r1, -⟩ := DataW.trod_string Tryd.underlying9 f1
          obtain ⟨x2, e2, r2, -⟩ := DataW.trod_string Tryd.underlying9 f2
          simp only [List.cons.injEq, and_true] at e0 e1 e2
          subst e0 e1 e2
          have g0 := hat 0 (by omega)
          have g1 := hat 1 (by omega)
          have g2 := hat 2 (by omega)
          obtain ⟨blk, off, el⟩ := a
          have hel : el = none := by
            obtain ⟨cz, hcz, -⟩ := hi 0 (by omega)
            rw [cellsOf33] at hcz
            obtain ⟨_, hcl, hatz⟩ := World.cells?_some hcz
            have hz := hatz 0 (by omega)
            rw [List.getElem?_eq_getElem (by omega)] at hz
            have := World.cell?_spot hz
            simpa [Addr.add] using this
          subst hel
          simp only [add_flat, List.getElem?_cons_zero, List.getElem?_cons_succ, Nat.add_zero] at g0 g1 g2
          exact ⟨⟨x0, tl x1, tl x2⟩, blk, off, rfl, World.block_lt_of_cell? W _ g0, g0, by rw [bs_tl]; exact g1, by rw [bs_tl]; exact g2, by subst r0 r1 r2; exact congrArg Prod.fst hag⟩
    obtain ⟨L, hLl, hL⟩ := list_of len _ hone
    refine ⟨L, ⟨some a, cap, by rw [hLl], by omega, by omega, fun k h hk => ?_⟩, fun x hxm => ?_⟩
    · obtain ⟨b, off, e, h1, h2, h3, h3b, -⟩ := hL k h hk
      exact ⟨b, off, by rw [e], h1, h2, h3, h3b⟩
    · obtain ⟨k, hk⟩ := List.getElem?_of_mem hxm
      obtain ⟨b, off, e, h1, h2, h3, h3b, h4⟩ := hL k x hk
      have hkl := (List.getElem?_eq_some_iff.1 hk).1
      have hd : d = _ := congrArg Prod.fst hx
      exact ⟨_, _, hd, List.mem_map.2 ⟨k, List.mem_range.2 (by omega), h4⟩⟩
end
theorem bulk_mem {H : Type} : ∀ {l : List (DataW H)} {d : DataW H}, d ∈ l → Rows.uptoBulk d ≤ Rows.uptoBulkAll l
  | [], _, h => by simp at h
  | x :: l, d, h => by
    rw [Rows.uptoBulkAll]
    rcases List.mem_cons.1 h with rfl | h
    · omega
    · have := bulk_mem h; omega
theorem contract (H : Type) (enc : TypeId × Value → H) (W : World) (base : Nat) (args : Array Value) (ds gs : List (DataW H)) (before : List MemPlace)
    (hval : ∀ (j : Nat) t v, Tryd.f6.params[j]? = some t → args[j]? = some v → Value.okWide Tryd.prog W .any base t v)
    (hW : DataW.Whole enc Tryd.prog Tryd.f6.params.toList Rows.reportPartsSpec.vars false W args.toList ds gs before) (hk : Rows.uptoSmall H (ds ++ gs) = true)
    (hL : laidMetH Tryd.prog Rows.reportPartsUptoRow.laid W) (hsh : W.ShapedOpen Tryd.prog) :
    Calls Tryd.prog 6 args W fun e W' => ∃ v, e = .returned v ∧ Rows.reportPartsSpec.post enc Tryd.prog Tryd.f6 false true false false W args v W' := by
  have hW' := hW
  obtain ⟨p, q, hA0, hV, rfl, hfz, hnd⟩ := hW
  have hA : DataW.TrodAll enc Tryd.prog W 0 (fun _ => true) true Tryd.f6.params.toList args.toList ds p := hA0
  rw [Tryd.params6] at hA hval
  obtain ⟨v0, vs0, d0, ds0, p0, q0, hargs, rfl, rfl, h0, r0⟩ := trodAll_cons hA
  obtain ⟨v1, vs1, d1, ds1, p1, q1, rfl, rfl, rfl, h1, r1⟩ := trodAll_cons r0
  obtain ⟨v2, vs2, d2, ds2, p2, q2, rfl, rfl, rfl, h2, r2⟩ := trodAll_cons r1
  obtain ⟨rfl, rfl, rfl⟩ := trodAll_nil r2
  obtain rfl : args = #[v0, v1, v2] := by cases args; simp_all
  obtain ⟨rfl, rfl⟩ := trodVars_none hV
  clear hA0
  simp only [List.append_nil] at hW'
  have harg0 : ∀ (W' : World), Below W.heap.size W W' → DataW.Trod enc Tryd.prog W' 0 (fun b => decide (b < W.heap.size)) true 30 v0 d0 p0 :=
    fun W' hn => Below.trod laidOut (by kernel_rfl) (of_decide_eq_true (by kernel_rfl)) h0 hn (fun x hx => by have h := hW'.lt x (by simp [hx]); simpa using h)
  have harg1 : ∀ (W' : World), Below W.heap.size W W' → DataW.Trod enc Tryd.prog W' 0 (fun b => decide (b < W.heap.size)) true 30 v1 d1 p1 :=
    fun W' hn => Below.trod laidOut (by kernel_rfl) (of_decide_eq_true (by kernel_rfl)) h1 hn (fun x hx => by have h := hW'.lt x (by simp [hx]); simpa using h)
  have harg2 : ∀ (W' : World), Below W.heap.size W W' → DataW.Trod enc Tryd.prog W' 0 (fun b => decide (b < W.heap.size)) true 31 v2 d2 p2 :=
    fun W' hn => Below.trod laidOut (by kernel_rfl) (of_decide_eq_true (by kernel_rfl)) h2 hn (fun x hx => by have h := hW'.lt x (by simp [hx]); simpa using h)
  obtain ⟨L, w0, z0⟩ := rqs_data (hval 0 30 v0 rfl rfl) h0
  obtain ⟨R, w1, z1⟩ := rqs_data (hval 1 30 v1 rfl rfl) h1
  obtain ⟨C, w2, z2⟩ := cfs_data (hval 2 31 v2 rfl rfl) h2
  have hkb : Rows.uptoBulkAll ([d0, d1, d2] : List (DataW H)) ≤ 1048576 := by
    have := of_decide_eq_true hk
    simpa using this
  simp only [Rows.uptoBulkAll] at hkb
  have zq : ∀ {d : DataW H} {L : List Rq}, Rows.uptoBulk d ≤ 1048576 → (∀ x ∈ L, ∃ es ss, d = .slice es ss ∧ DataW.agg [.lit (.int .i64 x.kind), .lit (.string x.id), .lit (.string x.to)] ∈ es) → ∀ r ∈ L, r.id.length ≤ 1048576 ∧ r.to.length ≤ 1048576 := by
    intro d L hb hx r hr
    obtain ⟨es, ss, rfl, hm⟩ := hx r hr
    have := bulk_mem hm
    simp only [Rows.uptoBulk, Rows.uptoBulkAll] at this hb
    omega
  have zc : ∀ r ∈ C, r.key.length ≤ 1048576 := by
    intro r hr
    obtain ⟨es, ss, e, hm⟩ := z2 r hr
    have := bulk_mem hm
    rw [e] at hkb
    simp only [Rows.uptoBulk, Rows.uptoBulkAll] at this hkb
    omega
  have hp : RepW W := repW_of_laid hL hsh
  refine (reportParts_any v0 v1 v2 L R C W w0 w1 w2 (zq (by omega) z0) (zq (by omega) z1) zc hp).mono fun e W' ⟨he, hg⟩ => ?_
  subst he
  exact ⟨_, rfl, _, _, _, [], _, [], hW', (trodAll_cons_mk (shut_bool Tryd.underlying4 _) trodAll_mk0), (trodAll_cons_mk (harg0 W' hg) (trodAll_cons_mk (harg1 W' hg) (trodAll_cons_mk (harg2 W' hg) trodAll_mk0))), rfl, hg.frame _, fun h => by cases h⟩
set_option maxRecDepth 100000 in
theorem lifted (os : Os) (started : os.Started) (H : Type) (enc : TypeId × Value → H) (F : Stop.Interp) :
    ReturnsInHanded {} Tryd.checked os 6 .any ((Rows.OpenSpec.upto Rows.reportPartsSpec).preRow enc Tryd.prog Tryd.f6 [] false Rows.reportPartsUptoRow.laid) (((Rows.OpenSpec.upto Rows.reportPartsSpec).at F).post enc Tryd.prog Tryd.f6 false true false false) := by
  refine returnsInHanded_of_row (C := Tryd.checked) (s := Rows.OpenSpec.upto Rows.reportPartsSpec) (laid := Rows.reportPartsUptoRow.laid) own started (by kernel_rfl) Tryd.func6
    (witness_row_at false (World.doorLaid Tryd.prog 200 os) #[.slice none 0 0, .slice none 0 0, .slice none 0 0] rfl (by kernel_rfl) (by kernel_rfl) (by kernel_rfl)
      ⟨⟨OpenSpec.pre_of_parts (DataW.Whole_of_whole (fuel := 8) (x := ([.nil, .nil, .nil], [], [])) (by kernel_rfl)) rfl (fun k hk => by cases hk; kernel_rfl), door_met os _⟩, sizedMet_of_sizedB (fuel := 8) (by kernel_rfl)⟩) ?_
  intro W base args ds gs before hval hW _ hk _ hL hsh _
  exact contract H enc W base args ds gs before hval hW (hk Rows.uptoSmall rfl) hL hsh
theorem said : Rows.ReportPartsUptoSaid :=
  OpenClaim.holds_of_cond 6 Tryd.f6 rfl rfl rfl rfl rfl rfl rfl ⟨rfl, rfl, rfl, rfl, rfl⟩ rfl rfl rfl rfl rfl (by kernel_rfl) Tryd.func6 (by kernel_rfl)
    (of_decide_eq_true (by kernel_rfl)) (by unfold Func.isWrapper; first | (rw [if_pos (by decide +kernel)]; kernel_rfl) | (rw [if_neg (by decide +kernel)]; exact ⟨rfl, rfl⟩))
    (fun os started H enc _ F => by rw [OpenClaim.pre_eq_preRow]; exact lifted os started H enc F)
theorem plain (f : FuncId) (fn : Func) (hf : Tryd.pinned.checked.prog.funcNamed Tryd.f6.name = some f) (hfn : Tryd.pinned.checked.prog.funcs[f]? = some fn) :
    false = Tryd.pinned.checked.prog.looks [] ∧ ∀ (j : Nat) t, fn.params[j]? = some t → Tryd.pinned.checked.prog.wantsStandIn t = false := by
  obtain rfl : f = 6 := Option.some.inj ((show Tryd.prog.funcNamed Tryd.f6.name = some 6 by kernel_rfl).symm.trans hf) |>.symm
  obtain rfl : fn = Tryd.f6 := (Option.some.inj (Tryd.func6.symm.trans hfn)).symm
  refine ⟨by kernel_rfl, fun j t ht => ?_⟩
  rw [Tryd.params6] at ht
  have hm : t ∈ [30, 30, 31] := by simpa using Array.mem_of_getElem? ht
  have hall : ([30, 30, 31].all fun u => !Tryd.prog.wantsStandIn u) = true := by kernel_rfl
  exact (show Tryd.prog.wantsStandIn t = false by simpa using List.all_eq_true.1 hall t hm)
theorem proved : Rows.ReportPartsUptoCardSaid :=
  Claim7.holds_tied_plain_at .later [] _ _ _ _ said (fun _ h => by cases h) (by kernel_rfl) (fun _ h => by cases h) reportPartsUpto_row_tie rfl ⟨rfl, rfl⟩ (by kernel_rfl) rfl plain (by kernel_rfl)
#print axioms proved
end Go.Proofs.YtmklpanehnkfbaaDoor.reportParts
