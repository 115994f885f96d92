/-
  For the laws of archive: the reference's one: the file with which a text begins. Condition: at most 50,000 bytes.
-/
import Derived.Test.YtpnfjiglphogoadDoorRefshow
namespace Go.Proofs.YtpnfjiglphogoadDoor
open Go.RowKit Go.Shelf
set_option linter.unusedSimpArgs false
set_option linter.unusedVariables false

theorem results_cell_row_tmp2 {P : Program} {fn : Func} {p u v : Tmp} {ty : TypeId} (h : fn.results = #[.cell p ty, .tmp u, .tmp v]) (tmps : Array Value) (w : World) (g : Nat) (t : TypeId) (cs : Array Value) (fr : Nat × Nat) (d : TypeDesc)
    (hp : tmps.getD p undef = .pointer (some ⟨g, 0, none⟩)) (hg : w.heap[g]? = some (.cells cs t fr))
    (hu : P.underlying ty = some d) (hd : (match d with | .struct _ | .array _ _ => true | _ => false) = true) (hi : (P.info? ty).map (·.size) = some cs.size) :
    (results fn tmps).run P w = .ok (.tuple #[.agg cs, tmps.getD u undef, tmps.getD v undef]) w := by
  have e : (results fn tmps).run P w = ((asAddr (tmps.getD p undef)).run P w).andThen fun a w₁ => ((loadVar ty a).run P w₁).andThen fun x w₂ => .ok (.tuple #[x, tmps.getD u undef, tmps.getD v undef]) w₂ := by
    simp only [results, h]
    simp [Sem.run_bind, Result.andThen]
  rw [e, hp]
  simp [asAddr, run_loadVar_row w g t ty cs fr d hg hu hd hi]
def OneIs (s : By) (e : Ending) : Prop := match nextL s with
  | some (f, r) => e = .returned (.tuple #[.agg #[.string (bs f.path), .string (bs f.text)], .int .i64 (oneL f).length, .bool true])
  | none => e = .returned (.tuple #[.agg #[.string ⟨#[]⟩, .string ⟨#[]⟩], .int .i64 0, .bool false])
/-- The lines behind the first, n of them. -/
def TT (s : By) (n : Nat) : By := (((lnB (bs s)).drop 1).take n).flatten
theorem TT_succ {s : By} {n : Nat} {l : ByteArray} (h : (lns (bs s))[n + 1]? = some l) : TT s (n + 1) = TT s n ++ tl l := by
  unfold TT
  have h2 : ((lnB (bs s)).drop 1)[n]? = some (tl l) := by
    rw [List.getElem?_drop, Nat.add_comm 1 n]
    unfold lnB
    rw [List.getElem?_map, h]; rfl
  rw [List.take_add_one, h2, List.flatten_append]; simp
theorem TT_le (s : By) (n : Nat) : (TT s n).length ≤ s.length := by
  have h := lnB_flat (bs s)
  rw [tl_bs] at h
  have h1 : lnB (bs s) = (lnB (bs s)).take 1 ++ (((lnB (bs s)).drop 1).take n ++ ((lnB (bs s)).drop 1).drop n) := by
    rw [List.take_append_drop, List.take_append_drop]
  rw [h1] at h
  have := congrArg List.length h
  simp only [List.flatten_append, List.length_append] at this
  unfold TT
  omega
theorem TT_zero (s : By) : TT s 0 = [] := by unfold TT; simp
/-- No such file begins the text. -/
def NoM (s P t : By) : Prop := ¬ (pathOk P = true ∧ ∃ r, s = oneL ⟨P, t⟩ ++ r)
/-- Whatever file begins the text has at least n lines. -/
def MoreM (s : By) (n : Nat) : Prop := ∀ f r, pathOk f.path = true → s = oneL f ++ r → n ≤ cnt f.text
theorem lines_cons {s : By} {l : ByteArray} (h : (lns (bs s))[0]? = some l) : lnB (bs s) = tl l :: (lnB (bs s)).drop 1 := by
  have : (lnB (bs s))[0]? = some (tl l) := by unfold lnB; rw [List.getElem?_map, h]; rfl
  cases hl : lnB (bs s) with
  | nil => rw [hl] at this; simp at this
  | cons a b => rw [hl] at this; simp at this; rw [this]; rfl
theorem more_step {s : By} {n : Nat} {l : ByteArray} (hl : (lns (bs s))[0]? = some l) (h : MoreM s n) (h0 : NoM s (pathW (tl l)) (TT s n)) (h1 : TT s n ≠ [] → (TT s n).getLast? = some 10 → NoM s (pathW (tl l)) (TT s n).dropLast) : MoreM s (n + 1) := by
  intro f r hp e
  have hn := h f r hp e
  rcases Nat.lt_or_ge n (cnt f.text) with hlt | hge
  · exact hlt
  · exfalso
    have hnc : n = cnt f.text := by omega
    obtain ⟨k1, k2, k3⟩ := lines_of hp e (lines_cons hl)
    have hP : pathW (tl l) = f.path := by rw [k1, pathW_head hp]
    have hT : TT s n = whole f.text := by unfold TT; rw [hnc]; exact k2
    rw [hP, hT] at h0 h1
    cases hc : cutOf f.text with
    | false =>
      rw [whole_same hc] at h0
      exact h0 ⟨hp, r, by cases f; exact e⟩
    | true =>
      have hw := whole_cut hc
      have := h1 (by rw [hw]; simp) (by rw [hw]; exact last_snoc _ _)
      rw [hw, List.dropLast_concat] at this
      exact this ⟨hp, r, by cases f; exact e⟩
theorem more_end {s : By} {l : ByteArray} (hl : (lns (bs s))[0]? = some l) (h : MoreM s (lns (bs s)).length) : nextL s = none := by
  cases hn : nextL s with
  | none => rfl
  | some fr =>
    obtain ⟨f, r⟩ := fr
    obtain ⟨hp, e⟩ := of_next hn
    have h1 := h f r hp e
    obtain ⟨k1, k2, k3⟩ := lines_of hp e (lines_cons hl)
    have hz : (lnB (bs s)).length = (lns (bs s)).length := by unfold lnB; simp
    rw [List.length_drop, hz] at k3
    have : 0 < (lns (bs s)).length := (List.getElem?_eq_some_iff.1 hl).1
    omega
theorem nom_of_take {s O P t : By} (hO : oneL ⟨P, t⟩ = O) (h : ¬ (O.length ≤ s.length ∧ s.take O.length = O)) : NoM s P t := by
  rintro ⟨-, r, e⟩
  rw [hO] at e
  refine h ⟨?_, ?_⟩
  · rw [e, List.length_append]; omega
  · rw [e, List.take_left]
theorem yes_of_take {s O P t : By} (hs : s.length ≤ 1000000) (hO : oneL ⟨P, t⟩ = O) (hp : pathOk P = true) (h : s.take O.length = O) : nextL s = some (⟨P, t⟩, s.drop O.length) :=
  next_one (f := ⟨P, t⟩) hp hs (by rw [hO]; conv => lhs; rw [← List.take_append_drop O.length s, h])
theorem empty_lines {s : By} (h : lns (bs s) = []) : nextL s = none := by
  have h1 := lnB_flat (bs s)
  unfold lnB at h1
  rw [h, tl_bs] at h1
  have : s = [] := h1.symm
  subst this
  decide +kernel
theorem fls_one1 {W : World} {b : Nat} {t : TypeId} {x : Fl} (h : RowAt W b t #[.string (bs x.path), .string (bs x.text)]) : Fls W (.slice (some ⟨b, 0, none⟩) 1 1) [x] := by
  refine ⟨_, 1, rfl, Nat.le_refl _, by simp [maxLen], fun j u hj => ?_⟩
  have hj0 : j = 0 := by have := (List.getElem?_eq_some_iff.1 hj).1; simp at this; omega
  subst hj0
  obtain rfl : x = u := by simpa using hj
  exact ⟨b, 0, rfl, h.lt, h.cell (j := 0) rfl, h.cell (j := 1) rfl⟩
theorem pathW_le (l : By) : (pathW l).length ≤ l.length := by
  unfold pathW
  rcases sepAt_cases 32 l with ⟨h1, h2⟩ | ⟨a, b, h1, h2, h3⟩
  · rw [h2]; exact Nat.zero_le _
  · rw [h3]
    simp only
    rcases sepAt_cases 32 b with ⟨g1, g2⟩ | ⟨c, d, g1, g2, g3⟩
    · rw [g2]; exact Nat.zero_le _
    · rw [g3]; simp only; rw [h1, g1]; simp; omega
theorem RefShow_one (P t O : By) (hP : P.length ≤ 60000) (ht : t.length ≤ 60000) (hO : oneL ⟨P, t⟩ = O) (W : World) (b : Nat) (h : RowAt W b 34 #[.string (bs P), .string (bs t)]) : Calls Tryd.prog 14 #[.slice (some ⟨b, 0, none⟩) 1 1] W fun e w' => e = .returned (.string (bs O)) ∧ Below W.heap.size W w' := by
  have := RefShow_any _ [⟨P, t⟩] (by simp) (fun f hf => by
    obtain rfl : f = ⟨P, t⟩ := by simpa using hf
    exact ⟨by show P.length ≤ 100000; omega, by show t.length ≤ 100000; omega⟩) W (fls_one1 (x := ⟨P, t⟩) h)
  rwa [show showL [⟨P, t⟩] = O by rw [← hO]; simp [showL]] at this
set_option maxRecDepth 100000 in
set_option maxHeartbeats 16000000 in
theorem one_any (s : By) (hs : s.length ≤ 50000) (w : World) : Calls Tryd.prog 19 #[.string (bs s)] w fun e w' => OneIs s e ∧ Below w.heap.size w w' := by
  obtain ⟨W0, hW0⟩ : ∃ W0, Hid (w.alloc (.cells #[.string ⟨#[]⟩, .string ⟨#[]⟩] 34) = W0) := ⟨_, Lib.hid rfl⟩
  have B0 : Hid (Below w.heap.size w W0) := by rw [← hW0.out]; exact Lib.hid ((Below.refl _ w).alloc (Nat.le_refl _) _)
  have R0 : Hid (RowAt W0 w.heap.size 34 #[.string ⟨#[]⟩, .string ⟨#[]⟩]) := by rw [← hW0.out]; exact Lib.hid (RowAt.new w 34 _)
  have hs0 := B0.out.size
  go_enter Tryd.func19, Tryd.ntmps19
  go_wp2_with fail
  rw [hW0.out]
  refine (RefSplit_any (bs s) (by rw [bs_size]; omega) _).mono ?_
  rintro e w1 ⟨v, rfl, hz, b1⟩
  have B1 := Lib.hid (B0.out.trans (b1.mono hs0))
  have R1 := Lib.hid (R0.out.later b1)
  have hs1 := B1.out.size
  clear b1
  obtain ⟨a, cap, rfl, hc, hm, hat⟩ := hz
  have hgl := R1.out.lt
  obtain ⟨N, hN⟩ : ∃ N, Hid ((lns (bs s)).length = N) := ⟨_, Lib.hid rfl⟩
  rw [hN.out] at hc hm
  rw [hN.out]
  unfold maxLen at hm
  rcases hat with hnil | ⟨b, off, rfl, hbl, hat⟩
  · have hN0 : N = 0 := by rw [← hN.out, hnil]; rfl
    subst hN0
    have hno : Hid (nextL s = none) := Lib.hid (empty_lines hnil)
    clear hnil
    have f0 := R1.out.frozen 0
    have f1 := R1.out.frozen 1
    have d0 := R1.out.cell (j := 0) rfl
    have d1 := R1.out.cell (j := 1) rfl
    go_wp2_with fail
    refine bodyPost_ret (results_cell_row_tmp2 rfl _ _ w.heap.size 34 #[.string ⟨#[]⟩, .string ⟨#[]⟩] (0, 0) _ rfl ((R1.out.set 0 _).set 1 _) Tryd.underlying34 rfl rfl) rfl ?_
    refine ⟨?_, (B1.out.setCell (p := ⟨w.heap.size, 0, none⟩) (Nat.le_refl _) _).setCell (p := ⟨w.heap.size, 1, none⟩) (Nat.le_refl _) _⟩
    unfold OneIs; rw [hno.out]; rfl
  · have Hat := Lib.hid hat
    clear hat
    by_cases hN0 : N = 0
    · subst hN0
      have hno : Hid (nextL s = none) := Lib.hid (empty_lines (List.eq_nil_of_length_eq_zero hN.out))
      have f0 := R1.out.frozen 0
      have f1 := R1.out.frozen 1
      have d0 := R1.out.cell (j := 0) rfl
      have d1 := R1.out.cell (j := 1) rfl
      go_wp2_with fail
      refine bodyPost_ret (results_cell_row_tmp2 rfl _ _ w.heap.size 34 #[.string ⟨#[]⟩, .string ⟨#[]⟩] (0, 0) _ rfl ((R1.out.set 0 _).set 1 _) Tryd.underlying34 rfl rfl) rfl ?_
      refine ⟨?_, (B1.out.setCell (p := ⟨w.heap.size, 0, none⟩) (Nat.le_refl _) _).setCell (p := ⟨w.heap.size, 1, none⟩) (Nat.le_refl _) _⟩
      unfold OneIs; rw [hno.out]; rfl
    · have g0 : ((N : Int) == 0) = false := by rw [beq_eq_false_iff_ne]; omega
      obtain ⟨l0, hl0⟩ : ∃ l0, Hid ((lns (bs s))[0]? = some l0) := ⟨_, Lib.hid (List.getElem?_eq_getElem (by rw [hN.out]; omega))⟩
      have hl0s : l0.size ≤ 50000 := by
        have h1 := (lnB_flat (bs s)).trans (tl_bs s)
        rw [lines_cons hl0.out] at h1
        have := congrArg List.length h1
        rw [List.flatten_cons, List.length_append, tl_length l0] at this
        omega
      obtain ⟨P, hP⟩ : ∃ P, Hid (pathW (tl l0) = P) := ⟨_, Lib.hid rfl⟩
      have hPl : P.length ≤ 50000 := by rw [← hP.out]; have := pathW_le (tl l0); rw [tl_length] at this; omega
      have C0 : Hid (∀ wr : World, Below w1.heap.size w1 wr → wr.cell? ⟨b, off, none⟩ = some (.string l0)) := Lib.hid fun wr hb => (hb.cell (p := ⟨b, off, none⟩) hbl).trans (by have := Hat.out 0 l0 hl0.out; simpa using this)
      go_wp2_with fail
      go_loopw [6, 7] (fun x c wr => ∃ n : Nat, c = .int .i64 n ∧ n ≤ N ∧ x = .string (bs (TT s (n - 1))) ∧ Hid (MoreM s n) ∧ Hid (Below w1.heap.size w1 wr)) (fun _ c _ => N - (intOf c).toNat)
      case atStart => exact ⟨0, rfl, by omega, by rw [Nat.zero_sub, TT_zero], Lib.hid (fun f r _ _ => Nat.zero_le _), Lib.hid (Below.refl _ _)⟩
      case round =>
        obtain ⟨n, rfl, hn, rfl, hM, hB⟩ := hrel
        have hTl := TT_le s (n - 1)
        by_cases hlt : n < N
        · obtain ⟨ln, hln⟩ : ∃ l, (lns (bs s))[n]? = some l := ⟨_, List.getElem?_eq_getElem (by rw [hN.out]; omega)⟩
          have cn : wr.cell? ⟨b, off + n, none⟩ = some (.string ln) := (hB.out.cell (p := ⟨b, off + n, none⟩) hbl).trans (Hat.out n ln hln)
          have hTn := TT_le s n
          obtain ⟨T, hT⟩ : ∃ T, Hid (TT s n = T) := ⟨_, Lib.hid rfl⟩
          obtain ⟨T0, hT0⟩ : ∃ T0, Hid (TT s (n - 1) = T0) := ⟨_, Lib.hid rfl⟩
          rw [hT0.out] at hTl
          rw [hT.out] at hTn
          rw [hT0.out]
          have hstep : Hid (n ≠ 0 → bs T0 ++ ln = bs T) := Lib.hid fun hn0 => by
            obtain ⟨j, rfl⟩ : ∃ j, n = j + 1 := ⟨n - 1, by omega⟩
            rw [app_bs, ← hT.out, TT_succ hln, ← hT0.out, Nat.add_sub_cancel]
          have hzero : Hid (n = 0 → T0 = T) := Lib.hid fun hn0 => by rw [← hT.out, ← hT0.out, hn0]
          have hlnl : 1 ≤ n → T0.length + ln.size ≤ 50000 := fun hn0 => by
            have := congrArg ByteArray.size (hstep.out (by omega))
            rw [ByteArray.size_append, bs_size T0, bs_size T] at this
            omega
          clear hln
          by_cases hn0 : n = 0
          · have e0 := (hzero.out hn0).symm
            subst e0
            clear hlnl cn
            have g1 : decide ((n : Int) > 0) = false := decide_eq_false (by omega)
            have g1' : decide (0 < n) = false := decide_eq_false (by omega)
            go_wp2_with fail
            go_loopw [8] (fun c wr => ∃ k : Nat, c = .int .i64 k ∧ k ≤ 2 ∧ Hid (1 ≤ k → NoM s P T) ∧ Hid (2 ≤ k → T ≠ [] → T.getLast? = some 10 → NoM s P T.dropLast) ∧ Hid (Below w1.heap.size w1 wr)) (fun c _ => 2 - (intOf c).toNat)
            case atStart => exact ⟨0, rfl, by omega, Lib.hid (fun h => by omega), Lib.hid (fun h => by omega), hB⟩
            case round =>
              clear hB
              obtain ⟨k, rfl, hk, hk1, hk2, hB⟩ := hrel
              have c0 := C0.out wr hB.out
              by_cases hk0 : k = 0
              · subst hk0
                clear hk1 hk2
                have hTt := hTn
                obtain ⟨O, hO⟩ : ∃ O, Hid (oneL ⟨P, T⟩ = O) := ⟨_, Lib.hid rfl⟩
                obtain ⟨W3, hW3⟩ : ∃ W3, Hid ((wr.alloc (.cells #[.string (bs P), .string (bs T)] 34)).alloc (.cells #[.string (bs P), .string (bs T)] 34) = W3) := ⟨_, Lib.hid rfl⟩
                have B3 : Hid (Below wr.heap.size wr W3) := by rw [← hW3.out]; exact Lib.hid (((Below.refl _ wr).alloc (Nat.le_refl _) _).alloc (by simp) _)
                have R3 : Hid (RowAt W3 wr.heap.size 34 #[.string (bs P), .string (bs T)]) := by rw [← hW3.out]; exact Lib.hid ((RowAt.new wr 34 _).alloc _)
                have Q3 : Hid (RowAt W3 (wr.heap.size + 1) 34 #[.string (bs P), .string (bs T)]) := by rw [← hW3.out]; exact Lib.hid (by have := RowAt.new (wr.alloc (.cells #[.string (bs P), .string (bs T)] 34)) 34 #[.string (bs P), .string (bs T)]; rwa [World.size_alloc] at this)
                have BB3 := Lib.hid (hB.out.trans (B3.out.mono hB.out.size))
                have hs3 := BB3.out.size
                go_wp2_with fail
                refine (Refpathw_any l0 (by omega) _).mono ?_
                rw [hP.out]
                rintro e w2 ⟨rfl, rfl⟩
                go_wp2_with fail
                rw [hW3.out]
                refine (RefShow_one P T O (by omega) (by omega) hO.out W3 _ Q3.out).mono ?_
                rintro e w4 ⟨rfl, b4⟩
                have B4 := Lib.hid (BB3.out.trans (b4.mono hs3))
                have R4 := Lib.hid (R3.out.later b4)
                have hs4 := B4.out.size
                have d0 := R4.out.cell (j := 0) rfl
                have d1 := R4.out.cell (j := 1) rfl
                clear b4
                by_cases hmt : pathOk P = true ∧ O.length ≤ s.length ∧ s.take O.length = O
                · obtain ⟨hp, hle, htk⟩ := hmt
                  have hyes : Hid (nextL s = some (⟨P, T⟩, s.drop O.length)) := Lib.hid (yes_of_take (by omega) hO.out hp htk)
                  have hx : (bs s).extract 0 O.length = bs O := by rw [ext_bs, tl_bs, Nat.sub_zero, List.drop_zero, htk]
                  have Hp := Lib.hid hp
                  clear hp htk
                  go_wp2_with fail
                  refine (RefPath_any (bs P) _ (by rw [bs_size]; unfold maxLen; omega)).mono ?_
                  rw [tl_bs, Hp.out]
                  rintro e w5 ⟨rfl, rfl⟩
                  have R5 := Lib.hid (R1.out.later B4.out)
                  have q0 := R5.out.cell (j := 0) rfl
                  have q1 := R5.out.cell (j := 1) rfl
                  have f0 := R5.out.frozen 0
                  have f1 := R5.out.frozen 1
                  go_wp2_with fail
                  refine bodyPost_ret (results_cell_row_tmp2 rfl _ _ w.heap.size 34 #[.string (bs P), .string (bs T)] (0, 0) _ rfl ((R5.out.set 0 _).set 1 _) Tryd.underlying34 rfl rfl) rfl ?_
                  refine ⟨?_, ((B1.out.trans (B4.out.mono hs1)).setCell (p := ⟨w.heap.size, 0, none⟩) (Nat.le_refl _) _).setCell (p := ⟨w.heap.size, 1, none⟩) (Nat.le_refl _) _⟩
                  unfold OneIs; rw [hyes.out]; simp only [hO.out]; rfl
                · have hnm : Hid (NoM s P T) := Lib.hid fun hh => hmt ⟨hh.1, by
                    obtain ⟨h1, r, h2⟩ := hh
                    rw [hO.out] at h2
                    exact ⟨by rw [h2, List.length_append]; omega, by rw [h2, List.take_left]⟩⟩
                  obtain ⟨pk, hpk⟩ : ∃ pk, Hid (pathOk P = pk) := ⟨_, Lib.hid rfl⟩
                  have hcase : pk = true → O.length ≤ s.length → ¬ s.take O.length = O := fun h1 h2 h3 => hmt ⟨hpk.out.trans h1, h2, h3⟩
                  clear hmt
                  cases pk with
                  | false =>
                    clear hcase
                    go_wp2_with fail
                    refine (RefPath_any (bs P) _ (by rw [bs_size]; unfold maxLen; omega)).mono ?_
                    rw [tl_bs, hpk.out]
                    rintro e w5 ⟨rfl, rfl⟩
                    go_wp2_with fail
                    exact ⟨⟨1, by go_num, by omega, Lib.hid (fun _ => hnm.out), Lib.hid (fun h => by omega), Lib.hid B4.out⟩, by simp [intOf]⟩
                  | true =>
                    by_cases hle : O.length ≤ s.length
                    · have hne := hcase rfl hle
                      have hx : (((bs s).extract 0 O.length).toList == O) = false := by
                        rw [Lib.toList_data, beq_eq_false_iff_ne]
                        intro e
                        apply hne
                        have e2 : tl ((bs s).extract 0 O.length) = O := e
                        rwa [ext_bs, tl_bs, tl_bs, Nat.sub_zero, List.drop_zero] at e2
                      clear hcase hne
                      go_wp2_with fail
                      refine (RefPath_any (bs P) _ (by rw [bs_size]; unfold maxLen; omega)).mono ?_
                      rw [tl_bs, hpk.out]
                      rintro e w5 ⟨rfl, rfl⟩
                      go_wp2_with fail
                      exact ⟨⟨1, by go_num, by omega, Lib.hid (fun _ => hnm.out), Lib.hid (fun h => by omega), Lib.hid B4.out⟩, by simp [intOf]⟩
                    · clear hcase
                      go_wp2_with fail
                      refine (RefPath_any (bs P) _ (by rw [bs_size]; unfold maxLen; omega)).mono ?_
                      rw [tl_bs, hpk.out]
                      rintro e w5 ⟨rfl, rfl⟩
                      go_wp2_with fail
                      exact ⟨⟨1, by go_num, by omega, Lib.hid (fun _ => hnm.out), Lib.hid (fun h => by omega), Lib.hid B4.out⟩, by simp [intOf]⟩
              · by_cases hk1' : k = 1
                · subst hk1'
                  clear hk2
                  by_cases hTe : T.length = 0
                  · have g2 : ((T.length : Int) == 0) = true := by rw [beq_iff_eq]; omega
                    go_wp2_with fail
                    exact ⟨⟨2, by go_num, by omega, Lib.hid (fun _ => hk1.out (Nat.le_refl _)), Lib.hid (fun _ h => absurd (List.eq_nil_of_length_eq_zero hTe) h), hB⟩, by simp [intOf]⟩
                  · have hlt1 : T.length - 1 < T.length := by omega
                    obtain ⟨cb, hcb⟩ : ∃ c, T[T.length - 1]? = some c := ⟨_, List.getElem?_eq_getElem hlt1⟩
                    have hlast : T.getLast? = some cb := by rw [List.getLast?_eq_getElem?]; exact hcb
                    have hbyte : (bs T)[T.length - 1]'(by rw [bs_size]; exact hlt1) = cb := by
                      have h1 := tl_get (bs T) (k := T.length - 1) (by rw [bs_size]; exact hlt1)
                      rw [tl_bs, hcb] at h1
                      exact (Option.some.inj h1).symm
                    have g2 : ((T.length : Int) == 0) = false := by rw [beq_eq_false_iff_ne]; omega
                    clear hcb
                    by_cases h10 : cb = 10
                    · have g3 : ((cb.toNat : Int) != 10) = false := by rw [h10]; rfl
                      obtain ⟨D, hD⟩ : ∃ D, Hid (T.dropLast = D) := ⟨_, Lib.hid rfl⟩
                      have hDl : D.length ≤ 50000 := by rw [← hD.out, List.length_dropLast]; omega
                      have hxD : Hid ((bs T).extract 0 (T.length - 1) = bs D) := Lib.hid (by rw [ext_bs, tl_bs, ← hD.out, List.dropLast_eq_take]; simp)
                      obtain ⟨O, hO⟩ : ∃ O, Hid (oneL ⟨P, D⟩ = O) := ⟨_, Lib.hid rfl⟩
                      obtain ⟨W3, hW3⟩ : ∃ W3, Hid ((wr.alloc (.cells #[.string (bs P), .string (bs D)] 34)).alloc (.cells #[.string (bs P), .string (bs D)] 34) = W3) := ⟨_, Lib.hid rfl⟩
                      have B3 : Hid (Below wr.heap.size wr W3) := by rw [← hW3.out]; exact Lib.hid (((Below.refl _ wr).alloc (Nat.le_refl _) _).alloc (by simp) _)
                      have R3 : Hid (RowAt W3 wr.heap.size 34 #[.string (bs P), .string (bs D)]) := by rw [← hW3.out]; exact Lib.hid ((RowAt.new wr 34 _).alloc _)
                      have Q3 : Hid (RowAt W3 (wr.heap.size + 1) 34 #[.string (bs P), .string (bs D)]) := by rw [← hW3.out]; exact Lib.hid (by have := RowAt.new (wr.alloc (.cells #[.string (bs P), .string (bs D)] 34)) 34 #[.string (bs P), .string (bs D)]; rwa [World.size_alloc] at this)
                      have BB3 := Lib.hid (hB.out.trans (B3.out.mono hB.out.size))
                      have hs3 := BB3.out.size
                      go_wp2_with fail
                      rw [hxD.out]
                      refine (Refpathw_any l0 (by omega) _).mono ?_
                      rw [hP.out]
                      rintro e w2 ⟨rfl, rfl⟩
                      go_wp2_with fail
                      rw [hW3.out]
                      refine (RefShow_one P D O (by omega) (by omega) hO.out W3 _ Q3.out).mono ?_
                      rintro e w4 ⟨rfl, b4⟩
                      have B4 := Lib.hid (BB3.out.trans (b4.mono hs3))
                      have R4 := Lib.hid (R3.out.later b4)
                      have hs4 := B4.out.size
                      have d0 := R4.out.cell (j := 0) rfl
                      have d1 := R4.out.cell (j := 1) rfl
                      clear b4
                      by_cases hmt : pathOk P = true ∧ O.length ≤ s.length ∧ s.take O.length = O
                      · obtain ⟨hp, hle, htk⟩ := hmt
                        have hyes : Hid (nextL s = some (⟨P, D⟩, s.drop O.length)) := Lib.hid (yes_of_take (by omega) hO.out hp htk)
                        have hx : (bs s).extract 0 O.length = bs O := by rw [ext_bs, tl_bs, Nat.sub_zero, List.drop_zero, htk]
                        have Hp := Lib.hid hp
                        clear hp htk
                        go_wp2_with fail
                        refine (RefPath_any (bs P) _ (by rw [bs_size]; unfold maxLen; omega)).mono ?_
                        rw [tl_bs, Hp.out]
                        rintro e w5 ⟨rfl, rfl⟩
                        have R5 := Lib.hid (R1.out.later B4.out)
                        have q0 := R5.out.cell (j := 0) rfl
                        have q1 := R5.out.cell (j := 1) rfl
                        have f0 := R5.out.frozen 0
                        have f1 := R5.out.frozen 1
                        go_wp2_with fail
                        refine bodyPost_ret (results_cell_row_tmp2 rfl _ _ w.heap.size 34 #[.string (bs P), .string (bs D)] (0, 0) _ rfl ((R5.out.set 0 _).set 1 _) Tryd.underlying34 rfl rfl) rfl ?_
                        refine ⟨?_, ((B1.out.trans (B4.out.mono hs1)).setCell (p := ⟨w.heap.size, 0, none⟩) (Nat.le_refl _) _).setCell (p := ⟨w.heap.size, 1, none⟩) (Nat.le_refl _) _⟩
                        unfold OneIs; rw [hyes.out]; simp only [hO.out]; rfl
                      · have hnm : Hid (NoM s P D) := Lib.hid fun hh => hmt ⟨hh.1, by
                          obtain ⟨h1, r, h2⟩ := hh
                          rw [hO.out] at h2
                          exact ⟨by rw [h2, List.length_append]; omega, by rw [h2, List.take_left]⟩⟩
                        obtain ⟨pk, hpk⟩ : ∃ pk, Hid (pathOk P = pk) := ⟨_, Lib.hid rfl⟩
                        have hcase : pk = true → O.length ≤ s.length → ¬ s.take O.length = O := fun h1 h2 h3 => hmt ⟨hpk.out.trans h1, h2, h3⟩
                        clear hmt
                        cases pk with
                        | false =>
                          clear hcase
                          go_wp2_with fail
                          refine (RefPath_any (bs P) _ (by rw [bs_size]; unfold maxLen; omega)).mono ?_
                          rw [tl_bs, hpk.out]
                          rintro e w5 ⟨rfl, rfl⟩
                          go_wp2_with fail
                          exact ⟨⟨2, by go_num, by omega, Lib.hid (fun _ => hk1.out (Nat.le_refl _)), Lib.hid (fun _ _ _ => by rw [hD.out]; exact hnm.out), Lib.hid B4.out⟩, by simp [intOf]⟩
                        | true =>
                          by_cases hle : O.length ≤ s.length
                          · have hne := hcase rfl hle
                            have hx : (((bs s).extract 0 O.length).toList == O) = false := by
                              rw [Lib.toList_data, beq_eq_false_iff_ne]
                              intro e
                              apply hne
                              have e2 : tl ((bs s).extract 0 O.length) = O := e
                              rwa [ext_bs, tl_bs, tl_bs, Nat.sub_zero, List.drop_zero] at e2
                            clear hcase hne
                            go_wp2_with fail
                            refine (RefPath_any (bs P) _ (by rw [bs_size]; unfold maxLen; omega)).mono ?_
                            rw [tl_bs, hpk.out]
                            rintro e w5 ⟨rfl, rfl⟩
                            go_wp2_with fail
                            exact ⟨⟨2, by go_num, by omega, Lib.hid (fun _ => hk1.out (Nat.le_refl _)), Lib.hid (fun _ _ _ => by rw [hD.out]; exact hnm.out), Lib.hid B4.out⟩, by simp [intOf]⟩
                          · clear hcase
                            go_wp2_with fail
                            refine (RefPath_any (bs P) _ (by rw [bs_size]; unfold maxLen; omega)).mono ?_
                            rw [tl_bs, hpk.out]
                            rintro e w5 ⟨rfl, rfl⟩
                            go_wp2_with fail
                            exact ⟨⟨2, by go_num, by omega, Lib.hid (fun _ => hk1.out (Nat.le_refl _)), Lib.hid (fun _ _ _ => by rw [hD.out]; exact hnm.out), Lib.hid B4.out⟩, by simp [intOf]⟩
                    · have g3 : ((cb.toNat : Int) != 10) = true := by
                        rw [bne_iff_ne]
                        intro e
                        exact h10 (UInt8.toNat_inj.1 (by have : (10 : UInt8).toNat = 10 := rfl; omega))
                      go_wp2_with fail
                      exact ⟨⟨2, by go_num, by omega, Lib.hid (fun _ => hk1.out (Nat.le_refl _)), Lib.hid (fun _ _ h => absurd (Option.some.inj (hlast.symm.trans h)) h10), hB⟩, by simp [intOf]⟩
                · obtain rfl : k = 2 := by omega
                  have hM2 : Hid (MoreM s (n + 1)) := Lib.hid (more_step hl0.out hM.out (by rw [hP.out, hT.out]; exact hk1.out (by omega)) (by rw [hP.out, hT.out]; exact hk2.out (by omega)))
                  go_wp2_with fail
                  exact ⟨⟨n + 1, by go_num, by omega, by rw [Nat.add_sub_cancel, hT.out], hM2, hB⟩, by simp [intOf]; omega⟩
          · have e0 := hstep.out hn0
            have E0 := Lib.hid e0
            have hn1 := hlnl (by omega)
            clear hlnl e0
            have g1 : decide ((n : Int) > 0) = true := decide_eq_true (by omega)
            have g1' : decide (0 < n) = true := decide_eq_true (by omega)
            go_wp2_with fail
            rw [E0.out]
            go_loopw [8] (fun c wr => ∃ k : Nat, c = .int .i64 k ∧ k ≤ 2 ∧ Hid (1 ≤ k → NoM s P T) ∧ Hid (2 ≤ k → T ≠ [] → T.getLast? = some 10 → NoM s P T.dropLast) ∧ Hid (Below w1.heap.size w1 wr)) (fun c _ => 2 - (intOf c).toNat)
            case atStart => exact ⟨0, rfl, by omega, Lib.hid (fun h => by omega), Lib.hid (fun h => by omega), hB⟩
            case round =>
              clear hB
              obtain ⟨k, rfl, hk, hk1, hk2, hB⟩ := hrel
              have c0 := C0.out wr hB.out
              by_cases hk0 : k = 0
              · subst hk0
                clear hk1 hk2
                have hTt := hTn
                obtain ⟨O, hO⟩ : ∃ O, Hid (oneL ⟨P, T⟩ = O) := ⟨_, Lib.hid rfl⟩
                obtain ⟨W3, hW3⟩ : ∃ W3, Hid ((wr.alloc (.cells #[.string (bs P), .string (bs T)] 34)).alloc (.cells #[.string (bs P), .string (bs T)] 34) = W3) := ⟨_, Lib.hid rfl⟩
                have B3 : Hid (Below wr.heap.size wr W3) := by rw [← hW3.out]; exact Lib.hid (((Below.refl _ wr).alloc (Nat.le_refl _) _).alloc (by simp) _)
                have R3 : Hid (RowAt W3 wr.heap.size 34 #[.string (bs P), .string (bs T)]) := by rw [← hW3.out]; exact Lib.hid ((RowAt.new wr 34 _).alloc _)
                have Q3 : Hid (RowAt W3 (wr.heap.size + 1) 34 #[.string (bs P), .string (bs T)]) := by rw [← hW3.out]; exact Lib.hid (by have := RowAt.new (wr.alloc (.cells #[.string (bs P), .string (bs T)] 34)) 34 #[.string (bs P), .string (bs T)]; rwa [World.size_alloc] at this)
                have BB3 := Lib.hid (hB.out.trans (B3.out.mono hB.out.size))
                have hs3 := BB3.out.size
                go_wp2_with fail
                refine (Refpathw_any l0 (by omega) _).mono ?_
                rw [hP.out]
                rintro e w2 ⟨rfl, rfl⟩
                go_wp2_with fail
                rw [hW3.out]
                refine (RefShow_one P T O (by omega) (by omega) hO.out W3 _ Q3.out).mono ?_
                rintro e w4 ⟨rfl, b4⟩
                have B4 := Lib.hid (BB3.out.trans (b4.mono hs3))
                have R4 := Lib.hid (R3.out.later b4)
                have hs4 := B4.out.size
                have d0 := R4.out.cell (j := 0) rfl
                have d1 := R4.out.cell (j := 1) rfl
                clear b4
                by_cases hmt : pathOk P = true ∧ O.length ≤ s.length ∧ s.take O.length = O
                · obtain ⟨hp, hle, htk⟩ := hmt
                  have hyes : Hid (nextL s = some (⟨P, T⟩, s.drop O.length)) := Lib.hid (yes_of_take (by omega) hO.out hp htk)
                  have hx : (bs s).extract 0 O.length = bs O := by rw [ext_bs, tl_bs, Nat.sub_zero, List.drop_zero, htk]
                  have Hp := Lib.hid hp
                  clear hp htk
                  go_wp2_with fail
                  refine (RefPath_any (bs P) _ (by rw [bs_size]; unfold maxLen; omega)).mono ?_
                  rw [tl_bs, Hp.out]
                  rintro e w5 ⟨rfl, rfl⟩
                  have R5 := Lib.hid (R1.out.later B4.out)
                  have q0 := R5.out.cell (j := 0) rfl
                  have q1 := R5.out.cell (j := 1) rfl
                  have f0 := R5.out.frozen 0
                  have f1 := R5.out.frozen 1
                  go_wp2_with fail
                  refine bodyPost_ret (results_cell_row_tmp2 rfl _ _ w.heap.size 34 #[.string (bs P), .string (bs T)] (0, 0) _ rfl ((R5.out.set 0 _).set 1 _) Tryd.underlying34 rfl rfl) rfl ?_
                  refine ⟨?_, ((B1.out.trans (B4.out.mono hs1)).setCell (p := ⟨w.heap.size, 0, none⟩) (Nat.le_refl _) _).setCell (p := ⟨w.heap.size, 1, none⟩) (Nat.le_refl _) _⟩
                  unfold OneIs; rw [hyes.out]; simp only [hO.out]; rfl
                · have hnm : Hid (NoM s P T) := Lib.hid fun hh => hmt ⟨hh.1, by
                    obtain ⟨h1, r, h2⟩ := hh
                    rw [hO.out] at h2
                    exact ⟨by rw [h2, List.length_append]; omega, by rw [h2, List.take_left]⟩⟩
                  obtain ⟨pk, hpk⟩ : ∃ pk, Hid (pathOk P = pk) := ⟨_, Lib.hid rfl⟩
                  have hcase : pk = true → O.length ≤ s.length → ¬ s.take O.length = O := fun h1 h2 h3 => hmt ⟨hpk.out.trans h1, h2, h3⟩
                  clear hmt
                  cases pk with
                  | false =>
                    clear hcase
                    go_wp2_with fail
                    refine (RefPath_any (bs P) _ (by rw [bs_size]; unfold maxLen; omega)).mono ?_
                    rw [tl_bs, hpk.out]
                    rintro e w5 ⟨rfl, rfl⟩
                    go_wp2_with fail
                    exact ⟨⟨1, by go_num, by omega, Lib.hid (fun _ => hnm.out), Lib.hid (fun h => by omega), Lib.hid B4.out⟩, by simp [intOf]⟩
                  | true =>
                    by_cases hle : O.length ≤ s.length
                    · have hne := hcase rfl hle
                      have hx : (((bs s).extract 0 O.length).toList == O) = false := by
                        rw [Lib.toList_data, beq_eq_false_iff_ne]
                        intro e
                        apply hne
                        have e2 : tl ((bs s).extract 0 O.length) = O := e
                        rwa [ext_bs, tl_bs, tl_bs, Nat.sub_zero, List.drop_zero] at e2
                      clear hcase hne
                      go_wp2_with fail
                      refine (RefPath_any (bs P) _ (by rw [bs_size]; unfold maxLen; omega)).mono ?_
                      rw [tl_bs, hpk.out]
                      rintro e w5 ⟨rfl, rfl⟩
                      go_wp2_with fail
                      exact ⟨⟨1, by go_num, by omega, Lib.hid (fun _ => hnm.out), Lib.hid (fun h => by omega), Lib.hid B4.out⟩, by simp [intOf]⟩
                    · clear hcase
                      go_wp2_with fail
                      refine (RefPath_any (bs P) _ (by rw [bs_size]; unfold maxLen; omega)).mono ?_
                      rw [tl_bs, hpk.out]
                      rintro e w5 ⟨rfl, rfl⟩
                      go_wp2_with fail
                      exact ⟨⟨1, by go_num, by omega, Lib.hid (fun _ => hnm.out), Lib.hid (fun h => by omega), Lib.hid B4.out⟩, by simp [intOf]⟩
              · by_cases hk1' : k = 1
                · subst hk1'
                  clear hk2
                  by_cases hTe : T.length = 0
                  · have g2 : ((T.length : Int) == 0) = true := by rw [beq_iff_eq]; omega
                    go_wp2_with fail
                    exact ⟨⟨2, by go_num, by omega, Lib.hid (fun _ => hk1.out (Nat.le_refl _)), Lib.hid (fun _ h => absurd (List.eq_nil_of_length_eq_zero hTe) h), hB⟩, by simp [intOf]⟩
                  · have hlt1 : T.length - 1 < T.length := by omega
                    obtain ⟨cb, hcb⟩ : ∃ c, T[T.length - 1]? = some c := ⟨_, List.getElem?_eq_getElem hlt1⟩
                    have hlast : T.getLast? = some cb := by rw [List.getLast?_eq_getElem?]; exact hcb
                    have hbyte : (bs T)[T.length - 1]'(by rw [bs_size]; exact hlt1) = cb := by
                      have h1 := tl_get (bs T) (k := T.length - 1) (by rw [bs_size]; exact hlt1)
                      rw [tl_bs, hcb] at h1
                      exact (Option.some.inj h1).symm
                    have g2 : ((T.length : Int) == 0) = false := by rw [beq_eq_false_iff_ne]; omega
                    clear hcb
                    by_cases h10 : cb = 10
                    · have g3 : ((cb.toNat : Int) != 10) = false := by rw [h10]; rfl
                      obtain ⟨D, hD⟩ : ∃ D, Hid (T.dropLast = D) := ⟨_, Lib.hid rfl⟩
                      have hDl : D.length ≤ 50000 := by rw [← hD.out, List.length_dropLast]; omega
                      have hxD : Hid ((bs T).extract 0 (T.length - 1) = bs D) := Lib.hid (by rw [ext_bs, tl_bs, ← hD.out, List.dropLast_eq_take]; simp)
                      obtain ⟨O, hO⟩ : ∃ O, Hid (oneL ⟨P, D⟩ = O) := ⟨_, Lib.hid rfl⟩
                      obtain ⟨W3, hW3⟩ : ∃ W3, Hid ((wr.alloc (.cells #[.string (bs P), .string (bs D)] 34)).alloc (.cells #[.string (bs P), .string (bs D)] 34) = W3) := ⟨_, Lib.hid rfl⟩
                      have B3 : Hid (Below wr.heap.size wr W3) := by rw [← hW3.out]; exact Lib.hid (((Below.refl _ wr).alloc (Nat.le_refl _) _).alloc (by simp) _)
                      have R3 : Hid (RowAt W3 wr.heap.size 34 #[.string (bs P), .string (bs D)]) := by rw [← hW3.out]; exact Lib.hid ((RowAt.new wr 34 _).alloc _)
                      have Q3 : Hid (RowAt W3 (wr.heap.size + 1) 34 #[.string (bs P), .string (bs D)]) := by rw [← hW3.out]; exact Lib.hid (by have := RowAt.new (wr.alloc (.cells #[.string (bs P), .string (bs D)] 34)) 34 #[.string (bs P), .string (bs D)]; rwa [World.size_alloc] at this)
                      have BB3 := Lib.hid (hB.out.trans (B3.out.mono hB.out.size))
                      have hs3 := BB3.out.size
                      go_wp2_with fail
                      rw [hxD.out]
                      refine (Refpathw_any l0 (by omega) _).mono ?_
                      rw [hP.out]
                      rintro e w2 ⟨rfl, rfl⟩
                      go_wp2_with fail
                      rw [hW3.out]
                      refine (RefShow_one P D O (by omega) (by omega) hO.out W3 _ Q3.out).mono ?_
                      rintro e w4 ⟨rfl, b4⟩
                      have B4 := Lib.hid (BB3.out.trans (b4.mono hs3))
                      have R4 := Lib.hid (R3.out.later b4)
                      have hs4 := B4.out.size
                      have d0 := R4.out.cell (j := 0) rfl
                      have d1 := R4.out.cell (j := 1) rfl
                      clear b4
                      by_cases hmt : pathOk P = true ∧ O.length ≤ s.length ∧ s.take O.length = O
                      · obtain ⟨hp, hle, htk⟩ := hmt
                        have hyes : Hid (nextL s = some (⟨P, D⟩, s.drop O.length)) := Lib.hid (yes_of_take (by omega) hO.out hp htk)
                        have hx : (bs s).extract 0 O.length = bs O := by rw [ext_bs, tl_bs, Nat.sub_zero, List.drop_zero, htk]
                        have Hp := Lib.hid hp
                        clear hp htk
                        go_wp2_with fail
                        refine (RefPath_any (bs P) _ (by rw [bs_size]; unfold maxLen; omega)).mono ?_
                        rw [tl_bs, Hp.out]
                        rintro e w5 ⟨rfl, rfl⟩
                        have R5 := Lib.hid (R1.out.later B4.out)
                        have q0 := R5.out.cell (j := 0) rfl
                        have q1 := R5.out.cell (j := 1) rfl
                        have f0 := R5.out.frozen 0
                        have f1 := R5.out.frozen 1
                        go_wp2_with fail
                        refine bodyPost_ret (results_cell_row_tmp2 rfl _ _ w.heap.size 34 #[.string (bs P), .string (bs D)] (0, 0) _ rfl ((R5.out.set 0 _).set 1 _) Tryd.underlying34 rfl rfl) rfl ?_
                        refine ⟨?_, ((B1.out.trans (B4.out.mono hs1)).setCell (p := ⟨w.heap.size, 0, none⟩) (Nat.le_refl _) _).setCell (p := ⟨w.heap.size, 1, none⟩) (Nat.le_refl _) _⟩
                        unfold OneIs; rw [hyes.out]; simp only [hO.out]; rfl
                      · have hnm : Hid (NoM s P D) := Lib.hid fun hh => hmt ⟨hh.1, by
                          obtain ⟨h1, r, h2⟩ := hh
                          rw [hO.out] at h2
                          exact ⟨by rw [h2, List.length_append]; omega, by rw [h2, List.take_left]⟩⟩
                        obtain ⟨pk, hpk⟩ : ∃ pk, Hid (pathOk P = pk) := ⟨_, Lib.hid rfl⟩
                        have hcase : pk = true → O.length ≤ s.length → ¬ s.take O.length = O := fun h1 h2 h3 => hmt ⟨hpk.out.trans h1, h2, h3⟩
                        clear hmt
                        cases pk with
                        | false =>
                          clear hcase
                          go_wp2_with fail
                          refine (RefPath_any (bs P) _ (by rw [bs_size]; unfold maxLen; omega)).mono ?_
                          rw [tl_bs, hpk.out]
                          rintro e w5 ⟨rfl, rfl⟩
                          go_wp2_with fail
                          exact ⟨⟨2, by go_num, by omega, Lib.hid (fun _ => hk1.out (Nat.le_refl _)), Lib.hid (fun _ _ _ => by rw [hD.out]; exact hnm.out), Lib.hid B4.out⟩, by simp [intOf]⟩
                        | true =>
                          by_cases hle : O.length ≤ s.length
                          · have hne := hcase rfl hle
                            have hx : (((bs s).extract 0 O.length).toList == O) = false := by
                              rw [Lib.toList_data, beq_eq_false_iff_ne]
                              intro e
                              apply hne
                              have e2 : tl ((bs s).extract 0 O.length) = O := e
                              rwa [ext_bs, tl_bs, tl_bs, Nat.sub_zero, List.drop_zero] at e2
                            clear hcase hne
                            go_wp2_with fail
                            refine (RefPath_any (bs P) _ (by rw [bs_size]; unfold maxLen; omega)).mono ?_
                            rw [tl_bs, hpk.out]
                            rintro e w5 ⟨rfl, rfl⟩
                            go_wp2_with fail
                            exact ⟨⟨2, by go_num, by omega, Lib.hid (fun _ => hk1.out (Nat.le_refl _)), Lib.hid (fun _ _ _ => by rw [hD.out]; exact hnm.out), Lib.hid B4.out⟩, by simp [intOf]⟩
                          · clear hcase
                            go_wp2_with fail
                            refine (RefPath_any (bs P) _ (by rw [bs_size]; unfold maxLen; omega)).mono ?_
                            rw [tl_bs, hpk.out]
                            rintro e w5 ⟨rfl, rfl⟩
                            go_wp2_with fail
                            exact ⟨⟨2, by go_num, by omega, Lib.hid (fun _ => hk1.out (Nat.le_refl _)), Lib.hid (fun _ _ _ => by rw [hD.out]; exact hnm.out), Lib.hid B4.out⟩, by simp [intOf]⟩
                    · have g3 : ((cb.toNat : Int) != 10) = true := by
                        rw [bne_iff_ne]
                        intro e
                        exact h10 (UInt8.toNat_inj.1 (by have : (10 : UInt8).toNat = 10 := rfl; omega))
                      go_wp2_with fail
                      exact ⟨⟨2, by go_num, by omega, Lib.hid (fun _ => hk1.out (Nat.le_refl _)), Lib.hid (fun _ _ h => absurd (Option.some.inj (hlast.symm.trans h)) h10), hB⟩, by simp [intOf]⟩
                · obtain rfl : k = 2 := by omega
                  have hM2 : Hid (MoreM s (n + 1)) := Lib.hid (more_step hl0.out hM.out (by rw [hP.out, hT.out]; exact hk1.out (by omega)) (by rw [hP.out, hT.out]; exact hk2.out (by omega)))
                  go_wp2_with fail
                  exact ⟨⟨n + 1, by go_num, by omega, by rw [Nat.add_sub_cancel, hT.out], hM2, hB⟩, by simp [intOf]; omega⟩
        · obtain rfl : n = N := by omega
          have hno : Hid (nextL s = none) := Lib.hid (more_end hl0.out (by rw [hN.out]; exact hM.out))
          have R2 := Lib.hid (R1.out.later hB.out)
          have B2 := Lib.hid (B1.out.trans (hB.out.mono hs1))
          have f0 := R2.out.frozen 0
          have f1 := R2.out.frozen 1
          have d0 := R2.out.cell (j := 0) rfl
          have d1 := R2.out.cell (j := 1) rfl
          go_wp2_with fail
          refine bodyPost_ret (results_cell_row_tmp2 rfl _ _ w.heap.size 34 #[.string ⟨#[]⟩, .string ⟨#[]⟩] (0, 0) _ rfl ((R2.out.set 0 _).set 1 _) Tryd.underlying34 rfl rfl) rfl ?_
          refine ⟨?_, (B2.out.setCell (p := ⟨w.heap.size, 0, none⟩) (Nat.le_refl _) _).setCell (p := ⟨w.heap.size, 1, none⟩) (Nat.le_refl _) _⟩
          unfold OneIs; rw [hno.out]; rfl
end Go.Proofs.YtpnfjiglphogoadDoor
