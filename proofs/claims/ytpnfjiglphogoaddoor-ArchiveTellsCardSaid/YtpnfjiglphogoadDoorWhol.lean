/-
  For the laws of archive: all files of a text, by the program. Condition: at most 100,000 bytes; the listed variables hold what the program's text lays.
-/
import Derived.Test.YtpnfjiglphogoadDoorKey
import Derived.WalkMore
import Derived.ScopeJumps
namespace Go.Proofs.YtpnfjiglphogoadDoor
open Go.RowKit Go.Shelf
set_option linter.unusedSimpArgs false

def okL (L : List Fl) : Prop := ∀ f ∈ L, pathOk f.path = true
theorem oneL_pos (f : Fl) : 1 ≤ (oneL f).length := by unfold oneL headL; simp; omega
theorem text_le (f : Fl) : f.text.length ≤ (oneL f).length := by
  have : f.text.length ≤ (whole f.text).length := by unfold whole; split <;> simp
  unfold oneL; rw [List.length_append]; omega
theorem showL_cons (f : Fl) (L : List Fl) : showL (f :: L) = oneL f ++ showL L := rfl
theorem showL_app (A B : List Fl) : showL (A ++ B) = showL A ++ showL B := by unfold showL; rw [List.flatMap_append]
theorem showL_len (L : List Fl) : L.length ≤ (showL L).length := by
  induction L with
  | nil => exact Nat.zero_le _
  | cons f L ih => rw [showL_cons, List.length_append, List.length_cons]; have := oneL_pos f; omega
theorem showL_clen (f : Fl) (L : List Fl) : (showL (f :: L)).length = (oneL f).length + (showL L).length := by rw [showL_cons, List.length_append]
theorem showL_nil : (showL []).length = 0 := rfl
theorem next_one {s r : By} {f : Fl} (h : pathOk f.path = true) (hs : s.length ≤ 1000000) (e : s = oneL f ++ r) : nextL s = some (f, r) := by
  rw [e]
  refine next_of h ?_
  have h1 := cnt_le f.text
  have h2 := text_le f
  have h3 := congrArg List.length e
  rw [List.length_append] at h3
  omega
/-- Where no file follows, no row of files is the text. -/
theorem no_rest : ∀ {L L' : List Fl} {r : By}, (showL L ++ r).length ≤ 1000000 → okL L → okL L' → r ≠ [] → nextL r = none → showL L ++ r ≠ showL L'
  | [], [], r, _, _, _, hr, _ => fun e => hr e
  | [], f' :: L', r, hs, _, h', _, hn => fun e => by
    have e2 : r = oneL f' ++ showL L' := e
    have : nextL r = _ := next_one (s := r) (h' f' List.mem_cons_self) hs e2
    rw [hn] at this; cases this
  | f :: L, [], r, _, _, _, _, _ => fun e => by
    have h1 := congrArg List.length e
    rw [List.length_append, showL_clen, showL_nil] at h1
    have h2 := oneL_pos f
    omega
  | f :: L, f' :: L', r, hs, h, h', hr, hn => fun e => by
    have e1 : showL (f :: L) ++ r = oneL f ++ (showL L ++ r) := by rw [showL_cons, List.append_assoc]
    have e2 : showL (f :: L) ++ r = oneL f' ++ showL L' := e
    have n1 := next_one (h f List.mem_cons_self) hs e1
    have n2 := next_one (h' f' List.mem_cons_self) hs e2
    rw [n1] at n2
    simp only [Option.some.injEq, Prod.mk.injEq] at n2
    obtain ⟨rfl, n2⟩ := n2
    refine no_rest (L := L) (L' := L') (r := r) ?_ (fun g hg => h g (List.mem_cons_of_mem _ hg)) (fun g hg => h' g (List.mem_cons_of_mem _ hg)) hr hn n2
    rw [List.length_append, showL_clen] at hs
    rw [List.length_append]
    omega
theorem show_inj : ∀ {L L' : List Fl}, (showL L).length ≤ 1000000 → okL L → okL L' → showL L = showL L' → L = L'
  | [], [], _, _, _, _ => rfl
  | [], f' :: L', _, _, _, e => by
    have h1 := congrArg List.length e
    rw [showL_clen, showL_nil] at h1
    have h2 := oneL_pos f'
    omega
  | f :: L, [], _, _, _, e => by
    have h1 := congrArg List.length e
    rw [showL_clen, showL_nil] at h1
    have h2 := oneL_pos f
    omega
  | f :: L, f' :: L', hs, h, h', e => by
    have n1 := next_one (h f List.mem_cons_self) hs (showL_cons f L)
    have n2 := next_one (h' f' List.mem_cons_self) hs (e.trans (showL_cons f' L'))
    rw [n1] at n2
    simp only [Option.some.injEq, Prod.mk.injEq] at n2
    obtain ⟨rfl, n2⟩ := n2
    rw [show_inj (by rw [showL_clen] at hs; omega) (fun g hg => h g (List.mem_cons_of_mem _ hg)) (fun g hg => h' g (List.mem_cons_of_mem _ hg)) n2]
/-- What Whole answers. -/
def WholeIs (s : By) (e : Ending) (w' : World) : Prop :=
  (∃ L v, okL L ∧ s = showL L ∧ e = .returned (.tuple #[v, .int .i64 0]) ∧ Fls w' v L) ∨ ((∀ L, okL L → s ≠ showL L) ∧ e = .returned (.tuple #[.slice none 0 0, .int .i64 350]))
def lenOf : Value → Nat
  | .slice _ n _ => n
  | _ => 0
theorem own_len {W : World} {base e size n : Nat} {v : Value} {xs : List Value} (h : W.ownsRow base e size v n xs) : lenOf v = n := by
  rcases h.2 with ⟨rfl, h0⟩ | ⟨g, cap, cur, rfl, _⟩
  · exact h0.symm
  · rfl
theorem own_keep {W W' : World} {base e size n g : Nat} {v : Value} {xs : List Value} (h : W.ownsRow base e size v n xs) (hg : g < base) (hk : ∀ q, q < W.heap.size → q ≠ g → W'.heap[q]? = W.heap[q]?) : W'.ownsRow base e size v n xs := by
  refine ⟨h.1, ?_⟩
  rcases h.2 with h0 | ⟨b, cap, cur, e1, h1, hb, h2, h3, h4, h5⟩
  · exact .inl h0
  · exact .inr ⟨b, cap, cur, e1, h1, (hk b (Array.getElem?_eq_some_iff.1 hb).1 (by omega)).trans hb, h2, h3, h4, h5⟩
theorem own_slice' {W : World} {base e size n : Nat} {v : Value} {xs : List Value} (h : W.ownsRow base e size v n xs) : ∃ a cap, v = .slice a n cap := by
  rcases h.2 with ⟨hv, h0⟩ | ⟨g, cap, cur, hv, _⟩
  · exact ⟨none, 0, by rw [hv, h0]⟩
  · exact ⟨_, _, hv⟩
theorem NextIs.yes {g : Nat} {s r : By} {f : Fl} {w w' : World} {e : Ending} (h : NextIs g s w e w') (hn : nextL s = some (f, r)) : e = .returned (.tuple #[.agg #[.string (bs f.path), .string (bs f.text)], .bool true]) ∧ RowAt w' g 40 #[.string (bs r)] ∧ Below g w w' ∧ ∀ q, q < w.heap.size → q ≠ g → w'.heap[q]? = w.heap[q]? := by
  obtain ⟨h1, h2, h3⟩ := h
  rw [hn] at h1
  exact ⟨h1.1, h1.2, h2, h3⟩
theorem NextIs.no {g : Nat} {s : By} {w w' : World} {e : Ending} (h : NextIs g s w e w') (hn : nextL s = none) : e = .returned (.tuple #[.agg #[.string ⟨#[]⟩, .string ⟨#[]⟩], .bool false]) ∧ RowAt w' g 40 #[.string (bs s)] ∧ Below g w w' ∧ ∀ q, q < w.heap.size → q ≠ g → w'.heap[q]? = w.heap[q]? := by
  obtain ⟨h1, h2, h3⟩ := h
  rw [hn] at h1
  exact ⟨h1.1, h1.2, h2, h3⟩
theorem infoFl : (Tryd.prog.info? 34).map (fun i => (i.zero, i.size, i.bytes)) = some (some (.agg #[.string ⟨#[]⟩, .string ⟨#[]⟩]), 2, 32) := by kernel_rfl
theorem fl_new2 (W : World) (o : Obj) (f : Fl) (t : TypeId) : ∀ j u, (rowF f)[j]? = some u → ((W.alloc o).alloc (.cells #[.string (bs f.path), .string (bs f.text)] t)).cell? ((⟨W.heap.size + 1, 0, none⟩ : Addr).add j) = some u := by
  intro j u hj
  have h := World.alloc_heap_new (W.alloc o) (.cells #[.string (bs f.path), .string (bs f.text)] t)
  rw [World.size_alloc] at h
  rw [add_flat, Nat.zero_add, Lib.cell_of_heap h]
  simpa [rowF] using hj
theorem fl_one (f : Fl) : ∀ u ∈ rowF f, u.oneCell' = true := by
  intro u hu
  simp [rowF] at hu
  rcases hu with rfl | rfl <;> rfl
theorem fv_snoc (L : List Fl) (f : Fl) : fv (L ++ [f]) = fv L ++ rowF f := by simp [fv]
set_option maxRecDepth 100000 in
set_option maxHeartbeats 16000000 in
theorem Whole8_any (s : By) (hs : s.length ≤ 100000) (w : World) (hW : AW w) : Calls Tryd.prog 8 #[.string (bs s)] w fun e w' => WholeIs s e w' ∧ Below w.heap.size w w' := by
  have HW := Lib.hid hW
  clear hW
  obtain ⟨i0, hi0, hz0, hz1, hz2⟩ := info_parts infoFl
  obtain ⟨g, hg⟩ : ∃ g, Hid (w.heap.size = g) := ⟨_, Lib.hid rfl⟩
  obtain ⟨W1, hW1⟩ : ∃ W1, Hid (w.alloc (.cells #[.string (bs s)] 40) = W1) := ⟨_, Lib.hid rfl⟩
  have B1 : Hid (Below w.heap.size w W1) := by rw [← hW1.out]; exact Lib.hid ((Below.refl _ w).alloc (Nat.le_refl _) _)
  have R1 : Hid (RowAt W1 w.heap.size 40 #[.string (bs s)]) := by rw [← hW1.out]; exact Lib.hid (RowAt.new w 40 _)
  have S1 : W1.heap.size = w.heap.size + 1 := by rw [← hW1.out, World.size_alloc]
  have s1 : w.heap.size + 1 ≤ W1.heap.size := by omega
  clear S1
  go_enter Tryd.func8, Tryd.ntmps8
  go_wp2_with fail
  refine wp_scope_jumps 0 (fun a' w' => (∃ u0 u1 u2 u3 u4 u5 u6 u7 u8 u9 u10 u11 u12 u13 u14 u15 u16 u17 u18 u19 u20 u21 u22 u23 u24 u25 u26 : Value, a' = { tmps := #[u0, u1, u2, u3, u4, u5, u6, u7, u8, u9, u10, u11, u12, u13, u14, u15, u16, u17, u18, u19, u20, u21, u22, u23, u24, u25, u26], defers := [] }) ∧ Hid (∀ L', okL L' → s ≠ showL L') ∧ Hid (Below w.heap.size w w')) (fun _ _ => 0) rfl ?_ ?_
  rotate_left
  · rintro a' w' ⟨⟨u0, u1, u2, u3, u4, u5, u6, u7, u8, u9, u10, u11, u12, u13, u14, u15, u16, u17, u18, u19, u20, u21, u22, u23, u24, u25, u26, rfl⟩, hno, hbb⟩
    go_wp2_with fail
    simp only [Exit.jump]
    go_ret2
    exact ⟨.inr ⟨hno.out, rfl⟩, hbb.out⟩
  go_wp2_with fail
  rw [hW1.out]
  go_loopw [6] (fun u wr => ∃ (L : List Fl) (r : By), Hid (okL L ∧ s = showL L ++ r) ∧ Hid (RowAt wr w.heap.size 40 #[.string (bs r)]) ∧ Hid (wr.ownsRow (w.heap.size + 1) 34 2 u L.length (fv L)) ∧ Hid (Below w.heap.size w wr) ∧ w.heap.size + 1 ≤ wr.heap.size) (fun u _ => s.length + 1 - lenOf u)
  case atStart => exact ⟨[], s, Lib.hid ⟨(fun f hf => by cases hf), rfl⟩, R1, Lib.hid (World.ownsRow_nil _ _ _ _), B1, s1⟩
  case round =>
    obtain ⟨L, r, hL, hR, hO, hB, hsz⟩ := hrel
    have hsl := congrArg List.length hL.out.2
    rw [List.length_append] at hsl
    have hll := showL_len L
    have hlen : L.length ≤ 100000 := by omega
    have hrl : r.length ≤ 100000 := by omega
    have hlu := Lib.hid (own_len hO.out)
    have c0 := hR.out.cell (j := 0) rfl
    by_cases hr : r = []
    · have g0 : r.isEmpty = true := by simpa using hr
      have hfin : Hid (s = showL L) := Lib.hid (by rw [hL.out.2, hr, List.append_nil])
      clear hr hsl
      go_wp2_with fail
      simp only [Exit.jump]
      go_ret2
      exact ⟨.inl ⟨L, _, hL.out.1, hfin.out, rfl, own_fls hO.out⟩, hB.out⟩
    · have g0 : r.isEmpty = false := by simpa using hr
      have Hr := Lib.hid hr
      have hrp : 1 ≤ r.length := by
        cases r with
        | nil => exact absurd rfl hr
        | cons a b => simp
      clear hr
      have hltm : L.length < s.length + 1 := by omega
      have Hsl := Lib.hid hsl
      clear hsl
      go_wp2_with fail
      refine (next_any w.heap.size r hrl wr (HW.out.below hB.out) hR.out).mono ?_
      rintro e w2 hn
      cases hnx : nextL r with
      | none =>
        obtain ⟨rfl, -, nb, -⟩ := hn.no hnx
        have hfin : Hid (∀ L', okL L' → s ≠ showL L') := Lib.hid fun L' h' => by
          rw [hL.out.2]
          exact no_rest (by rw [← hL.out.2]; omega) hL.out.1 h' Hr.out hnx
        have B2 := Lib.hid (hB.out.trans nb)
        have hs2 := B2.out.size
        clear nb hn hnx
        go_wp2_with fail
        go_step3
        simp only [Exit.then, Exit.inBlock, Exit.jump]
        exact ⟨rfl, ⟨_, _, _, _, _, _, _, _, _, _, _, _, _, _, _, _, _, _, _, _, _, _, _, _, _, _, _, rfl⟩, hfin, Lib.hid (B2.out.alloc hs2 _)⟩
      | some fr =>
        obtain ⟨f, r2⟩ := fr
        obtain ⟨rfl, nr, nb, nq⟩ := hn.yes hnx
        have hof := of_next hnx
        have hnL : Hid (okL (L ++ [f]) ∧ s = showL (L ++ [f]) ++ r2) := Lib.hid ⟨fun x hx => by
          rcases List.mem_append.1 hx with hx | hx
          · exact hL.out.1 x hx
          · obtain rfl : x = f := by simpa using hx
            exact hof.1, by
          rw [hL.out.2, hof.2, showL_app, show showL [f] = oneL f by simp [showL], List.append_assoc]⟩
        have B2 := Lib.hid (hB.out.trans nb)
        have NR := Lib.hid nr
        have O2 := Lib.hid (own_keep hO.out (Nat.lt_succ_self _) nq)
        have hs2 : w.heap.size + 1 ≤ w2.heap.size := Nat.le_trans hsz nb.size
        clear nr nb nq hn hnx hof c0
        go_wp2_with (at_builtin; refine wpList_append_own _ rfl _ _ 22 rfl (w.heap.size + 1) 34 i0 _ 2 32 Tryd.underlying22 hi0 hz0 hz1 hz2 rfl (by decide) _ L.length _ rfl ((O2.out.alloc _).alloc _) ⟨w2.heap.size + 1, 0, none⟩ 1 1 (rowF f) rfl rfl (fl_new2 w2 _ f _) (fl_one _) (by unfold maxLen; omega) (by omega) (by simp; omega) ?_; intro v' w4 hown' hgrow _)
        have B4 := Lib.hid (((B2.out.alloc (by omega) (.cells #[.string (bs f.path), .string (bs f.text)] 34)).alloc (by simp; omega) (.cells #[.string (bs f.path), .string (bs f.text)] 34)).grown hgrow (by simp; omega) (fun k hk => by have := (O2.out.lt k hk).1; omega))
        have R4 := Lib.hid (RowAt.same ((NR.out.alloc (.cells #[.string (bs f.path), .string (bs f.text)] 34)).alloc (.cells #[.string (bs f.path), .string (bs f.text)] 34)) (hgrow.block w.heap.size (by simp; omega) (fun e => by have := (O2.out.lt _ e.symm).1; omega)))
        have O4 : Hid (w4.ownsRow (w.heap.size + 1) 34 2 v' (L ++ [f]).length (fv (L ++ [f]))) := by
          rw [fv_snoc, List.length_append]; exact Lib.hid hown'
        have hl4 := own_len hown'
        have hs4 : w.heap.size + 1 ≤ w4.heap.size := by have := hgrow.size; simp at this; omega
        refine ⟨⟨L ++ [f], r2, hnL, R4, O4, B4, hs4⟩, ?_⟩
        show s.length + 1 - lenOf v' < s.length + 1 - lenOf _
        rw [hl4, hlu.out]
        omega
end Go.Proofs.YtpnfjiglphogoadDoor
