/-
  For the laws of tree: Sort, by the program. Condition: at most 1,000,000 files.
-/
import Derived.Test.YtbfehhblnakcbaaMap
namespace Go.Proofs.Ytbfehhblnakcbaa
open Go.RowKit Go.Shelf

def srt (L : List Fl) (P : List By) : List Fl := P.map fun q => ⟨q, (lastT L q).getD []⟩
theorem srt_eq (L : List Fl) : srt L (pathsOf (ps L)) = sortF L := rfl
theorem srt_next {L : List Fl} {P : List By} {k : Nat} {q t : By} (h : P[k]? = some q) (hl : lastT L q = some t) : srt L (P.take (k + 1)) = srt L (P.take k) ++ [⟨q, t⟩] := by
  unfold srt
  rw [List.take_add_one, h, List.map_append]
  simp [hl]
theorem fl_new1 (W : World) (f : Fl) (t : TypeId) : ∀ j u, (rowF f)[j]? = some u → (W.alloc (.cells #[.string (bs f.path), .string (bs f.text)] t)).cell? ((⟨W.heap.size, 0, none⟩ : Addr).add j) = some u := by
  intro j u hj
  have h := World.alloc_heap_new W (.cells #[.string (bs f.path), .string (bs f.text)] t)
  rw [add_flat, Nat.zero_add, Lib.cell_of_heap h]
  simpa [rowF] using hj
theorem fss_one {W : World} {b : Nat} {t : TypeId} {v : Value} {L : List Fl} (h : RowAt W b t #[v]) (hf : Fls W v L) : Fss W (.slice (some ⟨b, 0, none⟩) 1 1) [L] := by
  refine ⟨_, 1, rfl, Nat.le_refl _, by unfold maxLen; omega, fun k x hk => ?_⟩
  have hk0 : k = 0 := by
    have := (List.getElem?_eq_some_iff.1 hk).1
    simp at this; omega
  subst hk0
  simp only [List.getElem?_cons_zero, Option.some.injEq] at hk
  subst hk
  exact ⟨b, 0, v, rfl, h.lt, h.cell rfl, hf⟩
theorem paths_len (zs : List By) : (pathsOf zs).length ≤ zs.length := by
  have h1 := Lib.compact_length_le (sortB zs)
  have h2 : (sortB zs).length = zs.length := List.length_mergeSort zs
  exact Nat.le_trans h1 (Nat.le_of_eq h2)
theorem own_low {W : World} {base base' e size n : Nat} {v : Value} {xs : List Value} (h : W.ownsRow base e size v n xs) (hb : base' ≤ base) : W.ownsRow base' e size v n xs := by
  refine ⟨h.1, ?_⟩
  rcases h.2 with h0 | ⟨g, cap, cur, e1, h1, hg, h2, h3, h4, h5⟩
  · exact .inl h0
  · exact .inr ⟨g, cap, cur, e1, Nat.le_trans hb h1, hg, h2, h3, h4, h5⟩
set_option maxRecDepth 100000 in
set_option maxHeartbeats 8000000 in
theorem Sort_own (v : Value) (L : List Fl) (w : World) (h1 : Fls w v L) (hL : L.length ≤ 1000000) (hp : ∀ f ∈ L, f.path.length ≤ maxLen) : Calls Try.prog 16 #[v] w fun e w' => ∃ v', e = .returned v' ∧ w'.ownsRow w.heap.size 43 2 v' (sortF L).length (fv (sortF L)) ∧ Below w.heap.size w w' := by
  have H1 := Lib.hid h1
  obtain ⟨a, cap, rfl, hc, hm, hat⟩ := h1
  have Hat := Lib.hid hat; clear hat
  have Hp := Lib.hid hp; clear hp
  unfold maxLen at hm
  obtain ⟨i0, hi0, hz0, hz1, hz2⟩ := info_parts infoFl
  obtain ⟨m, hm'⟩ : ∃ m, w.heap.size = m := ⟨_, rfl⟩
  obtain ⟨W2, hW2⟩ : ∃ W2, Hid (w.alloc (.map #[] 0) = W2) := ⟨_, Lib.hid rfl⟩
  have hmk : (Instr.makeMap 47 none).run Try.prog w = .ok (.map (some m)) W2 := by rw [← hW2.out, ← hm']; rfl
  have k2 : KnowF W2 m [] := by rw [← hW2.out, ← hm']; exact KnowF.made w
  have b2 : Below m w W2 := by rw [← hW2.out, ← hm']; exact (Below.refl _ w).alloc (Nat.le_refl _) _
  have K2 := Lib.hid k2
  have B2 := Lib.hid b2
  have Hm := Lib.hid hm'
  have hms : m ≤ w.heap.size := by omega
  clear k2 b2 hm' hW2
  go_enter Try.func16, Try.ntmps16
  go_wp2_with fail
  clear hmk
  go_loopw [12] (fun c wr => ∃ k : Nat, c = .int .i64 k ∧ k ≤ L.length ∧ Hid (KnowF wr m (L.take k)) ∧ Hid (Below m w wr)) (fun c _ => L.length - (intOf c).toNat)
  case atStart => exact ⟨0, rfl, by omega, K2, B2⟩
  case round =>
    obtain ⟨k, rfl, hk, hkn, hB⟩ := hrel
    clear K2 B2
    have hbs := hB.out.size
    by_cases hlt : k < L.length
    · obtain ⟨x, hx⟩ : ∃ x, L[k]? = some x := ⟨_, List.getElem?_eq_getElem hlt⟩
      obtain ⟨b, off, rfl, hbl, hl0, hl1⟩ := Hat.out k x hx
      rw [Hm.out] at hbl
      have c0 : wr.cell? ⟨b, off + k * 2, none⟩ = some (.string (bs x.path)) := (hB.out.cell (p := ⟨b, off + k * 2, none⟩) hbl).trans hl0
      have c1 : wr.cell? ⟨b, off + k * 2 + 1, none⟩ = some (.string (bs x.text)) := (hB.out.cell (p := ⟨b, off + k * 2 + 1, none⟩) hbl).trans hl1
      have hpx : x.path.length ≤ maxLen := Hp.out x (List.mem_of_getElem? hx)
      obtain ⟨W3, hW3⟩ : ∃ W3, Hid (wr.alloc (.cells #[.string (bs x.path), .string (bs x.text)] 43) = W3) := ⟨_, Lib.hid rfl⟩
      have k3 : KnowF W3 m (L.take k) := by rw [← hW3.out]; exact hkn.out.same (Below.heap_alloc _ _ _ hkn.out.lt)
      have b3 : Below m w W3 := by rw [← hW3.out]; exact hB.out.alloc (by have := hkn.out.lt; omega) _
      have r3 : RowAt W3 wr.heap.size 43 #[.string (bs x.path), .string (bs x.text)] := by rw [← hW3.out]; exact RowAt.new _ _ _
      obtain ⟨W4, hrun, k4, hg4⟩ := k3.put x hpx (by rw [List.length_take]; omega)
      have hnx : L.take (k + 1) = L.take k ++ [x] := by rw [List.take_add_one, hx]; rfl
      have K4 : Hid (KnowF W4 m (L.take (k + 1))) := Lib.hid (by rw [hnx]; exact k4)
      have B4 : Hid (Below m w W4) := Lib.hid (b3.grown hg4 (Nat.le_of_lt k3.lt) (fun j hj => by cases hj; exact Nat.le_refl _))
      have x0 := r3.cell (j := 0) rfl
      have x1 := r3.cell (j := 1) rfl
      rw [fval] at hrun
      clear hl0 hl1 hx k3 b3 r3 k4 hg4 hnx hpx
      go_wp2_with fail
      rw [hW3.out]
      simp only [hrun, Result.andThen]
      go_wp2_with fail
      exact ⟨⟨k + 1, by go_num, by omega, K4, B4⟩, by simp [intOf]; omega⟩
    · obtain rfl : k = L.length := by omega
      rw [List.take_length] at hkn
      go_wp2_with fail
      have hr1 := RowAt.new wr 22 #[.slice a L.length cap]
      have hBa := Lib.hid ((hB.out).alloc (by have := hkn.out.lt; omega) (.cells #[.slice a L.length cap] 22))
      have hkna := Lib.hid (hkn.out.same (Below.heap_alloc wr (.cells #[.slice a L.length cap] 22) m hkn.out.lt))
      refine (Paths_any _ [L] _ (fss_one hr1 (H1.out.below (by rw [Hm.out]; exact hBa.out))) (by simpa using hL)).mono ?_
      rintro e w2 ⟨u, rfl, hs, hb⟩
      rw [show ps [L].flatten = ps L by simp] at hs
      obtain ⟨P, hP⟩ : ∃ P, Hid (pathsOf (ps L) = P) := ⟨_, Lib.hid rfl⟩
      have hPl := paths_len (ps L)
      have hPm : ∀ q ∈ P, ∃ t, lastT L q = some t ∧ q.length ≤ maxLen := by
        intro q hq
        rw [← hP.out, pathsOf_mem] at hq
        obtain ⟨f, hf, rfl⟩ := List.mem_map.1 hq
        cases hl : lastT L f.path with
        | some t => exact ⟨t, rfl, Hp.out f hf⟩
        | none => exact absurd hq ((lastT_none L _).1 hl)
      rw [ps, List.length_map] at hPl
      change (pathsOf (ps L)).length ≤ _ at hPl
      rw [hP.out] at hs hPl
      have HPm := Lib.hid hPm
      have hk2 := Lib.hid (hkna.out.same (hb.block m hkna.out.lt))
      have hB2 : Hid (Below m w w2) := Lib.hid (hBa.out.trans (hb.mono (by have := hkn.out.lt; simp; omega)))
      obtain ⟨a2, cap2, rfl, hc2, hm2, hat2⟩ := hs
      have Hat2 := Lib.hid hat2
      unfold maxLen at hm2
      clear hat2 hPm hr1 hBa hkna hb
      go_wp2_with fail
      go_loopw [6, 25] (fun o c wr => ∃ k : Nat, c = .int .i64 k ∧ k ≤ P.length ∧ Hid (wr.ownsRow w2.heap.size 43 2 o (srt L (P.take k)).length (fv (srt L (P.take k)))) ∧ Hid (Below w2.heap.size w2 wr)) (fun _ c _ => P.length - (intOf c).toNat)
      case atStart => exact ⟨0, rfl, by omega, Lib.hid (World.ownsRow_nil _ _ _ _), Lib.hid (Below.refl _ _)⟩
      case round =>
        obtain ⟨k, rfl, hk, hown, hBl⟩ := hrel
        have hbs := hBl.out.size
        by_cases hlt : k < P.length
        · obtain ⟨q, hx⟩ : ∃ x, P[k]? = some x := ⟨_, List.getElem?_eq_getElem hlt⟩
          obtain ⟨b, off, rfl, hbl, hl0⟩ := Hat2.out k q hx
          have c0 : wr.cell? ⟨b, off + k, none⟩ = some (.string (bs q)) := (hBl.out.cell (p := ⟨b, off + k, none⟩) hbl).trans hl0
          obtain ⟨t, ht, hql⟩ := HPm.out q (List.mem_of_getElem? hx)
          have hkr := hk2.out.same (hBl.out.block m hk2.out.lt)
          have hrun := hkr.look q hql ht
          rw [fval] at hrun
          have hn : Hid (srt L (P.take (k + 1)) = srt L (P.take k) ++ [⟨q, t⟩]) := Lib.hid (srt_next hx ht)
          have hlen : (srt L (P.take k)).length ≤ 1000000 := by rw [srt, List.length_map, List.length_take]; omega
          clear hl0 hx ht hkr hql
          go_wp2_with (at_builtin; refine wpList_append_own _ rfl _ _ 22 rfl w2.heap.size 43 i0 (.agg #[.string ⟨#[]⟩, .string ⟨#[]⟩]) 2 32 Try.underlying22 hi0 hz0 hz1 hz2 rfl (by decide) _ _ _ rfl (hown.out.alloc _) ⟨wr.heap.size, 0, none⟩ 1 1 (rowF ⟨q, t⟩) rfl rfl (fl_new1 wr ⟨q, t⟩ _) (by simp [rowF, Value.oneCell']) (by unfold maxLen; omega) (by omega) (by simp; omega) ?_; intro v' w4 hown' hgrow _)
          have hB4 := Lib.hid ((hBl.out.alloc hbs (.cells #[.string (bs q), .string (bs t)] 43)).grown hgrow (by simp; omega) (fun k hk => (hown.out.lt k hk).1))
          have ho2 : Hid (w4.ownsRow w2.heap.size 43 2 v' (srt L (P.take (k + 1))).length (fv (srt L (P.take (k + 1))))) := Lib.hid (by
            rw [hn.out, fv_append, List.length_append]
            simpa [fv] using hown')
          exact ⟨⟨k + 1, by go_num, by omega, ho2, hB4⟩, by simp [intOf]; omega⟩
        · obtain rfl : k = P.length := by omega
          rw [List.take_length] at hown
          go_wp2_with fail
          go_ret
          refine ⟨_, rfl, by rw [← srt_eq, hP.out, Hm.out]; exact own_low hown.out (by have := hk2.out.lt; omega), ?_⟩
          rw [Hm.out]
          exact hB2.out.trans (hBl.out.mono (by have := hk2.out.lt; omega))
theorem Sort_any (v : Value) (L : List Fl) (w : World) (h1 : Fls w v L) (hL : L.length ≤ 1000000) (hp : ∀ f ∈ L, f.path.length ≤ maxLen) : Calls Try.prog 16 #[v] w fun e w' => ∃ v', e = .returned v' ∧ Fls w' v' (sortF L) ∧ Below w.heap.size w w' :=
  (Sort_own v L w h1 hL hp).mono fun _ _ ⟨v', he, ho, hb⟩ => ⟨v', he, own_fls ho, hb⟩
end Go.Proofs.Ytbfehhblnakcbaa
