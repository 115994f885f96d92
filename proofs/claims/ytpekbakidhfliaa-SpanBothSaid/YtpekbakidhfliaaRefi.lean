/-
  For the laws of span: what takes edits back, by the document. Conditions: at most 1,000,000 edits.
-/
import Derived.Test.YtpekbakidhfliaaInv
import Derived.Test.YtpekbakidhfliaaRefa
import Derived.Deep.RegionHeldLaw
import Derived.Deep.AppendLies
import Derived.BigQuiet
namespace Go.Proofs.Ytpekbakidhfliaa
open Go.RowKit Go.Shelf

theorem inv_len (t : By) (L : List Ed) : (invL t L).length = L.length := by unfold invL; rw [List.length_map, grL_len]
theorem inv_at {t : By} {L : List Ed} {k : Nat} {e : Ed} (h : L[k]? = some e) : (invL t L).take (k + 1) = (invL t L).take k ++ [invE t (wrap64 (gsum (L.take k)), e)] := by
  unfold invL
  rw [← List.map_take, grL_take h, List.map_append, List.map_take]
  rfl
theorem ed_news (W : World) (x y : Int) (s : ByteArray) : ∀ j u, ([.int .i64 x, .int .i64 y, .string s] : List Value)[j]? = some u → (W.alloc (.cells #[.int .i64 x, .int .i64 y, .string s] 39)).cell? ((⟨W.heap.size, 0, none⟩ : Addr).add j) = some u := fun j u hj =>
  World.news_of_block (World.alloc_heap_new W _) j u hj
theorem ed_one (x y : Int) (s : ByteArray) : ∀ u ∈ ([.int .i64 x, .int .i64 y, .string s] : List Value), u.oneCell' = true := by
  intro u hu
  simp at hu
  rcases hu with rfl | rfl | rfl <;> rfl
set_option maxRecDepth 100000 in
set_option maxHeartbeats 8000000 in
theorem RefInverse_any (t : ByteArray) (v : Value) (L : List Ed) (w : World) (h1 : Eds w v L) (hlen : L.length ≤ 1000000) (ht : t.size ≤ 1000000) (hx : ∀ e ∈ L, e.tx.length ≤ 1000000) :
    Calls Try.prog 12 #[.string t, v] w fun e W' => ∃ u, e = .returned (.tuple #[u, .int .i64 (code (chkB t.size none L))]) ∧ Eds W' u (invA (tl t) L) ∧ Below w.heap.size w W' := by
  have H1 := Lib.hid h1
  have Hx := Lib.hid hx
  obtain ⟨a, cap, rfl, hc, hm, hat⟩ := h1
  have Hat := Lib.hid hat; clear hat hx
  unfold maxLen at hm
  obtain ⟨i0, hi0, hz0, hz1, hz2⟩ := info_parts infoEd
  unfold invA
  rw [tl_length]
  cases hr : chkB t.size none L with
  | false =>
    have hr := Lib.hid hr
    go_enter Try.func12, Try.ntmps12
    go_wp2_with fail
    refine (May_any t.size _ L w H1.out).mono ?_
    rw [hr.out]
    rintro e w1 ⟨rfl, b1⟩
    go_wp2_with fail
    go_ret2
    exact ⟨_, rfl, ⟨none, 0, rfl, Nat.le_refl _, Nat.zero_le _, by simp⟩, b1⟩
  | true =>
    have hok : Ok (t.size : Int) 0 L := ok_of hr (fun e h => by cases h) (fun _ => Int.le_refl _) (by omega)
    have hr := Lib.hid hr
    have Hok := Lib.hid hok
    clear hok
    rw [if_pos rfl]
    obtain ⟨G, hG⟩ : ∃ G, Hid (invL (tl t) L = G) := ⟨_, Lib.hid rfl⟩
    have hGl : G.length = L.length := by rw [← hG.out, inv_len]
    have HGl := Lib.hid hGl
    clear hGl
    rw [hG.out]
    go_enter Try.func12, Try.ntmps12
    go_wp2_with fail
    refine (May_any t.size _ L w H1.out).mono ?_
    rw [hr.out]
    rintro e w1 ⟨rfl, b1⟩
    go_wp2_with fail
    go_loopw [7, 8, 9] (fun p m c wr => ∃ (k : Nat) (b0 : Int), k ≤ L.length ∧ c = .int .i64 k ∧ m = .int .i64 b0 ∧ Hid (b0 = wrap64 (gsum (L.take k))) ∧ wr.ownsRow w.heap.size 39 3 p k (ev (G.take k)) ∧ Below w.heap.size w wr) (fun _ _ c _ => L.length - (intOf c).toNat)
    case atStart => exact ⟨0, 0, by omega, rfl, rfl, Lib.hid (by rw [List.take_zero, gsum]; unfold wrap64; omega), World.ownsRow_nil _ _ _ _, b1⟩
    case round =>
      obtain ⟨k, b0, hk, rfl, rfl, hb0, hown, hB⟩ := hrel
      have hbs := hB.size
      by_cases hlt : k < L.length
      · obtain ⟨x, hxk⟩ : ∃ x, L[k]? = some x := ⟨_, List.getElem?_eq_getElem hlt⟩
        obtain ⟨b, off, rfl, hl, hat⟩ := Hat.out k x hxk
        have hn := inv_at (t := tl t) hxk
        rw [hG.out, ← hb0.out] at hn
        have o0 := (ok_at Hok.out k x hxk).2
        have htx := Hx.out x (List.mem_of_getElem? hxk)
        have hgs := gsum_take hxk
        obtain ⟨xf, xt, tx⟩ := x
        obtain ⟨f, rfl⟩ := Int.eq_ofNat_of_zero_le (show 0 ≤ xf by simp at o0; omega)
        obtain ⟨g, rfl⟩ := Int.eq_ofNat_of_zero_le (show 0 ≤ xt by simp at o0; omega)
        simp only at hat htx o0
        have Hlies : Hid (∀ W, Below w.heap.size w W → W.cell? ⟨b, off + k * 3, none⟩ = some (.int .i64 f) ∧ W.cell? ⟨b, off + k * 3 + 1, none⟩ = some (.int .i64 g) ∧ W.cell? ⟨b, off + k * 3 + 2, none⟩ = some (.string (bs tx))) := Lib.hid fun W hW =>
          ⟨(hW.cell (p := ⟨b, off + k * 3, none⟩) hl).trans hat.1, (hW.cell (p := ⟨b, off + k * 3 + 1, none⟩) hl).trans hat.2.1, (hW.cell (p := ⟨b, off + k * 3 + 2, none⟩) hl).trans hat.2.2⟩
        obtain ⟨c0, c1, c2⟩ := Hlies.out wr hB
        have hev : ev (G.take k) ++ [Value.int .i64 (wrap64 (f + b0)), .int .i64 (IntKind.i64.wrap (wrap64 (f + b0) + (tx.length : Int))), .string (t.extract f g)] = ev (G.take (k + 1)) := by
          rw [hn, ev_append, ext_bs, wrap_i64]; rfl
        have Hev := Lib.hid hev
        have Hnx : Hid (wrap64 (b0 + wrap64 ((tx.length : Int) - wrap64 ((g : Int) - f))) = wrap64 (gsum (L.take (k + 1)))) := Lib.hid (by
          rw [hgs]; exact by_next hb0.out)
        have p1 : (f : Int) ≤ g := by omega
        have p2 : (g : Int) ≤ t.size := by omega
        clear hat hn hev hgs o0 hxk
        go_wp2_with fail
        go_region_held_law (fun W => W.cell? ⟨b, off + k * 3, none⟩ = some (.int .i64 f) ∧ W.cell? ⟨b, off + k * 3 + 1, none⟩ = some (.int .i64 g) ∧ W.cell? ⟨b, off + k * 3 + 2, none⟩ = some (.string (bs tx)))
          (first | go_keep | exact Hlies.out _ HB2.out)
          ((refine step_append_lies _ (by rfl) _ _ _ (by rfl) w.heap.size 39 i0 _ 3 32 Try.underlying22 hi0 hz0 hz1 hz2 rfl (by decide) _ k _ (by rfl) (hown.alloc _) ⟨wr.heap.size, 0, none⟩ 1 1 [.int .i64 (wrap64 (f + b0)), .int .i64 (IntKind.i64.wrap (wrap64 (f + b0) + (tx.length : Int))), .string (t.extract f g)] (by rfl) rfl (fun j u hj => ed_news wr _ _ _ j u hj) (ed_one _ _ _) (by omega) (by unfold maxLen; omega) (by omega) (by simp; omega) (wr.heap.size + 1) (by simp) ?_; intro gg cap' w2 hown' hgrow _ _; have HB2 : Hid (Below w.heap.size w w2) := by first | exact Lib.hid (Below.grown (hB.alloc hbs _) hgrow (by simp; omega) (fun k hk => (hown.lt k hk).1)) | exact Lib.hid (Below.grown (below_drew (hB.alloc hbs _)) hgrow (by simp; omega) (fun k hk => (hown.lt k hk).1)) | exact Lib.hid (Below.grown ((below_drew hB).alloc hbs _) hgrow (by simp; omega) (fun k hk => (hown.lt k hk).1)) | exact Lib.hid (Below.grown (below_draws (hB.alloc hbs _) _) hgrow (by simp; omega) (fun k hk => (hown.lt k hk).1)) | exact Lib.hid (Below.grown ((below_draws hB _).alloc hbs _) hgrow (by simp; omega) (fun k hk => (hown.lt k hk).1)) | (trace_state; fail)))
        simp only [List.getElem_toArray, List.getElem_cons_succ, List.getElem_cons_zero, List.set_cons_zero, List.set_cons_succ]
        have Hown2 : Hid (w2.ownsRow w.heap.size 39 3 (.slice (some ⟨gg, 0, none⟩) (k + 1) cap') (k + 1) (ev (G.take (k + 1)))) := Lib.hid (by rw [← Hev.out]; exact hown')
        clear hown' hgrow hown hB c0 c1 c2
        obtain ⟨c0, c1, c2⟩ := Hlies.out w2 HB2.out
        go_wp2_with fail
        have q0 : (0 : Int) ≤ (k : Int) := by omega
        have q1 : (k : Int) < (L.length : Int) := by omega
        have q2 : (k : Int) < (cap : Int) := by omega
        have w1 : IntKind.i64.wrap ((g : Int) - f) = wrap64 ((g : Int) - f) := wrap_i64 _
        have w2 : IntKind.i64.wrap ((tx.length : Int) - wrap64 ((g : Int) - f)) = wrap64 ((tx.length : Int) - wrap64 ((g : Int) - f)) := wrap_i64 _
        have w3 : IntKind.i64.wrap (b0 + wrap64 ((tx.length : Int) - wrap64 ((g : Int) - f))) = wrap64 (b0 + wrap64 ((tx.length : Int) - wrap64 ((g : Int) - f))) := wrap_i64 _
        go_quiet (fail)
        go_wp2_with fail
        exact ⟨⟨k + 1, _, by omega, by go_num, rfl, Hnx, Hown2.out, below_draws HB2.out _⟩, by simp [intOf]; omega⟩
      · obtain rfl : k = L.length := by omega
        rw [← HGl.out, List.take_length] at hown
        have Hown := Lib.hid (own_eds hown); clear hown
        go_wp2_with fail
        go_ret2
        exact ⟨_, rfl, Hown.out, hB⟩
end Go.Proofs.Ytpekbakidhfliaa
