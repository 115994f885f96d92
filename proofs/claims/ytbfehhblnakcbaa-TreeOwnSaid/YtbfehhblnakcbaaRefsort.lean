/-
  For the laws of tree: Sort and Paths by the reference. Condition: at most 100,000 files.
-/
import Derived.StillTailTactics
import Derived.Test.YtbfehhblnakcbaaRefputw
import Derived.Test.YtbfehhblnakcbaaConcat
import Derived.Test.YtbfehhblnakcbaaKeeps
namespace Go.Proofs.Ytbfehhblnakcbaa
open Go.RowKit Go.Shelf

theorem fls_nil (W : World) : Fls W (.slice none 0 0) [] := ⟨none, 0, rfl, Nat.le_refl _, Nat.zero_le _, by simp⟩
theorem str_new1 (W : World) (x : ByteArray) (t : TypeId) : ∀ j u, ([.string x] : List Value)[j]? = some u → (W.alloc (.cells #[.string x] t)).cell? ((⟨W.heap.size, 0, none⟩ : Addr).add j) = some u := by
  intro j u hj
  have h := World.alloc_heap_new W (.cells #[.string x] t)
  rw [add_flat, Nat.zero_add, Lib.cell_of_heap h]
  simpa using hj
set_option maxRecDepth 100000 in
set_option maxHeartbeats 8000000 in
theorem RefSort_any (v : Value) (L : List Fl) (w : World) (h1 : Fls w v L) (hL : L.length ≤ 100000) : Calls Try.prog 17 #[v] w fun e w' => (∃ v', e = .returned v' ∧ Fls w' v' (sortF L)) ∧ Below w.heap.size w w' := by
  obtain ⟨a, cap, rfl, hc, hm, hat⟩ := h1
  have Hat := Lib.hid hat; clear hat
  unfold maxLen at hm
  go_enter Try.func17, Try.ntmps17
  go_wp2_with fail
  go_loopw [3, 4] (fun u c wr => ∃ (k : Nat), c = .int .i64 k ∧ k ≤ L.length ∧ Hid (Fls wr u (sortF (L.take k))) ∧ Hid (Below w.heap.size w wr)) (fun _ c _ => L.length - (intOf c).toNat)
  case atStart => exact ⟨0, rfl, by omega, Lib.hid (by rw [List.take_zero, show sortF [] = [] by simp [sortF, paths_nil]]; exact fls_nil _), Lib.hid (Below.refl _ _)⟩
  case round =>
    obtain ⟨k, rfl, hk, hfl, hB⟩ := hrel
    have hbs := hB.out.size
    by_cases hlt : k < L.length
    · obtain ⟨x, hx⟩ : ∃ x, L[k]? = some x := ⟨_, List.getElem?_eq_getElem hlt⟩
      obtain ⟨b, off, rfl, hbl, hl0, hl1⟩ := Hat.out k x hx
      have c0 : wr.cell? ⟨b, off + k * 2, none⟩ = some (.string (bs x.path)) := (hB.out.cell (p := ⟨b, off + k * 2, none⟩) hbl).trans hl0
      have c1 : wr.cell? ⟨b, off + k * 2 + 1, none⟩ = some (.string (bs x.text)) := (hB.out.cell (p := ⟨b, off + k * 2 + 1, none⟩) hbl).trans hl1
      have hlen : (sortF (L.take k)).length ≤ 100000 := Nat.le_trans (sort_len _) (by rw [List.length_take]; omega)
      have Hlen := Lib.hid hlen
      have Hnx := Lib.hid (putR_next hx)
      clear hl0 hl1 hx hlen
      go_wp2_with fail
      go_still_tail 11, (by kernel_rfl)
      change wpList _ _ _ _ _ wr.drew
      have hfl2 : Hid (Fls wr.drew u3 (sortF (L.take k))) := hfl
      have hB2 : Hid (Below w.heap.size w wr.drew) := Lib.hid (below_drew hB.out)
      obtain ⟨V, hV⟩ : ∃ V, Hid (wr.drew = V) := ⟨_, Lib.hid rfl⟩
      rw [hV.out] at hfl2 hB2 ⊢
      go_wp2_with fail
      refine (RefPut_any _ (sortF (L.take k)) x.path x.text V hfl2.out Hlen.out).mono ?_
      rw [Hnx.out]
      rintro e w2 ⟨⟨v2, rfl, hv2⟩, hb2⟩
      have Hv2 := Lib.hid hv2
      have hB3 : Hid (Below w.heap.size w w2) := Lib.hid (hB2.out.trans (hb2.mono hB2.out.size))
      clear hv2 hb2
      go_wp2_with fail
      exact ⟨⟨k + 1, by go_num, by omega, Hv2, hB3⟩, by simp [intOf]; omega⟩
    · obtain rfl : k = L.length := by omega
      rw [List.take_length] at hfl
      go_wp2_with fail
      go_ret
      exact ⟨⟨_, rfl, hfl.out⟩, hB.out⟩
theorem ps_sort (L : List Fl) : ps (sortF L) = pathsOf (ps L) := by
  unfold sortF ps
  rw [List.map_map]
  exact List.map_id _
set_option maxRecDepth 100000 in
set_option maxHeartbeats 8000000 in
theorem RefPaths_any (v : Value) (LL : List (List Fl)) (w : World) (h1 : Fss w v LL) (hL : LL.flatten.length ≤ 100000) : Calls Try.prog 27 #[v] w fun e w' => ∃ v', e = .returned v' ∧ Strs w' v' (pathsOf (ps LL.flatten)) ∧ Below w.heap.size w w' := by
  obtain ⟨a, cap, rfl, hc, hm, hat⟩ := h1
  have Hat := Lib.hid hat; clear hat
  have hbd : ∀ k, (LL.take k).flatten.length ≤ 100000 := fun k => by
    have e : LL.flatten = (LL.take k).flatten ++ (LL.drop k).flatten := by rw [← List.flatten_append, List.take_append_drop]
    rw [e, List.length_append] at hL; omega
  have Hbd := Lib.hid hbd; clear hbd
  have HL := Lib.hid hL; clear hL
  obtain ⟨i0, hi0, hz0, hz1, hz2⟩ := info_parts infoStr
  unfold maxLen at hm
  go_enter Try.func27, Try.ntmps27
  go_wp2_with fail
  go_loopw [3, 4] (fun o c wr => ∃ k : Nat, c = .int .i64 k ∧ k ≤ LL.length ∧ Hid (wr.ownsRow w.heap.size 43 2 o (LL.take k).flatten.length (fv (LL.take k).flatten)) ∧ Hid (Below w.heap.size w wr)) (fun _ c _ => LL.length - (intOf c).toNat)
  case atStart => exact ⟨0, rfl, by omega, Lib.hid (World.ownsRow_nil _ _ _ _), Lib.hid (Below.refl _ _)⟩
  case round =>
    obtain ⟨k, rfl, hk, hown, hB⟩ := hrel
    have hbs := hB.out.size
    by_cases hlt : k < LL.length
    · obtain ⟨L, hx⟩ : ∃ x, LL[k]? = some x := ⟨_, List.getElem?_eq_getElem hlt⟩
      obtain ⟨b, off, u, rfl, hbl, hl0, hfl⟩ := Hat.out k L hx
      have c0 : wr.cell? ⟨b, off + k, none⟩ = some u := (hB.out.cell (p := ⟨b, off + k, none⟩) hbl).trans hl0
      have hfr := hfl.below hB.out
      have htk : (LL.take (k + 1)).flatten = (LL.take k).flatten ++ L := by rw [List.take_add_one, hx]; simp
      have hS1 : (LL.take k).flatten.length + L.length ≤ 1000000 := by
        have := Hbd.out (k + 1)
        rw [htk, List.length_append] at this; omega
      have Htk := Lib.hid htk
      have Hfr := Lib.hid hfr
      have HS1 := Lib.hid hS1
      clear hfl hfr htk hx hl0 hS1
      go_wp2_with (at_builtin; refine wpList_append_fls rfl _ _ rfl w.heap.size _ _ _ _ L rfl hown.out rfl Hfr.out HS1.out hbs ?_; intro v' w4 hown' hb4)
      have ho2 : Hid (w4.ownsRow w.heap.size 43 2 v' (LL.take (k + 1)).flatten.length (fv (LL.take (k + 1)).flatten)) := Lib.hid (by
        rw [Htk.out, fv_append, List.length_append]; exact hown')
      exact ⟨⟨k + 1, by go_num, by omega, ho2, Lib.hid (hB.out.trans hb4)⟩, by simp [intOf]; omega⟩
    · obtain rfl : k = LL.length := by omega
      rw [List.take_length] at hown
      obtain ⟨S, hS⟩ : ∃ S, Hid (sortF LL.flatten = S) := ⟨_, Lib.hid rfl⟩
      have hSl : S.length ≤ 100000 := by rw [← hS.out]; exact Nat.le_trans (sort_len _) HL.out
      have hps : Hid (pathsOf (ps LL.flatten) = ps S) := Lib.hid (by rw [← hS.out, ps_sort])
      have Hf := Lib.hid (own_fls hown.out)
      clear hown
      go_wp2_with fail
      refine (RefSort_any _ LL.flatten wr Hf.out HL.out).mono ?_
      rw [hS.out]
      rintro e w2 ⟨⟨v2, rfl, hv2⟩, hb2⟩
      have hB2 : Hid (Below w.heap.size w w2) := Lib.hid (hB.out.trans (hb2.mono hB.out.size))
      obtain ⟨a2, cap2, rfl, hc2, hm2, hat2⟩ := hv2
      have Hat2 := Lib.hid hat2
      unfold maxLen at hm2
      clear hat2 hb2
      go_wp2_with fail
      go_loopw [6, 7] (fun o c wi => ∃ j : Nat, c = .int .i64 j ∧ j ≤ S.length ∧ Hid (wi.ownsRow w2.heap.size 9 1 o (ps (S.take j)).length (strV (ps (S.take j)))) ∧ Hid (Below w2.heap.size w2 wi)) (fun _ c _ => S.length - (intOf c).toNat)
      case atStart => exact ⟨0, rfl, by omega, Lib.hid (World.ownsRow_nil _ _ _ _), Lib.hid (Below.refl _ _)⟩
      case round =>
        obtain ⟨j, rfl, hj, howj, hBw⟩ := hrel
        have hbsw := hBw.out.size
        have hlen : (ps (S.take j)).length ≤ 100000 := by rw [ps, List.length_map, List.length_take]; omega
        by_cases hjl : j < S.length
        · obtain ⟨x, hx⟩ : ∃ x, S[j]? = some x := ⟨_, List.getElem?_eq_getElem hjl⟩
          obtain ⟨b2, off2, rfl, hbl2, hl0, -⟩ := Hat2.out j x hx
          have c0 : wr.cell? ⟨b2, off2 + j * 2, none⟩ = some (.string (bs x.path)) := (hBw.out.cell (p := ⟨b2, off2 + j * 2, none⟩) hbl2).trans hl0
          have hn : Hid (ps (S.take (j + 1)) = ps (S.take j) ++ [x.path]) := Lib.hid (by rw [List.take_add_one, hx]; simp [ps])
          clear hl0 hx
          obtain ⟨Z, hZ⟩ : ∃ Z, Hid (ps (S.take j) = Z) := ⟨_, Lib.hid rfl⟩
          rw [hZ.out] at howj hlen hn
          go_wp2_with (at_builtin; refine wpList_append_own _ rfl _ _ 37 rfl w2.heap.size 9 i0 (.string ⟨#[]⟩) 1 16 Try.underlying37 hi0 hz0 hz1 hz2 rfl (by decide) _ _ _ rfl (howj.out.alloc _) ⟨wr.heap.size, 0, none⟩ 1 1 [.string (bs x.path)] rfl rfl (str_new1 wr (bs x.path) _) (by simp [Value.oneCell']) (by unfold maxLen; omega) (by omega) (by simp; omega) ?_; intro v' w3 hown' hgrow _)
          have hB3 := (hBw.out.alloc hbsw (.cells #[.string (bs x.path)] 9)).grown hgrow (by simp; omega) (fun k hk => (howj.out.lt k hk).1)
          have ho2 : Hid (w3.ownsRow w2.heap.size 9 1 v' (ps (S.take (j + 1))).length (strV (ps (S.take (j + 1))))) := Lib.hid (by
            rw [hn.out, List.length_append, strV, List.map_append]
            exact hown')
          exact ⟨⟨j + 1, by go_num, by omega, ho2, Lib.hid hB3⟩, by simp [intOf]; omega⟩
        · obtain rfl : j = S.length := by omega
          rw [List.take_length] at howj
          go_wp2_with fail
          go_ret
          exact ⟨_, rfl, by rw [hps.out]; exact own_strs howj.out, hB2.out.trans (hBw.out.mono hB2.out.size)⟩
end Go.Proofs.Ytbfehhblnakcbaa
