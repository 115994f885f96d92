/-
  For the laws of tree: all paths, rising, each once, by the program. Condition: at most 1,000 slices of at most 1,000 files each.
-/
import Derived.Sort.OwnSorted
import Derived.Lib.OwnBridge
import Derived.Test.YtbekbllffphfeaaDoorTFiles
namespace Go.Proofs.YtbekbllffphfeaaDoor.T
open Go.RowKit Go.Shelf

/-- The value v is a slice of slices that read as the rows of files LL. -/
def Fss (W : World) (v : Value) (LL : List (List Fl)) : Prop :=
  ∃ (a : Option Addr) (cap : Nat), v = .slice a LL.length cap ∧ LL.length ≤ cap ∧ cap ≤ maxLen ∧ ∀ k (L : List Fl), LL[k]? = some L → ∃ b off u, a = some ⟨b, off, none⟩ ∧ b < W.heap.size ∧ W.cell? ⟨b, off + k, none⟩ = some u ∧ Fls W u L
theorem paths_nil : pathsOf [] = [] := by
  unfold pathsOf uniq sortB
  simp [Lib.compactUpTo]
theorem sort_then {w w1 : World} {v : Value} {Z : List By} (hown : w1.ownsRow w.heap.size 9 1 v Z.length (strV Z)) (hB : Below w.heap.size w w1) (hZ : Z.length ≤ 1000000000) :
    Calls Tryd.prog 35 #[v] w1 fun e w2 => e = .returned (.tuple #[]) ∧ Calls Tryd.prog 36 #[v] w2 fun e w3 => ∃ v', e = .returned v' ∧ Strs w3 v' (pathsOf Z) ∧ Below w.heap.size w w3 := by
  rcases hown.2 with ⟨rfl, h0⟩ | ⟨g, cap, cur, rfl, hbase, hb, h1, h2, h3, h4⟩
  · obtain rfl : Z = [] := List.eq_nil_of_length_eq_zero h0
    refine (Tryd.slices_Sort_string_none none 0 w1).mono ?_
    rintro e w2 ⟨rfl, rfl⟩
    refine ⟨rfl, (Tryd.slices_Compact_string_empty none 0 w2).mono ?_⟩
    rintro e w3 ⟨rfl, rfl⟩
    exact ⟨_, rfl, by rw [paths_nil]; exact ⟨none, 0, rfl, Nat.le_refl _, Nat.zero_le _, by simp⟩, hB⟩
  · have hgl := (Array.getElem?_eq_some_iff.1 hb).1
    have hl2 : (sortB Z).length = Z.length := List.length_mergeSort Z
    refine (Tryd.slices_Sort_string g 0 cap Z w1 (holds_of_block hb (by simpa [strV] using h4)) hgl (by omega)).mono ?_
    rintro e w2 ⟨rfl, nn, os, rfl⟩
    have hs := ownsRow_sorted (n := nn) (os := os) (ts := sortB Z) hl2 hbase hb h1 h2 h3
    have hb2 := heap_sorted (n := nn) (os := os) (sortB Z).toArray hb
    have hH2 : Go.Sort.Holds encStr (Go.Sort.grow (Go.Sort.putRow encStr (Go.Sort.ahead w1 nn) g 0 (sortB Z).toArray) os) g 0 (sortB Z).toArray :=
      holds_of_block hb2 (take_putCells cur (sortB Z) (by rw [hl2, h3]; omega))
    have hc := Tryd.slices_Compact_string g 0 cap (sortB Z) _ hH2 (by omega) (by omega)
    rw [hl2] at hc
    refine ⟨rfl, hc.mono ?_⟩
    rintro e w3 ⟨rfl, q, rfl⟩
    have hle := Lib.compact_length_le (sortB Z)
    have ho := Lib.ownsRow_putRow (q := q) (k := (Lib.compact (sortB Z)).length) (ys := Lib.compact (sortB Z) ++ List.replicate (Z.length - (Lib.compact (sortB Z)).length) []) hs (by simp; omega) (by omega)
    rw [List.take_left] at ho
    exact ⟨_, rfl, own_strs ho, Lib.below_putRow (hB.grown (grownBy_sorted _) hB.size (fun j hj => by cases hj; exact hbase)) hbase⟩
def ps (L : List Fl) : List By := L.map Fl.path
set_option maxRecDepth 100000 in
set_option maxHeartbeats 8000000 in
theorem Paths_any (v : Value) (LL : List (List Fl)) (w : World) (h1 : Fss w v LL) (hL : LL.flatten.length ≤ 1000000) : Calls Tryd.prog 22 #[v] w fun e w' => ∃ v', e = .returned v' ∧ Strs w' v' (pathsOf (ps LL.flatten)) ∧ Below w.heap.size w w' := by
  obtain ⟨a, cap, rfl, hc, hm, hat⟩ := h1
  have Hat := Lib.hid hat; clear hat
  have HL := Lib.hid hL; clear hL
  unfold maxLen at hm
  obtain ⟨i0, hi0, hz0, hz1, hz2⟩ := info_parts infoStr
  go_enter Tryd.func22, Tryd.ntmps22
  go_wp2_with fail
  go_loopw [3, 10] (fun o c wr => ∃ k : Nat, c = .int .i64 k ∧ k ≤ LL.length ∧ Hid (wr.ownsRow w.heap.size 9 1 o (ps (LL.take k).flatten).length (strV (ps (LL.take k).flatten))) ∧ Hid (Below w.heap.size w wr)) (fun _ c _ => LL.length - (intOf c).toNat)
  case atStart => exact ⟨0, rfl, by omega, Lib.hid (World.ownsRow_nil _ _ _ _), Lib.hid (Below.refl _ _)⟩
  case round =>
    obtain ⟨k, rfl, hk, hown, hB⟩ := hrel
    by_cases hlt : k < LL.length
    · obtain ⟨L, hx⟩ : ∃ x, LL[k]? = some x := ⟨_, List.getElem?_eq_getElem hlt⟩
      obtain ⟨b, off, u, rfl, hbl, hl0, hfl⟩ := Hat.out k L hx
      have c0 : wr.cell? ⟨b, off + k, none⟩ = some u := (hB.out.cell (p := ⟨b, off + k, none⟩) hbl).trans hl0
      have htk : Hid ((LL.take (k + 1)).flatten = (LL.take k).flatten ++ L) := Lib.hid (by rw [List.take_add_one, hx]; simp)
      have hbd : Hid ((ps (LL.take k).flatten).length + L.length ≤ 1000000) := Lib.hid (by
        have e : LL.flatten = (LL.take (k + 1)).flatten ++ (LL.drop (k + 1)).flatten := by rw [← List.flatten_append, List.take_append_drop]
        have h2 := HL.out
        rw [e, htk.out, List.length_append, List.length_append] at h2
        rw [ps, List.length_map]; omega)
      obtain ⟨Z, hZ⟩ : ∃ Z, Hid (ps (LL.take k).flatten = Z) := ⟨_, Lib.hid rfl⟩
      rw [hZ.out] at hown hbd
      obtain ⟨a2, cap2, rfl, hc2, hm2, hat2⟩ := hfl
      have Hat2 := Lib.hid hat2; clear hat2 hl0 hx
      unfold maxLen at hm2
      go_wp2_with fail
      have hB0 := hB
      clear hB c0
      obtain ⟨Wo, rfl⟩ : ∃ Wo : World, Wo = wr := ⟨_, rfl⟩
      go_loopw [3, 16] (fun o c wi => ∃ j : Nat, c = .int .i64 j ∧ j ≤ L.length ∧ Hid (wi.ownsRow w.heap.size 9 1 o (Z ++ ps (L.take j)).length (strV (Z ++ ps (L.take j)))) ∧ Hid (Below w.heap.size w wi)) (fun _ c _ => L.length - (intOf c).toNat)
      case atStart => exact ⟨0, rfl, by omega, by simpa [ps] using hown, hB0⟩
      case round =>
        obtain ⟨j, rfl, hj, howj, hBw⟩ := hrel
        have hbs := hBw.out.size
        have hbd2 := hbd.out
        by_cases hjl : j < L.length
        · obtain ⟨x, hx⟩ : ∃ x, L[j]? = some x := ⟨_, List.getElem?_eq_getElem hjl⟩
          obtain ⟨b2, off2, rfl, hbl2, hl0, hl1⟩ := Hat2.out j x hx
          have c0 : wr.cell? ⟨b2, off2 + j * 2, none⟩ = some (.string (bs x.path)) := (hBw.out.cell (p := ⟨b2, off2 + j * 2, none⟩) hbl2).trans hl0
          have c1 : wr.cell? ⟨b2, off2 + j * 2 + 1, none⟩ = some (.string (bs x.text)) := (hBw.out.cell (p := ⟨b2, off2 + j * 2 + 1, none⟩) hbl2).trans hl1
          have hn : Hid (Z ++ ps (L.take (j + 1)) = (Z ++ ps (L.take j)) ++ [x.path]) := Lib.hid (by rw [List.take_add_one, hx]; simp [ps])
          have hlen : (Z ++ ps (L.take j)).length ≤ 1000000 := by rw [List.length_append, ps, List.length_map, List.length_take]; omega
          clear hl0 hl1 hx hbd2
          go_wp2_with (at_builtin; refine wpList_append_own _ rfl _ _ 57 rfl w.heap.size 9 i0 (.string ⟨#[]⟩) 1 16 Tryd.underlying57 hi0 hz0 hz1 hz2 rfl (by decide) _ _ _ rfl ((howj.out.alloc _).alloc _) ⟨wr.heap.size + 1, 0, none⟩ 1 1 [.string (bs x.path)] rfl rfl (str_new2 wr _ (bs x.path) _) (by simp [Value.oneCell']) (by unfold maxLen; omega) (by omega) (by simp; omega) ?_; intro v' w2 hown' hgrow _)
          have hB2 := ((hBw.out.alloc hbs (.cells #[.string (bs x.path), .string (bs x.text)] 34)).alloc (by simp; omega) (.cells #[.string (bs x.path)] 9)).grown hgrow (by simp; omega) (fun k hk => (howj.out.lt k hk).1)
          have ho2 : Hid (w2.ownsRow w.heap.size 9 1 v' (Z ++ ps (L.take (j + 1))).length (strV (Z ++ ps (L.take (j + 1))))) := Lib.hid (by
            rw [hn.out, List.length_append, strV, List.map_append]
            exact hown')
          exact ⟨⟨j + 1, by go_num, by omega, ho2, Lib.hid hB2⟩, by simp [intOf]; omega⟩
        · obtain rfl : j = L.length := by omega
          rw [List.take_length] at howj
          go_wp2_with fail
          exact ⟨⟨k + 1, by go_num, by omega, by rw [htk.out, ps, List.map_append, ← ps, hZ.out]; exact howj, hBw⟩, by simp [intOf]; omega⟩
    · obtain rfl : k = LL.length := by omega
      rw [List.take_length] at hown
      go_wp2_with fail
      refine (sort_then hown.out hB.out (by rw [ps, List.length_map]; have := HL.out; omega)).mono ?_
      rintro e w2 ⟨rfl, hc⟩
      have Hc := Lib.hid hc
      clear hc
      go_wp2_with fail
      refine Hc.out.mono ?_
      rintro e w3 ⟨v', rfl, hs, hb⟩
      go_wp2_with fail
      go_ret
      exact ⟨_, rfl, hs, hb⟩
end Go.Proofs.YtbekbllffphfeaaDoor.T
