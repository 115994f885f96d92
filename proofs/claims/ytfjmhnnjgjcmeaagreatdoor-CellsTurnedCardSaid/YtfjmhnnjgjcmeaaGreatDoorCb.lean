/-
  For the laws of cells: unique: the first of each key, by the program. Condition: at most 1,000,000 keys, each no longer than any text may be.
-/
import Derived.Test.YtfjmhnnjgjcmeaaGreatDoorCa
namespace Go.Proofs.YtfjmhnnjgjcmeaaGreatDoor
open Go.RowKit Go.Shelf Go.Maps Go.WideMaps
set_option linter.unusedSimpArgs false
set_option linter.unusedVariables false

theorem tl_inj {s t : ByteArray} (h : tl s = tl t) : s = t := by rw [← bs_tl s, ← bs_tl t, h]
theorem mem_tl {L : TL} {s : ByteArray} : tl s ∈ L.map tl ↔ s ∈ L := by
  constructor
  · intro h
    obtain ⟨t, ht, e⟩ := List.mem_map.1 h
    rwa [tl_inj e] at ht
  · exact fun h => List.mem_map_of_mem h
set_option maxRecDepth 100000 in
set_option maxHeartbeats 8000000 in
theorem unique_any (v : Value) (xs : TL) (w : World) (h : L.Vals w v (xs.map .string)) (hl : xs.length ≤ 1000000) (hs : ∀ s ∈ xs, s.size ≤ maxLen) : Calls Tryz.prog 48 #[v] w fun e w' => ∃ v', e = .returned v' ∧ w'.ownsRow w.heap.size 9 1 v' (uniqT xs).length ((uniqT xs).map .string) ∧ Below w.heap.size w w' := by
  obtain ⟨i0, hi, hz0, hz1, hz2⟩ := info_parts S.try_info9
  obtain ⟨a, cap, rfl, hc, hm, hat⟩ := h.at
  rw [List.length_map] at hc ⊢
  unfold maxLen at hm
  obtain ⟨n, hn⟩ : ∃ n, Hid (xs.length = n) := ⟨_, Lib.hid rfl⟩
  rw [hn.out] at hc hl ⊢
  have Hat := Lib.hid hat
  have Hs := Lib.hid hs
  clear hat h hs
  obtain ⟨m, hmm⟩ : ∃ m, Hid (w.heap.size = m) := ⟨_, Lib.hid rfl⟩
  obtain ⟨W2, hW2⟩ : ∃ W2, Hid (w.alloc (.map #[] 0) = W2) := ⟨_, Lib.hid rfl⟩
  have hmk : (Instr.makeMap 88 none).run Tryz.prog w = .ok (.map (some m)) W2 := by rw [← hW2.out, ← hmm.out]; rfl
  have K2 : Hid (KnownS W2 m ((uniqT (xs.take 0)).map tl) 0) := Lib.hid (by rw [← hW2.out, ← hmm.out]; exact KnownS.made w)
  have B2 : Hid (Below w.heap.size w W2) := Lib.hid (by rw [← hW2.out]; exact (Below.refl _ w).alloc (Nat.le_refl _) _)
  go_enter Tryz.func48, Tryz.ntmps48
  go_wp2_with fail
  clear hmk hW2
  go_loopw [4, 12] (fun o i wr => ∃ k : Nat, k ≤ n ∧ i = .int .i64 k ∧ Hid (KnownS wr m ((uniqT (xs.take k)).map tl) k) ∧ Hid (wr.ownsRow (m + 1) 9 1 o (uniqT (xs.take k)).length ((uniqT (xs.take k)).map .string)) ∧ Hid (Below w.heap.size w wr)) (fun _ i _ => n - (intOf i).toNat)
  case atStart => exact ⟨0, Nat.zero_le _, rfl, K2, Lib.hid (World.ownsRow_nil _ _ _ _), B2⟩
  case round =>
    obtain ⟨k, hk, rfl, hK, hO, hB⟩ := hrel
    obtain ⟨wo, rfl⟩ : ∃ wo, wo = wr := ⟨wr, rfl⟩
    rcases Nat.lt_or_ge k n with hlt | hlt
    · obtain ⟨x, hx⟩ := get_lt (l := xs) (k := k) (by rw [hn.out]; exact hlt)
      obtain ⟨b, off, rfl, hbl, e0⟩ := Hat.out k (.string x) (by rw [List.getElem?_map, hx]; rfl)
      have e1 : wo.cell? ⟨b, off + k, none⟩ = some (.string x) := (hB.out.cell (p := ⟨b, off + k, none⟩) hbl).trans e0
      have hxs := Hs.out x (List.mem_of_getElem? hx)
      have hst := Lib.hid (uniq_take hx)
      have d1 : decide (k < n) = true := decide_eq_true hlt
      have d2 : (0 : Int) ≤ (k : Int) := by omega
      have d3 : (k : Int) < (n : Int) := by omega
      have hul : (uniqT (xs.take k)).length ≤ 1000000 := by
        have h := uniq_len (xs.take k)
        rw [List.length_take, hn.out] at h
        omega
      clear hx e0
      obtain ⟨U, hU⟩ : ∃ U, Hid (uniqT (xs.take k) = U) := ⟨_, Lib.hid rfl⟩
      rw [hU.out] at hO hst hul hK
      obtain ⟨ao, co, rfl⟩ := own_form hO.out
      obtain ⟨nu, hnu⟩ : ∃ n, Hid (U.length = n) := ⟨_, Lib.hid rfl⟩
      rw [hnu.out] at hO hul ⊢
      have hlook := hK.out.look x hxs
      obtain ⟨d, hd⟩ : ∃ d, Hid (decide (tl x ∈ U.map tl) = d) := ⟨_, Lib.hid rfl⟩
      rw [hd.out] at hlook
      have hdU : Hid (decide (x ∈ U) = d) := Lib.hid (by rw [← hd.out]; exact decide_eq_decide.2 mem_tl.symm)
      have hmw : m < wo.heap.size := hK.out.lt
      have K3 : Hid (KnownS (wo.alloc (.cells #[] 116)) m (U.map tl) k) := Lib.hid (hK.out.same (Below.heap_alloc wo _ m hmw))
      have O3 := Lib.hid (hO.out.alloc (.cells #[] 116))
      have B3 : Hid (Below w.heap.size w (wo.alloc (.cells #[] 116))) := Lib.hid (hB.out.alloc hB.out.size _)
      cases d with
      | true =>
        have hf : Hid (KnownS (wo.alloc (.cells #[] 116)) m ((uniqT (xs.take (k + 1))).map tl) (k + 1) ∧ (wo.alloc (.cells #[] 116)).ownsRow (m + 1) 9 1 (.slice ao nu co) (uniqT (xs.take (k + 1))).length ((uniqT (xs.take (k + 1))).map .string)) := Lib.hid (by
          rw [hst.out]
          unfold uq
          rw [if_pos (of_decide_eq_true hdU.out), hnu.out]
          exact ⟨K3.out.mono (by omega), O3.out⟩)
        go_wp2_with fail
        exact ⟨⟨k + 1, by omega, by go_num, Lib.hid hf.out.1, Lib.hid hf.out.2, B3⟩, by simp [intOf]; omega⟩
      | false =>
        obtain ⟨W4, hput, hK4, hg4⟩ := K3.out.put x hxs (by omega)
        have hne4 : ∀ j, (Value.slice ao nu co).ownBlock = some j → W4.heap[j]? = (wo.alloc (.cells #[] 116)).heap[j]? := fun j hj => by
          have h := O3.out.lt j hj
          exact hg4.block j h.2 (by intro e; injection e with e; omega)
        have O4 := Lib.hid (L.owns_same O3.out hne4)
        have B4 : Hid (Below w.heap.size w W4) := Lib.hid (B3.out.grown hg4 (Nat.le_trans (by rw [hmm.out]; exact Nat.le_of_lt hmw) (by simp)) (fun j e => by injection e with e; subst e; rw [hmm.out]; exact Nat.le_refl _))
        have HK4 := Lib.hid hK4
        have hm4 := hK4.lt
        clear hK4 hne4
        go_wp2_with (at_builtin; refine wpList_append_own _ rfl _ _ 27 rfl (m + 1) 9 i0 (.string ⟨#[]⟩) 1 16 Tryz.underlying27 hi hz0 hz1 hz2 rfl (by decide) _ _ _ rfl (O4.out.alloc _) ⟨W4.heap.size, 0, none⟩ 1 1 [.string x] rfl rfl (S.cell_one_new _ _ _) (by simp [Value.oneCell']) (by unfold maxLen; omega) (by omega) (by simp; omega) ?_; intro v' w5 hown' hgrow _)
        have hK5 : Hid (KnownS w5 m (U.map tl ++ [tl x]) (k + 1)) := Lib.hid (HK4.out.same (by
          rw [hgrow.block m (by simp; omega) (fun e => by have h := (O4.out.lt m e.symm).1; omega)]
          exact Below.heap_alloc W4 _ m hm4))
        have hf : Hid (KnownS w5 m ((uniqT (xs.take (k + 1))).map tl) (k + 1) ∧ w5.ownsRow (m + 1) 9 1 v' (uniqT (xs.take (k + 1))).length ((uniqT (xs.take (k + 1))).map .string)) := Lib.hid (by
          rw [hst.out]
          unfold uq
          rw [if_neg (of_decide_eq_false hdU.out), List.length_append, List.map_append, List.map_append, hnu.out]
          exact ⟨hK5.out, hown'⟩)
        have hb : Hid (Below w.heap.size w w5) := Lib.hid ((B4.out.alloc B4.out.size _).grown hgrow (by have := B4.out.size; simp; omega) (fun j e => by have h := (O4.out.lt j e).1; rw [hmm.out]; omega))
        clear hown' hgrow hput hg4
        exact ⟨⟨k + 1, by omega, by go_num, Lib.hid hf.out.1, Lib.hid hf.out.2, hb⟩, by simp [intOf]; omega⟩
    · have d1 : decide (k < n) = false := decide_eq_false (by omega)
      have h := hO.out
      rw [List.take_of_length_le (by rw [hn.out]; exact hlt)] at h
      have hf := Lib.hid (L.own_low (base := w.heap.size) h (by rw [hmm.out]; omega))
      clear h
      go_wp2_with fail
      go_ret
      exact ⟨_, rfl, hf.out, hB.out⟩
end Go.Proofs.YtfjmhnnjgjcmeaaGreatDoor
