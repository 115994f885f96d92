/-
  For the laws of cells: the index of the first segment of each key, by the program. Condition: keys no longer than any text may be.
-/
import Derived.Test.YtfjmhnnjgjcmeaaGreatDoorCn
namespace Go.Proofs.YtfjmhnnjgjcmeaaGreatDoor
open Go.RowKit Go.Shelf Go.Maps Go.WideMaps
set_option linter.unusedSimpArgs false
set_option linter.unusedVariables false

/-- Where the first of a key stands. -/
def ixT (K : TL) (s : ByteArray) : Nat := (K.map tl).idxOf (tl s)
/-- Block b is a map from each of the keys to where the first of it stands. -/
def FstM (W : World) (b : Nat) (K : TL) (n : Nat) : Prop :=
  ∃ D : DataW Unit, W.ownsMap Tryz.prog 9 (plainElem Tryz.prog 3) b n D ∧
    ∀ s : List UInt8, Maps.has D (.string s) = decide (s ∈ K.map tl) ∧ (s ∈ K.map tl → D.atKey (.string s) (.lit (.int .i64 0)) = .lit (.int .i64 ((K.map tl).idxOf s : Nat)))
theorem mem_tls {K : TL} {s : ByteArray} : tl s ∈ K.map tl ↔ s ∈ K := by
  rw [List.mem_map]
  exact ⟨fun ⟨x, h, e⟩ => tl_inj e ▸ h, fun h => ⟨s, h, rfl⟩⟩
theorem FstM.made (W : World) : FstM (W.alloc (.map #[] 0)) W.heap.size [] 0 :=
  ⟨.map [], World.ownsMap_made W Tryz.prog 9 _, fun s => ⟨by simp [Maps.has], fun h => by simp at h⟩⟩
theorem FstM.lt {W : World} {b n : Nat} {K : TL} (h : FstM W b K n) : b < W.heap.size := by
  obtain ⟨D, h, _⟩ := h
  exact h.lt
theorem FstM.same {W W' : World} {b n : Nat} {K : TL} (h : FstM W b K n) (hb : W'.heap[b]? = W.heap[b]?) : FstM W' b K n := by
  obtain ⟨D, ⟨es, cl, h1, h2⟩, hk⟩ := h
  exact ⟨D, ⟨es, cl, hb.trans h1, h2⟩, hk⟩
theorem FstM.mono {W : World} {b n m : Nat} {K : TL} (h : FstM W b K n) (hm : n ≤ m) : FstM W b K m := by
  obtain ⟨D, ⟨es, cl, h1, h2, h3, h4⟩, hk⟩ := h
  exact ⟨D, ⟨es, cl, h1, h2, Nat.le_trans h3 hm, h4⟩, hk⟩
theorem FstM.look {W : World} {b n : Nat} {K : TL} (h : FstM W b K n) (s : ByteArray) (hs : s.size ≤ maxLen) :
    ∃ (c : Int) (d : Bool), (Instr.lookup 75 (.map (some b)) (.string s) true).run Tryz.prog W = .ok (.tuple #[.int .i64 c, .bool d]) W ∧ (d = true ↔ s ∈ K) ∧ (s ∈ K → c = (ixT K s : Nat)) := by
  obtain ⟨D, hD, hk⟩ := h
  obtain ⟨h1, h2⟩ := hk (tl s)
  obtain ⟨v, ps, hrun, hv⟩ := hD.look_ok law9s Tryz.underlying75 (L.zero3 W) (plainElem_int Tryz.underlying3 (by decide)) (keyOf_string_mk Tryz.underlying9 hs)
  obtain ⟨c, rfl, hc, _⟩ := plainElem_int_inv Tryz.underlying3 hv
  simp only [Prod.mk.injEq] at hc
  refine ⟨c, decide (tl s ∈ K.map tl), by rw [hrun]; rw [show Maps.has D (.string s.data.toList) = decide (tl s ∈ K.map tl) from h1], by rw [decide_eq_true_iff]; exact mem_tls, fun hm => ?_⟩
  have := (h2 (mem_tls.2 hm)).symm.trans hc.1
  unfold ixT
  simpa using this.symm
theorem FstM.put {W : World} {b n : Nat} {K : TL} (h : FstM W b K n) (s : ByteArray) (hs : s.size ≤ maxLen) (hn : s ∉ K) (hl : n < 1000000000000) (hl2 : K.length < 1000000000000) :
    ∃ W', (Instr.mapUpdate 75 (.map (some b)) (.string s) (.int .i64 (K.length : Nat))).run Tryz.prog W = .ok () W' ∧ FstM W' b (K ++ [s]) (n + 1) ∧ W.grownBy W' (some b) := by
  obtain ⟨D, hD, hk⟩ := h
  have hn' : tl s ∉ K.map tl := fun h => hn (mem_tls.1 h)
  have hkey := keyOf_string_mk (k := 9) Tryz.underlying9 hs
  obtain ⟨W', hrun, hown, hg⟩ := hD.update law9s Tryz.underlying75 (by unfold maxLen; omega) hkey (plainElem_int (a := (K.length : Int)) Tryz.underlying3 (WalkArith.wf_i64 ⟨by omega, by omega⟩))
  refine ⟨W', hrun, ⟨_, hown, fun t => ?_⟩, hg⟩
  rw [List.map_append, List.map_cons, List.map_nil]
  by_cases e : t = tl s
  · subst e
    have q1 := has_put_same hD.isMap (law9s.key hkey) (DataW.lit (.int .i64 (K.length : Int)))
    have q2 := atKey_put_same hD.isMap (law9s.key hkey) (DataW.lit (.int .i64 (K.length : Int))) (DataW.lit (.int .i64 0))
    refine ⟨q1.trans (by simp), fun _ => q2.trans ?_⟩
    rw [List.idxOf_append, if_neg hn']
    simp
  · have hne : Lit.string t ≠ Lit.string (tl s) := by
      intro h
      injection h with h
      exact e h
    have q1 := has_put_other (D := D) hne (DataW.lit (.int .i64 (K.length : Int)))
    have q2 := atKey_put_other (D := D) hne (DataW.lit (.int .i64 (K.length : Int))) (DataW.lit (.int .i64 0))
    refine ⟨q1.trans ((hk t).1.trans (by simp [e])), fun hm => q2.trans ?_⟩
    have hm' : t ∈ K.map tl := by
      rcases List.mem_append.1 hm with h | h
      · exact h
      · exact absurd (by simpa using h) e
    rw [(hk t).2 hm', List.idxOf_append, if_pos hm']
theorem FstM.again {W : World} {b n : Nat} {K : TL} (h : FstM W b K n) {s : ByteArray} (hs : s ∈ K) : FstM W b (K ++ [s]) n := by
  obtain ⟨D, hD, hk⟩ := h
  have hs' : tl s ∈ K.map tl := mem_tls.2 hs
  refine ⟨D, hD, fun t => ?_⟩
  rw [List.map_append, List.map_cons, List.map_nil]
  have hiff : t ∈ K.map tl ++ [tl s] ↔ t ∈ K.map tl := by
    rw [List.mem_append, List.mem_singleton]
    exact ⟨fun h => h.elim id (fun e => e ▸ hs'), .inl⟩
  refine ⟨(hk t).1.trans ?_, fun hm => ?_⟩
  · rw [Bool.eq_iff_iff, decide_eq_true_iff, decide_eq_true_iff]
    exact hiff.symm
  · rw [(hk t).2 (hiff.1 hm), List.idxOf_append, if_pos (hiff.1 hm)]
set_option maxRecDepth 100000 in
set_option maxHeartbeats 4000000 in
theorem first_any (v : Value) (L : SL) (w : World) (h : Sgs w v L) (hl : L.length ≤ 1000000) (hs : ∀ p ∈ L, p.1.size ≤ maxLen) : Calls Tryz.prog 47 #[v] w fun e w' => e = .returned (.map (some w.heap.size)) ∧ FstM w' w.heap.size (L.map Prod.fst) L.length ∧ Below w.heap.size w w' := by
  obtain ⟨a, cap, rfl, hc, hm, hx⟩ := sgs_at h
  have HX := Lib.hid hx
  clear hx h
  unfold maxLen at hm
  obtain ⟨n, hn⟩ : ∃ n, Hid (L.length = n) := ⟨_, Lib.hid rfl⟩
  rw [hn.out] at hc hl ⊢
  have Hs := Lib.hid hs
  clear hs
  obtain ⟨m, hmm⟩ : ∃ m, Hid (w.heap.size = m) := ⟨_, Lib.hid rfl⟩
  obtain ⟨W2, hW2⟩ : ∃ W2, Hid (w.alloc (.map #[] 0) = W2) := ⟨_, Lib.hid rfl⟩
  have hmk : (Instr.makeMap 75 none).run Tryz.prog w = .ok (.map (some m)) W2 := by rw [← hW2.out, ← hmm.out]; rfl
  have K2 : Hid (FstM W2 m ((L.take 0).map Prod.fst) 0) := Lib.hid (by
    rw [← hW2.out, ← hmm.out]
    exact FstM.made w)
  have B2 : Hid (Below w.heap.size w W2) := Lib.hid (by rw [← hW2.out]; exact (Below.refl _ w).alloc (Nat.le_refl _) _)
  have hwm : Hid (w.heap.size ≤ m) := Lib.hid (by rw [hmm.out]; exact Nat.le_refl _)
  go_enter Tryz.func47, Tryz.ntmps47
  go_wp2_with fail
  clear hmk hW2
  go_loopw [11] (fun i wr => ∃ k : Nat, k ≤ n ∧ i = .int .i64 k ∧ Hid (FstM wr m ((L.take k).map Prod.fst) k) ∧ Hid (Below w.heap.size w wr)) (fun i _ => n - (intOf i).toNat)
  case atStart => exact ⟨0, Nat.zero_le _, rfl, K2, B2⟩
  case round =>
    obtain ⟨k, hk, rfl, hK, hB⟩ := hrel
    obtain ⟨wo, rfl⟩ : ∃ wo, wo = wr := ⟨wr, rfl⟩
    rcases Nat.lt_or_ge k n with hlt | hlt
    · obtain ⟨p, hp⟩ := get_lt (l := L) (k := k) (by rw [hn.out]; exact hlt)
      obtain ⟨b, off, rfl, e0, e1⟩ := HX.out wo hB.out k p hp
      have hps := Hs.out p (List.mem_of_getElem? hp)
      have hst := Lib.hid (keys_take hp)
      have hkl : Hid (((L.take k).map Prod.fst).length = k) := Lib.hid (by rw [List.length_map, List.length_take, hn.out]; omega)
      have d1 : decide (k < n) = true := decide_eq_true hlt
      have d2 : (0 : Int) ≤ (k : Int) := by omega
      have d3 : (k : Int) < (n : Int) := by omega
      clear hp
      obtain ⟨W3, hW3⟩ : ∃ W3, Hid (wo.alloc (.cells #[.string p.1, .string p.2] 49) = W3) := ⟨_, Lib.hid rfl⟩
      have hK3 : FstM W3 m ((L.take k).map Prod.fst) k := by rw [← hW3.out]; exact hK.out.same (Below.heap_alloc wo _ m hK.out.lt)
      have B3 : Hid (Below w.heap.size w W3) := Lib.hid (by rw [← hW3.out]; exact hB.out.alloc hB.out.size _)
      have c0 : W3.cell? ⟨wo.heap.size, 0, none⟩ = some (.string p.1) := by rw [← hW3.out]; exact (RowAt.new wo 49 _).cell rfl
      obtain ⟨c, d, hlook, hd, hc2⟩ := hK3.look p.1 hps
      have Hd := Lib.hid hd
      have HK3 := Lib.hid hK3
      clear hd hc2 hK3
      cases d with
      | true =>
        have HK4 : Hid (FstM W3 m ((L.take (k + 1)).map Prod.fst) (k + 1)) := Lib.hid (by
          rw [hst.out]
          exact (HK3.out.again (Hd.out.1 rfl)).mono (by omega))
        go_wp2_with (rw [hW3.out])
        exact ⟨⟨k + 1, by omega, by go_num, HK4, B3⟩, by simp [intOf]; omega⟩
      | false =>
        obtain ⟨W4, hput, hK4, hg4⟩ := HK3.out.put p.1 hps (fun h => by have := Hd.out.2 h; cases this) (by omega) (by rw [hkl.out]; omega)
        rw [hkl.out] at hput
        have HK4 : Hid (FstM W4 m ((L.take (k + 1)).map Prod.fst) (k + 1)) := Lib.hid (by
          rw [hst.out]
          exact hK4)
        have B4 : Hid (Below w.heap.size w W4) := Lib.hid (B3.out.grown hg4 B3.out.size (fun q e => by injection e with e; rw [← e]; exact hwm.out))
        clear hK4 hg4
        go_wp2_with (rw [hW3.out])
        exact ⟨⟨k + 1, by omega, by go_num, HK4, B4⟩, by simp [intOf]; omega⟩
    · have d1 : decide (k < n) = false := decide_eq_false (by omega)
      obtain rfl : k = n := by omega
      have h := hK.out
      rw [List.take_of_length_le (by rw [hn.out]; exact Nat.le_refl _)] at h
      have hf := Lib.hid h
      clear h
      go_wp2_with fail
      go_ret
      exact ⟨by rw [hmm.out]; rfl, by rw [hmm.out]; exact hf.out, hB.out⟩
end Go.Proofs.YtfjmhnnjgjcmeaaGreatDoor
