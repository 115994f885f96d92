/-
  For the laws of cells: the first of each key; sets of keys. Condition: at most 1,000,000 keys, each no longer than any text may be.
-/
import Derived.Test.YtfjmhnnjgjcmeaaGreatDoorWC
import Derived.Maps.OwnSet
namespace Go.Proofs.YtfjmhnnjgjcmeaaGreatDoor
open Go.RowKit Go.Shelf Go.Maps Go.WideMaps
set_option linter.unusedSimpArgs false
set_option linter.unusedVariables false

theorem any_mem (s : ByteArray) (xs : TL) : xs.any (fun x => decide (x = s)) = true ↔ s ∈ xs := by
  rw [List.any_eq_true]
  constructor
  · rintro ⟨x, hx, h⟩
    rw [decide_eq_true_iff] at h
    exact h ▸ hx
  · exact fun h => ⟨s, h, decide_eq_true rfl⟩
instance memDec (s : ByteArray) (xs : TL) : Decidable (s ∈ xs) := decidable_of_iff _ (any_mem s xs)
theorem law9s : Keyed Tryz.prog 9 := L.law9
def uq (L : TL) (s : ByteArray) : TL := if s ∈ L then L else L ++ [s]
/-- The first of each. -/
def uniqT (l : TL) : TL := l.foldl uq []
theorem uniq_take {l : TL} {k : Nat} {s : ByteArray} (h : l[k]? = some s) : uniqT (l.take (k + 1)) = uq (uniqT (l.take k)) s := by
  unfold uniqT
  rw [List.take_add_one, h, List.foldl_append]
  rfl
theorem uniq_len (l : TL) : (uniqT l).length ≤ l.length := by
  have : ∀ (l L : TL), (l.foldl uq L).length ≤ L.length + l.length := by
    intro l
    induction l with
    | nil => intro L; simp
    | cons s l ih =>
      intro L
      have h := ih (uq L s)
      have h2 : (uq L s).length ≤ L.length + 1 := by unfold uq; split <;> simp
      simp only [List.foldl_cons, List.length_cons]
      omega
  simpa [uniqT] using this l []
set_option maxRecDepth 100000 in
set_option maxHeartbeats 2000000 in
theorem has_any (v : Value) (xs : TL) (s : ByteArray) (w : World) (h : L.Vals w v (xs.map .string)) : Calls Tryz.prog 50 #[v, .string s] w fun e w' => e = .returned (.bool (decide (s ∈ xs))) ∧ w' = w := by
  obtain ⟨a, cap, rfl, hc, hm, hat⟩ := h.at
  rw [List.length_map] at hc ⊢
  unfold maxLen at hm
  obtain ⟨n, hn⟩ : ∃ n, Hid (xs.length = n) := ⟨_, Lib.hid rfl⟩
  obtain ⟨d, hd⟩ : ∃ d, Hid (decide (s ∈ xs) = d) := ⟨_, Lib.hid rfl⟩
  rw [hn.out] at hc ⊢
  rw [hd.out]
  have Hat := Lib.hid hat
  clear hat h
  go_enter Tryz.func50, Tryz.ntmps50
  go_wp2_with fail
  go_loop [5] (fun i => ∃ k : Nat, k ≤ n ∧ i = .int .i64 k ∧ Hid (s ∉ xs.take k)) (fun i => n + 1 - (intOf i).toNat)
  case atStart => exact ⟨0, Nat.zero_le _, rfl, Lib.hid (by simp)⟩
  case round =>
    obtain ⟨k, hk, rfl, hno⟩ := hrel
    rcases Nat.lt_or_ge k n with hlt | hlt
    · obtain ⟨x, hx⟩ := get_lt (l := xs) (k := k) (by rw [hn.out]; exact hlt)
      obtain ⟨b, off, rfl, -, e1⟩ := Hat.out k (.string x) (by rw [List.getElem?_map, hx]; rfl)
      have d1 : decide ((k : Int) < (n : Int)) = true := decide_eq_true (by omega)
      have d2 : (0 : Int) ≤ (k : Int) := by omega
      have d3 : (k : Int) < (n : Int) := by omega
      by_cases hxs : x = s
      · have q : (x.toList == s.toList) = true := by rw [eqB]; exact decide_eq_true hxs
        have hdd : Hid (d = true) := Lib.hid (by rw [← hd.out]; exact decide_eq_true (hxs ▸ List.mem_of_getElem? hx))
        clear hx hxs
        go_wp2_with fail
        go_ret
        exact ⟨by rw [hdd.out]; rfl, rfl⟩
      · have q : (x.toList == s.toList) = false := by rw [eqB]; exact decide_eq_false hxs
        have hno2 : Hid (s ∉ xs.take (k + 1)) := Lib.hid (by
          rw [List.take_add_one, hx]
          intro hm
          rcases List.mem_append.1 hm with hm | hm
          · exact hno.out hm
          · exact hxs (Eq.symm (by simpa using hm)))
        clear hx hxs
        go_wp2_with fail
        go_round
        case rel => exact ⟨k + 1, by omega, by go_num, hno2⟩
        case measure => simp [intOf]; omega
    · have d1 : decide ((k : Int) < (n : Int)) = false := decide_eq_false (by omega)
      have hdd : Hid (d = false) := Lib.hid (by
        rw [← hd.out]
        have h := hno.out
        rw [List.take_of_length_le (by rw [hn.out]; exact hlt)] at h
        exact decide_eq_false h)
      go_wp2_with fail
      go_ret
      exact ⟨by rw [hdd.out]; rfl, rfl⟩
set_option maxRecDepth 100000 in
set_option maxHeartbeats 4000000 in
theorem RefOnce_any (v : Value) (xs : TL) (w : World) (h : L.Vals w v (xs.map .string)) (hl : xs.length ≤ 1000000) : Calls Tryz.prog 52 #[v] w fun e w' => ∃ v', e = .returned v' ∧ w'.ownsRow w.heap.size 9 1 v' (uniqT xs).length ((uniqT xs).map .string) ∧ Below w.heap.size w w' := by
  obtain ⟨i0, hi, hz0, hz1, hz2⟩ := info_parts S.try_info9
  obtain ⟨a, cap, rfl, hc, hm, hat⟩ := h.at
  rw [List.length_map] at hc ⊢
  unfold maxLen at hm
  obtain ⟨n, hn⟩ : ∃ n, Hid (xs.length = n) := ⟨_, Lib.hid rfl⟩
  rw [hn.out] at hc hl ⊢
  have Hat := Lib.hid hat
  clear hat h
  go_enter Tryz.func52, Tryz.ntmps52
  go_wp2_with fail
  go_loopw [3, 4] (fun o i wr => ∃ k : Nat, k ≤ n ∧ i = .int .i64 k ∧ Hid (wr.ownsRow w.heap.size 9 1 o (uniqT (xs.take k)).length ((uniqT (xs.take k)).map .string)) ∧ Hid (Below w.heap.size w wr)) (fun _ i _ => n - (intOf i).toNat)
  case atStart => exact ⟨0, Nat.zero_le _, rfl, Lib.hid (World.ownsRow_nil _ _ _ _), Lib.hid (Below.refl _ _)⟩
  case round =>
    obtain ⟨k, hk, rfl, hO, hB⟩ := hrel
    rcases Nat.lt_or_ge k n with hlt | hlt
    · obtain ⟨x, hx⟩ := get_lt (l := xs) (k := k) (by rw [hn.out]; exact hlt)
      obtain ⟨b, off, rfl, hbl, e0⟩ := Hat.out k (.string x) (by rw [List.getElem?_map, hx]; rfl)
      have e1 : wr.cell? ⟨b, off + k, none⟩ = some (.string x) := (hB.out.cell (p := ⟨b, off + k, none⟩) hbl).trans e0
      have hst := Lib.hid (uniq_take hx)
      have d1 : decide ((k : Int) < (n : Int)) = true := decide_eq_true (by omega)
      have d2 : (0 : Int) ≤ (k : Int) := by omega
      have d3 : (k : Int) < (n : Int) := by omega
      have hul : (uniqT (xs.take k)).length ≤ 1000000 := by
        have h := uniq_len (xs.take k)
        rw [List.length_take, hn.out] at h
        omega
      clear hx e0
      obtain ⟨U, hU⟩ : ∃ U, Hid (uniqT (xs.take k) = U) := ⟨_, Lib.hid rfl⟩
      rw [hU.out] at hO hst hul
      have CH := Lib.hid (has_any _ U x wr (L.own_vals hO.out))
      obtain ⟨ao, co, rfl⟩ := own_form hO.out
      obtain ⟨nu, hnu⟩ : ∃ n, Hid (U.length = n) := ⟨_, Lib.hid rfl⟩
      rw [hnu.out] at hO hul CH ⊢
      obtain ⟨d, hd⟩ : ∃ d, Hid (decide (x ∈ U) = d) := ⟨_, Lib.hid rfl⟩
      rw [hd.out] at CH
      go_wp2_with fail
      refine CH.out.mono ?_
      rintro e w2 ⟨rfl, rfl⟩
      cases d with
      | true =>
        have hf : Hid (w2.ownsRow w.heap.size 9 1 (.slice ao nu co) (uniqT (xs.take (k + 1))).length ((uniqT (xs.take (k + 1))).map .string)) := Lib.hid (by
          rw [hst.out]
          unfold uq
          rw [if_pos (of_decide_eq_true hd.out), hnu.out]
          exact hO.out)
        go_wp2_with fail
        exact ⟨⟨k + 1, by omega, by go_num, hf, hB⟩, by simp [intOf]; omega⟩
      | false =>
        go_wp2_with (at_builtin; refine wpList_append_own _ rfl _ _ 27 rfl w.heap.size 9 i0 (.string ⟨#[]⟩) 1 16 Tryz.underlying27 hi hz0 hz1 hz2 rfl (by decide) _ _ _ rfl (hO.out.alloc _) ⟨w2.heap.size, 0, none⟩ 1 1 [.string x] rfl rfl (S.cell_one_new _ _ _) (by simp [Value.oneCell']) (by unfold maxLen; omega) (by omega) (by have := hB.out.size; simp; omega) ?_; intro v' w3 hown' hgrow _)
        have hf : Hid (w3.ownsRow w.heap.size 9 1 v' (uniqT (xs.take (k + 1))).length ((uniqT (xs.take (k + 1))).map .string)) := Lib.hid (by
          rw [hst.out]
          unfold uq
          rw [if_neg (of_decide_eq_false hd.out), List.length_append, List.map_append, hnu.out]
          exact hown')
        have hb := Lib.hid (S.below_appended hB.out hO.out hgrow)
        clear hown' hgrow
        exact ⟨⟨k + 1, by omega, by go_num, hf, hb⟩, by simp [intOf]; omega⟩
    · have d1 : decide ((k : Int) < (n : Int)) = false := decide_eq_false (by omega)
      have h := hO.out
      rw [List.take_of_length_le (by rw [hn.out]; exact hlt)] at h
      have hf := Lib.hid h
      clear h
      go_wp2_with fail
      go_ret
      exact ⟨_, rfl, hf.out, hB.out⟩

/-- How the element of a set reads. -/
def unitElem (v : Value) : Option (DataW Unit × List MemPlace) := match v with
  | .agg xs => if xs.size = 0 then some (.agg [], []) else none
  | _ => none
theorem unitElem_inv {v : Value} {z : DataW Unit × List MemPlace} (h : unitElem v = some z) : v = .agg #[] := by
  unfold unitElem at h
  split at h
  · split at h
    · rename_i xs hx
      rw [Array.size_eq_zero_iff.1 hx]
    · cases h
  · cases h
/-- Block b is a set that holds the texts L. -/
def KnownS (W : World) (b : Nat) (L : List (List UInt8)) (n : Nat) : Prop :=
  ∃ D : DataW Unit, W.ownsMap Tryz.prog 9 unitElem b n D ∧ ∀ s : List UInt8, Maps.has D (.string s) = decide (s ∈ L)
theorem KnownS.made (W : World) : KnownS (W.alloc (.map #[] 0)) W.heap.size [] 0 :=
  ⟨.map [], World.ownsMap_made W Tryz.prog 9 _, fun s => by simp [Maps.has]⟩
theorem KnownS.lt {W : World} {b n : Nat} {L : List (List UInt8)} (h : KnownS W b L n) : b < W.heap.size := by
  obtain ⟨D, h, _⟩ := h
  exact h.lt
theorem KnownS.same {W W' : World} {b n : Nat} {L : List (List UInt8)} (h : KnownS W b L n) (hb : W'.heap[b]? = W.heap[b]?) : KnownS W' b L n := by
  obtain ⟨D, ⟨es, cl, h1, h2⟩, hk⟩ := h
  exact ⟨D, ⟨es, cl, hb.trans h1, h2⟩, hk⟩
theorem KnownS.mono {W : World} {b n m : Nat} {L : List (List UInt8)} (h : KnownS W b L n) (hm : n ≤ m) : KnownS W b L m := by
  obtain ⟨D, ⟨es, cl, h1, h2, h3, h4⟩, hk⟩ := h
  exact ⟨D, ⟨es, cl, h1, h2, Nat.le_trans h3 hm, h4⟩, hk⟩
theorem zero116 (W : World) : (zeroValue 116).run Tryz.prog W = .ok (.agg #[]) W := by kernel_rfl
theorem KnownS.look {W : World} {b n : Nat} {L : List (List UInt8)} (h : KnownS W b L n) (s : ByteArray) (hs : s.size ≤ maxLen) :
    (Instr.lookup 88 (.map (some b)) (.string s) true).run Tryz.prog W = .ok (.tuple #[.agg #[], .bool (decide (tl s ∈ L))]) W := by
  obtain ⟨D, hD, hk⟩ := h
  obtain ⟨v, ps, hrun, hv⟩ := hD.look_ok law9s Tryz.underlying88 (zero116 W) (show unitElem (.agg #[]) = some (.agg [], []) from rfl) (keyOf_string_mk Tryz.underlying9 hs)
  rw [hrun, unitElem_inv hv, hk]
theorem KnownS.put {W : World} {b n : Nat} {L : List (List UInt8)} (h : KnownS W b L n) (s : ByteArray) (hs : s.size ≤ maxLen) (hl : n < 1000000000000) :
    ∃ W', (Instr.mapUpdate 88 (.map (some b)) (.string s) (.agg #[])).run Tryz.prog W = .ok () W' ∧ KnownS W' b (L ++ [tl s]) (n + 1) ∧ W.grownBy W' (some b) := by
  obtain ⟨D, hD, hk⟩ := h
  have hkey := keyOf_string_mk (k := 9) Tryz.underlying9 hs
  obtain ⟨W', hrun, hown, hg⟩ := hD.update law9s Tryz.underlying88 (by unfold maxLen; omega) hkey (show unitElem (.agg #[]) = some (.agg [], []) from rfl)
  refine ⟨W', hrun, ⟨_, hown, fun t => ?_⟩, hg⟩
  by_cases e : t = tl s
  · subst e
    rw [has_put_same hD.isMap (law9s.key hkey)]
    simp
  · have hne : Lit.string t ≠ Lit.string (tl s) := by
      intro h
      injection h with h
      exact e h
    rw [has_put_other hne, hk t]
    simp [e]
end Go.Proofs.YtfjmhnnjgjcmeaaGreatDoor
