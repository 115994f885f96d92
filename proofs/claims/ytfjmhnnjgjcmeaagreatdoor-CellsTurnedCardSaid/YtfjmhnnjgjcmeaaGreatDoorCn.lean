/-
  For the laws of cells: rows of segments, as they lie; their keys, by the program and by the document; the text of a key, by the document. Condition: at most 1,000,000 segments.
-/
import Derived.Test.YtfjmhnnjgjcmeaaGreatDoorCm
namespace Go.Proofs.YtfjmhnnjgjcmeaaGreatDoor
open Go.RowKit Go.Shelf Go.Maps Go.WideMaps
set_option linter.unusedSimpArgs false
set_option linter.unusedVariables false

abbrev SL := List (ByteArray × ByteArray)
def rowS (s : ByteArray × ByteArray) : List Value := [.string s.1, .string s.2]
/-- The value v is a slice that reads as the segments L: keys and texts. -/
def Sgs (W : World) (v : Value) (L : SL) : Prop :=
  ∃ (a : Option Addr) (cap : Nat), v = .slice a L.length cap ∧ L.length ≤ cap ∧ cap ≤ maxLen ∧ ∀ k (p : ByteArray × ByteArray), L[k]? = some p → ∃ b off, a = some ⟨b, off, none⟩ ∧ b < W.heap.size ∧ W.cell? ⟨b, off + k * 2, none⟩ = some (.string p.1) ∧ W.cell? ⟨b, off + k * 2 + 1, none⟩ = some (.string p.2)
theorem Sgs.below {W W' : World} {v : Value} {L : SL} (h : Sgs W v L) (hb : Below W.heap.size W W') : Sgs W' v L := by
  obtain ⟨a, cap, rfl, hc, hm, hx⟩ := h
  refine ⟨a, cap, rfl, hc, hm, fun k x hk => ?_⟩
  obtain ⟨b, off, rfl, hl, h1, h2⟩ := hx k x hk
  exact ⟨b, off, rfl, by have := hb.size; omega, (hb.cell (p := ⟨b, off + k * 2, none⟩) hl).trans h1, (hb.cell (p := ⟨b, off + k * 2 + 1, none⟩) hl).trans h2⟩
def sv (L : SL) : List Value := L.flatMap rowS
theorem sv_len (L : SL) : (sv L).length = L.length * 2 := by
  unfold sv
  induction L with
  | nil => rfl
  | cons x L ih => rw [List.flatMap_cons, List.length_append, ih, List.length_cons]; simp [rowS]; omega
theorem sv_append (A B : SL) : sv (A ++ B) = sv A ++ sv B := by unfold sv; rw [List.flatMap_append]
theorem sv_get {L : SL} {k : Nat} {x : ByteArray × ByteArray} (h : L[k]? = some x) : (sv L)[k * 2]? = some (.string x.1) ∧ (sv L)[k * 2 + 1]? = some (.string x.2) := by
  have e : L = L.take k ++ x :: L.drop (k + 1) := by
    rw [← drop_at h, List.take_append_drop]
  have hl : (sv (L.take k)).length = k * 2 := by
    rw [sv_len, List.length_take, Nat.min_eq_left (Nat.le_of_lt (List.getElem?_eq_some_iff.1 h).1)]
  have e2 : sv L = sv (L.take k) ++ (rowS x ++ sv (L.drop (k + 1))) := by
    conv => lhs; rw [e]
    unfold sv
    rw [List.flatMap_append, List.flatMap_cons]
  rw [e2]
  refine ⟨?_, ?_⟩
  · rw [List.getElem?_append_right (by omega), hl, Nat.sub_self]; rfl
  · rw [List.getElem?_append_right (by omega), hl, Nat.add_sub_cancel_left]; rfl
theorem own_sgs {W : World} {base n : Nat} {v : Value} {L : SL} (h : W.ownsRow base 49 2 v n (sv L)) : Sgs W v L := by
  have hl := h.1
  rw [sv_len] at hl
  obtain rfl : n = L.length := by omega
  rcases h.2 with ⟨rfl, h0⟩ | ⟨g, cap, cur, rfl, _, hg, h1, h2, h3, h4⟩
  · obtain rfl : L = [] := List.eq_nil_of_length_eq_zero h0
    exact ⟨none, 0, rfl, Nat.le_refl _, Nat.zero_le _, by simp⟩
  · refine ⟨_, cap, rfl, h1, h2, fun k x hk => ⟨g, 0, rfl, (Array.getElem?_eq_some_iff.1 hg).1, ?_⟩⟩
    have hkl := (List.getElem?_eq_some_iff.1 hk).1
    obtain ⟨g1, g2⟩ := sv_get hk
    rw [Nat.zero_add]
    refine ⟨?_, ?_⟩
    · rw [← g1, ← h4, List.getElem?_take_of_lt (by omega)]
      simp [World.cell?, hg]
    · rw [← g2, ← h4, List.getElem?_take_of_lt (by omega)]
      simp [World.cell?, hg]
theorem sgs_nil (W : World) : Sgs W (.slice none 0 0) [] := ⟨none, 0, rfl, Nat.le_refl _, Nat.zero_le _, by simp⟩
theorem sgs_at {w : World} {v : Value} {L : SL} (h : Sgs w v L) : ∃ (a : Option Addr) (cap : Nat), v = .slice a L.length cap ∧ L.length ≤ cap ∧ cap ≤ maxLen ∧ ∀ (wr : World), Below w.heap.size w wr → ∀ (k : Nat) (p : ByteArray × ByteArray), L[k]? = some p → ∃ b off, a = some ⟨b, off, none⟩ ∧ wr.cell? ⟨b, off + k * 2, none⟩ = some (.string p.1) ∧ wr.cell? ⟨b, off + k * 2 + 1, none⟩ = some (.string p.2) := by
  obtain ⟨a, cap, rfl, hc, hm, hx⟩ := h
  refine ⟨a, cap, rfl, hc, hm, fun wr hB k p hk => ?_⟩
  obtain ⟨b, off, rfl, hl, h1, h2⟩ := hx k p hk
  exact ⟨b, off, rfl, (hB.cell (p := ⟨b, off + k * 2, none⟩) hl).trans h1, (hB.cell (p := ⟨b, off + k * 2 + 1, none⟩) hl).trans h2⟩
theorem keys_take {L : SL} {k : Nat} {p : ByteArray × ByteArray} (h : L[k]? = some p) : (L.take (k + 1)).map Prod.fst = (L.take k).map Prod.fst ++ [p.1] := by
  rw [List.take_add_one, h, List.map_append]
  rfl
set_option maxRecDepth 100000 in
set_option maxHeartbeats 4000000 in
theorem RefKeys_any (v : Value) (L : SL) (w : World) (h : Sgs w v L) (hl : L.length ≤ 1000000) : Calls Tryz.prog 49 #[v] w fun e w' => ∃ v', e = .returned v' ∧ w'.ownsRow w.heap.size 9 1 v' L.length ((L.map Prod.fst).map .string) ∧ Below w.heap.size w w' := by
  obtain ⟨i0, hi, hz0, hz1, hz2⟩ := info_parts S.try_info9
  obtain ⟨a, cap, rfl, hc, hm, hx⟩ := sgs_at h
  have HX := Lib.hid hx
  clear hx h
  unfold maxLen at hm
  obtain ⟨n, hn⟩ : ∃ n, Hid (L.length = n) := ⟨_, Lib.hid rfl⟩
  rw [hn.out] at hc hl ⊢
  go_enter Tryz.func49, Tryz.ntmps49
  go_wp2_with fail
  go_loopw [3, 4] (fun o i wr => ∃ k : Nat, k ≤ n ∧ i = .int .i64 k ∧ Hid (wr.ownsRow w.heap.size 9 1 o k (((L.take k).map Prod.fst).map .string)) ∧ Hid (Below w.heap.size w wr)) (fun _ i _ => n - (intOf i).toNat)
  case atStart => exact ⟨0, Nat.zero_le _, rfl, Lib.hid (World.ownsRow_nil _ _ _ _), Lib.hid (Below.refl _ _)⟩
  case round =>
    obtain ⟨k, hk, rfl, hO, hB⟩ := hrel
    rcases Nat.lt_or_ge k n with hlt | hlt
    · obtain ⟨p, hp⟩ := get_lt (l := L) (k := k) (by rw [hn.out]; exact hlt)
      obtain ⟨b, off, rfl, e0, e1⟩ := HX.out wr hB.out k p hp
      have hst := Lib.hid (keys_take hp)
      have d1 : decide (k < n) = true := decide_eq_true hlt
      have d2 : (0 : Int) ≤ (k : Int) := by omega
      have d3 : (k : Int) < (n : Int) := by omega
      clear hp
      obtain ⟨ao, co, rfl⟩ := own_form hO.out
      go_wp2_with (at_builtin; refine wpList_append_own _ rfl _ _ 27 rfl w.heap.size 9 i0 (.string ⟨#[]⟩) 1 16 Tryz.underlying27 hi hz0 hz1 hz2 rfl (by decide) _ _ _ rfl (hO.out.alloc _) ⟨wr.heap.size, 0, none⟩ 1 1 [.string p.1] rfl rfl (S.cell_one_new _ _ _) (by simp [Value.oneCell']) (by unfold maxLen; omega) (by omega) (by have := hB.out.size; simp; omega) ?_; intro v' w5 hown' hgrow _)
      have hf : Hid (w5.ownsRow w.heap.size 9 1 v' (k + 1) (((L.take (k + 1)).map Prod.fst).map .string)) := Lib.hid (by
        rw [hst.out, List.map_append]
        exact hown')
      have hb := Lib.hid (S.below_appended hB.out hO.out hgrow)
      clear hown' hgrow
      go_wp2_with fail
      exact ⟨⟨k + 1, by omega, by go_num, hf, hb⟩, by simp [intOf]; omega⟩
    · have d1 : decide (k < n) = false := decide_eq_false (by omega)
      obtain rfl : k = n := by omega
      have h := hO.out
      rw [List.take_of_length_le (by rw [hn.out]; exact Nat.le_refl _)] at h
      have hf := Lib.hid h
      clear h
      go_wp2_with fail
      go_ret
      exact ⟨_, rfl, hf.out, hB.out⟩
set_option maxRecDepth 100000 in
set_option maxHeartbeats 4000000 in
theorem keys_any (v : Value) (L : SL) (w : World) (h : Sgs w v L) (hl : L.length ≤ 1000000) : Calls Tryz.prog 46 #[v] w fun e w' => ∃ v', e = .returned v' ∧ w'.ownsRow w.heap.size 9 1 v' L.length ((L.map Prod.fst).map .string) ∧ Below w.heap.size w w' := by
  obtain ⟨i0, hi, hz0, hz1, hz2⟩ := info_parts S.try_info9
  obtain ⟨a, cap, rfl, hc, hm, hx⟩ := sgs_at h
  have HX := Lib.hid hx
  clear hx h
  unfold maxLen at hm
  obtain ⟨n, hn⟩ : ∃ n, Hid (L.length = n) := ⟨_, Lib.hid rfl⟩
  rw [hn.out] at hc hl ⊢
  go_enter Tryz.func46, Tryz.ntmps46
  go_wp2_with fail
  go_loopw [3, 8] (fun o i wr => ∃ k : Nat, k ≤ n ∧ i = .int .i64 k ∧ Hid (wr.ownsRow w.heap.size 9 1 o k (((L.take k).map Prod.fst).map .string)) ∧ Hid (Below w.heap.size w wr)) (fun _ i _ => n - (intOf i).toNat)
  case atStart => exact ⟨0, Nat.zero_le _, rfl, Lib.hid (World.ownsRow_nil _ _ _ _), Lib.hid (Below.refl _ _)⟩
  case round =>
    obtain ⟨k, hk, rfl, hO, hB⟩ := hrel
    rcases Nat.lt_or_ge k n with hlt | hlt
    · obtain ⟨p, hp⟩ := get_lt (l := L) (k := k) (by rw [hn.out]; exact hlt)
      obtain ⟨b, off, rfl, e0, e1⟩ := HX.out wr hB.out k p hp
      have hst := Lib.hid (keys_take hp)
      have d1 : decide (k < n) = true := decide_eq_true hlt
      have d2 : (0 : Int) ≤ (k : Int) := by omega
      have d3 : (k : Int) < (n : Int) := by omega
      clear hp
      obtain ⟨ao, co, rfl⟩ := own_form hO.out
      have hB2 := Lib.hid (hB.out.alloc hB.out.size (.cells #[.string p.1, .string p.2] 49))
      have hO2 := Lib.hid (hO.out.alloc (.cells #[.string p.1, .string p.2] 49))
      go_wp2_with (at_builtin; refine wpList_append_own _ rfl _ _ 27 rfl w.heap.size 9 i0 (.string ⟨#[]⟩) 1 16 Tryz.underlying27 hi hz0 hz1 hz2 rfl (by decide) _ _ _ rfl (hO2.out.alloc _) ⟨wr.heap.size + 1, 0, none⟩ 1 1 [.string p.1] rfl rfl (str_new2 wr _ p.1 9) (by simp [Value.oneCell']) (by unfold maxLen; omega) (by omega) (by have := hB.out.size; simp; omega) ?_; intro v' w5 hown' hgrow _)
      have hf : Hid (w5.ownsRow w.heap.size 9 1 v' (k + 1) (((L.take (k + 1)).map Prod.fst).map .string)) := Lib.hid (by
        rw [hst.out, List.map_append]
        exact hown')
      have hb := Lib.hid (S.below_appended hB2.out hO2.out hgrow)
      clear hown' hgrow
      go_wp2_with fail
      exact ⟨⟨k + 1, by omega, by go_num, hf, hb⟩, by simp [intOf]; omega⟩
    · have d1 : decide (k < n) = false := decide_eq_false (by omega)
      obtain rfl : k = n := by omega
      have h := hO.out
      rw [List.take_of_length_le (by rw [hn.out]; exact Nat.le_refl _)] at h
      have hf := Lib.hid h
      clear h
      go_wp2_with fail
      go_ret
      exact ⟨_, rfl, hf.out, hB.out⟩
/-- The text of the first of a key. -/
def getP (L : SL) (s : ByteArray) : ByteArray × Bool := match L.find? (fun p => decide (p.1 = s)) with
  | some p => (p.2, true)
  | none => (⟨#[]⟩, false)
set_option maxRecDepth 100000 in
set_option maxHeartbeats 4000000 in
theorem Get_any (v : Value) (L : SL) (s : ByteArray) (w : World) (h : Sgs w v L) : Calls Tryz.prog 34 #[v, .string s] w fun e w' => e = .returned (.tuple #[.string (getP L s).1, .bool (getP L s).2]) ∧ w' = w := by
  obtain ⟨a, cap, rfl, hc, hm, hx⟩ := sgs_at h
  have HX := Lib.hid hx
  clear hx h
  unfold maxLen at hm
  obtain ⟨n, hn⟩ : ∃ n, Hid (L.length = n) := ⟨_, Lib.hid rfl⟩
  rw [hn.out] at hc ⊢
  obtain ⟨R, hR⟩ : ∃ R, Hid (getP L s = R) := ⟨_, Lib.hid rfl⟩
  rw [hR.out]
  go_enter Tryz.func34, Tryz.ntmps34
  go_wp2_with fail
  go_loop [6] (fun i => ∃ k : Nat, k ≤ n ∧ i = .int .i64 k ∧ Hid (getP L s = getP (L.drop k) s)) (fun i => n + 1 - (intOf i).toNat)
  case atStart => exact ⟨0, Nat.zero_le _, rfl, Lib.hid rfl⟩
  case round =>
    obtain ⟨k, hk, rfl, hno⟩ := hrel
    rcases Nat.lt_or_ge k n with hlt | hlt
    · obtain ⟨p, hp⟩ := get_lt (l := L) (k := k) (by rw [hn.out]; exact hlt)
      obtain ⟨b, off, rfl, e0, e1⟩ := HX.out w (Below.refl _ _) k p hp
      have hdr := drop_at hp
      have d1 : decide (k < n) = true := decide_eq_true hlt
      have d2 : (0 : Int) ≤ (k : Int) := by omega
      have d3 : (k : Int) < (n : Int) := by omega
      by_cases hxs : p.1 = s
      · have q : (p.1.toList == s.toList) = true := by rw [eqB]; exact decide_eq_true hxs
        have hRR : Hid (R = (p.2, true)) := Lib.hid (by
          rw [← hR.out, hno.out, hdr]
          unfold getP
          rw [List.find?_cons_of_pos (by simpa using hxs)])
        clear hp hdr hxs
        go_wp2_with fail
        go_ret2
        exact ⟨by rw [hRR.out]; rfl, rfl⟩
      · have q : (p.1.toList == s.toList) = false := by rw [eqB]; exact decide_eq_false hxs
        have hno2 : Hid (getP L s = getP (L.drop (k + 1)) s) := Lib.hid (by
          rw [hno.out, hdr]
          unfold getP
          rw [List.find?_cons_of_neg (by simpa using hxs)])
        clear hp hdr hxs
        go_wp2_with fail
        go_round
        case rel => exact ⟨k + 1, by omega, by go_num, hno2⟩
        case measure => simp [intOf]; omega
    · have d1 : decide (k < n) = false := decide_eq_false (by omega)
      have hRR : Hid (R = (⟨#[]⟩, false)) := Lib.hid (by
        rw [← hR.out, hno.out, List.drop_eq_nil_of_le (by rw [hn.out]; exact hlt)]
        rfl)
      go_wp2_with fail
      go_ret2
      exact ⟨by rw [hRR.out]; rfl, rfl⟩
end Go.Proofs.YtfjmhnnjgjcmeaaGreatDoor
