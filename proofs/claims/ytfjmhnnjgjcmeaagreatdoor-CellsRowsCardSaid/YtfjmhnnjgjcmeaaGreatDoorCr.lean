/-
  For the laws of cells: whether segments are few and short; the first segment of each key, by the document; whether two rows of segments are the same. Condition: texts no longer than any may be.
-/
import Derived.Test.YtfjmhnnjgjcmeaaGreatDoorCq
namespace Go.Proofs.YtfjmhnnjgjcmeaaGreatDoor
open Go.RowKit Go.Shelf Go.Maps Go.WideMaps
set_option linter.unusedSimpArgs false
set_option linter.unusedVariables false

def fewS (L : SL) : Bool := decide (L.length ≤ 20) && L.all fun p => decide (p.2.size ≤ 120) && decide (p.1.size ≤ 60)
set_option maxRecDepth 100000 in
set_option maxHeartbeats 4000000 in
theorem fewS_any (v : Value) (L : SL) (w : World) (h : Sgs w v L) : Calls Tryz.prog 22 #[v] w fun e w' => e = .returned (.bool (fewS L)) ∧ w' = w := by
  obtain ⟨a, cap, rfl, hc, hm, hx⟩ := sgs_at h
  have HX := Lib.hid hx
  clear hx h
  unfold maxLen at hm
  obtain ⟨n, hn⟩ : ∃ n, Hid (L.length = n) := ⟨_, Lib.hid rfl⟩
  rw [hn.out] at hc ⊢
  obtain ⟨R, hR⟩ : ∃ R, Hid (fewS L = R) := ⟨_, Lib.hid rfl⟩
  rw [hR.out]
  rcases Nat.lt_or_ge 20 n with h20 | h20
  · have d0 : decide ((n : Int) > 20) = true := decide_eq_true (by omega)
    have hRR : Hid (R = false) := Lib.hid (by
      rw [← hR.out]
      unfold fewS
      rw [hn.out, decide_eq_false (by omega)]
      rfl)
    go_enter Tryz.func22, Tryz.ntmps22
    go_wp2_with fail
    go_ret
    exact ⟨by rw [hRR.out]; rfl, rfl⟩
  · have d0 : decide ((n : Int) > 20) = false := decide_eq_false (by omega)
    have hRA : Hid (R = L.all fun p => decide (p.2.size ≤ 120) && decide (p.1.size ≤ 60)) := Lib.hid (by
      rw [← hR.out]
      unfold fewS
      rw [hn.out, decide_eq_true (by omega)]
      rfl)
    go_enter Tryz.func22, Tryz.ntmps22
    go_wp2_with fail
    go_loop [3] (fun i => ∃ k : Nat, k ≤ n ∧ i = .int .i64 k ∧ Hid (∀ p ∈ L.take k, (decide (p.2.size ≤ 120) && decide (p.1.size ≤ 60)) = true)) (fun i => n + 1 - (intOf i).toNat)
    case atStart => exact ⟨0, Nat.zero_le _, rfl, Lib.hid (by simp)⟩
    case round =>
      obtain ⟨k, hk, rfl, hA⟩ := hrel
      rcases Nat.lt_or_ge k n with hlt | hlt
      · obtain ⟨p, hp⟩ := get_lt (l := L) (k := k) (by rw [hn.out]; exact hlt)
        obtain ⟨b, off, rfl, e0, e1⟩ := HX.out w (Below.refl _ _) k p hp
        have d1 : decide (k < n) = true := decide_eq_true hlt
        have d2 : (0 : Int) ≤ (k : Int) := by omega
        have d3 : (k : Int) < (n : Int) := by omega
        have hno : Hid ((decide (p.2.size ≤ 120) && decide (p.1.size ≤ 60)) = false → R = false) := Lib.hid (fun h => by
          rw [hRA.out, List.all_eq_false]
          exact ⟨p, List.mem_of_getElem? hp, by rw [h]; decide⟩)
        have hye : Hid ((decide (p.2.size ≤ 120) && decide (p.1.size ≤ 60)) = true → ∀ q ∈ L.take (k + 1), (decide (q.2.size ≤ 120) && decide (q.1.size ≤ 60)) = true) := Lib.hid (fun h q hq => by
          rw [List.take_add_one, hp] at hq
          rcases List.mem_append.1 hq with hq | hq
          · exact hA.out q hq
          · obtain rfl : q = p := by simpa using hq
            exact h)
        clear hp
        obtain ⟨s2, hs2⟩ : ∃ s, Hid (p.2.size = s) := ⟨_, Lib.hid rfl⟩
        obtain ⟨s1, hs1⟩ : ∃ s, Hid (p.1.size = s) := ⟨_, Lib.hid rfl⟩
        rw [hs1.out, hs2.out] at hno hye
        have t2 : p.2.size = s2 := hs2.out
        have t1 : p.1.size = s1 := hs1.out
        rcases Nat.lt_or_ge 120 s2 with h2 | h2
        · have q2 : decide ((s2 : Int) > 120) = true := decide_eq_true (by omega)
          have hRR : Hid (R = false) := Lib.hid (hno.out (by rw [decide_eq_false (by omega)]; rfl))
          go_wp2_with fail
          go_ret
          exact ⟨by rw [hRR.out]; rfl, rfl⟩
        · have q2 : decide ((s2 : Int) > 120) = false := decide_eq_false (by omega)
          rcases Nat.lt_or_ge 60 s1 with h1 | h1
          · have q1 : decide ((s1 : Int) > 60) = true := decide_eq_true (by omega)
            have hRR : Hid (R = false) := Lib.hid (hno.out (by rw [decide_eq_true (by omega), decide_eq_false (by omega)]; rfl))
            go_wp2_with fail
            go_ret
            exact ⟨by rw [hRR.out]; rfl, rfl⟩
          · have q1 : decide ((s1 : Int) > 60) = false := decide_eq_false (by omega)
            have hA2 := Lib.hid (hye.out (by rw [decide_eq_true (by omega), decide_eq_true (by omega)]; rfl))
            go_wp2_with fail
            go_round
            case rel => exact ⟨k + 1, by omega, by go_num, hA2⟩
            case measure => simp [intOf]; omega
      · have d1 : decide (k < n) = false := decide_eq_false (by omega)
        have hRR : Hid (R = true) := Lib.hid (by
          have h := hA.out
          rw [List.take_of_length_le (by rw [hn.out]; exact hlt)] at h
          rw [hRA.out, List.all_eq_true]
          exact h)
        go_wp2_with fail
        go_ret
        exact ⟨by rw [hRR.out]; rfl, rfl⟩
theorem take_eq_stepG {A B : SL} {k : Nat} {x y : ByteArray × ByteArray} (hx : A[k]? = some x) (hy : B[k]? = some y) : A.take (k + 1) = B.take (k + 1) ↔ (A.take k = B.take k ∧ x = y) := by
  have la := (List.getElem?_eq_some_iff.1 hx).1
  have lb := (List.getElem?_eq_some_iff.1 hy).1
  rw [List.take_add_one, List.take_add_one, hx, hy]
  constructor
  · intro h
    have h2 := List.append_inj h (by rw [List.length_take, List.length_take]; omega)
    exact ⟨h2.1, by simpa using h2.2⟩
  · rintro ⟨h1, h2⟩
    rw [h1, h2]
set_option maxRecDepth 100000 in
set_option maxHeartbeats 4000000 in
theorem SegSame_any (v1 v2 : Value) (A B : SL) (w : World) (h1 : Sgs w v1 A) (h2 : Sgs w v2 B) (z1 : ∀ p ∈ A, p.1.size ≤ maxLen ∧ p.2.size ≤ maxLen) (z2 : ∀ p ∈ B, p.1.size ≤ maxLen ∧ p.2.size ≤ maxLen) :
    Calls Tryz.prog 27 #[v1, v2] w fun e w' => e = .returned (.bool (decide (A = B))) ∧ ∃ q, w' = w.drewN q := by
  obtain ⟨a1, c1, rfl, hc1, hm1, hat1⟩ := sgs_at h1
  obtain ⟨a2, c2, rfl, hc2, hm2, hat2⟩ := sgs_at h2
  unfold maxLen at hm1 hm2
  obtain ⟨n, hn⟩ : ∃ n, Hid (A.length = n) := ⟨_, Lib.hid rfl⟩
  obtain ⟨m, hm⟩ : ∃ n, Hid (B.length = n) := ⟨_, Lib.hid rfl⟩
  obtain ⟨d, hd⟩ : ∃ d, Hid (decide (A = B) = d) := ⟨_, Lib.hid rfl⟩
  rw [hd.out]
  rw [hn.out] at hc1 ⊢
  rw [hm.out] at hc2 ⊢
  have Hat1 := Lib.hid hat1
  have Hat2 := Lib.hid hat2
  have Z1 := Lib.hid z1
  have Z2 := Lib.hid z2
  clear hat1 hat2 h1 h2 z1 z2
  by_cases hnm : n = m
  · subst hnm
    have d0 : ((n : Int) != (n : Int)) = false := by simp
    go_enter Tryz.func27, Tryz.ntmps27
    go_wp2_with fail
    go_loopw [5] (fun i wr => ∃ k : Nat, k ≤ n ∧ i = .int .i64 k ∧ Hid (A.take k = B.take k) ∧ ∃ q, Hid (wr = w.drewN q)) (fun i _ => n + 1 - (intOf i).toNat)
    case atStart => exact ⟨0, Nat.zero_le _, rfl, Lib.hid rfl, 0, Lib.hid rfl⟩
    case round =>
      obtain ⟨k, hk, rfl, hE, q, hq⟩ := hrel
      rcases Nat.lt_or_ge k n with hlt | hlt
      · obtain ⟨x, hx⟩ := get_lt (l := A) (k := k) (by rw [hn.out]; exact hlt)
        obtain ⟨y, hy⟩ := get_lt (l := B) (k := k) (by rw [hm.out]; exact hlt)
        obtain ⟨b1, o1, rfl, e1, g1⟩ := Hat1.out (w.drewN q) (below_draws (Below.refl _ _) q) k x hx
        obtain ⟨b2, o2, rfl, e2, g2⟩ := Hat2.out (w.drewN q) (below_draws (Below.refl _ _) q) k y hy
        have f1 : wr.cell? ⟨b1, o1 + k * 2, none⟩ = some (.string x.1) := by rw [hq.out]; exact e1
        have f1' : wr.cell? ⟨b1, o1 + k * 2 + 1, none⟩ = some (.string x.2) := by rw [hq.out]; exact g1
        have f2 : wr.cell? ⟨b2, o2 + k * 2, none⟩ = some (.string y.1) := by rw [hq.out]; exact e2
        have f2' : wr.cell? ⟨b2, o2 + k * 2 + 1, none⟩ = some (.string y.2) := by rw [hq.out]; exact g2
        have EQ := eq49 (Z1.out x (List.mem_of_getElem? hx)).1 (Z1.out x (List.mem_of_getElem? hx)).2 (Z2.out y (List.mem_of_getElem? hy)).1 (Z2.out y (List.mem_of_getElem? hy)).2
        have d1 : decide ((k : Int) < (n : Int)) = true := decide_eq_true (by omega)
        have d2 : (0 : Int) ≤ (k : Int) := by omega
        have d3 : (k : Int) < (n : Int) := by omega
        have hst := Lib.hid (take_eq_stepG hx hy)
        have hne : Hid (x ≠ y → A ≠ B) := Lib.hid (fun h e => by subst e; rw [hx] at hy; exact h (by simpa using hy))
        clear hx hy e1 e2 g1 g2
        by_cases hxy : x = y
        · rw [decide_eq_true (by rw [hxy]; exact ⟨rfl, rfl⟩)] at EQ
          have hE2 : Hid (A.take (k + 1) = B.take (k + 1)) := Lib.hid (hst.out.2 ⟨hE.out, hxy⟩)
          clear hxy
          go_wp2_with fail
          go_quiet (fail)
          go_wp2_with fail
          exact ⟨⟨k + 1, by omega, by go_num, hE2, q + nq, Lib.hid (by rw [hq.out, World.drewN_drewN])⟩, by simp [intOf]; omega⟩
        · rw [decide_eq_false (fun h => hxy (Prod.ext h.1 h.2))] at EQ
          have hdd : Hid (d = false) := Lib.hid (by rw [← hd.out]; exact decide_eq_false (hne.out hxy))
          clear hxy
          go_wp2_with fail
          go_quiet (fail)
          go_wp2_with fail
          go_ret
          exact ⟨by rw [hdd.out]; rfl, q + nq, by rw [hq.out, World.drewN_drewN]⟩
      · have d1 : decide ((k : Int) < (n : Int)) = false := decide_eq_false (by omega)
        have hdd : Hid (d = true) := Lib.hid (by
          have h := hE.out
          rw [List.take_of_length_le (by rw [hn.out]; exact hlt), List.take_of_length_le (by rw [hm.out]; exact hlt)] at h
          rw [← hd.out]; exact decide_eq_true h)
        go_wp2_with fail
        go_ret
        exact ⟨by rw [hdd.out]; rfl, q, hq.out⟩
  · have d0 : ((n : Int) != (m : Int)) = true := by simp; omega
    have d0' : ((n : Int) == (m : Int)) = false := by simp; omega
    have hdd : Hid (d = false) := Lib.hid (by rw [← hd.out]; exact decide_eq_false (fun e => hnm (by rw [← hn.out, ← hm.out, e])))
    go_enter Tryz.func27, Tryz.ntmps27
    go_wp2_with fail
    go_ret
    exact ⟨by rw [hdd.out]; rfl, 0, rfl⟩
/-- The first of each key. -/
def onS (acc : SL) (p : ByteArray × ByteArray) : SL := if (getP acc p.1).2 then acc else acc ++ [p]
def onceS (L : SL) : SL := L.foldl onS []
theorem onceS_take {l : SL} {k : Nat} {p : ByteArray × ByteArray} (h : l[k]? = some p) : onceS (l.take (k + 1)) = onS (onceS (l.take k)) p := by
  unfold onceS
  rw [List.take_add_one, h, List.foldl_append]
  rfl
set_option maxRecDepth 100000 in
set_option maxHeartbeats 4000000 in
theorem OnceS_any (v : Value) (L : SL) (w : World) (h : Sgs w v L) (hl : L.length ≤ 1000000) : Calls Tryz.prog 33 #[v] w fun e w' => ∃ v', e = .returned v' ∧ w'.ownsRow w.heap.size 49 2 v' (onceS L).length (sv (onceS L)) ∧ Below w.heap.size w w' := by
  obtain ⟨i0, hi, hz0, hz1, hz2⟩ := info49
  obtain ⟨a, cap, rfl, hc, hm, hx⟩ := sgs_at h
  have HX := Lib.hid hx
  clear hx h
  unfold maxLen at hm
  obtain ⟨n, hn⟩ : ∃ n, Hid (L.length = n) := ⟨_, Lib.hid rfl⟩
  rw [hn.out] at hc hl ⊢
  go_enter Tryz.func33, Tryz.ntmps33
  go_wp2_with fail
  go_loopw [3, 4] (fun o i wr => ∃ k : Nat, k ≤ n ∧ i = .int .i64 k ∧ (onceS (L.take k)).length ≤ k ∧ Hid (wr.ownsRow w.heap.size 49 2 o (onceS (L.take k)).length (sv (onceS (L.take k)))) ∧ Hid (Below w.heap.size w wr)) (fun _ i _ => n - (intOf i).toNat)
  case atStart => exact ⟨0, Nat.zero_le _, rfl, Nat.le_refl _, Lib.hid (World.ownsRow_nil _ _ _ _), Lib.hid (Below.refl _ _)⟩
  case round =>
    obtain ⟨k, hk, rfl, hul, hO, hB⟩ := hrel
    obtain ⟨wo, rfl⟩ : ∃ wo, wo = wr := ⟨wr, rfl⟩
    rcases Nat.lt_or_ge k n with hlt | hlt
    · obtain ⟨p, hp⟩ := get_lt (l := L) (k := k) (by rw [hn.out]; exact hlt)
      obtain ⟨b, off, rfl, e0, e1⟩ := HX.out wo hB.out k p hp
      have hst := Lib.hid (onceS_take hp)
      have d1 : decide (k < n) = true := decide_eq_true hlt
      have d2 : (0 : Int) ≤ (k : Int) := by omega
      have d3 : (k : Int) < (n : Int) := by omega
      clear hp
      obtain ⟨U, hU⟩ : ∃ U, Hid (onceS (L.take k) = U) := ⟨_, Lib.hid rfl⟩
      rw [hU.out] at hO hst hul
      have CG := Lib.hid (Get_any _ U p.1 wo (own_sgs hO.out))
      obtain ⟨ao, co, rfl⟩ := own_form hO.out
      obtain ⟨nu, hnu⟩ : ∃ n, Hid (U.length = n) := ⟨_, Lib.hid rfl⟩
      rw [hnu.out] at hO hul CG ⊢
      obtain ⟨⟨g, d⟩, hd⟩ : ∃ d, Hid (getP U p.1 = d) := ⟨_, Lib.hid rfl⟩
      rw [hd.out] at CG
      dsimp only at CG
      go_wp2_with fail
      refine CG.out.mono ?_
      rintro e w2 ⟨rfl, rfl⟩
      cases d with
      | true =>
        have hon : Hid (onceS (L.take (k + 1)) = U) := Lib.hid (by rw [hst.out]; unfold onS; rw [hd.out]; rfl)
        go_wp2_with fail
        exact ⟨⟨k + 1, by omega, by go_num, by rw [hon.out, hnu.out]; omega, by rw [hon.out, hnu.out]; exact hO, hB⟩, by simp [intOf]; omega⟩
      | false =>
        have hon : Hid (onceS (L.take (k + 1)) = U ++ [p]) := Lib.hid (by rw [hst.out]; unfold onS; rw [hd.out]; rfl)
        have hws := hB.out.size
        go_wp2_with (at_builtin; refine wpList_append_own _ rfl _ _ 35 rfl w.heap.size 49 i0 (.agg #[.string ⟨#[]⟩, .string ⟨#[]⟩]) 2 32 Tryz.underlying35 hi hz0 hz1 hz2 rfl (by decide) _ _ _ rfl (hO.out.alloc _) ⟨w2.heap.size, 0, none⟩ 1 1 [.string p.1, .string p.2] rfl rfl (seg_new _ _ _) (by simp [Value.oneCell']) (by unfold maxLen; omega) (by omega) (by simp; omega) ?_; intro v' w5 hown' hgrow _)
        have hO' : Hid (w5.ownsRow w.heap.size 49 2 v' (onceS (L.take (k + 1))).length (sv (onceS (L.take (k + 1))))) := Lib.hid (by rw [hon.out, List.length_append, sv_append, hnu.out]; exact hown')
        have hb := Lib.hid (below_grown2 hB.out hO.out hgrow)
        clear hown' hgrow
        go_wp2_with fail
        exact ⟨⟨k + 1, by omega, by go_num, by rw [hon.out, List.length_append, hnu.out]; simp; omega, hO', hb⟩, by simp [intOf]; omega⟩
    · have d1 : decide (k < n) = false := decide_eq_false (by omega)
      obtain rfl : k = n := by omega
      have h := hO.out
      rw [List.take_of_length_le (by rw [hn.out]; exact Nat.le_refl _)] at h
      have hf := Lib.hid h
      clear h
      go_wp2_with fail
      go_ret
      exact ⟨_, rfl, hf.out, hB.out⟩
end Go.Proofs.YtfjmhnnjgjcmeaaGreatDoor
