/-
  For the laws of marker: a slice of parts; the same parts, and few of them, by the program. Condition: as handed in.
-/
import Derived.Test.YtpnfjiglphogoaaDoorBase
import Derived.Test.YtpnfjiglphogoaaDoorPmath
namespace Go.Proofs.YtpnfjiglphogoaaDoor
open Go.RowKit Go.Shelf
set_option linter.unusedSimpArgs false

def rowP (p : Pt) : List Value := [.bool p.clash, .string (bs p.o), .string (bs p.a), .string (bs p.b)]
/-- The value v is a slice that reads as the parts L. -/
def Prts (W : World) (v : Value) (L : List Pt) : Prop :=
  ∃ (a : Option Addr) (cap : Nat), v = .slice a L.length cap ∧ L.length ≤ cap ∧ cap ≤ maxLen ∧ ∀ k (p : Pt), L[k]? = some p → ∃ b off, a = some ⟨b, off, none⟩ ∧ b < W.heap.size ∧ W.cell? ⟨b, off + k * 4, none⟩ = some (.bool p.clash) ∧ W.cell? ⟨b, off + k * 4 + 1, none⟩ = some (.string (bs p.o)) ∧ W.cell? ⟨b, off + k * 4 + 2, none⟩ = some (.string (bs p.a)) ∧ W.cell? ⟨b, off + k * 4 + 3, none⟩ = some (.string (bs p.b))
theorem Prts.below {W W' : World} {v : Value} {L : List Pt} (h : Prts W v L) (hb : Below W.heap.size W W') : Prts W' v L := by
  obtain ⟨a, cap, rfl, hc, hm, hx⟩ := h
  refine ⟨a, cap, rfl, hc, hm, fun k x hk => ?_⟩
  obtain ⟨b, off, rfl, hl, h1, h2, h3, h4⟩ := hx k x hk
  exact ⟨b, off, rfl, by have := hb.size; omega, (hb.cell (p := ⟨b, off + k * 4, none⟩) hl).trans h1, (hb.cell (p := ⟨b, off + k * 4 + 1, none⟩) hl).trans h2, (hb.cell (p := ⟨b, off + k * 4 + 2, none⟩) hl).trans h3, (hb.cell (p := ⟨b, off + k * 4 + 3, none⟩) hl).trans h4⟩
def pv (L : List Pt) : List Value := L.flatMap rowP
theorem pv_len (L : List Pt) : (pv L).length = L.length * 4 := by
  unfold pv
  induction L with
  | nil => rfl
  | cons x L ih => rw [List.flatMap_cons, List.length_append, ih, List.length_cons]; simp [rowP]; omega
theorem pv_append (A B : List Pt) : pv (A ++ B) = pv A ++ pv B := by unfold pv; rw [List.flatMap_append]
theorem drop_at {α : Type} {L : List α} {k : Nat} {x : α} (h : L[k]? = some x) : L.drop k = x :: L.drop (k + 1) := by
  obtain ⟨hk, rfl⟩ := List.getElem?_eq_some_iff.1 h
  exact List.drop_eq_getElem_cons hk
theorem pv_get {L : List Pt} {k : Nat} {x : Pt} (h : L[k]? = some x) : (pv L)[k * 4]? = some (.bool x.clash) ∧ (pv L)[k * 4 + 1]? = some (.string (bs x.o)) ∧ (pv L)[k * 4 + 2]? = some (.string (bs x.a)) ∧ (pv L)[k * 4 + 3]? = some (.string (bs x.b)) := by
  have e : L = L.take k ++ x :: L.drop (k + 1) := by
    rw [← drop_at h, List.take_append_drop]
  have hl : (pv (L.take k)).length = k * 4 := by
    rw [pv_len, List.length_take, Nat.min_eq_left (Nat.le_of_lt (List.getElem?_eq_some_iff.1 h).1)]
  have e2 : pv L = pv (L.take k) ++ (rowP x ++ pv (L.drop (k + 1))) := by
    conv => lhs; rw [e]
    unfold pv
    rw [List.flatMap_append, List.flatMap_cons]
  rw [e2]
  refine ⟨?_, ?_, ?_, ?_⟩
  · rw [List.getElem?_append_right (by omega), hl, Nat.sub_self]; rfl
  · rw [List.getElem?_append_right (by omega), hl, Nat.add_sub_cancel_left]; rfl
  · rw [List.getElem?_append_right (by omega), hl, Nat.add_sub_cancel_left]; rfl
  · rw [List.getElem?_append_right (by omega), hl, Nat.add_sub_cancel_left]; rfl
theorem own_prts {W : World} {base n : Nat} {v : Value} {L : List Pt} (h : W.ownsRow base 29 4 v n (pv L)) : Prts W v L := by
  have hl := h.1
  rw [pv_len] at hl
  obtain rfl : n = L.length := by omega
  rcases h.2 with ⟨rfl, h0⟩ | ⟨g, cap, cur, rfl, _, hg, h1, h2, h3, h4⟩
  · obtain rfl : L = [] := List.eq_nil_of_length_eq_zero h0
    exact ⟨none, 0, rfl, Nat.le_refl _, Nat.zero_le _, by simp⟩
  · refine ⟨_, cap, rfl, h1, h2, fun k x hk => ⟨g, 0, rfl, (Array.getElem?_eq_some_iff.1 hg).1, ?_⟩⟩
    have hkl := (List.getElem?_eq_some_iff.1 hk).1
    obtain ⟨g1, g2, g3, g4⟩ := pv_get hk
    rw [Nat.zero_add]
    refine ⟨?_, ?_, ?_, ?_⟩
    · rw [← g1, ← h4, List.getElem?_take_of_lt (by omega)]
      simp [World.cell?, hg]
    · rw [← g2, ← h4, List.getElem?_take_of_lt (by omega)]
      simp [World.cell?, hg]
    · rw [← g3, ← h4, List.getElem?_take_of_lt (by omega)]
      simp [World.cell?, hg]
    · rw [← g4, ← h4, List.getElem?_take_of_lt (by omega)]
      simp [World.cell?, hg]
theorem infoPt : (Tryd.prog.info? 29).map (fun i => (i.zero, i.size, i.bytes)) = some (some (.agg #[.bool false, .string ⟨#[]⟩, .string ⟨#[]⟩, .string ⟨#[]⟩]), 4, 56) := by kernel_rfl
theorem prts_nil (W : World) : Prts W (.slice none 0 0) [] := ⟨none, 0, rfl, Nat.le_refl _, Nat.zero_le _, by simp⟩
theorem prts_one {W : World} {b : Nat} {t : TypeId} {x : Pt} (h : RowAt W b t #[.bool x.clash, .string (bs x.o), .string (bs x.a), .string (bs x.b)]) : Prts W (.slice (some ⟨b, 0, none⟩) 1 1) [x] := by
  refine ⟨_, 1, rfl, Nat.le_refl _, by simp [maxLen], fun k u hk => ⟨b, 0, rfl, h.lt, ?_⟩⟩
  have hk0 : k = 0 := by have := (List.getElem?_eq_some_iff.1 hk).1; simp at this; omega
  subst hk0
  obtain rfl : x = u := by simpa using hk
  exact ⟨h.cell (j := 0) rfl, h.cell (j := 1) rfl, h.cell (j := 2) rfl, h.cell (j := 3) rfl⟩
set_option maxRecDepth 100000 in
set_option maxHeartbeats 8000000 in
theorem Same_eq (u v : Value) (L : List Pt) (w : World) (h1 : Prts w u L) (h2 : Prts w v L) : Calls Tryd.prog 16 #[u, v] w fun e w' => e = .returned (.bool true) ∧ Below w.heap.size w w' := by
  obtain ⟨a, cap, rfl, hc, hm, hat⟩ := h1
  obtain ⟨a2, cap2, rfl, hc2, hm2, hat2⟩ := h2
  have Hat := Lib.hid hat; clear hat
  have Hat2 := Lib.hid hat2; clear hat2
  unfold maxLen at hm hm2
  go_enter Tryd.func16, Tryd.ntmps16
  go_wp2_with fail
  go_loopw [5] (fun c wr => ∃ k : Nat, c = .int .i64 k ∧ k ≤ L.length ∧ ∃ q, Hid (wr = w.drewN q)) (fun c _ => L.length - (intOf c).toNat)
  case atStart => exact ⟨0, rfl, by omega, 0, Lib.hid rfl⟩
  case round =>
    obtain ⟨k, rfl, hk, q, hq⟩ := hrel
    by_cases hlt : k < L.length
    · obtain ⟨x, hx⟩ : ∃ x, L[k]? = some x := ⟨_, List.getElem?_eq_getElem hlt⟩
      obtain ⟨b, off, rfl, hbl, hl0, hl1, hl2, hl3⟩ := Hat.out k x hx
      obtain ⟨b2, off2, rfl, hbl2, hl4, hl5, hl6, hl7⟩ := Hat2.out k x hx
      have c0 : wr.cell? ⟨b, off + k * 4, none⟩ = some (.bool x.clash) := by rw [hq.out]; exact hl0
      have c1 : wr.cell? ⟨b, off + k * 4 + 1, none⟩ = some (.string (bs x.o)) := by rw [hq.out]; exact hl1
      have c2 : wr.cell? ⟨b, off + k * 4 + 2, none⟩ = some (.string (bs x.a)) := by rw [hq.out]; exact hl2
      have c3 : wr.cell? ⟨b, off + k * 4 + 3, none⟩ = some (.string (bs x.b)) := by rw [hq.out]; exact hl3
      have c4 : wr.cell? ⟨b2, off2 + k * 4, none⟩ = some (.bool x.clash) := by rw [hq.out]; exact hl4
      have c5 : wr.cell? ⟨b2, off2 + k * 4 + 1, none⟩ = some (.string (bs x.o)) := by rw [hq.out]; exact hl5
      have c6 : wr.cell? ⟨b2, off2 + k * 4 + 2, none⟩ = some (.string (bs x.a)) := by rw [hq.out]; exact hl6
      have c7 : wr.cell? ⟨b2, off2 + k * 4 + 3, none⟩ = some (.string (bs x.b)) := by rw [hq.out]; exact hl7
      have p0 : (0 : Int) ≤ (k : Int) := by omega
      have p1 : (k : Int) < (L.length : Int) := by omega
      have p2 : (k : Int) < (cap : Int) := by omega
      have p3 : (k : Int) < (cap2 : Int) := by omega
      clear hl0 hl1 hl2 hl3 hl4 hl5 hl6 hl7 hx
      go_wp2_with fail
      go_quiet (fail)
      go_wp2_with fail
      exact ⟨⟨k + 1, by go_num, by omega, q + nq, Lib.hid (by rw [hq.out]; exact World.drewN_drewN w q nq)⟩, by simp [intOf]; omega⟩
    · obtain rfl : k = L.length := by omega
      go_wp2_with fail
      go_ret
      exact ⟨rfl, by rw [hq.out]; exact below_draws (Below.refl _ _) _⟩
/-- Are parts few, and short? -/
def okP (p : Pt) : Bool := decide (p.o.length ≤ 300 ∧ p.a.length ≤ 300 ∧ p.b.length ≤ 300)
def fewP (L : List Pt) : Bool := decide (L.length ≤ 30) && L.all okP
set_option maxRecDepth 100000 in
set_option maxHeartbeats 8000000 in
theorem few_any (v : Value) (L : List Pt) (w : World) (h1 : Prts w v L) : Calls Tryd.prog 7 #[v] w fun e w' => e = .returned (.bool (fewP L)) ∧ Below w.heap.size w w' := by
  obtain ⟨a, cap, rfl, hc, hm, hat⟩ := h1
  have Hat := Lib.hid hat; clear hat
  unfold maxLen at hm
  by_cases h60 : L.length ≤ 30
  · have f1 : decide ((L.length : Int) > 30) = false := decide_eq_false (by omega)
    have H : Hid (fewP L = L.all okP) := Lib.hid (by unfold fewP; rw [decide_eq_true h60, Bool.true_and])
    rw [H.out]
    obtain ⟨r, hr⟩ : ∃ r, Hid (L.all okP = r) := ⟨_, Lib.hid rfl⟩
    rw [hr.out]
    go_enter Tryd.func7, Tryd.ntmps7
    go_wp2_with fail
    go_loopw [3] (fun c wr => ∃ k : Nat, c = .int .i64 k ∧ k ≤ L.length ∧ Hid (Below w.heap.size w wr) ∧ Hid ((L.drop k).all okP = r)) (fun c _ => L.length - (intOf c).toNat)
    case atStart => exact ⟨0, rfl, by omega, Lib.hid (Below.refl _ _), hr⟩
    case round =>
      obtain ⟨k, rfl, hk, hB, hg⟩ := hrel
      have hbs := hB.out.size
      by_cases hlt : k < L.length
      · obtain ⟨x, hx⟩ : ∃ x, L[k]? = some x := ⟨_, List.getElem?_eq_getElem hlt⟩
        obtain ⟨b, off, rfl, hbl, -, hl1, hl2, hl3⟩ := Hat.out k x hx
        have c1 : wr.cell? ⟨b, off + k * 4 + 1, none⟩ = some (.string (bs x.o)) := (hB.out.cell (p := ⟨b, off + k * 4 + 1, none⟩) hbl).trans hl1
        have c2 : wr.cell? ⟨b, off + k * 4 + 2, none⟩ = some (.string (bs x.a)) := (hB.out.cell (p := ⟨b, off + k * 4 + 2, none⟩) hbl).trans hl2
        have c3 : wr.cell? ⟨b, off + k * 4 + 3, none⟩ = some (.string (bs x.b)) := (hB.out.cell (p := ⟨b, off + k * 4 + 3, none⟩) hbl).trans hl3
        have hg2 := hg.out
        rw [drop_at hx, List.all_cons] at hg2
        clear hl1 hl2 hl3 hx
        by_cases t1 : x.o.length ≤ 300
        · have f2 : decide ((x.o.length : Int) > 300) = false := decide_eq_false (by omega)
          by_cases t2 : x.a.length ≤ 300
          · have f3 : decide ((x.a.length : Int) > 300) = false := decide_eq_false (by omega)
            by_cases t3 : x.b.length ≤ 300
            · have f4 : decide ((x.b.length : Int) > 300) = false := decide_eq_false (by omega)
              rw [show okP x = true from decide_eq_true ⟨t1, t2, t3⟩, Bool.true_and] at hg2
              have Hg2 := Lib.hid hg2
              clear hg2
              go_wp2_with fail
              exact ⟨⟨k + 1, by go_num, by omega, hB, Hg2⟩, by simp [intOf]; omega⟩
            · have f4 : decide ((x.b.length : Int) > 300) = true := decide_eq_true (by omega)
              rw [show okP x = false from decide_eq_false (fun h => t3 h.2.2), Bool.false_and] at hg2
              subst hg2
              go_wp2_with fail
              go_ret
              exact ⟨rfl, hB.out⟩
          · have f3 : decide ((x.a.length : Int) > 300) = true := decide_eq_true (by omega)
            rw [show okP x = false from decide_eq_false (fun h => t2 h.2.1), Bool.false_and] at hg2
            subst hg2
            go_wp2_with fail
            go_ret
            exact ⟨rfl, hB.out⟩
        · have f2 : decide ((x.o.length : Int) > 300) = true := decide_eq_true (by omega)
          rw [show okP x = false from decide_eq_false (fun h => t1 h.1), Bool.false_and] at hg2
          subst hg2
          go_wp2_with fail
          go_ret
          exact ⟨rfl, hB.out⟩
      · obtain rfl : k = L.length := by omega
        have hg2 := hg.out
        rw [List.drop_length] at hg2
        obtain rfl : true = r := hg2
        go_wp2_with fail
        go_ret
        exact ⟨rfl, hB.out⟩
  · have f1 : decide ((L.length : Int) > 30) = true := decide_eq_true (by omega)
    have H : Hid (fewP L = false) := Lib.hid (by unfold fewP; rw [decide_eq_false h60, Bool.false_and])
    rw [H.out]
    go_enter Tryd.func7, Tryd.ntmps7
    go_wp2_with fail
    go_ret
    exact ⟨rfl, Below.refl _ _⟩
end Go.Proofs.YtpnfjiglphogoaaDoor
