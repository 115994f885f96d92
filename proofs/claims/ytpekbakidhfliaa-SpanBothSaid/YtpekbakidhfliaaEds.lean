/-
  For the laws of span: a slice of edits; whether edits may be, by the program. Condition: as handed in.
-/
import Derived.Test.YtpekbakidhfliaaBase
import Derived.Test.YtpekbakidhfliaaPure
namespace Go.Proofs.Ytpekbakidhfliaa
open Go.RowKit Go.Shelf

def rowE (e : Ed) : List Value := [.int .i64 e.fr, .int .i64 e.to, .string (bs e.tx)]
/-- The value v is a slice that reads as the edits L. -/
def Eds (W : World) (v : Value) (L : List Ed) : Prop :=
  ∃ (a : Option Addr) (cap : Nat), v = .slice a L.length cap ∧ L.length ≤ cap ∧ cap ≤ maxLen ∧ ∀ k (e : Ed), L[k]? = some e → ∃ b off, a = some ⟨b, off, none⟩ ∧ b < W.heap.size ∧ W.cell? ⟨b, off + k * 3, none⟩ = some (.int .i64 e.fr) ∧ W.cell? ⟨b, off + k * 3 + 1, none⟩ = some (.int .i64 e.to) ∧ W.cell? ⟨b, off + k * 3 + 2, none⟩ = some (.string (bs e.tx))
theorem Eds.below {W W' : World} {v : Value} {L : List Ed} (h : Eds W v L) (hb : Below W.heap.size W W') : Eds W' v L := by
  obtain ⟨a, cap, rfl, hc, hm, hx⟩ := h
  refine ⟨a, cap, rfl, hc, hm, fun k x hk => ?_⟩
  obtain ⟨b, off, rfl, hl, h1, h2, h3⟩ := hx k x hk
  exact ⟨b, off, rfl, by have := hb.size; omega, (hb.cell (p := ⟨b, off + k * 3, none⟩) hl).trans h1, (hb.cell (p := ⟨b, off + k * 3 + 1, none⟩) hl).trans h2, (hb.cell (p := ⟨b, off + k * 3 + 2, none⟩) hl).trans h3⟩
def ev (L : List Ed) : List Value := L.flatMap rowE
theorem ev_len (L : List Ed) : (ev L).length = L.length * 3 := by
  unfold ev
  induction L with
  | nil => rfl
  | cons x L ih => rw [List.flatMap_cons, List.length_append, ih, List.length_cons]; simp [rowE]; omega
theorem ev_append (A B : List Ed) : ev (A ++ B) = ev A ++ ev B := by unfold ev; rw [List.flatMap_append]
theorem ev_get {L : List Ed} {k : Nat} {x : Ed} (h : L[k]? = some x) : (ev L)[k * 3]? = some (.int .i64 x.fr) ∧ (ev L)[k * 3 + 1]? = some (.int .i64 x.to) ∧ (ev L)[k * 3 + 2]? = some (.string (bs x.tx)) := by
  have e : L = L.take k ++ x :: L.drop (k + 1) := by
    rw [← drop_at h, List.take_append_drop]
  have hl : (ev (L.take k)).length = k * 3 := by
    rw [ev_len, List.length_take, Nat.min_eq_left (Nat.le_of_lt (List.getElem?_eq_some_iff.1 h).1)]
  have e2 : ev L = ev (L.take k) ++ (rowE x ++ ev (L.drop (k + 1))) := by
    conv => lhs; rw [e]
    unfold ev
    rw [List.flatMap_append, List.flatMap_cons]
  rw [e2]
  refine ⟨?_, ?_, ?_⟩
  · rw [List.getElem?_append_right (by omega), hl, Nat.sub_self]; rfl
  · rw [List.getElem?_append_right (by omega), hl, Nat.add_sub_cancel_left]; rfl
  · rw [List.getElem?_append_right (by omega), hl, Nat.add_sub_cancel_left]; rfl
theorem own_eds {W : World} {base n : Nat} {v : Value} {L : List Ed} (h : W.ownsRow base 39 3 v n (ev L)) : Eds W v L := by
  have hl := h.1
  rw [ev_len] at hl
  obtain rfl : n = L.length := by omega
  rcases h.2 with ⟨rfl, h0⟩ | ⟨g, cap, cur, rfl, _, hg, h1, h2, h3, h4⟩
  · obtain rfl : L = [] := List.eq_nil_of_length_eq_zero h0
    exact ⟨none, 0, rfl, Nat.le_refl _, Nat.zero_le _, by simp⟩
  · refine ⟨_, cap, rfl, h1, h2, fun k x hk => ⟨g, 0, rfl, (Array.getElem?_eq_some_iff.1 hg).1, ?_⟩⟩
    have hkl := (List.getElem?_eq_some_iff.1 hk).1
    obtain ⟨g1, g2, g3⟩ := ev_get hk
    rw [Nat.zero_add]
    refine ⟨?_, ?_, ?_⟩
    · rw [← g1, ← h4, List.getElem?_take_of_lt (by omega)]
      simp [World.cell?, hg]
    · rw [← g2, ← h4, List.getElem?_take_of_lt (by omega)]
      simp [World.cell?, hg]
    · rw [← g3, ← h4, List.getElem?_take_of_lt (by omega)]
      simp [World.cell?, hg]
theorem infoEd : (Try.prog.info? 39).map (fun i => (i.zero, i.size, i.bytes)) = some (some (.agg #[.int .i64 0, .int .i64 0, .string ⟨#[]⟩]), 3, 32) := by kernel_rfl
set_option maxRecDepth 100000 in
set_option maxHeartbeats 8000000 in
theorem few_any (v : Value) (L : List Ed) (w : World) (h1 : Eds w v L) : Calls Try.prog 8 #[v] w fun e w' => e = .returned (.bool (fewE L)) ∧ Below w.heap.size w w' := by
  obtain ⟨a, cap, rfl, hc, hm, hat⟩ := h1
  have Hat := Lib.hid hat; clear hat
  unfold maxLen at hm
  by_cases h60 : L.length ≤ 60
  · have f1 : decide ((L.length : Int) > 60) = false := decide_eq_false (by omega)
    have H : Hid (fewE L = L.all okTx) := Lib.hid (by unfold fewE; rw [decide_eq_true h60, Bool.true_and])
    rw [H.out]
    obtain ⟨r, hr⟩ : ∃ r, Hid (L.all okTx = r) := ⟨_, Lib.hid rfl⟩
    rw [hr.out]
    go_enter Try.func8, Try.ntmps8
    go_wp2_with fail
    go_loopw [3] (fun c wr => ∃ k : Nat, c = .int .i64 k ∧ k ≤ L.length ∧ Hid (Below w.heap.size w wr) ∧ Hid ((L.drop k).all okTx = r)) (fun c _ => L.length - (intOf c).toNat)
    case atStart => exact ⟨0, rfl, by omega, Lib.hid (Below.refl _ _), hr⟩
    case round =>
      obtain ⟨k, rfl, hk, hB, hg⟩ := hrel
      have hbs := hB.out.size
      by_cases hlt : k < L.length
      · obtain ⟨x, hx⟩ : ∃ x, L[k]? = some x := ⟨_, List.getElem?_eq_getElem hlt⟩
        obtain ⟨b, off, rfl, hbl, -, -, hl2⟩ := Hat.out k x hx
        have c2 : wr.cell? ⟨b, off + k * 3 + 2, none⟩ = some (.string (bs x.tx)) := (hB.out.cell (p := ⟨b, off + k * 3 + 2, none⟩) hbl).trans hl2
        have hg2 := hg.out
        rw [drop_at hx, List.all_cons] at hg2
        clear hl2 hx
        by_cases ht : x.tx.length ≤ 200
        · have f2 : decide ((x.tx.length : Int) > 200) = false := decide_eq_false (by omega)
          rw [show okTx x = true from decide_eq_true ht, Bool.true_and] at hg2
          have Hg2 := Lib.hid hg2
          clear hg2
          go_wp2_with fail
          exact ⟨⟨k + 1, by go_num, by omega, hB, Hg2⟩, by simp [intOf]; omega⟩
        · have f2 : decide ((x.tx.length : Int) > 200) = true := decide_eq_true (by omega)
          rw [show okTx x = false from decide_eq_false ht, Bool.false_and] at hg2
          subst hg2
          go_wp2_with fail
          go_ret
          exact ⟨rfl, hB.out⟩
      · obtain rfl : k = L.length := by omega
        have hg2 := hg.out
        rw [List.drop_length] at hg2
        obtain rfl : true = r := hg2
        go_wp2_with fail
        go_ret
        exact ⟨rfl, hB.out⟩
  · have f1 : decide ((L.length : Int) > 60) = true := decide_eq_true (by omega)
    have H : Hid (fewE L = false) := Lib.hid (by unfold fewE; rw [decide_eq_false h60, Bool.false_and])
    rw [H.out]
    go_enter Try.func8, Try.ntmps8
    go_wp2_with fail
    go_ret
    exact ⟨rfl, Below.refl _ _⟩
end Go.Proofs.Ytpekbakidhfliaa
