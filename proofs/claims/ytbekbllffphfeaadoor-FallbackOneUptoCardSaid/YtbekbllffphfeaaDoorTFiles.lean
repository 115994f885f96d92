/-
  For the laws of tree: a slice of files; Get, Remove and Same, by the program. Condition: at most 1,000 files.
-/
import Derived.Test.YtbekbllffphfeaaDoorTBase
import Derived.Test.YtbekbllffphfeaaDoorTPure
namespace Go.Proofs.YtbekbllffphfeaaDoor.T
open Go.RowKit Go.Shelf

/-- The value v is a slice that reads as the files L. -/
def Fls (W : World) (v : Value) (L : List Fl) : Prop :=
  ∃ (a : Option Addr) (cap : Nat), v = .slice a L.length cap ∧ L.length ≤ cap ∧ cap ≤ maxLen ∧ ∀ k (x : Fl), L[k]? = some x → ∃ b off, a = some ⟨b, off, none⟩ ∧ b < W.heap.size ∧ W.cell? ⟨b, off + k * 2, none⟩ = some (.string (bs x.path)) ∧ W.cell? ⟨b, off + k * 2 + 1, none⟩ = some (.string (bs x.text))
theorem Fls.below {W W' : World} {v : Value} {L : List Fl} (h : Fls W v L) (hb : Below W.heap.size W W') : Fls W' v L := by
  obtain ⟨a, cap, rfl, hc, hm, hx⟩ := h
  refine ⟨a, cap, rfl, hc, hm, fun k x hk => ?_⟩
  obtain ⟨b, off, rfl, hl, h1, h2⟩ := hx k x hk
  exact ⟨b, off, rfl, by have := hb.size; omega, (hb.cell (p := ⟨b, off + k * 2, none⟩) hl).trans h1, (hb.cell (p := ⟨b, off + k * 2 + 1, none⟩) hl).trans h2⟩
def rowF (f : Fl) : List Value := [.string (bs f.path), .string (bs f.text)]
def fv (L : List Fl) : List Value := L.flatMap rowF
theorem fv_len (L : List Fl) : (fv L).length = L.length * 2 := by
  unfold fv
  induction L with
  | nil => rfl
  | cons x L ih => rw [List.flatMap_cons, List.length_append, ih, List.length_cons]; simp [rowF]; omega
theorem fv_get {L : List Fl} {k : Nat} {x : Fl} (h : L[k]? = some x) : (fv L)[k * 2]? = some (.string (bs x.path)) ∧ (fv L)[k * 2 + 1]? = some (.string (bs x.text)) := by
  have e : L = L.take k ++ x :: L.drop (k + 1) := by
    obtain ⟨hk, rfl⟩ := List.getElem?_eq_some_iff.1 h
    rw [← List.drop_eq_getElem_cons hk, List.take_append_drop]
  have hl : (fv (L.take k)).length = k * 2 := by
    rw [fv_len, List.length_take, Nat.min_eq_left (Nat.le_of_lt (List.getElem?_eq_some_iff.1 h).1)]
  have e2 : fv L = fv (L.take k) ++ (rowF x ++ fv (L.drop (k + 1))) := by
    conv => lhs; rw [e]
    unfold fv
    rw [List.flatMap_append, List.flatMap_cons]
  rw [e2]
  constructor
  · rw [List.getElem?_append_right (by omega), hl, Nat.sub_self]; rfl
  · rw [List.getElem?_append_right (by omega), hl, Nat.add_sub_cancel_left]; rfl
theorem own_fls {W : World} {base n : Nat} {v : Value} {L : List Fl} (h : W.ownsRow base 34 2 v n (fv L)) : Fls W v L := by
  have hl := h.1
  rw [fv_len] at hl
  obtain rfl : n = L.length := by omega
  rcases h.2 with ⟨rfl, h0⟩ | ⟨g, cap, cur, rfl, _, hg, h1, h2, h3, h4⟩
  · obtain rfl : L = [] := List.eq_nil_of_length_eq_zero h0
    exact ⟨none, 0, rfl, Nat.le_refl _, Nat.zero_le _, by simp⟩
  · refine ⟨_, cap, rfl, h1, h2, fun k x hk => ⟨g, 0, rfl, (Array.getElem?_eq_some_iff.1 hg).1, ?_⟩⟩
    have hkl := (List.getElem?_eq_some_iff.1 hk).1
    obtain ⟨g1, g2⟩ := fv_get hk
    rw [Nat.zero_add]
    constructor
    · rw [← g1, ← h4, List.getElem?_take_of_lt (by omega)]
      simp [World.cell?, hg]
    · rw [← g2, ← h4, List.getElem?_take_of_lt (by omega)]
      simp [World.cell?, hg]
set_option maxRecDepth 100000 in
set_option maxHeartbeats 8000000 in
theorem Get_any (v : Value) (L : List Fl) (q : ByteArray) (w : World) (h1 : Fls w v L) : Calls Tryd.prog 15 #[v, .string q] w fun e w' => e = .returned (match getT L (tl q) with | some t => .tuple #[.string (bs t), .bool true] | none => .tuple #[.string ⟨#[]⟩, .bool false]) ∧ Below w.heap.size w w' := by
  obtain ⟨a, cap, rfl, hc, hm, hat⟩ := h1
  have Hat := Lib.hid hat; clear hat
  unfold maxLen at hm
  obtain ⟨r, hr⟩ : ∃ r, Hid (getT L (tl q) = r) := ⟨_, Lib.hid rfl⟩
  rw [hr.out]
  go_enter Tryd.func15, Tryd.ntmps15
  go_wp2_with fail
  go_loopw [10] (fun c wr => ∃ k : Nat, c = .int .i64 k ∧ k ≤ L.length ∧ Hid (Below w.heap.size w wr) ∧ Hid (getT (L.drop k) (tl q) = r)) (fun c _ => L.length - (intOf c).toNat)
  case atStart => exact ⟨0, rfl, by omega, Lib.hid (Below.refl _ _), hr⟩
  case round =>
    obtain ⟨k, rfl, hk, hB, hg⟩ := hrel
    have hbs := hB.out.size
    by_cases hlt : k < L.length
    · obtain ⟨x, hx⟩ : ∃ x, L[k]? = some x := ⟨_, List.getElem?_eq_getElem hlt⟩
      obtain ⟨b, off, rfl, hbl, hl0, hl1⟩ := Hat.out k x hx
      have c0 : wr.cell? ⟨b, off + k * 2, none⟩ = some (.string (bs x.path)) := (hB.out.cell (p := ⟨b, off + k * 2, none⟩) hbl).trans hl0
      have c1 : wr.cell? ⟨b, off + k * 2 + 1, none⟩ = some (.string (bs x.text)) := (hB.out.cell (p := ⟨b, off + k * 2 + 1, none⟩) hbl).trans hl1
      have hd : L.drop k = x :: L.drop (k + 1) := by
        obtain ⟨hk, rfl⟩ := List.getElem?_eq_some_iff.1 hx
        exact List.drop_eq_getElem_cons hk
      have hg2 := hg.out
      rw [hd, getT] at hg2
      have f := bs_beq q x.path
      have hBa := Lib.hid (hB.out.alloc (by omega) (.cells #[.string (bs x.path), .string (bs x.text)] 34))
      clear hl0 hl1 hx hd
      by_cases he : x.path = tl q
      · rw [decide_eq_true he] at f
        rw [if_pos he] at hg2
        subst hg2
        clear he
        go_wp2_with fail
        go_ret2
        exact ⟨rfl, hBa.out⟩
      · rw [decide_eq_false he] at f
        rw [if_neg he] at hg2
        have Hg2 := Lib.hid hg2
        clear he hg2
        go_wp2_with fail
        exact ⟨⟨k + 1, by go_num, by omega, hBa, Hg2⟩, by simp [intOf]; omega⟩
    · obtain rfl : k = L.length := by omega
      have hg2 := hg.out
      rw [List.drop_length] at hg2
      obtain rfl : none = r := hg2
      go_wp2_with fail
      go_ret2
      exact ⟨rfl, hB.out⟩
theorem infoFl : (Tryd.prog.info? 34).map (fun i => (i.zero, i.size, i.bytes)) = some (some (.agg #[.string ⟨#[]⟩, .string ⟨#[]⟩]), 2, 32) := by kernel_rfl
theorem fv_append (A B : List Fl) : fv (A ++ B) = fv A ++ fv B := by unfold fv; rw [List.flatMap_append]
end Go.Proofs.YtbekbllffphfeaaDoor.T
