/-
  For the laws of marker: where the reader stands after some lines; no program. Condition: marks of at least one byte.
-/
import Derived.Test.YtbekbllffphfeaaDoorKEnd3
namespace Go.Proofs.YtbekbllffphfeaaDoor.K
open Go.RowKit Go.Shelf
set_option linter.unusedSimpArgs false

theorem tl_ext (s : ByteArray) (a b : Nat) : tl (s.extract a b) = ((tl s).drop a).take (b - a) := by rw [ext_bs, tl_bs]
theorem st_flat (s : ByteArray) : ∀ k, ((st s k).1.map tl).flatten = (tl s).take (st s k).2
  | 0 => by simp [st]
  | k + 1 => by
    cases h : nlB s k with
    | true =>
      have hle := st_le s k
      rw [st_yes h]
      simp only [List.map_append, List.map_cons, List.map_nil, List.flatten_append, List.flatten_cons, List.flatten_nil, List.append_nil]
      rw [st_flat s k, tl_ext, ← List.take_add]
      congr 1
      omega
    | false => rw [st_no h]; exact st_flat s k
theorem lnB_flat (s : ByteArray) : (lnB s).flatten = tl s := by
  unfold lnB lns
  have hle := st_le s s.size
  split
  · rename_i hlt
    simp only [List.map_append, List.map_cons, List.map_nil, List.flatten_append, List.flatten_cons, List.flatten_nil, List.append_nil]
    rw [st_flat, tl_ext, ← List.take_add, List.take_of_length_le (by rw [tl_length]; omega)]
  · rw [st_flat, List.take_of_length_le (by rw [tl_length]; omega)]
/-- What k lines are. -/
def tx (s : ByteArray) (k : Nat) : By := ((lnB s).take k).flatten
theorem tx_succ {s : ByteArray} {k : Nat} {l : By} (h : (lnB s)[k]? = some l) : tx s (k + 1) = tx s k ++ l := by
  unfold tx
  rw [List.take_add_one, h]
  simp
theorem tx_pre (s : ByteArray) (k : Nat) : tl s = tx s k ++ ((lnB s).drop k).flatten := by
  unfold tx
  rw [← List.flatten_append, List.take_append_drop, lnB_flat]
theorem tx_take (s : ByteArray) (k : Nat) : (tl s).take (tx s k).length = tx s k := by
  conv => lhs; rw [tx_pre s k]
  rw [List.take_left]
theorem tx_le (s : ByteArray) (k : Nat) : (tx s k).length ≤ s.size := by
  have := congrArg List.length (tx_pre s k)
  rw [List.length_append, tl_length] at this
  omega
theorem tx_all (s : ByteArray) : tx s (lns s).length = tl s := by
  unfold tx
  rw [List.take_of_length_le (by unfold lnB; rw [List.length_map]; exact Nat.le_refl _), lnB_flat]
theorem lnB_get {s : ByteArray} {k : Nat} {l : ByteArray} (h : (lns s)[k]? = some l) : (lnB s)[k]? = some (tl l) := by
  unfold lnB; rw [List.getElem?_map, h]; rfl
/-- Where the reader stands after k lines. -/
def PInv (s : ByteArray) (n k fr : Nat) (q : St) : Prop := parseS n st0 ((lnB s).take k) = some q ∧ fr ≤ (tx s k).length ∧ q.now = (tx s k).drop fr
theorem PInv.start (s : ByteArray) (n : Nat) : PInv s n 0 0 st0 := ⟨rfl, Nat.zero_le _, by simp [tx, st0]⟩
theorem PInv.now_ext {s : ByteArray} {n k fr : Nat} {q : St} (h : PInv s n k fr q) : s.extract fr (tx s k).length = bs q.now := by
  rw [ext_bs, h.2.2]
  congr 1
  have h2 := h.2.1
  conv => rhs; rw [← tx_take s k]
  rw [List.drop_take]
theorem PInv.plain {s : ByteArray} {n k fr : Nat} {q : St} {l : By} (h : PInv s n k fr q) (hl : (lnB s)[k]? = some l) (hm : markOf n l = none) : PInv s n (k + 1) fr { q with now := q.now ++ l } := by
  refine ⟨by rw [parseS_take hl h.1, stepS, hm], ?_, ?_⟩
  · rw [tx_succ hl, List.length_append]; have := h.2.1; omega
  · rw [tx_succ hl, List.drop_append_of_le_length h.2.1, ← h.2.2]
theorem PInv.mark {s : ByteArray} {n k fr : Nat} {q : St} {l : By} {x : Nat} {c : Bool} (h : PInv s n k fr q) (hl : (lnB s)[k]? = some l) (hm : markOf n l = some (x, c)) (hb : badB q x c = false) :
    PInv s n (k + 1) (tx s (k + 1)).length { endS q (cutT q.now c) with sec := x, now := [] } := by
  refine ⟨by rw [parseS_take hl h.1, stepS, hm]; simp only [hb]; rfl, Nat.le_refl _, ?_⟩
  simp
theorem PInv.bad {s : ByteArray} {n k fr : Nat} {q : St} {l : By} {x : Nat} {c : Bool} (h : PInv s n k fr q) (hl : (lnB s)[k]? = some l) (hm : markOf n l = some (x, c)) (hb : badB q x c = true) :
    parseL n (lnB s) = none :=
  parseL_none hl h.1 (by rw [stepS, hm]; simp only [hb]; rfl)
theorem endS_len (q : St) (t : By) : (endS q t).out.length ≤ q.out.length + 1 := by
  unfold endS
  split
  · simp only [List.length_append]; split <;> simp
  · split
    · exact Nat.le_succ _
    · split
      · exact Nat.le_succ _
      · simp
theorem parseS_len {n : Nat} : ∀ (ls : List By) {q q' : St}, q.sec < 4 → parseS n q ls = some q' → q'.out.length ≤ q.out.length + ls.length ∧ q'.sec < 4
  | [], q, q', hs, h => by
    obtain rfl : q = q' := Option.some.inj h
    exact ⟨Nat.le_refl _, hs⟩
  | l :: ls, q, q', hs, h => by
    rw [parseS] at h
    cases hst : stepS n q l with
    | none => rw [hst] at h; cases h
    | some q1 =>
      rw [hst] at h
      have h1 : q1.out.length ≤ q.out.length + 1 ∧ q1.sec < 4 := by
        unfold stepS at hst
        cases hm : markOf n l with
        | none => rw [hm] at hst; obtain rfl := Option.some.inj hst; exact ⟨Nat.le_succ _, hs⟩
        | some p =>
          obtain ⟨x, c⟩ := p
          rw [hm] at hst
          simp only at hst
          split at hst
          · cases hst
          · obtain rfl := Option.some.inj hst
            exact ⟨endS_len q _, markOf_lt hm⟩
      have h2 := parseS_len ls h1.2 h
      rw [List.length_cons]
      exact ⟨by omega, h2.2⟩
theorem PInv.len {s : ByteArray} {n k fr : Nat} {q : St} (h : PInv s n k fr q) : q.out.length ≤ k ∧ q.sec < 4 := by
  have := parseS_len _ (by decide) h.1
  have hl : ((lnB s).take k).length ≤ k := List.length_take_le _ _
  have h0 : st0.out.length = 0 := rfl
  exact ⟨by omega, this.2⟩
theorem PInv.fin {s : ByteArray} {n fr : Nat} {q : St} (h : PInv s n (lns s).length fr q) : parseL n (lnB s) = finS q := by
  refine parseL_end ?_
  have h1 := h.1
  rwa [List.take_of_length_le (by unfold lnB; rw [List.length_map]; exact Nat.le_refl _)] at h1
/-- The parts of a text, by marks of length n, or none. -/
def parseT (ls : List By) (n : Int) : Option (List Pt) := if n < 1 then none else parseL n.toNat ls
/-- What Parse answers. -/
def ParseIs (r : Option (List Pt)) (e : Ending) (w' : World) : Prop :=
  match r with
  | some L => ∃ v, e = .returned (.tuple #[v, .int .i64 0]) ∧ Prts w' v L
  | none => e = .returned (.tuple #[.slice none 0 0, .int .i64 90])
theorem end_any (g B2 : Nat) (f : Int) (q : St) (hq : q.sec < 4) (t : By) (hout : q.out.length ≤ 100000000) (W : World) (h : Rd W g B2 q.sec f q.p q.out) : Calls Tryd.prog 29 #[.pointer (some ⟨g, 0, none⟩), .string (bs t)] W (EndIs g B2 q.sec f (endS q t) W) := by
  obtain ⟨sec, now, p, out⟩ := q
  have h4 : sec = 0 ∨ sec = 1 ∨ sec = 2 ∨ sec = 3 := by simp at hq; omega
  rcases h4 with rfl | rfl | rfl | rfl
  · exact end_none g B2 f now p out t hout W h
  · exact end_one g B2 f now p out t W h
  · exact end_two g B2 f now p out t W h
  · exact end_three g B2 f now p out t hout W h
theorem Rd.put {W : World} {g B2 : Nat} {s f : Int} {p : Pt} {out : List Pt} (h : Rd W g B2 s f p out) (s' f' : Int) : Rd ((W.setCell ⟨g, 0, none⟩ (.int .i64 s')).setCell ⟨g, 1, none⟩ (.int .i64 f')) g B2 s' f' p out := by
  obtain ⟨⟨v, hr, ho⟩, hlt, hsz⟩ := h
  exact ⟨⟨v, (hr.set 0 _).set 1 _, own_put (own_put ho hr (by decide)) (hr.set 0 _) (by decide)⟩, hlt, by simpa using hsz⟩
theorem Rd.below {W W' : World} {g B2 : Nat} {s f : Int} {p : Pt} {out : List Pt} (h : Rd W g B2 s f p out) (hb : Below W.heap.size W W') : Rd W' g B2 s f p out := by
  obtain ⟨⟨v, hr, ho⟩, hlt, hsz⟩ := h
  exact ⟨⟨v, hr.later hb, own_below ho hb⟩, hlt, Nat.le_trans hsz hb.size⟩
end Go.Proofs.YtbekbllffphfeaaDoor.K
