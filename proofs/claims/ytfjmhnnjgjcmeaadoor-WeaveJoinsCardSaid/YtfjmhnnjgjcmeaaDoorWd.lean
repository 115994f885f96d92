/-
  For the laws of weave: the pieces of three rows of units, as lists, and what holds of them in memory. No condition.
-/
import Derived.Test.YtfjmhnnjgjcmeaaDoorWc
import Derived.Test.YtfjmhnnjgjcmeaaDoorDe
namespace Go.Proofs.YtfjmhnnjgjcmeaaDoor
open Go.RowKit Go.Shelf
set_option linter.unusedSimpArgs false
set_option linter.unusedVariables false

abbrev TL := List ByteArray
structure Pc where
  clash : Bool
  o : TL
  a : TL
  b : TL
/-- Pieces that are done, and what one that isn't a clash holds so far. -/
abbrev St := List Pc × Option (TL × TL)
def St.fin (s : St) : List Pc := s.1 ++ (match s.2 with | none => [] | some q => [⟨false, q.1, q.2, []⟩])
def yOf (a b : TL) (c : L.Ck) : TL := if c.kind = 2 then L.slc b c.p.b c.q.b else L.slc a c.p.a c.q.a
def St.add (o a b : TL) (s : St) (c : L.Ck) : St :=
  if c.kind = 4 then (s.fin ++ [⟨true, L.slc o c.p.o c.q.o, L.slc a c.p.a c.q.a, L.slc b c.p.b c.q.b⟩], none)
  else match s.2 with
    | none => (s.1, some (L.slc o c.p.o c.q.o, yOf a b c))
    | some q => (s.1, some (q.1 ++ L.slc o c.p.o c.q.o, q.2 ++ yOf a b c))
def stOf (o a b : TL) (l : List L.Ck) : St := l.foldl (St.add o a b) ([], none)
def combP (o a b : TL) : List Pc := (stOf o a b (L.chunksT o a b)).fin
theorem stOf_snoc (o a b : TL) (l : List L.Ck) (c : L.Ck) : stOf o a b (l ++ [c]) = (stOf o a b l).add o a b c := by unfold stOf; rw [List.foldl_append]; rfl
/-- Where nothing is open the last piece is a clash. -/
def St.ok (s : St) : Prop := s.2 = none → ∀ p, s.1.getLast? = some p → p.clash = true
theorem St.ok_add {o a b : TL} {s : St} {c : L.Ck} (h : s.ok) : (s.add o a b c).ok := by
  unfold St.add St.ok
  split
  · intro _ p hp
    simp only at hp
    rw [List.getLast?_append] at hp
    simp at hp
    rw [← hp]
  · split <;> intro h0 <;> cases h0
theorem stOf_ok (o a b : TL) : ∀ l : List L.Ck, (stOf o a b l).ok := fun l => by
  have : ∀ (l : List L.Ck) (s : St), s.ok → (l.foldl (St.add o a b) s).ok := by
    intro l
    induction l with
    | nil => intro s h; exact h
    | cons c l ih => intro s h; exact ih _ (St.ok_add h)
  exact this l _ (fun _ p hp => by simp at hp)

/-- Each chunk lies within the rows. -/
def okC (o a b : TL) (c : L.Ck) : Prop := (c.p.o ≤ c.q.o ∧ c.q.o ≤ o.length) ∧ (c.p.a ≤ c.q.a ∧ c.q.a ≤ a.length) ∧ c.p.b ≤ c.q.b ∧ c.q.b ≤ b.length
theorem cuts_ok {M R : List Int} {E : L.P3} : ∀ (n : Nat) (p : L.P3), L.InvP M R E p → ∀ c ∈ L.cuts M R E n p, (c.1.o ≤ c.2.o ∧ c.2.o ≤ E.o) ∧ (c.1.a ≤ c.2.a ∧ c.2.a ≤ E.a) ∧ c.1.b ≤ c.2.b ∧ c.2.b ≤ E.b
  | 0, _, _, c, hc => by simp [L.cuts] at hc
  | n + 1, p, h, c, hc => by
    unfold L.cuts at hc
    split at hc
    · cases hc
    · rename_i hne
      obtain ⟨h1, h2, h3, h4, -⟩ := h.next hne
      rcases List.mem_cons.1 hc with rfl | hc
      · exact ⟨⟨h2, h1.o⟩, ⟨h3, h1.a⟩, h4, h1.b⟩
      · exact cuts_ok n _ h1 c hc
theorem chunks_ok {o a b : List Int} (l1 : o.length ≤ 2000) (l2 : a.length ≤ 2000) (l3 : b.length ≤ 2000) : ∀ c ∈ L.chunksOf o a b, (c.p.o ≤ c.q.o ∧ c.q.o ≤ o.length) ∧ (c.p.a ≤ c.q.a ∧ c.q.a ≤ a.length) ∧ c.p.b ≤ c.q.b ∧ c.q.b ≤ b.length := by
  intro c hc
  unfold L.chunksOf at hc
  obtain ⟨d, hd, rfl⟩ := List.mem_map.1 hc
  have hi : L.InvP (L.matchOf o a) (L.matchOf o b) ⟨o.length, a.length, b.length⟩ ⟨0, 0, 0⟩ := L.InvP.start (L.matchOf_length o a) (L.matchOf_length o b) (L.match_ok l1 l2).1 (L.match_ok l1 l3).1
  exact cuts_ok _ _ hi d hd
theorem chunksT_ok {o a b : TL} (l1 : o.length ≤ 2000) (l2 : a.length ≤ 2000) (l3 : b.length ≤ 2000) : ∀ c ∈ L.chunksT o a b, okC o a b c := by
  intro c hc
  have h := chunks_ok (o := (L.num3 o a b).1) (a := (L.num3 o a b).2.1) (b := (L.num3 o a b).2.2) (by show (L.numRow _ _).length ≤ _; rw [L.numRow_length]; exact l1) (by show (L.numRow _ _).length ≤ _; rw [L.numRow_length]; exact l2) (by show (L.numRow _ _).length ≤ _; rw [L.numRow_length]; exact l3) c hc
  rw [show (L.num3 o a b).1.length = o.length from L.numRow_length _ _, show (L.num3 o a b).2.1.length = a.length from L.numRow_length _ _, show (L.num3 o a b).2.2.length = b.length from L.numRow_length _ _] at h
  exact h
theorem chunksT_len {o a b : TL} : (L.chunksT o a b).length ≤ o.length + a.length + b.length := by
  have h := L.chunks_len (L.num3 o a b).1 (L.num3 o a b).2.1 (L.num3 o a b).2.2
  rw [show (L.num3 o a b).1.length = o.length from L.numRow_length _ _, show (L.num3 o a b).2.1.length = a.length from L.numRow_length _ _, show (L.num3 o a b).2.2.length = b.length from L.numRow_length _ _] at h
  exact h

/-- A row of chunks, thing by thing. -/
theorem fck_get {l : List L.Ck} {k : Nat} {c : L.Ck} (h : l[k]? = some c) (j : Nat) (hj : j < 7) : (L.fck l)[k * 7 + j]? = (L.ckv c)[j]? := by
  have e : l = l.take k ++ c :: l.drop (k + 1) := by rw [← drop_at h, List.take_append_drop]
  have hl : (L.fck (l.take k)).length = k * 7 := by rw [L.fck_len, List.length_take, Nat.min_eq_left (Nat.le_of_lt (List.getElem?_eq_some_iff.1 h).1)]
  have e2 : L.fck l = L.fck (l.take k) ++ (L.ckv c ++ L.fck (l.drop (k + 1))) := by
    conv => lhs; rw [e]
    unfold L.fck
    rw [List.flatMap_append, List.flatMap_cons]
  rw [e2, List.getElem?_append_right (by omega), hl, Nat.add_sub_cancel_left, List.getElem?_append_left (by rw [L.ckv_len]; exact hj)]
theorem cks_at {w : World} {base n : Nat} {v : Value} {l : List L.Ck} (h : w.ownsRow base 71 7 v n (L.fck l)) : ∃ (a : Option Addr) (cap : Nat), v = .slice a n cap ∧ n = l.length ∧ n ≤ cap ∧ cap ≤ maxLen ∧ ∀ (wr : World), Below w.heap.size w wr → ∀ (k : Nat) (c : L.Ck), l[k]? = some c → ∃ g, a = some ⟨g, 0, none⟩ ∧ wr.cell? ⟨g, k * 7, none⟩ = some (.int .i64 c.kind) ∧ wr.cell? ⟨g, k * 7 + 1, none⟩ = some (.int .i64 (c.p.o : Nat)) ∧ wr.cell? ⟨g, k * 7 + 2, none⟩ = some (.int .i64 (c.q.o : Nat)) ∧ wr.cell? ⟨g, k * 7 + 3, none⟩ = some (.int .i64 (c.p.a : Nat)) ∧ wr.cell? ⟨g, k * 7 + 4, none⟩ = some (.int .i64 (c.q.a : Nat)) ∧ wr.cell? ⟨g, k * 7 + 5, none⟩ = some (.int .i64 (c.p.b : Nat)) ∧ wr.cell? ⟨g, k * 7 + 6, none⟩ = some (.int .i64 (c.q.b : Nat)) := by
  have hl := h.1
  rw [L.fck_len] at hl
  have hn : n = l.length := by omega
  rcases h.2 with ⟨rfl, h0⟩ | ⟨g, cap, cur, rfl, _, hg, h1, h2, h3, h4⟩
  · refine ⟨none, 0, by rw [h0], hn, by omega, Nat.zero_le _, fun wr _ k c hk => ?_⟩
    have := (List.getElem?_eq_some_iff.1 hk).1
    omega
  · refine ⟨_, cap, rfl, hn, h1, h2, fun wr hB k c hk => ⟨g, rfl, ?_⟩⟩
    have hkl := (List.getElem?_eq_some_iff.1 hk).1
    have hgl := (Array.getElem?_eq_some_iff.1 hg).1
    have one : ∀ j, j < 7 → wr.cell? ⟨g, k * 7 + j, none⟩ = (L.ckv c)[j]? := fun j hj => by
      have e1 := fck_get hk j hj
      rw [← h4, List.getElem?_take_of_lt (by omega)] at e1
      have e2 : w.cell? ⟨g, k * 7 + j, none⟩ = (L.ckv c)[j]? := by
        rw [← e1]; simp [World.cell?, hg]
      cases hx : (L.ckv c)[j]? with
      | none => rw [List.getElem?_eq_none_iff, L.ckv_len] at hx; omega
      | some x => rw [hx] at e2; exact (hB.cell (p := ⟨g, k * 7 + j, none⟩) hgl).trans e2
    exact ⟨one 0 (by omega), one 1 (by omega), one 2 (by omega), one 3 (by omega), one 4 (by omega), one 5 (by omega), one 6 (by omega)⟩

/-- What leaves as they were the blocks below n1, and below m the rows of texts. -/
def KpM (n1 m : Nat) (A B : World) : Prop := Below n1 A B ∧ ∀ (b : Nat) (cs : Array Value), b < m → RowAt A b 9 cs → RowAt B b 9 cs
theorem KpM.trans {n1 m : Nat} {A B C : World} (h : KpM n1 m A B) (k : KpM n1 m B C) : KpM n1 m A C := ⟨h.1.trans k.1, fun b cs hb hr => k.2 b cs hb (h.2 b cs hb hr)⟩
theorem KpM.refl (n1 m : Nat) (A : World) : KpM n1 m A A := ⟨Below.refl _ _, fun _ _ _ h => h⟩
theorem KpM.below {n1 m : Nat} {A B : World} (hn : n1 ≤ A.heap.size) (h : Below A.heap.size A B) : KpM n1 m A B := ⟨h.mono hn, fun b cs _ hr => hr.later h⟩
/-- A slice of texts that lies where nothing is turned. -/
def SetV (n1 m : Nat) (W : World) (v : Value) (xs : TL) : Prop :=
  ∃ (a : Option Addr) (cap : Nat), v = .slice a xs.length cap ∧ xs.length ≤ cap ∧ cap ≤ maxLen ∧ (xs = [] ∨ ∃ b off, a = some ⟨b, off, none⟩ ∧ b < W.heap.size ∧ (b < n1 ∨ (b < m ∧ ∃ cs, RowAt W b 9 cs)) ∧ ∀ j x, xs[j]? = some x → W.cell? ⟨b, off + j, none⟩ = some (.string x))
theorem SetV.keep {n1 m : Nat} {A B : World} {v : Value} {xs : TL} (h : SetV n1 m A v xs) (hk : KpM n1 m A B) : SetV n1 m B v xs := by
  obtain ⟨a, cap, rfl, h1, h2, h3⟩ := h
  refine ⟨a, cap, rfl, h1, h2, ?_⟩
  rcases h3 with h | ⟨b, off, rfl, hl, hw, hx⟩
  · exact .inl h
  · refine .inr ⟨b, off, rfl, Nat.lt_of_lt_of_le hl hk.1.size, ?_, fun j x hj => ?_⟩
    · rcases hw with h | ⟨h, cs, hr⟩
      · exact .inl h
      · exact .inr ⟨h, cs, hk.2 b cs h hr⟩
    · have hb : B.heap[b]? = A.heap[b]? := by
        rcases hw with h | ⟨h, cs, hr⟩
        · exact hk.1.block b h
        · exact (hk.2 b cs h hr).trans hr.symm
      exact (World.cell?_of_block (w := A) (w' := B) (a := ⟨b, off + j, none⟩) hb).trans (hx j x hj)
theorem SetV.mono {n1 m m' : Nat} {W : World} {v : Value} {xs : TL} (h : SetV n1 m W v xs) (hm : m ≤ m') : SetV n1 m' W v xs := by
  obtain ⟨a, cap, rfl, h1, h2, h3⟩ := h
  refine ⟨a, cap, rfl, h1, h2, ?_⟩
  rcases h3 with h | ⟨b, off, rfl, hl, hw, hx⟩
  · exact .inl h
  · refine .inr ⟨b, off, rfl, hl, ?_, hx⟩
    rcases hw with h | ⟨h, cs, hr⟩
    · exact .inl h
    · exact .inr ⟨Nat.lt_of_lt_of_le h hm, cs, hr⟩
theorem SetV.vals {n1 m : Nat} {W : World} {v : Value} {xs : TL} (h : SetV n1 m W v xs) : L.Vals W v (xs.map .string) := by
  obtain ⟨a, cap, rfl, h1, h2, h3⟩ := h
  refine ⟨a, cap, by rw [List.length_map], by rw [List.length_map]; exact h1, h2, ?_⟩
  rcases h3 with rfl | ⟨b, off, rfl, h4, -, h5⟩
  · exact .inl rfl
  · refine .inr ⟨b, off, rfl, h4, fun j x hj => ?_⟩
    rw [List.getElem?_map] at hj
    cases hx : xs[j]? with
    | none => rw [hx] at hj; cases hj
    | some y => rw [hx] at hj; cases hj; exact h5 j y hx
theorem setv_nil (n1 m : Nat) (W : World) : SetV n1 m W (.slice none 0 0) [] := ⟨none, 0, rfl, Nat.le_refl _, Nat.zero_le _, .inl rfl⟩
theorem setv_own {n1 base n : Nat} {W : World} {v : Value} {xs : TL} (h : W.ownsRow base 9 1 v n (xs.map .string)) : SetV n1 W.heap.size W v xs := by
  have hl := h.1
  rw [List.length_map, Nat.mul_one] at hl
  subst hl
  have hcell := fun {g} hg => h.cells (g := g) hg
  rcases h.2 with ⟨rfl, h0⟩ | ⟨g, cap, cur, rfl, _, hg, hk, hm, _, _⟩
  · have hx : xs = [] := List.length_eq_zero_iff.1 h0
    subst hx
    exact setv_nil _ _ W
  · refine ⟨_, cap, rfl, hk, hm, .inr ⟨g, 0, rfl, (Array.getElem?_eq_some_iff.1 hg).1, .inr ⟨(Array.getElem?_eq_some_iff.1 hg).1, cur, hg⟩, fun j x hj => ?_⟩⟩
    have := hcell (g := g) rfl j (.string x) (by rw [List.getElem?_map, hj]; rfl)
    rw [← add_flat]; exact this
theorem size9 (w : World) : (Go.sizeOf 9).run Tryd.prog w = .ok 1 w := by kernel_rfl
theorem slice33 : Tryd.prog.underlying 33 = some (.slice (Tryd.prog.elem 33)) := by rw [Tryd.underlying33]; kernel_rfl
theorem elem33 : Tryd.prog.elem 33 = 9 := by kernel_rfl
theorem slc_len {α : Type} {l : List α} {i j : Nat} (h : j ≤ l.length) : (L.slc l i j).length = j - i := by unfold L.slc; rw [List.length_take, List.length_drop]; omega
/-- 'v[lo:hi]' of a slice of texts that came in. -/
theorem vals_cut {W : World} {n1 : Nat} {v : Value} {xs : TL} (h : L.Vals W v (xs.map .string)) (hn : W.heap.size ≤ n1) (lo hi : Nat) (h1 : lo ≤ hi) (h2 : hi ≤ xs.length) :
    ∃ v', (∀ V : World, (Instr.slice 33 v (some (.int .i64 (lo : Nat))) (some (.int .i64 (hi : Nat))) none).run Tryd.prog V = .ok v' V) ∧ ∀ (m : Nat) (U : World), Below W.heap.size W U → SetV n1 m U v' (L.slc xs lo hi) := by
  obtain ⟨a, cap, rfl, hc, hm, hx⟩ := h
  rw [List.length_map] at hc ⊢
  have hrun : ∀ V : World, (Instr.slice 33 (.slice a xs.length cap) (some (.int .i64 (lo : Int))) (some (.int .i64 (hi : Int))) none).run Tryd.prog V = .ok (.slice (if cap = lo then a else a.map (·.add (lo * 1))) (hi - lo) (cap - lo)) V := by
    intro V
    rw [run_slice_lh V 33 _ _ _ slice33 .i64 .i64 _ _ (by omega) (by omega) (by omega), elem33, size9]
    simp [Result.andThen, sliced]
  refine ⟨_, hrun, fun m U hU => ?_⟩
  have hlen : (L.slc xs lo hi).length = hi - lo := slc_len h2
  refine ⟨_, _, by rw [hlen], by omega, by omega, ?_⟩
  by_cases he : hi - lo = 0
  · left
    exact List.length_eq_zero_iff.1 (by rw [hlen]; exact he)
  · right
    rcases hx with hx | ⟨b, off, rfl, hb, hx⟩
    · have : xs = [] := by simpa using hx
      subst this
      simp at h2; omega
    · rw [if_neg (by omega)]
      refine ⟨b, off + lo, by simp [Addr.add], by have := hU.size; omega, .inl (by omega), fun j x hj => ?_⟩
      rw [Nat.add_assoc]
      refine (hU.cell (p := ⟨b, off + (lo + j), none⟩) hb).trans (hx _ _ ?_)
      unfold L.slc at hj
      rw [List.getElem?_take] at hj
      split at hj
      · rw [List.getElem?_drop] at hj
        rw [List.getElem?_map, hj]; rfl
      · cases hj
end Go.Proofs.YtfjmhnnjgjcmeaaDoor
