/-
  For the laws of weave: the units of a text, by the program. Condition: texts of at most 1,000,000 bytes; the library's own variables are as they are laid.
-/
import Derived.Test.YtbekbllffphfeaaDoorPA
import Derived.Test.YtbekbllffphfeaaDoorSA
import Derived.Test.YtbekbllffphfeaaDoorLA
import Derived.Test.YtbekbllffphfeaaDoorDA
import Derived.Laws.AppendOwn
import Derived.OneCell
import Derived.OwnWalkIn
import Derived.TacticsInMore
import Derived.LoopNIn
import Derived.LoopIn
import Derived.Sort.CutIn
import Derived.Sort.QuietIn
import Derived.WalkMore
import Derived.Deep.Cut
import Derived.Deep.CutRange
import Derived.ControlIn
namespace Go.Proofs.YtbekbllffphfeaaDoor
open Go.RowKit Go.Shelf
set_option linter.unusedSimpArgs false
set_option linter.unusedVariables false

/-- What units tell. -/
def UnitGives (w : World) (us : List ByteArray) (b : Bool) (e : Ending) (w' : World) : Prop := ∃ v, e = .returned (.tuple #[v, .bool b]) ∧ L.Vals w' v (us.map .string) ∧ Below w.heap.size w w'
theorem lns_small (s : ByteArray) : ∀ x ∈ S.lns s, x.size ≤ s.size := by
  have hst : ∀ k, k ≤ s.size → ∀ x ∈ (S.st s k).1, x.size ≤ s.size := fun k => by
    induction k with
    | zero => intro _ x hx; cases hx
    | succ k ih =>
      intro hk x hx
      cases h : S.nlB s k with
      | true =>
        rw [S.st_yes h] at hx
        rcases List.mem_append.1 hx with hx | hx
        · exact ih (by omega) x hx
        · obtain rfl := List.mem_singleton.1 hx
          rw [ByteArray.size_extract]; omega
      | false => rw [S.st_no h] at hx; exact ih (by omega) x hx
  unfold S.lns
  split
  · intro x hx
    rcases List.mem_append.1 hx with hx | hx
    · exact hst _ (Nat.le_refl _) x hx
    · obtain rfl := List.mem_singleton.1 hx
      rw [ByteArray.size_extract]; omega
  · exact hst _ (Nat.le_refl _)
theorem vals_of_strz {W : World} {v : Value} {xs : List ByteArray} (h : S.Strz W v xs) : L.Vals W v (xs.map .string) := by
  obtain ⟨a, cap, rfl, h1, h2, h3⟩ := h
  refine ⟨a, cap, by rw [List.length_map], by rw [List.length_map]; exact h1, h2, ?_⟩
  rcases h3 with rfl | ⟨b, off, rfl, h4, h5⟩
  · exact .inl rfl
  · refine .inr ⟨b, off, rfl, h4, fun j x hj => ?_⟩
    rw [List.getElem?_map] at hj
    cases hx : xs[j]? with
    | none => rw [hx] at hj; cases hj
    | some y => rw [hx] at hj; cases hj; exact h5 j y hx
set_option maxRecDepth 100000 in
theorem lines_any (s : ByteArray) (w : World) (hs : s.size ≤ 1000000) : Calls Tryd.prog 33 #[.string s] w (UnitGives w (S.lns s) true) := by
  have C1 := Lib.hid ((callsIn_wide (n := 3)).1 (S.Split_in Fence.wide 3 trivial trivial trivial rfl (Nat.le_refl _) s (by omega) w))
  obtain ⟨xs, hxs⟩ : ∃ xs, Hid (S.lns s = xs) := ⟨_, Lib.hid rfl⟩
  rw [hxs.out] at C1 ⊢
  go_enter Tryd.func33, Tryd.ntmps33
  go_wp2_with fail
  refine C1.out.mono ?_
  rintro e w1 ⟨v, rfl, ⟨hv, -⟩, hb⟩
  have Hv : Hid (L.Vals w1 v (xs.map .string)) := Lib.hid (vals_of_strz hv)
  have Hb := Lib.hid hb
  obtain ⟨a, cap, rfl, -⟩ := hv
  clear hb
  go_wp2_with fail
  go_ret2
  exact ⟨_, rfl, Hv.out, Hb.out⟩
end Go.Proofs.YtbekbllffphfeaaDoor
/-
  For the laws of weave: the pieces of three rows of units, as lists, and what holds of them in memory. No condition.
-/
namespace Go.Proofs.YtbekbllffphfeaaDoor
open Go.RowKit Go.Shelf
set_option linter.unusedSimpArgs false
set_option linter.unusedVariables false

abbrev TL := List ByteArray
structure Pc where
  clash : Bool
  o : TL
  a : TL
  b : TL
/-- Pieces that are done, and what one that isn't a clash holds so far. -/
abbrev St := List Pc × Option (TL × TL)
def St.fin (s : St) : List Pc := s.1 ++ (match s.2 with | none => [] | some q => [⟨false, q.1, q.2, []⟩])
def yOf (a b : TL) (c : L.Ck) : TL := if c.kind = 2 then L.slc b c.p.b c.q.b else L.slc a c.p.a c.q.a
def St.add (o a b : TL) (s : St) (c : L.Ck) : St :=
  if c.kind = 4 then (s.fin ++ [⟨true, L.slc o c.p.o c.q.o, L.slc a c.p.a c.q.a, L.slc b c.p.b c.q.b⟩], none)
  else match s.2 with
    | none => (s.1, some (L.slc o c.p.o c.q.o, yOf a b c))
    | some q => (s.1, some (q.1 ++ L.slc o c.p.o c.q.o, q.2 ++ yOf a b c))
def stOf (o a b : TL) (l : List L.Ck) : St := l.foldl (St.add o a b) ([], none)
def combP (o a b : TL) : List Pc := (stOf o a b (L.chunksT o a b)).fin
theorem stOf_snoc (o a b : TL) (l : List L.Ck) (c : L.Ck) : stOf o a b (l ++ [c]) = (stOf o a b l).add o a b c := by unfold stOf; rw [List.foldl_append]; rfl
/-- Where nothing is open the last piece is a clash. -/
def St.ok (s : St) : Prop := s.2 = none → ∀ p, s.1.getLast? = some p → p.clash = true
theorem St.ok_add {o a b : TL} {s : St} {c : L.Ck} (h : s.ok) : (s.add o a b c).ok := by
  unfold St.add St.ok
  split
  · intro _ p hp
    simp only at hp
    rw [List.getLast?_append] at hp
    simp at hp
    rw [← hp]
  · split <;> intro h0 <;> cases h0
theorem stOf_ok (o a b : TL) : ∀ l : List L.Ck, (stOf o a b l).ok := fun l => by
  have : ∀ (l : List L.Ck) (s : St), s.ok → (l.foldl (St.add o a b) s).ok := by
    intro l
    induction l with
    | nil => intro s h; exact h
    | cons c l ih => intro s h; exact ih _ (St.ok_add h)
  exact this l _ (fun _ p hp => by simp at hp)

/-- Each chunk lies within the rows. -/
def okC (o a b : TL) (c : L.Ck) : Prop := (c.p.o ≤ c.q.o ∧ c.q.o ≤ o.length) ∧ (c.p.a ≤ c.q.a ∧ c.q.a ≤ a.length) ∧ c.p.b ≤ c.q.b ∧ c.q.b ≤ b.length
theorem cuts_ok {M R : List Int} {E : L.P3} : ∀ (n : Nat) (p : L.P3), L.InvP M R E p → ∀ c ∈ L.cuts M R E n p, (c.1.o ≤ c.2.o ∧ c.2.o ≤ E.o) ∧ (c.1.a ≤ c.2.a ∧ c.2.a ≤ E.a) ∧ c.1.b ≤ c.2.b ∧ c.2.b ≤ E.b
  | 0, _, _, c, hc => by simp [L.cuts] at hc
  | n + 1, p, h, c, hc => by
    unfold L.cuts at hc
    split at hc
    · cases hc
    · rename_i hne
      obtain ⟨h1, h2, h3, h4, -⟩ := h.next hne
      rcases List.mem_cons.1 hc with rfl | hc
      · exact ⟨⟨h2, h1.o⟩, ⟨h3, h1.a⟩, h4, h1.b⟩
      · exact cuts_ok n _ h1 c hc
theorem chunks_ok {o a b : List Int} (l1 : o.length ≤ 2600) (l2 : a.length ≤ 2600) (l3 : b.length ≤ 2600) : ∀ c ∈ L.chunksOf o a b, (c.p.o ≤ c.q.o ∧ c.q.o ≤ o.length) ∧ (c.p.a ≤ c.q.a ∧ c.q.a ≤ a.length) ∧ c.p.b ≤ c.q.b ∧ c.q.b ≤ b.length := by
  intro c hc
  unfold L.chunksOf at hc
  obtain ⟨d, hd, rfl⟩ := List.mem_map.1 hc
  have hi : L.InvP (L.matchOf o a) (L.matchOf o b) ⟨o.length, a.length, b.length⟩ ⟨0, 0, 0⟩ := L.InvP.start (L.matchOf_length o a) (L.matchOf_length o b) (L.match_ok l1 l2).1 (L.match_ok l1 l3).1
  exact cuts_ok _ _ hi d hd
theorem chunksT_ok {o a b : TL} (l1 : o.length ≤ 2600) (l2 : a.length ≤ 2600) (l3 : b.length ≤ 2600) : ∀ c ∈ L.chunksT o a b, okC o a b c := by
  intro c hc
  have h := chunks_ok (o := (L.num3 o a b).1) (a := (L.num3 o a b).2.1) (b := (L.num3 o a b).2.2) (by show (L.numRow _ _).length ≤ _; rw [L.numRow_length]; exact l1) (by show (L.numRow _ _).length ≤ _; rw [L.numRow_length]; exact l2) (by show (L.numRow _ _).length ≤ _; rw [L.numRow_length]; exact l3) c hc
  rw [show (L.num3 o a b).1.length = o.length from L.numRow_length _ _, show (L.num3 o a b).2.1.length = a.length from L.numRow_length _ _, show (L.num3 o a b).2.2.length = b.length from L.numRow_length _ _] at h
  exact h
theorem chunksT_len {o a b : TL} : (L.chunksT o a b).length ≤ o.length + a.length + b.length := by
  have h := L.chunks_len (L.num3 o a b).1 (L.num3 o a b).2.1 (L.num3 o a b).2.2
  rw [show (L.num3 o a b).1.length = o.length from L.numRow_length _ _, show (L.num3 o a b).2.1.length = a.length from L.numRow_length _ _, show (L.num3 o a b).2.2.length = b.length from L.numRow_length _ _] at h
  exact h

/-- A row of chunks, thing by thing. -/
theorem fck_get {l : List L.Ck} {k : Nat} {c : L.Ck} (h : l[k]? = some c) (j : Nat) (hj : j < 7) : (L.fck l)[k * 7 + j]? = (L.ckv c)[j]? := by
  have e : l = l.take k ++ c :: l.drop (k + 1) := by rw [← drop_at h, List.take_append_drop]
  have hl : (L.fck (l.take k)).length = k * 7 := by rw [L.fck_len, List.length_take, Nat.min_eq_left (Nat.le_of_lt (List.getElem?_eq_some_iff.1 h).1)]
  have e2 : L.fck l = L.fck (l.take k) ++ (L.ckv c ++ L.fck (l.drop (k + 1))) := by
    conv => lhs; rw [e]
    unfold L.fck
    rw [List.flatMap_append, List.flatMap_cons]
  rw [e2, List.getElem?_append_right (by omega), hl, Nat.add_sub_cancel_left, List.getElem?_append_left (by rw [L.ckv_len]; exact hj)]
theorem cks_at {w : World} {base n : Nat} {v : Value} {l : List L.Ck} (h : w.ownsRow base 119 7 v n (L.fck l)) : ∃ (a : Option Addr) (cap : Nat), v = .slice a n cap ∧ n = l.length ∧ n ≤ cap ∧ cap ≤ maxLen ∧ ∀ (wr : World), Below w.heap.size w wr → ∀ (k : Nat) (c : L.Ck), l[k]? = some c → ∃ g, a = some ⟨g, 0, none⟩ ∧ wr.cell? ⟨g, k * 7, none⟩ = some (.int .i64 c.kind) ∧ wr.cell? ⟨g, k * 7 + 1, none⟩ = some (.int .i64 (c.p.o : Nat)) ∧ wr.cell? ⟨g, k * 7 + 2, none⟩ = some (.int .i64 (c.q.o : Nat)) ∧ wr.cell? ⟨g, k * 7 + 3, none⟩ = some (.int .i64 (c.p.a : Nat)) ∧ wr.cell? ⟨g, k * 7 + 4, none⟩ = some (.int .i64 (c.q.a : Nat)) ∧ wr.cell? ⟨g, k * 7 + 5, none⟩ = some (.int .i64 (c.p.b : Nat)) ∧ wr.cell? ⟨g, k * 7 + 6, none⟩ = some (.int .i64 (c.q.b : Nat)) := by
  have hl := h.1
  rw [L.fck_len] at hl
  have hn : n = l.length := by omega
  rcases h.2 with ⟨rfl, h0⟩ | ⟨g, cap, cur, rfl, _, hg, h1, h2, h3, h4⟩
  · refine ⟨none, 0, by rw [h0], hn, by omega, Nat.zero_le _, fun wr _ k c hk => ?_⟩
    have := (List.getElem?_eq_some_iff.1 hk).1
    omega
  · refine ⟨_, cap, rfl, hn, h1, h2, fun wr hB k c hk => ⟨g, rfl, ?_⟩⟩
    have hkl := (List.getElem?_eq_some_iff.1 hk).1
    have hgl := (Array.getElem?_eq_some_iff.1 hg).1
    have one : ∀ j, j < 7 → wr.cell? ⟨g, k * 7 + j, none⟩ = (L.ckv c)[j]? := fun j hj => by
      have e1 := fck_get hk j hj
      rw [← h4, List.getElem?_take_of_lt (by omega)] at e1
      have e2 : w.cell? ⟨g, k * 7 + j, none⟩ = (L.ckv c)[j]? := by
        rw [← e1]; simp [World.cell?, hg]
      cases hx : (L.ckv c)[j]? with
      | none => rw [List.getElem?_eq_none_iff, L.ckv_len] at hx; omega
      | some x => rw [hx] at e2; exact (hB.cell (p := ⟨g, k * 7 + j, none⟩) hgl).trans e2
    exact ⟨one 0 (by omega), one 1 (by omega), one 2 (by omega), one 3 (by omega), one 4 (by omega), one 5 (by omega), one 6 (by omega)⟩

/-- What leaves as they were the blocks below n1, and below m the rows of texts. -/
def KpM (n1 m : Nat) (A B : World) : Prop := Below n1 A B ∧ ∀ (b : Nat) (cs : Array Value), b < m → RowAt A b 9 cs → RowAt B b 9 cs
theorem KpM.below {n1 m : Nat} {A B : World} (hn : n1 ≤ A.heap.size) (h : Below A.heap.size A B) : KpM n1 m A B := ⟨h.mono hn, fun b cs _ hr => hr.later h⟩
/-- A slice of texts that lies where nothing is turned. -/
def SetV (n1 m : Nat) (W : World) (v : Value) (xs : TL) : Prop :=
  ∃ (a : Option Addr) (cap : Nat), v = .slice a xs.length cap ∧ xs.length ≤ cap ∧ cap ≤ maxLen ∧ (xs = [] ∨ ∃ b off, a = some ⟨b, off, none⟩ ∧ b < W.heap.size ∧ (b < n1 ∨ (b < m ∧ ∃ cs, RowAt W b 9 cs)) ∧ ∀ j x, xs[j]? = some x → W.cell? ⟨b, off + j, none⟩ = some (.string x))
theorem SetV.keep {n1 m : Nat} {A B : World} {v : Value} {xs : TL} (h : SetV n1 m A v xs) (hk : KpM n1 m A B) : SetV n1 m B v xs := by
  obtain ⟨a, cap, rfl, h1, h2, h3⟩ := h
  refine ⟨a, cap, rfl, h1, h2, ?_⟩
  rcases h3 with h | ⟨b, off, rfl, hl, hw, hx⟩
  · exact .inl h
  · refine .inr ⟨b, off, rfl, Nat.lt_of_lt_of_le hl hk.1.size, ?_, fun j x hj => ?_⟩
    · rcases hw with h | ⟨h, cs, hr⟩
      · exact .inl h
      · exact .inr ⟨h, cs, hk.2 b cs h hr⟩
    · have hb : B.heap[b]? = A.heap[b]? := by
        rcases hw with h | ⟨h, cs, hr⟩
        · exact hk.1.block b h
        · exact (hk.2 b cs h hr).trans hr.symm
      exact (World.cell?_of_block (w := A) (w' := B) (a := ⟨b, off + j, none⟩) hb).trans (hx j x hj)
theorem SetV.mono {n1 m m' : Nat} {W : World} {v : Value} {xs : TL} (h : SetV n1 m W v xs) (hm : m ≤ m') : SetV n1 m' W v xs := by
  obtain ⟨a, cap, rfl, h1, h2, h3⟩ := h
  refine ⟨a, cap, rfl, h1, h2, ?_⟩
  rcases h3 with h | ⟨b, off, rfl, hl, hw, hx⟩
  · exact .inl h
  · refine .inr ⟨b, off, rfl, hl, ?_, hx⟩
    rcases hw with h | ⟨h, cs, hr⟩
    · exact .inl h
    · exact .inr ⟨Nat.lt_of_lt_of_le h hm, cs, hr⟩
theorem setv_nil (n1 m : Nat) (W : World) : SetV n1 m W (.slice none 0 0) [] := ⟨none, 0, rfl, Nat.le_refl _, Nat.zero_le _, .inl rfl⟩
theorem setv_own {n1 base n : Nat} {W : World} {v : Value} {xs : TL} (h : W.ownsRow base 9 1 v n (xs.map .string)) : SetV n1 W.heap.size W v xs := by
  have hl := h.1
  rw [List.length_map, Nat.mul_one] at hl
  subst hl
  have hcell := fun {g} hg => h.cells (g := g) hg
  rcases h.2 with ⟨rfl, h0⟩ | ⟨g, cap, cur, rfl, _, hg, hk, hm, _, _⟩
  · have hx : xs = [] := List.length_eq_zero_iff.1 h0
    subst hx
    exact setv_nil _ _ W
  · refine ⟨_, cap, rfl, hk, hm, .inr ⟨g, 0, rfl, (Array.getElem?_eq_some_iff.1 hg).1, .inr ⟨(Array.getElem?_eq_some_iff.1 hg).1, cur, hg⟩, fun j x hj => ?_⟩⟩
    have := hcell (g := g) rfl j (.string x) (by rw [List.getElem?_map, hj]; rfl)
    rw [← add_flat]; exact this
theorem size9 (w : World) : (Go.sizeOf 9).run Tryd.prog w = .ok 1 w := by kernel_rfl
theorem slice33 : Tryd.prog.underlying 57 = some (.slice (Tryd.prog.elem 57)) := by rw [Tryd.underlying57]; kernel_rfl
theorem elem33 : Tryd.prog.elem 57 = 9 := by kernel_rfl
theorem slc_len {α : Type} {l : List α} {i j : Nat} (h : j ≤ l.length) : (L.slc l i j).length = j - i := by unfold L.slc; rw [List.length_take, List.length_drop]; omega
/-- 'v[lo:hi]' of a slice of texts that came in. -/
theorem vals_cut {W : World} {n1 : Nat} {v : Value} {xs : TL} (h : L.Vals W v (xs.map .string)) (hn : W.heap.size ≤ n1) (lo hi : Nat) (h1 : lo ≤ hi) (h2 : hi ≤ xs.length) :
    ∃ v', (∀ V : World, (Instr.slice 57 v (some (.int .i64 (lo : Nat))) (some (.int .i64 (hi : Nat))) none).run Tryd.prog V = .ok v' V) ∧ ∀ (m : Nat) (U : World), Below W.heap.size W U → SetV n1 m U v' (L.slc xs lo hi) := by
  obtain ⟨a, cap, rfl, hc, hm, hx⟩ := h
  rw [List.length_map] at hc ⊢
  have hrun : ∀ V : World, (Instr.slice 57 (.slice a xs.length cap) (some (.int .i64 (lo : Int))) (some (.int .i64 (hi : Int))) none).run Tryd.prog V = .ok (.slice (if cap = lo then a else a.map (·.add (lo * 1))) (hi - lo) (cap - lo)) V := by
    intro V
    rw [run_slice_lh V 57 _ _ _ slice33 .i64 .i64 _ _ (by omega) (by omega) (by omega), elem33, size9]
    simp [Result.andThen, sliced]
  refine ⟨_, hrun, fun m U hU => ?_⟩
  have hlen : (L.slc xs lo hi).length = hi - lo := slc_len h2
  refine ⟨_, _, by rw [hlen], by omega, by omega, ?_⟩
  by_cases he : hi - lo = 0
  · left
    exact List.length_eq_zero_iff.1 (by rw [hlen]; exact he)
  · right
    rcases hx with hx | ⟨b, off, rfl, hb, hx⟩
    · have : xs = [] := by simpa using hx
      subst this
      simp at h2; omega
    · rw [if_neg (by omega)]
      refine ⟨b, off + lo, by simp [Addr.add], by have := hU.size; omega, .inl (by omega), fun j x hj => ?_⟩
      rw [Nat.add_assoc]
      refine (hU.cell (p := ⟨b, off + (lo + j), none⟩) hb).trans (hx _ _ ?_)
      unfold L.slc at hj
      rw [List.getElem?_take] at hj
      split at hj
      · rw [List.getElem?_drop] at hj
        rw [List.getElem?_map, hj]; rfl
      · cases hj
end Go.Proofs.YtbekbllffphfeaaDoor
/-
  For the laws of weave: the row of pieces in memory: what a new piece, a store and a longer text leave of it. No condition.
-/
namespace Go.Proofs.YtbekbllffphfeaaDoor
open Go.RowKit Go.Shelf
set_option linter.unusedSimpArgs false
set_option linter.unusedVariables false

/-- A piece's values. -/
structure Pv where
  clash : Bool
  vo : Value
  va : Value
  vb : Value
def Pv.row (p : Pv) : List Value := [.bool p.clash, p.vo, p.va, p.vb]
def pvv (P : List Pv) : List Value := P.flatMap Pv.row
theorem pvv_len (P : List Pv) : (pvv P).length = P.length * 4 := by
  unfold pvv
  induction P with
  | nil => rfl
  | cons p P ih => rw [List.flatMap_cons, List.length_append, ih, List.length_cons]; simp [Pv.row]; omega
theorem pvv_snoc (P : List Pv) (p : Pv) : pvv (P ++ [p]) = pvv P ++ p.row := by unfold pvv; rw [List.flatMap_append]; simp
theorem pvv_get {P : List Pv} {k : Nat} {p : Pv} (h : P[k]? = some p) (j : Nat) (hj : j < 4) : (pvv P)[k * 4 + j]? = p.row[j]? := by
  have e : P = P.take k ++ p :: P.drop (k + 1) := by rw [← drop_at h, List.take_append_drop]
  have hl : (pvv (P.take k)).length = k * 4 := by rw [pvv_len, List.length_take, Nat.min_eq_left (Nat.le_of_lt (List.getElem?_eq_some_iff.1 h).1)]
  have e2 : pvv P = pvv (P.take k) ++ (p.row ++ pvv (P.drop (k + 1))) := by
    conv => lhs; rw [e]
    unfold pvv
    rw [List.flatMap_append, List.flatMap_cons]
  rw [e2, List.getElem?_append_right (by omega), hl, Nat.add_sub_cancel_left, List.getElem?_append_left (by simp [Pv.row]; exact hj)]
theorem pvv_set1 (P : List Pv) (c : Bool) (x y z u : Value) : (pvv (P ++ [⟨c, x, y, z⟩])).set (P.length * 4 + 1) u = pvv (P ++ [⟨c, u, y, z⟩]) := by
  rw [pvv_snoc, pvv_snoc, List.set_append, if_neg (by rw [pvv_len]; omega), pvv_len, Nat.add_sub_cancel_left]; rfl
theorem pvv_set2 (P : List Pv) (c : Bool) (x y z u : Value) : (pvv (P ++ [⟨c, x, y, z⟩])).set (P.length * 4 + 2) u = pvv (P ++ [⟨c, x, u, z⟩]) := by
  rw [pvv_snoc, pvv_snoc, List.set_append, if_neg (by rw [pvv_len]; omega), pvv_len, Nat.add_sub_cancel_left]; rfl
/-- A store into a row that the call owns. -/
theorem own_store {W : World} {base e size n g cap j : Nat} {xs : List Value} (h : W.ownsRow base e size (.slice (some ⟨g, 0, none⟩) n cap) n xs) (hj : j < n * size) (u : Value) : (W.setCell ⟨g, j, none⟩ u).ownsRow base e size (.slice (some ⟨g, 0, none⟩) n cap) n (xs.set j u) := by
  refine ⟨by rw [List.length_set]; exact h.1, ?_⟩
  rcases h.2 with ⟨h0, -⟩ | ⟨g', cap', cur, e1, h1, hg, h2, h3, h4, h5⟩
  · cases h0
  · cases e1
    refine .inr ⟨g, cap, cur.setIfInBounds j u, rfl, h1, ?_, h2, h3, by simpa using h4, ?_⟩
    · have hr : RowAt W g e cur := hg
      exact hr.set j u
    · rw [← h5, Array.toList_setIfInBounds, List.take_set]
theorem own_cells {W : World} {base e size n : Nat} {v : Value} {xs : List Value} (h : W.ownsRow base e size v n xs) (hn : 0 < n) : ∃ g cap, v = .slice (some ⟨g, 0, none⟩) n cap ∧ base ≤ g ∧ g < W.heap.size ∧ n ≤ cap ∧ cap ≤ maxLen ∧ (∃ cs, RowAt W g e cs) ∧ ∀ j x, xs[j]? = some x → W.cell? ⟨g, j, none⟩ = some x := by
  rcases h.2 with ⟨-, h0⟩ | ⟨g, cap, cur, rfl, h1, hg, h2, h3, h4, h5⟩
  · omega
  · refine ⟨g, cap, rfl, h1, (Array.getElem?_eq_some_iff.1 hg).1, h2, h3, ⟨cur, hg⟩, fun j x hj => ?_⟩
    have hjl := (List.getElem?_eq_some_iff.1 hj).1
    rw [h.1] at hjl
    rw [← h5, List.getElem?_take_of_lt hjl] at hj
    simp [World.cell?, hg]
    simpa using hj
theorem own_type {W : World} {base e size n t : Nat} {v : Value} {xs : List Value} {b : Nat} {cs : Array Value} (h : W.ownsRow base e size v n xs) (hr : RowAt W b t cs) (ht : t ≠ e) : some b ≠ v.ownBlock := by
  intro hb
  rcases h.2 with ⟨rfl, _⟩ | ⟨q, cap, cur, rfl, _, hq, _⟩
  · simp [Value.ownBlock] at hb
  · obtain rfl : b = q := by simpa [Value.ownBlock] using hb
    rw [show W.heap[b]? = _ from hr] at hq
    cases hq
    exact ht rfl
/-- Pieces that are settled. -/
def Setl (n1 m : Nat) (W : World) (P : List Pv) (l : List Pc) : Prop := P.length = l.length ∧ ∀ (k : Nat) (p : Pv) (x : Pc), P[k]? = some p → l[k]? = some x → p.clash = x.clash ∧ SetV n1 m W p.vo x.o ∧ SetV n1 m W p.va x.a ∧ SetV n1 m W p.vb x.b
theorem Setl.keep {n1 m : Nat} {A B : World} {P : List Pv} {l : List Pc} (h : Setl n1 m A P l) (hk : KpM n1 m A B) : Setl n1 m B P l :=
  ⟨h.1, fun k p x hp hx => by obtain ⟨h1, h2, h3, h4⟩ := h.2 k p x hp hx; exact ⟨h1, h2.keep hk, h3.keep hk, h4.keep hk⟩⟩
theorem Setl.mono {n1 m m' : Nat} {W : World} {P : List Pv} {l : List Pc} (h : Setl n1 m W P l) (hm : m ≤ m') : Setl n1 m' W P l :=
  ⟨h.1, fun k p x hp hx => by obtain ⟨h1, h2, h3, h4⟩ := h.2 k p x hp hx; exact ⟨h1, h2.mono hm, h3.mono hm, h4.mono hm⟩⟩
theorem Setl.snoc {n1 m : Nat} {W : World} {P : List Pv} {l : List Pc} {p : Pv} {x : Pc} (h : Setl n1 m W P l) (h1 : p.clash = x.clash) (h2 : SetV n1 m W p.vo x.o) (h3 : SetV n1 m W p.va x.a) (h4 : SetV n1 m W p.vb x.b) : Setl n1 m W (P ++ [p]) (l ++ [x]) := by
  refine ⟨by simp [h.1], fun k p' x' hp hx => ?_⟩
  rcases Nat.lt_or_ge k P.length with hk | hk
  · rw [List.getElem?_append_left hk] at hp
    rw [List.getElem?_append_left (by rw [← h.1]; exact hk)] at hx
    exact h.2 k p' x' hp hx
  · rw [List.getElem?_append_right hk] at hp
    rw [List.getElem?_append_right (by rw [← h.1]; exact hk), ← h.1] at hx
    have hk0 : k - P.length = 0 := by have := (List.getElem?_eq_some_iff.1 hp).1; simp at this; omega
    rw [hk0] at hp hx
    simp at hp hx
    subst hp hx
    exact ⟨h1, h2, h3, h4⟩
/-- What holds of the pieces' row, with one open piece or none. -/
def CbI (n1 : Nat) (s : St) (v : Value) (W : World) : Prop := ∃ (P : List Pv) (m : Nat), n1 ≤ m ∧ m ≤ W.heap.size ∧ Setl n1 m W P s.1 ∧
  match s.2 with
  | none => W.ownsRow n1 102 4 v P.length (pvv P)
  | some q => ∃ vo va, W.ownsRow n1 102 4 v (P.length + 1) (pvv (P ++ [⟨false, vo, va, .slice none 0 0⟩])) ∧ W.ownsRow m 9 1 vo q.1.length (q.1.map .string) ∧ W.ownsRow m 9 1 va q.2.length (q.2.map .string) ∧ (vo.ownBlock = none ∨ vo.ownBlock ≠ va.ownBlock)
/-- What lies above is not touched by what is new. -/
theorem CbI.below {n1 : Nat} {s : St} {v : Value} {A B : World} (h : CbI n1 s v A) (hb : Below A.heap.size A B) : CbI n1 s v B := by
  obtain ⟨P, m, h1, h2, h3, h4⟩ := h
  have hk := KpM.below (n1 := n1) (m := m) (by omega) hb
  refine ⟨P, m, h1, Nat.le_trans h2 hb.size, h3.keep hk, ?_⟩
  cases hs : s.2 with
  | none => rw [hs] at h4; exact own_below h4 hb
  | some q =>
    rw [hs] at h4
    obtain ⟨vo, va, a1, a2, a3, a4⟩ := h4
    show ∃ vo va, _
    exact ⟨vo, va, own_below a1 hb, own_below a2 hb, own_below a3 hb, a4⟩
/-- All pieces, settled. -/
theorem CbI.close {n1 : Nat} {s : St} {v : Value} {W : World} (h : CbI n1 s v W) : ∃ P, W.ownsRow n1 102 4 v P.length (pvv P) ∧ Setl n1 W.heap.size W P s.fin := by
  obtain ⟨P, m, h1, h2, h3, h4⟩ := h
  unfold St.fin
  cases hs : s.2 with
  | none => rw [hs] at h4; exact ⟨P, h4, by simpa using h3.mono h2⟩
  | some q =>
    rw [hs] at h4
    obtain ⟨vo, va, a1, a2, a3, a4⟩ := h4
    exact ⟨P ++ [⟨false, vo, va, .slice none 0 0⟩], by simpa using a1, (h3.mono h2).snoc rfl (setv_own a2) (setv_own a3) (setv_nil _ _ _)⟩
/-- The row of pieces is turned, nothing else. -/
theorem kpm_grown {n1 n : Nat} {v : Value} {xs : List Value} {A B : World} (h : A.ownsRow n1 102 4 v n xs) (hn : n1 ≤ A.heap.size) (hg : A.grownBy B v.ownBlock) (m : Nat) : KpM n1 m A B :=
  ⟨(Below.refl n1 A).grown hg hn (fun k e => (h.lt k e).1), fun b cs _ hr => (hg.block b hr.lt (own_type h hr (by decide))).trans hr⟩
/-- One clash more. -/
theorem CbI.clash {n1 n : Nat} {s : St} {v v' vx vy vz : Value} {A B : World} {x y z : TL} {P : List Pv} (h1 : A.ownsRow n1 102 4 v P.length (pvv P)) (h2 : Setl n1 A.heap.size A P s.fin) (hn : n1 ≤ A.heap.size)
    (hown : B.ownsRow n1 102 4 v' (P.length + 1) (pvv P ++ [.bool true, vx, vy, vz])) (hg : A.grownBy B v.ownBlock) (hx : ∀ m, SetV n1 m B vx x) (hy : ∀ m, SetV n1 m B vy y) (hz : ∀ m, SetV n1 m B vz z) : CbI n1 (s.fin ++ [⟨true, x, y, z⟩], none) v' B := by
  have hk := kpm_grown h1 hn hg A.heap.size
  refine ⟨P ++ [(⟨true, vx, vy, vz⟩ : Pv)], B.heap.size, Nat.le_trans hn hg.size, Nat.le_refl _, ((h2.keep hk).mono hg.size).snoc rfl (hx _) (hy _) (hz _), ?_⟩
  show B.ownsRow n1 102 4 v' (P ++ [(⟨true, vx, vy, vz⟩ : Pv)]).length (pvv (P ++ [(⟨true, vx, vy, vz⟩ : Pv)]))
  rw [pvv_snoc, List.length_append]
  exact hown
/-- A new open piece. -/
theorem CbI.open_ {n1 n : Nat} {l : List Pc} {v v' : Value} {A B : World} {P : List Pv} (h1 : A.ownsRow n1 102 4 v P.length (pvv P)) (h2 : Setl n1 A.heap.size A P l) (hn : n1 ≤ A.heap.size)
    (hown : B.ownsRow n1 102 4 v' (P.length + 1) (pvv P ++ [.bool false, .slice none 0 0, .slice none 0 0, .slice none 0 0])) (hg : A.grownBy B v.ownBlock) : CbI n1 (l, some ([], [])) v' B := by
  have hk := kpm_grown h1 hn hg A.heap.size
  refine ⟨P, B.heap.size, Nat.le_trans hn hg.size, Nat.le_refl _, (h2.keep hk).mono hg.size, _, _, ?_, World.ownsRow_nil _ _ _ _, World.ownsRow_nil _ _ _ _, .inl rfl⟩
  rw [pvv_snoc]
  exact hown
end Go.Proofs.YtbekbllffphfeaaDoor
/-
  Inside a fence: texts put behind a row of texts that the call owns. Condition: at most 100,000,000 texts.
-/
namespace Go.Proofs.YtbekbllffphfeaaDoor
open Go.RowKit Go.Shelf
set_option linter.unusedSimpArgs false
set_option linter.unusedVariables false

theorem stepIn_append_strs {F : Fence} {n : Nat} {ops : Array Oper} {Q : Exit → Act → World → Prop} (w : World) {o : Oper} {a : Act} {K : Act → World → Prop} {E : Prop} (hgd : o.guard = none) (s x : Operand)
    (ho : o.op = .call { callee := .builtin .append, args := #[s, x], argTypes := #[57, 57] }) (base n1 m : Nat) (v : Value) (k : Nat) (xs : List Value) (hs : a.eval s = v) (hown : w.ownsRow base 9 1 v k xs)
    (vx : Value) (ys : TL) (hx : a.eval x = vx) (hst : SetV n1 m w vx ys) (hm : k + ys.length ≤ 100000000) (hbase : base ≤ w.heap.size)
    (h : ∀ v' w', w'.ownsRow base 9 1 v' (k + ys.length) (xs ++ ys.map Value.string) → w.grownBy w' v.ownBlock → (v'.ownBlock = v.ownBlock ∨ v'.ownBlock = some w.heap.size) → K (a.put o.dst v') w') :
    if Region.wanted o (yielded ops a.tmps) = true then Oper.wpIn F n Tryd.prog o a w K Q else E := by
  obtain ⟨i0, hi, hz0, hz1, hz2⟩ := info_parts infoStr
  obtain ⟨ax, cx, rfl, hc, hcm, hr⟩ := hst
  rcases Nat.eq_zero_or_pos ys.length with h0 | h0
  · have hys : ys = [] := List.length_eq_zero_iff.1 h0
    subst hys
    have hw : Region.wanted o (yielded ops a.tmps) = true := by simp [Region.wanted, hgd]
    rw [if_pos hw]
    have hrun : (Builtin.append_ #[57, 57] o.type #[v, .slice ax 0 cx]).run Tryd.prog w = .ok v w := by
      rcases hown.2 with ⟨rfl, rfl⟩ | ⟨g, cp, cur, rfl, _, _, hnc, _⟩
      · cases ax <;> simp [Builtin.append_, run_underlying Tryd.underlying57, sizeOf, typeInfo, hi, Builtin.lenOf, Builtin.firstCells, loadCells, loadCellsFrom, storeCells, Sem.run_pure]
      · cases ax <;> simp [Builtin.append_, run_underlying Tryd.underlying57, sizeOf, typeInfo, hi, Builtin.lenOf, Builtin.firstCells, hnc, storeCells, loadCells, loadCellsFrom, Sem.run_pure]
    have hx' : a.eval x = .slice ax 0 cx := hx
    unfold Oper.wpIn
    refine ⟨?_, ?_⟩
    · simp [Oper.about, ho, resolve, Target.leads, Sem.run_pure]
    · rw [Oper.semAt_plain F _ o (fun c e => by rw [ho] at e; cases e)]
      simp [execOp, ho, resolve, invoke, builtin, hs, hx', hrun, Result.andThen]
      exact h v w (by simpa using hown) ⟨rfl, rfl, rfl, Nat.le_refl _, fun _ _ _ => rfl⟩ (.inl rfl)
  · rcases hr with hr | ⟨b, off, rfl, hb, -, hcell⟩
    · rw [hr] at h0; simp at h0
    · refine L.stepIn_append_lies w hgd s x 57 ho base 9 i0 (.string ⟨#[]⟩) 1 16 Tryd.underlying57 hi hz0 hz1 hz2 rfl (by decide) v k xs hs hown ⟨b, off, none⟩ ys.length cx (ys.map Value.string) hx (by simp) (fun j u hj => ?_) (by intro u hu; obtain ⟨y, _, rfl⟩ := List.mem_map.1 hu; rfl) h0 (by unfold maxLen; omega) (by omega) hbase w.heap.size rfl ?_
      · rw [List.getElem?_map] at hj
        cases hy : ys[j]? with
        | none => rw [hy] at hj; cases hj
        | some y => rw [hy] at hj; cases hj; rw [add_flat]; exact hcell j y hy
      · intro g cap w' g1 g2 g3 g4
        refine h _ w' g1 g2 ?_
        rcases g3 with g3 | g3
        · exact .inl g3.symm
        · rw [g3]; exact .inr rfl
end Go.Proofs.YtbekbllffphfeaaDoor
/-
  For the laws of weave: one open piece in memory: what an append to one of its texts and a store of it leave. No condition.
-/
namespace Go.Proofs.YtbekbllffphfeaaDoor
open Go.RowKit Go.Shelf
set_option linter.unusedSimpArgs false
set_option linter.unusedVariables false

theorem own_grown {A B : World} {base e size n : Nat} {v : Value} {xs : List Value} {ob : Option Nat} (h : A.ownsRow base e size v n xs) (hg : A.grownBy B ob) (hne : v.ownBlock = none ∨ v.ownBlock ≠ ob) : B.ownsRow base e size v n xs := by
  refine ⟨h.1, ?_⟩
  rcases h.2 with h0 | ⟨g, cap, cur, rfl, h1, hgb, h2, h3, h4, h5⟩
  · exact .inl h0
  · have hn : some g ≠ ob := by
      rcases hne with hne | hne
      · simp [Value.ownBlock] at hne
      · simpa [Value.ownBlock] using hne
    exact .inr ⟨g, cap, cur, rfl, h1, (hg.block g (Array.getElem?_eq_some_iff.1 hgb).1 hn).trans hgb, h2, h3, h4, h5⟩
theorem own_other {A : World} {base e size n : Nat} {v : Value} {xs : List Value} (h : A.ownsRow base e size v n xs) {g : Nat} (hne : some g ≠ v.ownBlock) (j : Nat) (u : Value) : (A.setCell ⟨g, j, none⟩ u).ownsRow base e size v n xs := by
  refine ⟨h.1, ?_⟩
  rcases h.2 with h0 | ⟨g2, cap, cur, rfl, h1, hgb, h2, h3, h4, h5⟩
  · exact .inl h0
  · have hn : g2 ≠ g := by intro e; apply hne; rw [e]; simp [Value.ownBlock]
    have hr : RowAt A g2 e cur := hgb
    exact .inr ⟨g2, cap, cur, rfl, h1, hr.other hn j u, h2, h3, h4, h5⟩
theorem kpm_row {n1 m n : Nat} {v : Value} {xs : List Value} {A B : World} (h : A.ownsRow m 9 1 v n xs) (h1 : n1 ≤ m) (h2 : m ≤ A.heap.size) (hg : A.grownBy B v.ownBlock) : KpM n1 m A B :=
  ⟨(Below.refl n1 A).grown hg (Nat.le_trans h1 h2) (fun k e => Nat.le_trans h1 (h.lt k e).1), fun b cs hb hr => (hg.block b hr.lt (fun e => by have := (h.lt b e.symm).1; omega)).trans hr⟩
/-- One piece is open. -/
structure Opn (n1 m g cap np : Nat) (P : List Pv) (l : List Pc) (u1 u2 vo va : Value) (xo xa : TL) (W : World) : Prop where
  len : P.length = np
  le1 : n1 ≤ m
  le2 : m ≤ W.heap.size
  set : Setl n1 m W P l
  row : W.ownsRow n1 102 4 (.slice (some ⟨g, 0, none⟩) (np + 1) cap) (np + 1) (pvv (P ++ [⟨false, u1, u2, .slice none 0 0⟩]))
  o : W.ownsRow m 9 1 vo xo.length (xo.map .string)
  a : W.ownsRow m 9 1 va xa.length (xa.map .string)
  ne : vo.ownBlock = none ∨ vo.ownBlock ≠ va.ownBlock
section
variable {n1 m g cap np : Nat} {P : List Pv} {l : List Pc} {u1 u2 vo va : Value} {xo xa : TL} {W B : World}
theorem Opn.blk (h : Opn n1 m g cap np P l u1 u2 vo va xo xa W) : n1 ≤ g ∧ g < W.heap.size ∧ ∃ cs, RowAt W g 102 cs := by
  obtain ⟨g', cap', e, h1, h2, -, -, h3, -⟩ := own_cells h.row (by omega)
  cases e
  exact ⟨h1, h2, h3⟩
theorem Opn.far_o (h : Opn n1 m g cap np P l u1 u2 vo va xo xa W) : some g ≠ vo.ownBlock := by
  obtain ⟨-, -, cs, hr⟩ := h.blk
  exact own_type h.o hr (by decide)
theorem Opn.far_a (h : Opn n1 m g cap np P l u1 u2 vo va xo xa W) : some g ≠ va.ownBlock := by
  obtain ⟨-, -, cs, hr⟩ := h.blk
  exact own_type h.a hr (by decide)
theorem Opn.cells (h : Opn n1 m g cap np P l u1 u2 vo va xo xa W) : (W.cell? ⟨g, np * 4 + 1, none⟩ = some u1 ∧ W.frozen? ⟨g, np * 4 + 1, none⟩ = false) ∧ W.cell? ⟨g, np * 4 + 2, none⟩ = some u2 ∧ W.frozen? ⟨g, np * 4 + 2, none⟩ = false := by
  obtain ⟨-, -, cs, hr⟩ := h.blk
  obtain ⟨g', cap', e, -, -, -, -, -, hc⟩ := own_cells h.row (by omega)
  cases e
  have hl := h.len
  exact ⟨⟨hc _ _ (by rw [pvv_snoc, List.getElem?_append_right (by rw [pvv_len]; omega), pvv_len, hl, Nat.add_sub_cancel_left]; rfl), hr.frozen _⟩, hc _ _ (by rw [pvv_snoc, List.getElem?_append_right (by rw [pvv_len]; omega), pvv_len, hl, Nat.add_sub_cancel_left]; rfl), hr.frozen _⟩
theorem Opn.after_o {ys : TL} {v' : Value} (h : Opn n1 m g cap np P l u1 u2 vo va xo xa W) (ho : B.ownsRow m 9 1 v' (xo.length + ys.length) (xo.map Value.string ++ ys.map Value.string)) (hg : W.grownBy B vo.ownBlock) (hv : v'.ownBlock = vo.ownBlock ∨ v'.ownBlock = some W.heap.size) :
    Opn n1 m g cap np P l u1 u2 v' va (xo ++ ys) xa B ∧ KpM n1 m W B := by
  have hk := kpm_row h.o h.le1 h.le2 hg
  refine ⟨⟨h.len, h.le1, Nat.le_trans h.le2 hg.size, h.set.keep hk, own_grown h.row hg (.inr (by simpa [Value.ownBlock] using h.far_o)), by simpa using ho, own_grown h.a hg ?_, ?_⟩, hk⟩
  · rcases h.ne with e | e
    · cases hva : va.ownBlock with
      | none => exact .inl rfl
      | some k => right; rw [e]; simp
    · exact .inr (Ne.symm e)
  · rcases hv with e | e
    · rw [e]; exact h.ne
    · right
      intro e2
      rw [e] at e2
      have := (h.a.lt _ e2.symm).2
      omega
theorem Opn.after_a {ys : TL} {v' : Value} (h : Opn n1 m g cap np P l u1 u2 vo va xo xa W) (ho : B.ownsRow m 9 1 v' (xa.length + ys.length) (xa.map Value.string ++ ys.map Value.string)) (hg : W.grownBy B va.ownBlock) (hv : v'.ownBlock = va.ownBlock ∨ v'.ownBlock = some W.heap.size) :
    Opn n1 m g cap np P l u1 u2 vo v' xo (xa ++ ys) B ∧ KpM n1 m W B := by
  have hk := kpm_row h.a h.le1 h.le2 hg
  refine ⟨⟨h.len, h.le1, Nat.le_trans h.le2 hg.size, h.set.keep hk, own_grown h.row hg (.inr (by simpa [Value.ownBlock] using h.far_a)), own_grown h.o hg h.ne, by simpa using ho, ?_⟩, hk⟩
  rcases hv with e | e
  · rw [e]; exact h.ne
  · right
    intro e2
    rw [e] at e2
    have := (h.o.lt _ e2).2
    omega
theorem Opn.kpm_set (h : Opn n1 m g cap np P l u1 u2 vo va xo xa W) (j : Nat) (u : Value) : KpM n1 m W (W.setCell ⟨g, j, none⟩ u) := by
  obtain ⟨h1, h2, cs, hr⟩ := h.blk
  refine ⟨(Below.refl n1 W).setCell (p := ⟨g, j, none⟩) h1 u, fun b cs' _ hb => hb.other ?_ j u⟩
  intro e
  subst e
  unfold RowAt at hb hr
  rw [hr] at hb
  cases hb
theorem Opn.store1 (h : Opn n1 m g cap np P l u1 u2 vo va xo xa W) (u : Value) : Opn n1 m g cap np P l u u2 vo va xo xa (W.setCell ⟨g, np * 4 + 1, none⟩ u) ∧ KpM n1 m W (W.setCell ⟨g, np * 4 + 1, none⟩ u) := by
  have hk := h.kpm_set (np * 4 + 1) u
  refine ⟨⟨h.len, h.le1, Nat.le_trans h.le2 hk.1.size, h.set.keep hk, ?_, own_other h.o h.far_o _ _, own_other h.a h.far_a _ _, h.ne⟩, hk⟩
  have := own_store h.row (j := np * 4 + 1) (by omega) u
  rwa [← h.len, pvv_set1, h.len] at this
theorem Opn.store2 (h : Opn n1 m g cap np P l u1 u2 vo va xo xa W) (u : Value) : Opn n1 m g cap np P l u1 u vo va xo xa (W.setCell ⟨g, np * 4 + 2, none⟩ u) ∧ KpM n1 m W (W.setCell ⟨g, np * 4 + 2, none⟩ u) := by
  have hk := h.kpm_set (np * 4 + 2) u
  refine ⟨⟨h.len, h.le1, Nat.le_trans h.le2 hk.1.size, h.set.keep hk, ?_, own_other h.o h.far_o _ _, own_other h.a h.far_a _ _, h.ne⟩, hk⟩
  have := own_store h.row (j := np * 4 + 2) (by omega) u
  rwa [← h.len, pvv_set2, h.len] at this
theorem Opn.to (h : Opn n1 m g cap np P l vo va vo va xo xa W) : CbI n1 (l, some (xo, xa)) (.slice (some ⟨g, 0, none⟩) (np + 1) cap) W := by
  refine ⟨P, m, h.le1, h.le2, h.set, vo, va, ?_, h.o, h.a, h.ne⟩
  rw [h.len]
  exact h.row
theorem Opn.of {v : Value} {xy : TL × TL} (h : CbI n1 (l, some xy) v W) : ∃ g cap np P m vo va, v = .slice (some ⟨g, 0, none⟩) (np + 1) cap ∧ np = l.length ∧ Opn n1 m g cap np P l vo va vo va xy.1 xy.2 W := by
  obtain ⟨P, m, h1, h2, h3, vo, va, h4, h5, h6, h7⟩ := h
  obtain ⟨g, cap, rfl, -⟩ := own_cells h4 (by omega)
  exact ⟨g, cap, P.length, P, m, vo, va, rfl, h3.1, rfl, h1, h2, h3, h4, h5, h6, h7⟩
theorem Opn.below (h : Opn n1 m g cap np P l u1 u2 vo va xo xa W) (hb : Below W.heap.size W B) : Opn n1 m g cap np P l u1 u2 vo va xo xa B :=
  ⟨h.len, h.le1, Nat.le_trans h.le2 hb.size, h.set.keep (KpM.below (Nat.le_trans h.le1 h.le2) hb), own_below h.row hb, own_below h.o hb, own_below h.a hb, h.ne⟩
end
end Go.Proofs.YtbekbllffphfeaaDoor
/-
  For the laws of weave: the pieces of three rows of units, by the program. Condition: at most 2,000 units a row.
-/
namespace Go.Proofs.YtbekbllffphfeaaDoor
open Go.RowKit Go.Shelf
set_option linter.unusedSimpArgs false
set_option linter.unusedVariables false

attribute [local go_sem] Oper.semAt_some

theorem infoPc : (Tryd.prog.info? 102).map (fun i => (i.zero, i.size, i.bytes)) = some (some (.agg #[.bool false, .slice none 0 0, .slice none 0 0, .slice none 0 0]), 4, 80) := by kernel_rfl
theorem take_more {α : Type} {l : List α} {k : Nat} {x : α} (h : l[k]? = some x) : l.take (k + 1) = l.take k ++ [x] := by rw [List.take_add_one, h]; rfl
theorem pc_new (W : World) (c : Bool) (x y z : Value) : ∀ j u, ([.bool c, x, y, z] : List Value)[j]? = some u → (W.alloc (.cells #[.bool c, x, y, z] 102)).cell? ((⟨W.heap.size, 0, none⟩ : Addr).add j) = some u := by
  intro j u hj
  rw [add_flat, Nat.zero_add]
  exact (RowAt.new W 102 _).cell (by simpa using hj)
theorem pc_one (c : Bool) (a1 a2 a3 : Option Addr) (n1 n2 n3 c1 c2 c3 : Nat) : ∀ u ∈ ([.bool c, .slice a1 n1 c1, .slice a2 n2 c2, .slice a3 n3 c3] : List Value), u.oneCell' = true := by
  intro u hu
  simp at hu
  rcases hu with rfl | rfl | rfl | rfl <;> rfl
/-- Lengths of what is open. -/
def St.few (n : Nat) (s : St) : Prop := ∀ q, s.2 = some q → q.1.length ≤ n ∧ q.2.length ≤ n
theorem fin_len (s : St) : s.fin.length ≤ s.1.length + 1 := by unfold St.fin; cases s.2 <;> simp
theorem add_len (o a b : TL) (s : St) (c : L.Ck) : (s.add o a b c).1.length ≤ s.1.length + 2 := by
  unfold St.add
  have := fin_len s
  split
  · simp; omega
  · split <;> simp
theorem stOf_len (o a b : TL) (l : List L.Ck) : (stOf o a b l).1.length ≤ 2 * l.length := by
  have : ∀ (l : List L.Ck) (s : St), (l.foldl (St.add o a b) s).1.length ≤ s.1.length + 2 * l.length := by
    intro l
    induction l with
    | nil => intro s; simp
    | cons c l ih =>
      intro s
      have h1 := ih (s.add o a b c)
      have h2 := add_len o a b s c
      rw [List.foldl_cons, List.length_cons]
      omega
  have h := this l ([], none)
  simpa [stOf] using h

theorem own_len {W : World} {base e size n : Nat} {v : Value} {xs : List Value} (h : W.ownsRow base e size v n xs) : ∃ ar cp, v = .slice ar n cp := by
  rcases h.2 with ⟨rfl, rfl⟩ | ⟨g, cap, cur, rfl, _⟩
  · exact ⟨_, _, rfl⟩
  · exact ⟨_, _, rfl⟩
theorem none_fin {n1 m : Nat} {W : World} {P : List Pv} {s : St} (h0 : P.length = 0) (h : Setl n1 m W P s.fin) : s.2.isNone = true := by
  have := h.1
  unfold St.fin at this
  cases hs : s.2 with
  | none => rfl
  | some q => rw [hs] at this; simp at this; omega
theorem L.wpAnyZIn_lax {F : Fence} {n : Nat} {P : Program} {ops : Array Oper} {Q : Exit → Act → World → Prop} {md : Region.Mode} {S : World → Prop} {zs : List Nat} : ∀ {fuel : Nat} {listed : Array Bool} {a : Act} {w : World}, L.wpAnyZIn F n P md ops Q S zs fuel listed a w → L.wpAnyZIn F n P md ops Q (fun _ => True) [] fuel listed a w
  | 0, _, _, _, h => h
  | fuel + 1, _, _, _, h => ⟨h.1, fun i hi => wpOpIn_mono (fun a' w' h' => ⟨fun _ => trivial, L.wpAnyZIn_lax h'.2⟩) (h.2 i hi)⟩
theorem fin_none {s : St} (h : s.2 = none) : s.fin = s.1 := by unfold St.fin; rw [h]; simp
theorem some_getD {s : St} (h : s.2.isNone = false) : (s.1, some (s.2.getD ([], []))) = s := by
  cases s with
  | mk x y => cases y with
    | none => cases h
    | some q => rfl
theorem last_cell {n1 m np q cp : Nat} {W : World} {P : List Pv} {s : St} {ar : Option Addr} (h0 : P.length = np) (hq : np = q + 1) (h1 : W.ownsRow n1 102 4 (.slice ar np cp) np (pvv P)) (h : Setl n1 m W P s.fin) (hok : s.ok) : ∃ g, ar = some ⟨g, 0, none⟩ ∧ W.cell? ⟨g, q * 4, none⟩ = some (.bool s.2.isNone) := by
  obtain ⟨g, cap, e1, -, -, -, -, -, hc⟩ := own_cells h1 (by omega)
  cases e1
  refine ⟨g, rfl, ?_⟩
  obtain ⟨p, hp⟩ := get_lt (l := P) (k := q) (by omega)
  obtain ⟨x, hx⟩ := get_lt (l := s.fin) (k := q) (by rw [← h.1]; omega)
  obtain ⟨e2, -⟩ := h.2 q p x hp hx
  have hl : s.fin.getLast? = some x := by rw [List.getLast?_eq_getElem?, ← h.1, h0, hq]; exact hx
  have hx2 : x.clash = s.2.isNone := by
    unfold St.fin at hl
    cases hs : s.2 with
    | none => rw [hs] at hl; exact hok hs x (by simpa using hl)
    | some q => rw [hs] at hl; simp at hl; rw [← hl]; rfl
  refine hc (q * 4) _ ?_
  have := pvv_get hp 0 (by decide)
  rw [Nat.add_zero] at this
  rw [this, ← hx2, ← e2]
  rfl
set_option maxRecDepth 100000 in
set_option maxHeartbeats 16000000 in
theorem combined_any (w : World) (v1 v2 v3 : Value) (o a b : TL) (h1 : L.Vals w v1 (o.map .string)) (h2 : L.Vals w v2 (a.map .string)) (h3 : L.Vals w v3 (b.map .string)) (l1 : o.length ≤ 2600) (l2 : a.length ≤ 2600) (l3 : b.length ≤ 2600) (hs1 : ∀ s ∈ o, s.size ≤ maxLen) (hs2 : ∀ s ∈ a, s.size ≤ maxLen) (hs3 : ∀ s ∈ b, s.size ≤ maxLen) :
    Calls Tryd.prog 43 #[v1, v2, v3] w fun e w' => ∃ (v : Value) (n1 : Nat) (P : List Pv), e = .returned v ∧ w'.ownsRow n1 102 4 v P.length (pvv P) ∧ Setl n1 w'.heap.size w' P (combP o a b) ∧ Below w.heap.size w w' := by
  have CP := Lib.hid (L.Parts_any v1 v2 v3 o a b w h1 h2 h3 l1 l2 l3 hs1 hs2 hs3)
  have J1 := Lib.hid h1
  have J2 := Lib.hid h2
  have J3 := Lib.hid h3
  obtain ⟨a1, c1, rfl, -⟩ := h1
  obtain ⟨a2, c2, rfl, -⟩ := h2
  obtain ⟨a3, c3, rfl, -⟩ := h3
  simp only [List.length_map] at CP J1 J2 J3 ⊢
  have Hok := Lib.hid (chunksT_ok l1 l2 l3)
  have hcl := chunksT_len (o := o) (a := a) (b := b)
  obtain ⟨CK, hCK⟩ : ∃ CK, Hid (L.chunksT o a b = CK) := ⟨_, Lib.hid rfl⟩
  rw [hCK.out] at CP Hok hcl
  clear hs1 hs2 hs3
  obtain ⟨i0, hi0, hz0, hz1, hz2⟩ := info_parts infoPc
  obtain ⟨i1, hi1, hy0, hy1, hy2⟩ := info_parts infoStr
  go_enter Tryd.func43, Tryd.ntmps43
  go_wp2_with fail
  go_step3
  go_wp2_with fail
  go_step3
  go_wp2_with fail
  refine CP.out.mono ?_
  rintro e w1 ⟨v, rfl, hown, hb1⟩
  obtain ⟨ac, cc, rfl, hn, hc1, hc2, hx⟩ := cks_at hown
  have HX := Lib.hid hx
  have B1 := Lib.hid hb1
  have hs1 := hb1.size
  clear hx hown hb1
  unfold maxLen at hc2
  obtain ⟨n, hnn⟩ : ∃ n, Hid (CK.length = n) := ⟨_, Lib.hid rfl⟩
  rw [hnn.out] at hc1 hcl
  rw [hnn.out]
  go_wp2_with fail
  go_loopw [7, 20] (fun ov c wr => ∃ k : Nat, c = .int .i64 k ∧ k ≤ n ∧ Hid (CbI w1.heap.size (stOf o a b (CK.take k)) ov wr) ∧ Hid (Below w1.heap.size w1 wr) ∧ Hid ((stOf o a b (CK.take k)).few (5200 * k))) (fun _ c _ => n - (intOf c).toNat)
  case atStart => exact ⟨0, rfl, Nat.zero_le _, Lib.hid ⟨[], _, Nat.le_refl _, Nat.le_refl _, ⟨rfl, by simp⟩, World.ownsRow_nil _ _ _ _⟩, Lib.hid (Below.refl _ _), Lib.hid (fun q h => by cases h)⟩
  case round =>
    obtain ⟨k, rfl, hk, hI, hB, hF⟩ := hrel
    obtain ⟨wo, rfl⟩ : ∃ wo, wo = wr := ⟨wr, rfl⟩
    have hbs := hB.out.size
    obtain ⟨s, hs⟩ : ∃ s, Hid (stOf o a b (CK.take k) = s) := ⟨_, Lib.hid rfl⟩
    have hsok : Hid s.ok := Lib.hid (by rw [← hs.out]; exact stOf_ok _ _ _ _)
    have hslen : s.1.length ≤ 2 * k := by
      have := stOf_len o a b (CK.take k)
      rw [hs.out, List.length_take] at this
      omega
    rw [hs.out] at hI hF
    rcases Nat.lt_or_ge k n with hlt | hlt
    · obtain ⟨c, hc⟩ := get_lt (l := CK) (k := k) (by rw [hnn.out]; exact hlt)
      obtain ⟨g, rfl, e0, e1, e2, e3, e4, e5, e6⟩ := HX.out wo hB.out k c hc
      obtain ⟨⟨p1, p2⟩, ⟨p3, p4⟩, p5, p6⟩ := Hok.out c (List.mem_of_getElem? hc)
      have hst : Hid (stOf o a b (CK.take (k + 1)) = s.add o a b c) := Lib.hid (by rw [take_more hc, stOf_snoc, hs.out])
      clear hc
      have d1 : decide (k < n) = true := decide_eq_true hlt
      have d2 : (0 : Int) ≤ (k : Int) := by omega
      have d3 : (k : Int) < (n : Int) := by omega
      obtain ⟨sx, hsx, fx⟩ := vals_cut (n1 := w1.heap.size) J1.out hs1 c.p.o c.q.o p1 p2
      obtain ⟨sy, hsy, fy⟩ := vals_cut (n1 := w1.heap.size) J2.out hs1 c.p.a c.q.a p3 p4
      obtain ⟨sz, hsz, fz⟩ := vals_cut (n1 := w1.heap.size) J3.out hs1 c.p.b c.q.b p5 p6
      have HU : Hid (∀ U, Below w1.heap.size w1 U → Below w.heap.size w U) := Lib.hid (fun U hU => B1.out.trans (hU.mono hs1))
      have Fx : Hid (∀ m U, Below w1.heap.size w1 U → SetV w1.heap.size m U sx (L.slc o c.p.o c.q.o)) := Lib.hid (fun m U hU => fx m U (HU.out U hU))
      have Fy : Hid (∀ m U, Below w1.heap.size w1 U → SetV w1.heap.size m U sy (L.slc a c.p.a c.q.a)) := Lib.hid (fun m U hU => fy m U (HU.out U hU))
      have Fz : Hid (∀ m U, Below w1.heap.size w1 U → SetV w1.heap.size m U sz (L.slc b c.p.b c.q.b)) := Lib.hid (fun m U hU => fz m U (HU.out U hU))
      obtain ⟨sxa, sxc, rfl, -⟩ := Fx.out 0 w1 (Below.refl _ _)
      obtain ⟨sya, syc, rfl, -⟩ := Fy.out 0 w1 (Below.refl _ _)
      obtain ⟨sza, szc, rfl, -⟩ := Fz.out 0 w1 (Below.refl _ _)
      obtain ⟨nx, hnx⟩ : ∃ m, Hid ((L.slc o c.p.o c.q.o).length = m) := ⟨_, Lib.hid rfl⟩
      obtain ⟨ny, hny⟩ : ∃ m, Hid ((L.slc a c.p.a c.q.a).length = m) := ⟨_, Lib.hid rfl⟩
      obtain ⟨nz, hnz⟩ : ∃ m, Hid ((L.slc b c.p.b c.q.b).length = m) := ⟨_, Lib.hid rfl⟩
      rw [hnx.out] at hsx Fx
      rw [hny.out] at hsy Fy
      rw [hnz.out] at hsz Fz
      have hnx2 : nx ≤ 2600 := by rw [← hnx.out, slc_len p2]; omega
      have hny2 : ny ≤ 2600 := by rw [← hny.out, slc_len p4]; omega
      have hnz2 : nz ≤ 2600 := by rw [← hnz.out, slc_len p6]; omega
      clear fx fy fz
      obtain ⟨P, hP1, hP2⟩ := hI.out.close
      have hPl : P.length ≤ 2 * k + 1 := by have h := hP2.1; have h2 := fin_len s; omega
      have hbd : P.length ≤ 15601 := by omega
      go_upto_region 5 with fail
      obtain ⟨W2, hW2⟩ : ∃ W2, Hid (wo.alloc (.cells #[.int .i64 c.kind, .int .i64 (c.p.o : Nat), .int .i64 (c.q.o : Nat), .int .i64 (c.p.a : Nat), .int .i64 (c.q.a : Nat), .int .i64 (c.p.b : Nat), .int .i64 (c.q.b : Nat)] 119) = W2) := ⟨_, Lib.hid rfl⟩
      have R2 : RowAt W2 wo.heap.size 119 #[.int .i64 c.kind, .int .i64 (c.p.o : Nat), .int .i64 (c.q.o : Nat), .int .i64 (c.p.a : Nat), .int .i64 (c.q.a : Nat), .int .i64 (c.p.b : Nat), .int .i64 (c.q.b : Nat)] := by rw [← hW2.out]; exact RowAt.new wo 119 _
      obtain ⟨y0, y1, y2, y3, y4, y5, y6⟩ : W2.cell? ⟨wo.heap.size, 0, none⟩ = some (.int .i64 c.kind) ∧ W2.cell? ⟨wo.heap.size, 1, none⟩ = some (.int .i64 (c.p.o : Nat)) ∧ W2.cell? ⟨wo.heap.size, 2, none⟩ = some (.int .i64 (c.q.o : Nat)) ∧ W2.cell? ⟨wo.heap.size, 3, none⟩ = some (.int .i64 (c.p.a : Nat)) ∧ W2.cell? ⟨wo.heap.size, 4, none⟩ = some (.int .i64 (c.q.a : Nat)) ∧ W2.cell? ⟨wo.heap.size, 5, none⟩ = some (.int .i64 (c.p.b : Nat)) ∧ W2.cell? ⟨wo.heap.size, 6, none⟩ = some (.int .i64 (c.q.b : Nat)) := ⟨R2.cell rfl, R2.cell rfl, R2.cell rfl, R2.cell rfl, R2.cell rfl, R2.cell rfl, R2.cell rfl⟩
      have B2 : Hid (Below wo.heap.size wo W2) := Lib.hid (by rw [← hW2.out]; exact (Below.refl _ wo).alloc (Nat.le_refl _) _)
      have I2 : Hid (∀ q, CbI w1.heap.size s u7 (W2.drewN q)) := Lib.hid (fun q => hI.out.below (below_draws B2.out q))
      have Bw : Hid (∀ q, Below w1.heap.size w1 (W2.drewN q)) := Lib.hid (fun q => hB.out.trans ((below_draws B2.out q).mono hbs))
      rw [hW2.out]
      clear e0 e1 e2 e3 e4 e5 e6
      go_quiet (fail)
      obtain ⟨V, hV⟩ : ∃ V, Hid (W2.drewN nq = V) := ⟨_, Lib.hid rfl⟩
      have IV : Hid (CbI w1.heap.size s u7 V) := Lib.hid (by rw [← hV.out]; exact I2.out nq)
      have BV : Hid (Below w1.heap.size w1 V) := Lib.hid (by rw [← hV.out]; exact Bw.out nq)
      have yV : V.cell? ⟨wo.heap.size, 0, none⟩ = some (.int .i64 c.kind) := by rw [← hV.out]; exact y0
      have hVs := BV.out.size
      rw [hV.out]
      clear y0 y1 y2 y3 y4 y5 y6 I2 Bw hV R2 B2 hW2 hP1 hP2 hI
      obtain ⟨P2, hp1, hp2⟩ := IV.out.close
      have hPl2 : P2.length ≤ 2 * k + 1 := by have h := hp2.1; have h2 := fin_len s; omega
      have Hp1 := Lib.hid hp1
      have Hp2 := Lib.hid hp2
      clear hp1 hp2
      by_cases h4 : c.kind = 4
      · have f4 : (c.kind == 4) = true := by simpa using h4
        have hadd : Hid (s.add o a b c = (s.fin ++ [⟨true, L.slc o c.p.o c.q.o, L.slc a c.p.a c.q.a, L.slc b c.p.b c.q.b⟩], none)) := Lib.hid (by unfold St.add; rw [if_pos h4])
        clear h4
        have own2 := Lib.hid (Hp1.out.alloc (.cells #[.bool true, .slice sxa nx sxc, .slice sya ny syc, .slice sza nz szc] 102))
        go_wp2_with (at_builtin; refine wpList_append_own _ rfl _ _ 99 rfl w1.heap.size 102 i0 _ 4 80 Tryd.underlying99 hi0 hz0 hz1 hz2 rfl (by decide) _ P2.length _ rfl own2.out ⟨V.heap.size, 0, none⟩ 1 1 [.bool true, .slice sxa nx sxc, .slice sya ny syc, .slice sza nz szc] rfl rfl (pc_new V true _ _ _) (pc_one true sxa sya sza nx ny nz sxc syc szc) (by unfold maxLen; omega) (by omega) (by simp; omega) ?_; intro v' w2 hown' hgrow _)
        have hbA : Below V.heap.size V (V.alloc (.cells #[.bool true, .slice sxa nx sxc, .slice sya ny syc, .slice sza nz szc] 102)) := (Below.refl _ V).alloc (Nat.le_refl _) _
        have hkA := KpM.below (n1 := w1.heap.size) (m := V.heap.size) hVs hbA
        have hs2 := (Hp2.out.keep hkA).mono hbA.size
        have hnA : w1.heap.size ≤ (V.alloc (.cells #[.bool true, .slice sxa nx sxc, .slice sya ny syc, .slice sza nz szc] 102)).heap.size := Nat.le_trans hVs hbA.size
        have hbw2 : Below w1.heap.size w1 w2 := (BV.out.trans hkA.1).trans (kpm_grown own2.out hnA hgrow 0).1
        have hfin := CbI.clash (n := 0) (s := s) own2.out hs2 hnA hown' hgrow (fun m => Fx.out m w2 hbw2) (fun m => Fy.out m w2 hbw2) (fun m => Fz.out m w2 hbw2)
        have Hfin : Hid (CbI w1.heap.size (stOf o a b (CK.take (k + 1))) v' w2) := Lib.hid (by rw [hst.out, hadd.out]; exact hfin)
        have Hbw2 := Lib.hid hbw2
        have Hfew : Hid ((stOf o a b (CK.take (k + 1))).few (5200 * (k + 1))) := Lib.hid (by rw [hst.out, hadd.out]; intro q h; cases h)
        clear hfin hbw2 hown' hgrow hs2 hkA hbA
        go_wp2_with fail
        exact ⟨⟨k + 1, by go_num, by omega, Hfin, Hbw2, Hfew⟩, by simp [intOf]; omega⟩
      · have f4 : (c.kind == 4) = false := by simpa using h4
        have hadd : Hid (s.add o a b c = (s.1, some ((s.2.getD ([], [])).1 ++ L.slc o c.p.o c.q.o, (s.2.getD ([], [])).2 ++ yOf a b c))) := Lib.hid (by unfold St.add; rw [if_neg h4]; cases s.2 <;> rfl)
        clear h4
        obtain ⟨kb, hkb⟩ : ∃ kb, Hid ((c.kind == 2) = kb) := ⟨_, Lib.hid rfl⟩
        have f2 := hkb.out
        obtain ⟨ar, cp, rfl⟩ := own_len Hp1.out
        obtain ⟨np, hnp⟩ : ∃ m, Hid (P2.length = m) := ⟨_, Lib.hid rfl⟩
        rw [hnp.out] at hPl2 Hp1
        rw [hnp.out]
        rw [hnp.out] at IV
        have hlast : Hid (∀ q, np = q + 1 → ∃ g, ar = some ⟨g, 0, none⟩ ∧ V.cell? ⟨g, q * 4, none⟩ = some (.bool s.2.isNone)) := Lib.hid (by
          intro q hq
          exact last_cell hnp.out hq Hp1.out Hp2.out hsok.out)
        have hnone : Hid (np = 0 → s.2.isNone = true) := Lib.hid (fun h0 => none_fin (hnp.out.trans h0) Hp2.out)
        obtain ⟨tb, htb⟩ : ∃ tb, Hid (s.2.isNone = tb) := ⟨_, Lib.hid rfl⟩
        rw [htb.out] at hlast hnone
        cases kb with
        | true =>
          have hy : yOf a b c = L.slc b c.p.b c.q.b := by unfold yOf; rw [if_pos (by simpa using f2)]
          have Fv : Hid (∀ m U, Below w1.heap.size w1 U → SetV w1.heap.size m U (.slice sza nz szc) (yOf a b c)) := by rw [hy]; exact Fz
          have hnv : Hid (nz = (yOf a b c).length) := Lib.hid (by rw [hy]; exact hnz.out.symm)
          clear hy
          go_upto_region 12 with fail
          go_cut [73] from 64 to 73 (fun c wx => c = .bool tb ∧ V = wx)
          case first =>
            rcases Nat.eq_zero_or_pos np with h0 | h0
            · have ht : tb = true := hnone.out h0
              subst h0
              subst ht
              go_wp2_with fail
              go_meet
              exact ⟨rfl, rfl⟩
            · obtain ⟨q, rfl⟩ : ∃ q, np = q + 1 := ⟨np - 1, by omega⟩
              obtain ⟨g2, rfl, hcell⟩ := hlast.out q rfl
              have z1 : (((q + 1 : Nat) : Int) == 0) = false := by simpa using (show ¬ ((q + 1 : Nat) : Int) = 0 by omega)
              have z0 : (((q + 1 : Nat) : Int) - 1) = (q : Int) := by omega
              have z2 : IntKind.i64.wrap (q : Int) = (q : Int) := Go.IntWalk.i64_in (q : Int) (by omega)
              go_wp2_with fail
              go_meet
              exact ⟨rfl, rfl⟩
          case rest =>
          obtain ⟨rfl, rfl⟩ := hcut
          go_upto_if 73 with fail
          go_cut [7] from 74 to 77 (fun v wx => ∃ ar2 n2 cp2, v = .slice ar2 n2 cp2 ∧ Hid (CbI w1.heap.size (s.1, some (s.2.getD ([], []))) (.slice ar2 n2 cp2) wx) ∧ Hid (Below w1.heap.size w1 wx))
          case first =>
            cases tb with
            | true =>
              have own2 := Lib.hid (Hp1.out.alloc (.cells #[.bool false, .slice none 0 0, .slice none 0 0, .slice none 0 0] 102))
              go_wp2_with (at_builtin; refine wpList_append_own _ rfl _ _ 99 rfl w1.heap.size 102 i0 _ 4 80 Tryd.underlying99 hi0 hz0 hz1 hz2 rfl (by decide) _ np _ rfl own2.out ⟨V.heap.size, 0, none⟩ 1 1 [.bool false, .slice none 0 0, .slice none 0 0, .slice none 0 0] rfl rfl (pc_new V false _ _ _) (pc_one false none none none 0 0 0 0 0 0) (by unfold maxLen; omega) (by omega) (by simp; omega) ?_; intro v' w2 hown' hgrow _)
              have hbA : Below V.heap.size V (V.alloc (.cells #[.bool false, .slice none 0 0, .slice none 0 0, .slice none 0 0] 102)) := (Below.refl _ V).alloc (Nat.le_refl _) _
              have hkA := KpM.below (n1 := w1.heap.size) (m := V.heap.size) hVs hbA
              have hs2 := (Hp2.out.keep hkA).mono hbA.size
              have hnA : w1.heap.size ≤ (V.alloc (.cells #[.bool false, .slice none 0 0, .slice none 0 0, .slice none 0 0] 102)).heap.size := Nat.le_trans hVs hbA.size
              have hbw2 : Below w1.heap.size w1 w2 := (BV.out.trans hkA.1).trans (kpm_grown own2.out hnA hgrow 0).1
              have hs0 : s.2 = none := by simpa using htb.out
              rw [fin_none hs0] at hs2
              have own3 : (V.alloc (.cells #[.bool false, .slice none 0 0, .slice none 0 0, .slice none 0 0] 102)).ownsRow w1.heap.size 102 4 (.slice ar np cp) P2.length (pvv P2) := by rw [hnp.out]; exact own2.out
              have hown3 : w2.ownsRow w1.heap.size 102 4 v' (P2.length + 1) (pvv P2 ++ [.bool false, .slice none 0 0, .slice none 0 0, .slice none 0 0]) := by rw [hnp.out]; exact hown'
              have hfin := CbI.open_ (n := 0) own3 hs2 hnA hown3 hgrow
              rw [show ([], []) = s.2.getD ([], []) by rw [hs0]; rfl] at hfin
              obtain ⟨ar2, cp2, rfl⟩ := own_len hown'
              have Hfin := Lib.hid hfin
              have Hbw2 := Lib.hid hbw2
              clear hfin hbw2 hown' hgrow hs2 hkA hbA own3 hown3
              go_wp2_with fail
              go_meet
              exact ⟨_, _, _, rfl, Hfin, Hbw2⟩
            | false =>
              have Hfin : Hid (CbI w1.heap.size (s.1, some (s.2.getD ([], []))) (.slice ar np cp) V) := Lib.hid (by rw [some_getD htb.out]; exact IV.out)
              go_wp2_with fail
              go_meet
              exact ⟨_, _, _, rfl, Hfin, BV⟩
          case rest =>
          obtain ⟨ar2, n2, cp2, rfl, IW, BW⟩ := hcut
          have hqf : (s.2.getD ([], [])).1.length ≤ 5200 * k ∧ (s.2.getD ([], [])).2.length ≤ 5200 * k := by
            cases hq : s.2 with
            | none => simp
            | some q => exact hF.out q hq
          obtain ⟨q, hq⟩ : ∃ q, Hid (s.2.getD ([], []) = q) := ⟨_, Lib.hid rfl⟩
          rw [hq.out] at IW hqf hadd
          obtain ⟨g3, cp3, np3, P, m, vo, va, e3, hnp3, ho⟩ := Opn.of IW.out
          cases e3
          have hPl3 : np3 ≤ 2 * k := by rw [hnp3]; exact hslen
          clear Hp1 Hp2 hlast hnone hnp3 IW
          have z0 : (((np3 + 1 : Nat) : Int) - 1) = (np3 : Int) := by omega
          have z2 : IntKind.i64.wrap (np3 : Int) = (np3 : Int) := Go.IntWalk.i64_in (np3 : Int) (by omega)
          have z3 : (0 : Int) ≤ (np3 : Int) := by omega
          have z4 : (np3 : Int) < ((np3 + 1 : Nat) : Int) := by omega
          go_upto_region 15 with fail
          refine (wpIn_wide (n := 1)).1 ?_
          refine L.wpIn_region_Z (S := fun _ => True) (zs := []) (by kernel_rfl) ?_
          have hS : True := trivial
          obtain ⟨W3, hW3⟩ : ∃ W3, Hid (wc.drew = W3) := ⟨_, Lib.hid rfl⟩
          have hbd3 : Below wc.heap.size wc W3 := by rw [← hW3.out]; exact below_draws (Below.refl _ _) 1
          have HO := Lib.hid (ho.below hbd3)
          have BW3 : Hid (Below w1.heap.size w1 W3) := Lib.hid (BW.out.trans (hbd3.mono BW.out.size))
          rw [hW3.out]
          clear ho hbd3
          simp only [List.size_toArray, List.length_cons, List.length_nil, Nat.reduceAdd, Array.replicate_succ, Array.replicate_zero, List.push_toArray, List.nil_append, List.cons_append]
          refine L.wpAnyZIn_takeF 12 (i := 1) (oi := { dst := some 84, op := Op.move (Operand.tmp 14), type := 120, pos := "weave.go:58", after := #[{ on := 16, ground := Ground.gcOnly Departure.lateStores }], guard := none }) (v := ?_) rfl (by kernel_rfl) (by kernel_rfl) (by kernel_rfl) (by kernel_rfl) (by kernel_rfl) (by kernel_rfl) (fun _ _ _ h => h) (Or.inl ⟨by rfl, ?_⟩) (fun _ => rfl) hS ?_
          rotate_left
          · intro w hSw
            skip
            go_simp
            try with_reducible rfl
          try simp only [Act.put, List.setIfInBounds_toArray, List.set_cons_zero, List.set_cons_succ]
          clear hS
          refine L.wpAnyZIn_lax (S := fun U => U.cell? ⟨g3, np3 * 4 + 1, none⟩ = some vo ∧ U.cell? ⟨g3, np3 * 4 + 2, none⟩ = some va) (zs := [16, 17, 18, 19]) ?_
          have hS : W3.cell? ⟨g3, np3 * 4 + 1, none⟩ = some vo ∧ W3.cell? ⟨g3, np3 * 4 + 2, none⟩ = some va := ⟨HO.out.cells.1.1, HO.out.cells.2.1⟩
          refine L.wpAnyZIn_takeF 12 (i := 0) (oi := { dst := some 83, op := Op.move (Operand.tmp 14), type := 120, pos := "weave.go:58", after := #[], guard := none }) (v := ?_) rfl (by kernel_rfl) (by kernel_rfl) (by kernel_rfl) (by kernel_rfl) (by kernel_rfl) (by kernel_rfl) (fun _ _ _ h => h) (Or.inl ⟨by rfl, ?_⟩) (fun _ => rfl) hS ?_
          rotate_left
          · intro w hSw
            obtain ⟨x1, x2⟩ := hSw
            go_simp
            try with_reducible rfl
          try simp only [Act.put, List.setIfInBounds_toArray, List.set_cons_zero, List.set_cons_succ]
          refine L.wpAnyZIn_takeF 12 (i := 2) (oi := { dst := some 85, op := Op.move (Operand.tmp 14), type := 120, pos := "weave.go:58", after := #[], guard := none }) (v := ?_) rfl (by kernel_rfl) (by kernel_rfl) (by kernel_rfl) (by kernel_rfl) (by kernel_rfl) (by kernel_rfl) (fun _ _ _ h => h) (Or.inl ⟨by rfl, ?_⟩) (fun _ => rfl) hS ?_
          rotate_left
          · intro w hSw
            obtain ⟨x1, x2⟩ := hSw
            go_simp
            try with_reducible rfl
          try simp only [Act.put, List.setIfInBounds_toArray, List.set_cons_zero, List.set_cons_succ]
          refine L.wpAnyZIn_takeF 12 (i := 3) (oi := { dst := some 86, op := Op.nilCheck (Operand.tmp 85), type := 0, pos := "weave.go:58", after := #[{ on := 2, ground := Ground.data }], guard := none }) (v := ?_) rfl (by kernel_rfl) (by kernel_rfl) (by kernel_rfl) (by kernel_rfl) (by kernel_rfl) (by kernel_rfl) (fun _ _ _ h => h) (Or.inl ⟨by rfl, ?_⟩) (fun _ => rfl) hS ?_
          rotate_left
          · intro w hSw
            obtain ⟨x1, x2⟩ := hSw
            go_simp
            try with_reducible rfl
          try simp only [Act.put, List.setIfInBounds_toArray, List.set_cons_zero, List.set_cons_succ]
          refine L.wpAnyZIn_takeF 12 (i := 4) (oi := { dst := some 87, op := Op.fieldAddr 102 (Operand.tmp 86) 1, type := 0, pos := "weave.go:58", after := #[{ on := 3, ground := Ground.data }], guard := none }) (v := ?_) rfl (by kernel_rfl) (by kernel_rfl) (by kernel_rfl) (by kernel_rfl) (by kernel_rfl) (by kernel_rfl) (fun _ _ _ h => h) (Or.inl ⟨by rfl, ?_⟩) (fun _ => rfl) hS ?_
          rotate_left
          · intro w hSw
            obtain ⟨x1, x2⟩ := hSw
            go_simp
            try with_reducible rfl
          try simp only [Act.put, List.setIfInBounds_toArray, List.set_cons_zero, List.set_cons_succ]
          refine L.wpAnyZIn_takeF 12 (i := 5) (oi := { dst := some 88, op := Op.load 57 (Operand.tmp 87), type := 57, pos := "weave.go:58", after := #[{ on := 4, ground := Ground.data }], guard := none }) (v := ?_) rfl (by kernel_rfl) (by kernel_rfl) (by kernel_rfl) (by kernel_rfl) (by kernel_rfl) (by kernel_rfl) (fun _ _ _ h => h) (Or.inl ⟨by rfl, ?_⟩) (fun _ => rfl) hS ?_
          rotate_left
          · intro w hSw
            obtain ⟨x1, x2⟩ := hSw
            go_simp
            try with_reducible rfl
          try simp only [Act.put, List.setIfInBounds_toArray, List.set_cons_zero, List.set_cons_succ]
          refine L.wpAnyZIn_takeF 12 (i := 6) (oi := { dst := some 89, op := Op.move (Operand.tmp 10), type := 57, pos := "weave.go:58", after := #[], guard := none }) (v := ?_) rfl (by kernel_rfl) (by kernel_rfl) (by kernel_rfl) (by kernel_rfl) (by kernel_rfl) (by kernel_rfl) (fun _ _ _ h => h) (Or.inl ⟨by rfl, ?_⟩) (fun _ => rfl) hS ?_
          rotate_left
          · intro w hSw
            obtain ⟨x1, x2⟩ := hSw
            go_simp
            try with_reducible rfl
          try simp only [Act.put, List.setIfInBounds_toArray, List.set_cons_zero, List.set_cons_succ]
          refine L.wpAnyZIn_takeF 12 (i := 8) (oi := { dst := some 91, op := Op.move (Operand.tmp 14), type := 120, pos := "weave.go:58", after := #[], guard := none }) (v := ?_) rfl (by kernel_rfl) (by kernel_rfl) (by kernel_rfl) (by kernel_rfl) (by kernel_rfl) (by kernel_rfl) (fun _ _ _ h => h) (Or.inl ⟨by rfl, ?_⟩) (fun _ => rfl) hS ?_
          rotate_left
          · intro w hSw
            obtain ⟨x1, x2⟩ := hSw
            go_simp
            try with_reducible rfl
          try simp only [Act.put, List.setIfInBounds_toArray, List.set_cons_zero, List.set_cons_succ]
          refine L.wpAnyZIn_takeF 12 (i := 9) (oi := { dst := some 92, op := Op.nilCheck (Operand.tmp 91), type := 0, pos := "weave.go:58", after := #[{ on := 8, ground := Ground.data }], guard := none }) (v := ?_) rfl (by kernel_rfl) (by kernel_rfl) (by kernel_rfl) (by kernel_rfl) (by kernel_rfl) (by kernel_rfl) (fun _ _ _ h => h) (Or.inl ⟨by rfl, ?_⟩) (fun _ => rfl) hS ?_
          rotate_left
          · intro w hSw
            obtain ⟨x1, x2⟩ := hSw
            go_simp
            try with_reducible rfl
          try simp only [Act.put, List.setIfInBounds_toArray, List.set_cons_zero, List.set_cons_succ]
          refine L.wpAnyZIn_takeF 12 (i := 10) (oi := { dst := some 93, op := Op.fieldAddr 102 (Operand.tmp 92) 2, type := 0, pos := "weave.go:58", after := #[{ on := 9, ground := Ground.data }], guard := none }) (v := ?_) rfl (by kernel_rfl) (by kernel_rfl) (by kernel_rfl) (by kernel_rfl) (by kernel_rfl) (by kernel_rfl) (fun _ _ _ h => h) (Or.inl ⟨by rfl, ?_⟩) (fun _ => rfl) hS ?_
          rotate_left
          · intro w hSw
            obtain ⟨x1, x2⟩ := hSw
            go_simp
            try with_reducible rfl
          try simp only [Act.put, List.setIfInBounds_toArray, List.set_cons_zero, List.set_cons_succ]
          refine L.wpAnyZIn_takeF 12 (i := 11) (oi := { dst := some 94, op := Op.load 57 (Operand.tmp 93), type := 57, pos := "weave.go:58", after := #[{ on := 10, ground := Ground.data }], guard := none }) (v := ?_) rfl (by kernel_rfl) (by kernel_rfl) (by kernel_rfl) (by kernel_rfl) (by kernel_rfl) (by kernel_rfl) (fun _ _ _ h => h) (Or.inl ⟨by rfl, ?_⟩) (fun _ => rfl) hS ?_
          rotate_left
          · intro w hSw
            obtain ⟨x1, x2⟩ := hSw
            go_simp
            try with_reducible rfl
          try simp only [Act.put, List.setIfInBounds_toArray, List.set_cons_zero, List.set_cons_succ]
          refine L.wpAnyZIn_takeF 12 (i := 12) (oi := { dst := some 95, op := Op.move (Operand.tmp 11), type := 57, pos := "weave.go:58", after := #[], guard := none }) (v := ?_) rfl (by kernel_rfl) (by kernel_rfl) (by kernel_rfl) (by kernel_rfl) (by kernel_rfl) (by kernel_rfl) (fun _ _ _ h => h) (Or.inl ⟨by rfl, ?_⟩) (fun _ => rfl) hS ?_
          rotate_left
          · intro w hSw
            obtain ⟨x1, x2⟩ := hSw
            go_simp
            try with_reducible rfl
          try simp only [Act.put, List.setIfInBounds_toArray, List.set_cons_zero, List.set_cons_succ]
          have hl1 := hnx.out
          have hl2 := hnv.out
          refine L.wpAnyZIn_one (i := 7) (by kernel_rfl) rfl (fun K hK => ?_)
          refine stepIn_append_strs W3 rfl _ _ rfl m w1.heap.size m vo q.1.length _ rfl HO.out.o (.slice sxa nx sxc) _ rfl (Fx.out m W3 BW3.out) (by omega) HO.out.le2 ?_
          intro v1 W4 ho4 hg4 hv4
          obtain ⟨r1, j1, t1, rfl⟩ := own_slice ho4
          obtain ⟨h4, k4⟩ := HO.out.after_o ho4 hg4 hv4
          refine hK.out _ _ (fun _ => ⟨h4.cells.1.1, h4.cells.2.1⟩) ?_
          simp only [Act.put, List.setIfInBounds_toArray, List.set_cons_zero, List.set_cons_succ]
          clear hK K hS ho4 hg4 hv4
          have B4 : Below w1.heap.size w1 W4 := BW3.out.trans k4.1
          clear k4
          refine L.wpAnyZIn_one (i := 13) (by kernel_rfl) rfl (fun K hK => ?_)
          refine stepIn_append_strs W4 rfl _ _ rfl m w1.heap.size m va q.2.length _ rfl h4.a (.slice sza nz szc) _ rfl (Fv.out m W4 B4) (by omega) h4.le2 ?_
          intro v2 W5 ho5 hg5 hv5
          obtain ⟨r2, j2, t2, rfl⟩ := own_slice ho5
          obtain ⟨h5, k5⟩ := h4.after_a ho5 hg5 hv5
          have hS5 : W5.cell? ⟨g3, np3 * 4 + 1, none⟩ = some vo ∧ W5.cell? ⟨g3, np3 * 4 + 2, none⟩ = some va := ⟨h5.cells.1.1, h5.cells.2.1⟩
          refine hK.out _ _ (fun _ => hS5) ?_
          simp only [Act.put, List.setIfInBounds_toArray, List.set_cons_zero, List.set_cons_succ]
          clear hK K ho5 hg5 hv5
          have B5 : Below w1.heap.size w1 W5 := B4.trans k5.1
          obtain ⟨⟨y1, f1⟩, -⟩ := h5.cells
          obtain ⟨h6, k6⟩ := h5.store1 (.slice r1 j1 t1)
          have B6 : Below w1.heap.size w1 (W5.setCell ⟨g3, np3 * 4 + 1, none⟩ (.slice r1 j1 t1)) := B5.trans k6.1
          obtain ⟨W6, hW6⟩ : ∃ V, Hid (W5.setCell ⟨g3, np3 * 4 + 1, none⟩ (.slice r1 j1 t1) = V) := ⟨_, Lib.hid rfl⟩
          rw [hW6.out] at h6 B6
          have H6 := Lib.hid h6
          clear h4 k5 B4 h5 k6 h6 B5
          refine L.wpAnyZIn_one (i := 14) (by kernel_rfl) rfl (fun K hK => ?_)
          go_simp
          refine hK.out _ _ (fun _ => hS5) ?_
          clear hK K
          refine L.wpAnyZIn_one (i := 15) (by kernel_rfl) rfl (fun K hK => ?_)
          go_simp
          refine hK.out _ _ (fun _ => hS5) ?_
          clear hK K hS5
          refine L.wpAnyZIn_one (i := 16) (by kernel_rfl) rfl (fun K hK => ?_)
          go_simp
          rw [hW6.out]
          refine hK.out _ _ (fun h => absurd (by decide) h) ?_
          clear hK K y1 f1 hW6
          obtain ⟨-, y2, f2'⟩ := H6.out.cells
          obtain ⟨h7, k7⟩ := H6.out.store2 (.slice r2 j2 t2)
          have B7 := B6.trans k7.1
          obtain ⟨W7, hW7⟩ : ∃ V, Hid (W6.setCell ⟨g3, np3 * 4 + 2, none⟩ (.slice r2 j2 t2) = V) := ⟨_, Lib.hid rfl⟩
          rw [hW7.out] at h7 B7
          have H7 := Lib.hid h7
          have Hb7 := Lib.hid B7
          clear h7 k7 B7
          refine L.wpAnyZIn_one (i := 17) (by kernel_rfl) rfl (fun K hK => ?_)
          go_simp
          refine hK.out _ _ (fun h => absurd (by decide) h) ?_
          clear hK K
          refine L.wpAnyZIn_one (i := 18) (by kernel_rfl) rfl (fun K hK => ?_)
          go_simp
          refine hK.out _ _ (fun h => absurd (by decide) h) ?_
          clear hK K
          refine L.wpAnyZIn_one (i := 19) (by kernel_rfl) rfl (fun K hK => ?_)
          go_simp
          rw [hW7.out]
          refine hK.out _ _ (fun h => absurd (by decide) h) ?_
          clear hK K y2 f2' hW7
          refine L.wpAnyZIn_done (by kernel_rfl) ?_ _
          have Hfin : Hid (CbI w1.heap.size (stOf o a b (CK.take (k + 1))) (.slice (some ⟨g3, 0, none⟩) (np3 + 1) cp2) W7) := Lib.hid (by rw [hst.out, hadd.out]; exact H7.out.to)
          have Hfew : Hid ((stOf o a b (CK.take (k + 1))).few (5200 * (k + 1))) := Lib.hid (by
            rw [hst.out, hadd.out]
            intro q' h
            cases h
            simp only [List.length_append]
            omega)
          clear H7 HO H6 hl1 hl2
          go_wp2_with fail
          exact ⟨⟨k + 1, by go_num, by omega, Hfin, Hb7, Hfew⟩, by simp [intOf]; omega⟩
        | false =>
          have hy : yOf a b c = L.slc a c.p.a c.q.a := by unfold yOf; rw [if_neg (by simpa using f2)]
          have Fv : Hid (∀ m U, Below w1.heap.size w1 U → SetV w1.heap.size m U (.slice sya ny syc) (yOf a b c)) := by rw [hy]; exact Fy
          have hnv : Hid (ny = (yOf a b c).length) := Lib.hid (by rw [hy]; exact hny.out.symm)
          clear hy
          go_upto_region 12 with fail
          go_cut [73] from 64 to 73 (fun c wx => c = .bool tb ∧ V = wx)
          case first =>
            rcases Nat.eq_zero_or_pos np with h0 | h0
            · have ht : tb = true := hnone.out h0
              subst h0
              subst ht
              go_wp2_with fail
              go_meet
              exact ⟨rfl, rfl⟩
            · obtain ⟨q, rfl⟩ : ∃ q, np = q + 1 := ⟨np - 1, by omega⟩
              obtain ⟨g2, rfl, hcell⟩ := hlast.out q rfl
              have z1 : (((q + 1 : Nat) : Int) == 0) = false := by simpa using (show ¬ ((q + 1 : Nat) : Int) = 0 by omega)
              have z0 : (((q + 1 : Nat) : Int) - 1) = (q : Int) := by omega
              have z2 : IntKind.i64.wrap (q : Int) = (q : Int) := Go.IntWalk.i64_in (q : Int) (by omega)
              go_wp2_with fail
              go_meet
              exact ⟨rfl, rfl⟩
          case rest =>
          obtain ⟨rfl, rfl⟩ := hcut
          go_upto_if 73 with fail
          go_cut [7] from 74 to 77 (fun v wx => ∃ ar2 n2 cp2, v = .slice ar2 n2 cp2 ∧ Hid (CbI w1.heap.size (s.1, some (s.2.getD ([], []))) (.slice ar2 n2 cp2) wx) ∧ Hid (Below w1.heap.size w1 wx))
          case first =>
            cases tb with
            | true =>
              have own2 := Lib.hid (Hp1.out.alloc (.cells #[.bool false, .slice none 0 0, .slice none 0 0, .slice none 0 0] 102))
              go_wp2_with (at_builtin; refine wpList_append_own _ rfl _ _ 99 rfl w1.heap.size 102 i0 _ 4 80 Tryd.underlying99 hi0 hz0 hz1 hz2 rfl (by decide) _ np _ rfl own2.out ⟨V.heap.size, 0, none⟩ 1 1 [.bool false, .slice none 0 0, .slice none 0 0, .slice none 0 0] rfl rfl (pc_new V false _ _ _) (pc_one false none none none 0 0 0 0 0 0) (by unfold maxLen; omega) (by omega) (by simp; omega) ?_; intro v' w2 hown' hgrow _)
              have hbA : Below V.heap.size V (V.alloc (.cells #[.bool false, .slice none 0 0, .slice none 0 0, .slice none 0 0] 102)) := (Below.refl _ V).alloc (Nat.le_refl _) _
              have hkA := KpM.below (n1 := w1.heap.size) (m := V.heap.size) hVs hbA
              have hs2 := (Hp2.out.keep hkA).mono hbA.size
              have hnA : w1.heap.size ≤ (V.alloc (.cells #[.bool false, .slice none 0 0, .slice none 0 0, .slice none 0 0] 102)).heap.size := Nat.le_trans hVs hbA.size
              have hbw2 : Below w1.heap.size w1 w2 := (BV.out.trans hkA.1).trans (kpm_grown own2.out hnA hgrow 0).1
              have hs0 : s.2 = none := by simpa using htb.out
              rw [fin_none hs0] at hs2
              have own3 : (V.alloc (.cells #[.bool false, .slice none 0 0, .slice none 0 0, .slice none 0 0] 102)).ownsRow w1.heap.size 102 4 (.slice ar np cp) P2.length (pvv P2) := by rw [hnp.out]; exact own2.out
              have hown3 : w2.ownsRow w1.heap.size 102 4 v' (P2.length + 1) (pvv P2 ++ [.bool false, .slice none 0 0, .slice none 0 0, .slice none 0 0]) := by rw [hnp.out]; exact hown'
              have hfin := CbI.open_ (n := 0) own3 hs2 hnA hown3 hgrow
              rw [show ([], []) = s.2.getD ([], []) by rw [hs0]; rfl] at hfin
              obtain ⟨ar2, cp2, rfl⟩ := own_len hown'
              have Hfin := Lib.hid hfin
              have Hbw2 := Lib.hid hbw2
              clear hfin hbw2 hown' hgrow hs2 hkA hbA own3 hown3
              go_wp2_with fail
              go_meet
              exact ⟨_, _, _, rfl, Hfin, Hbw2⟩
            | false =>
              have Hfin : Hid (CbI w1.heap.size (s.1, some (s.2.getD ([], []))) (.slice ar np cp) V) := Lib.hid (by rw [some_getD htb.out]; exact IV.out)
              go_wp2_with fail
              go_meet
              exact ⟨_, _, _, rfl, Hfin, BV⟩
          case rest =>
          obtain ⟨ar2, n2, cp2, rfl, IW, BW⟩ := hcut
          have hqf : (s.2.getD ([], [])).1.length ≤ 5200 * k ∧ (s.2.getD ([], [])).2.length ≤ 5200 * k := by
            cases hq : s.2 with
            | none => simp
            | some q => exact hF.out q hq
          obtain ⟨q, hq⟩ : ∃ q, Hid (s.2.getD ([], []) = q) := ⟨_, Lib.hid rfl⟩
          rw [hq.out] at IW hqf hadd
          obtain ⟨g3, cp3, np3, P, m, vo, va, e3, hnp3, ho⟩ := Opn.of IW.out
          cases e3
          have hPl3 : np3 ≤ 2 * k := by rw [hnp3]; exact hslen
          clear Hp1 Hp2 hlast hnone hnp3 IW
          have z0 : (((np3 + 1 : Nat) : Int) - 1) = (np3 : Int) := by omega
          have z2 : IntKind.i64.wrap (np3 : Int) = (np3 : Int) := Go.IntWalk.i64_in (np3 : Int) (by omega)
          have z3 : (0 : Int) ≤ (np3 : Int) := by omega
          have z4 : (np3 : Int) < ((np3 + 1 : Nat) : Int) := by omega
          go_upto_region 15 with fail
          refine (wpIn_wide (n := 1)).1 ?_
          refine L.wpIn_region_Z (S := fun _ => True) (zs := []) (by kernel_rfl) ?_
          have hS : True := trivial
          obtain ⟨W3, hW3⟩ : ∃ W3, Hid (wc.drew = W3) := ⟨_, Lib.hid rfl⟩
          have hbd3 : Below wc.heap.size wc W3 := by rw [← hW3.out]; exact below_draws (Below.refl _ _) 1
          have HO := Lib.hid (ho.below hbd3)
          have BW3 : Hid (Below w1.heap.size w1 W3) := Lib.hid (BW.out.trans (hbd3.mono BW.out.size))
          rw [hW3.out]
          clear ho hbd3
          simp only [List.size_toArray, List.length_cons, List.length_nil, Nat.reduceAdd, Array.replicate_succ, Array.replicate_zero, List.push_toArray, List.nil_append, List.cons_append]
          refine L.wpAnyZIn_takeF 12 (i := 1) (oi := { dst := some 84, op := Op.move (Operand.tmp 14), type := 120, pos := "weave.go:58", after := #[{ on := 16, ground := Ground.gcOnly Departure.lateStores }], guard := none }) (v := ?_) rfl (by kernel_rfl) (by kernel_rfl) (by kernel_rfl) (by kernel_rfl) (by kernel_rfl) (by kernel_rfl) (fun _ _ _ h => h) (Or.inl ⟨by rfl, ?_⟩) (fun _ => rfl) hS ?_
          rotate_left
          · intro w hSw
            skip
            go_simp
            try with_reducible rfl
          try simp only [Act.put, List.setIfInBounds_toArray, List.set_cons_zero, List.set_cons_succ]
          clear hS
          refine L.wpAnyZIn_lax (S := fun U => U.cell? ⟨g3, np3 * 4 + 1, none⟩ = some vo ∧ U.cell? ⟨g3, np3 * 4 + 2, none⟩ = some va) (zs := [16, 17, 18, 19]) ?_
          have hS : W3.cell? ⟨g3, np3 * 4 + 1, none⟩ = some vo ∧ W3.cell? ⟨g3, np3 * 4 + 2, none⟩ = some va := ⟨HO.out.cells.1.1, HO.out.cells.2.1⟩
          refine L.wpAnyZIn_takeF 12 (i := 0) (oi := { dst := some 83, op := Op.move (Operand.tmp 14), type := 120, pos := "weave.go:58", after := #[], guard := none }) (v := ?_) rfl (by kernel_rfl) (by kernel_rfl) (by kernel_rfl) (by kernel_rfl) (by kernel_rfl) (by kernel_rfl) (fun _ _ _ h => h) (Or.inl ⟨by rfl, ?_⟩) (fun _ => rfl) hS ?_
          rotate_left
          · intro w hSw
            obtain ⟨x1, x2⟩ := hSw
            go_simp
            try with_reducible rfl
          try simp only [Act.put, List.setIfInBounds_toArray, List.set_cons_zero, List.set_cons_succ]
          refine L.wpAnyZIn_takeF 12 (i := 2) (oi := { dst := some 85, op := Op.move (Operand.tmp 14), type := 120, pos := "weave.go:58", after := #[], guard := none }) (v := ?_) rfl (by kernel_rfl) (by kernel_rfl) (by kernel_rfl) (by kernel_rfl) (by kernel_rfl) (by kernel_rfl) (fun _ _ _ h => h) (Or.inl ⟨by rfl, ?_⟩) (fun _ => rfl) hS ?_
          rotate_left
          · intro w hSw
            obtain ⟨x1, x2⟩ := hSw
            go_simp
            try with_reducible rfl
          try simp only [Act.put, List.setIfInBounds_toArray, List.set_cons_zero, List.set_cons_succ]
          refine L.wpAnyZIn_takeF 12 (i := 3) (oi := { dst := some 86, op := Op.nilCheck (Operand.tmp 85), type := 0, pos := "weave.go:58", after := #[{ on := 2, ground := Ground.data }], guard := none }) (v := ?_) rfl (by kernel_rfl) (by kernel_rfl) (by kernel_rfl) (by kernel_rfl) (by kernel_rfl) (by kernel_rfl) (fun _ _ _ h => h) (Or.inl ⟨by rfl, ?_⟩) (fun _ => rfl) hS ?_
          rotate_left
          · intro w hSw
            obtain ⟨x1, x2⟩ := hSw
            go_simp
            try with_reducible rfl
          try simp only [Act.put, List.setIfInBounds_toArray, List.set_cons_zero, List.set_cons_succ]
          refine L.wpAnyZIn_takeF 12 (i := 4) (oi := { dst := some 87, op := Op.fieldAddr 102 (Operand.tmp 86) 1, type := 0, pos := "weave.go:58", after := #[{ on := 3, ground := Ground.data }], guard := none }) (v := ?_) rfl (by kernel_rfl) (by kernel_rfl) (by kernel_rfl) (by kernel_rfl) (by kernel_rfl) (by kernel_rfl) (fun _ _ _ h => h) (Or.inl ⟨by rfl, ?_⟩) (fun _ => rfl) hS ?_
          rotate_left
          · intro w hSw
            obtain ⟨x1, x2⟩ := hSw
            go_simp
            try with_reducible rfl
          try simp only [Act.put, List.setIfInBounds_toArray, List.set_cons_zero, List.set_cons_succ]
          refine L.wpAnyZIn_takeF 12 (i := 5) (oi := { dst := some 88, op := Op.load 57 (Operand.tmp 87), type := 57, pos := "weave.go:58", after := #[{ on := 4, ground := Ground.data }], guard := none }) (v := ?_) rfl (by kernel_rfl) (by kernel_rfl) (by kernel_rfl) (by kernel_rfl) (by kernel_rfl) (by kernel_rfl) (fun _ _ _ h => h) (Or.inl ⟨by rfl, ?_⟩) (fun _ => rfl) hS ?_
          rotate_left
          · intro w hSw
            obtain ⟨x1, x2⟩ := hSw
            go_simp
            try with_reducible rfl
          try simp only [Act.put, List.setIfInBounds_toArray, List.set_cons_zero, List.set_cons_succ]
          refine L.wpAnyZIn_takeF 12 (i := 6) (oi := { dst := some 89, op := Op.move (Operand.tmp 10), type := 57, pos := "weave.go:58", after := #[], guard := none }) (v := ?_) rfl (by kernel_rfl) (by kernel_rfl) (by kernel_rfl) (by kernel_rfl) (by kernel_rfl) (by kernel_rfl) (fun _ _ _ h => h) (Or.inl ⟨by rfl, ?_⟩) (fun _ => rfl) hS ?_
          rotate_left
          · intro w hSw
            obtain ⟨x1, x2⟩ := hSw
            go_simp
            try with_reducible rfl
          try simp only [Act.put, List.setIfInBounds_toArray, List.set_cons_zero, List.set_cons_succ]
          refine L.wpAnyZIn_takeF 12 (i := 8) (oi := { dst := some 91, op := Op.move (Operand.tmp 14), type := 120, pos := "weave.go:58", after := #[], guard := none }) (v := ?_) rfl (by kernel_rfl) (by kernel_rfl) (by kernel_rfl) (by kernel_rfl) (by kernel_rfl) (by kernel_rfl) (fun _ _ _ h => h) (Or.inl ⟨by rfl, ?_⟩) (fun _ => rfl) hS ?_
          rotate_left
          · intro w hSw
            obtain ⟨x1, x2⟩ := hSw
            go_simp
            try with_reducible rfl
          try simp only [Act.put, List.setIfInBounds_toArray, List.set_cons_zero, List.set_cons_succ]
          refine L.wpAnyZIn_takeF 12 (i := 9) (oi := { dst := some 92, op := Op.nilCheck (Operand.tmp 91), type := 0, pos := "weave.go:58", after := #[{ on := 8, ground := Ground.data }], guard := none }) (v := ?_) rfl (by kernel_rfl) (by kernel_rfl) (by kernel_rfl) (by kernel_rfl) (by kernel_rfl) (by kernel_rfl) (fun _ _ _ h => h) (Or.inl ⟨by rfl, ?_⟩) (fun _ => rfl) hS ?_
          rotate_left
          · intro w hSw
            obtain ⟨x1, x2⟩ := hSw
            go_simp
            try with_reducible rfl
          try simp only [Act.put, List.setIfInBounds_toArray, List.set_cons_zero, List.set_cons_succ]
          refine L.wpAnyZIn_takeF 12 (i := 10) (oi := { dst := some 93, op := Op.fieldAddr 102 (Operand.tmp 92) 2, type := 0, pos := "weave.go:58", after := #[{ on := 9, ground := Ground.data }], guard := none }) (v := ?_) rfl (by kernel_rfl) (by kernel_rfl) (by kernel_rfl) (by kernel_rfl) (by kernel_rfl) (by kernel_rfl) (fun _ _ _ h => h) (Or.inl ⟨by rfl, ?_⟩) (fun _ => rfl) hS ?_
          rotate_left
          · intro w hSw
            obtain ⟨x1, x2⟩ := hSw
            go_simp
            try with_reducible rfl
          try simp only [Act.put, List.setIfInBounds_toArray, List.set_cons_zero, List.set_cons_succ]
          refine L.wpAnyZIn_takeF 12 (i := 11) (oi := { dst := some 94, op := Op.load 57 (Operand.tmp 93), type := 57, pos := "weave.go:58", after := #[{ on := 10, ground := Ground.data }], guard := none }) (v := ?_) rfl (by kernel_rfl) (by kernel_rfl) (by kernel_rfl) (by kernel_rfl) (by kernel_rfl) (by kernel_rfl) (fun _ _ _ h => h) (Or.inl ⟨by rfl, ?_⟩) (fun _ => rfl) hS ?_
          rotate_left
          · intro w hSw
            obtain ⟨x1, x2⟩ := hSw
            go_simp
            try with_reducible rfl
          try simp only [Act.put, List.setIfInBounds_toArray, List.set_cons_zero, List.set_cons_succ]
          refine L.wpAnyZIn_takeF 12 (i := 12) (oi := { dst := some 95, op := Op.move (Operand.tmp 11), type := 57, pos := "weave.go:58", after := #[], guard := none }) (v := ?_) rfl (by kernel_rfl) (by kernel_rfl) (by kernel_rfl) (by kernel_rfl) (by kernel_rfl) (by kernel_rfl) (fun _ _ _ h => h) (Or.inl ⟨by rfl, ?_⟩) (fun _ => rfl) hS ?_
          rotate_left
          · intro w hSw
            obtain ⟨x1, x2⟩ := hSw
            go_simp
            try with_reducible rfl
          try simp only [Act.put, List.setIfInBounds_toArray, List.set_cons_zero, List.set_cons_succ]
          have hl1 := hnx.out
          have hl2 := hnv.out
          refine L.wpAnyZIn_one (i := 7) (by kernel_rfl) rfl (fun K hK => ?_)
          refine stepIn_append_strs W3 rfl _ _ rfl m w1.heap.size m vo q.1.length _ rfl HO.out.o (.slice sxa nx sxc) _ rfl (Fx.out m W3 BW3.out) (by omega) HO.out.le2 ?_
          intro v1 W4 ho4 hg4 hv4
          obtain ⟨r1, j1, t1, rfl⟩ := own_slice ho4
          obtain ⟨h4, k4⟩ := HO.out.after_o ho4 hg4 hv4
          refine hK.out _ _ (fun _ => ⟨h4.cells.1.1, h4.cells.2.1⟩) ?_
          simp only [Act.put, List.setIfInBounds_toArray, List.set_cons_zero, List.set_cons_succ]
          clear hK K hS ho4 hg4 hv4
          have B4 : Below w1.heap.size w1 W4 := BW3.out.trans k4.1
          clear k4
          refine L.wpAnyZIn_one (i := 13) (by kernel_rfl) rfl (fun K hK => ?_)
          refine stepIn_append_strs W4 rfl _ _ rfl m w1.heap.size m va q.2.length _ rfl h4.a (.slice sya ny syc) _ rfl (Fv.out m W4 B4) (by omega) h4.le2 ?_
          intro v2 W5 ho5 hg5 hv5
          obtain ⟨r2, j2, t2, rfl⟩ := own_slice ho5
          obtain ⟨h5, k5⟩ := h4.after_a ho5 hg5 hv5
          have hS5 : W5.cell? ⟨g3, np3 * 4 + 1, none⟩ = some vo ∧ W5.cell? ⟨g3, np3 * 4 + 2, none⟩ = some va := ⟨h5.cells.1.1, h5.cells.2.1⟩
          refine hK.out _ _ (fun _ => hS5) ?_
          simp only [Act.put, List.setIfInBounds_toArray, List.set_cons_zero, List.set_cons_succ]
          clear hK K ho5 hg5 hv5
          have B5 : Below w1.heap.size w1 W5 := B4.trans k5.1
          obtain ⟨⟨y1, f1⟩, -⟩ := h5.cells
          obtain ⟨h6, k6⟩ := h5.store1 (.slice r1 j1 t1)
          have B6 : Below w1.heap.size w1 (W5.setCell ⟨g3, np3 * 4 + 1, none⟩ (.slice r1 j1 t1)) := B5.trans k6.1
          obtain ⟨W6, hW6⟩ : ∃ V, Hid (W5.setCell ⟨g3, np3 * 4 + 1, none⟩ (.slice r1 j1 t1) = V) := ⟨_, Lib.hid rfl⟩
          rw [hW6.out] at h6 B6
          have H6 := Lib.hid h6
          clear h4 k5 B4 h5 k6 h6 B5
          refine L.wpAnyZIn_one (i := 14) (by kernel_rfl) rfl (fun K hK => ?_)
          go_simp
          refine hK.out _ _ (fun _ => hS5) ?_
          clear hK K
          refine L.wpAnyZIn_one (i := 15) (by kernel_rfl) rfl (fun K hK => ?_)
          go_simp
          refine hK.out _ _ (fun _ => hS5) ?_
          clear hK K hS5
          refine L.wpAnyZIn_one (i := 16) (by kernel_rfl) rfl (fun K hK => ?_)
          go_simp
          rw [hW6.out]
          refine hK.out _ _ (fun h => absurd (by decide) h) ?_
          clear hK K y1 f1 hW6
          obtain ⟨-, y2, f2'⟩ := H6.out.cells
          obtain ⟨h7, k7⟩ := H6.out.store2 (.slice r2 j2 t2)
          have B7 := B6.trans k7.1
          obtain ⟨W7, hW7⟩ : ∃ V, Hid (W6.setCell ⟨g3, np3 * 4 + 2, none⟩ (.slice r2 j2 t2) = V) := ⟨_, Lib.hid rfl⟩
          rw [hW7.out] at h7 B7
          have H7 := Lib.hid h7
          have Hb7 := Lib.hid B7
          clear h7 k7 B7
          refine L.wpAnyZIn_one (i := 17) (by kernel_rfl) rfl (fun K hK => ?_)
          go_simp
          refine hK.out _ _ (fun h => absurd (by decide) h) ?_
          clear hK K
          refine L.wpAnyZIn_one (i := 18) (by kernel_rfl) rfl (fun K hK => ?_)
          go_simp
          refine hK.out _ _ (fun h => absurd (by decide) h) ?_
          clear hK K
          refine L.wpAnyZIn_one (i := 19) (by kernel_rfl) rfl (fun K hK => ?_)
          go_simp
          rw [hW7.out]
          refine hK.out _ _ (fun h => absurd (by decide) h) ?_
          clear hK K y2 f2' hW7
          refine L.wpAnyZIn_done (by kernel_rfl) ?_ _
          have Hfin : Hid (CbI w1.heap.size (stOf o a b (CK.take (k + 1))) (.slice (some ⟨g3, 0, none⟩) (np3 + 1) cp2) W7) := Lib.hid (by rw [hst.out, hadd.out]; exact H7.out.to)
          have Hfew : Hid ((stOf o a b (CK.take (k + 1))).few (5200 * (k + 1))) := Lib.hid (by
            rw [hst.out, hadd.out]
            intro q' h
            cases h
            simp only [List.length_append]
            omega)
          clear H7 HO H6 hl1 hl2
          go_wp2_with fail
          exact ⟨⟨k + 1, by go_num, by omega, Hfin, Hb7, Hfew⟩, by simp [intOf]; omega⟩
    · have hkn : k = n := by omega
      subst hkn
      have d1 : decide (k < k) = false := decide_eq_false (Nat.lt_irrefl _)
      obtain ⟨P, hP1, hP2⟩ := hI.out.close
      have Hend : Hid (Setl w1.heap.size wo.heap.size wo P (combP o a b)) := Lib.hid (by
        rw [← hs.out, ← hnn.out, List.take_length] at hP2
        unfold combP
        rw [hCK.out]
        exact hP2)
      have HB : Hid (Below w.heap.size w wo) := Lib.hid (B1.out.trans (hB.out.mono hs1))
      have Hown := Lib.hid hP1
      clear hP1 hP2
      go_wp2_with fail
      simp only [Exit.noGoto]
      go_ret
      exact ⟨_, _, P, rfl, Hown.out, Hend.out, HB.out⟩
end Go.Proofs.YtbekbllffphfeaaDoor
