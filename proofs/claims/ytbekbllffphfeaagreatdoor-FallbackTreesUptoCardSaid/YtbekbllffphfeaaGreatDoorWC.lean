/-
  For the laws of weave: the lines of a text, by its bytes; no program. No condition.
-/
import Derived.Test.YtbekbllffphfeaaGreatDoorSA
import Derived.Test.YtbekbllffphfeaaGreatDoorWB
import Derived.Test.YtbekbllffphfeaaGreatDoorPA
import Derived.Deep.QuietTactic
import Derived.BigQuiet
import Derived.Test.YtbekbllffphfeaaGreatDoorLC
import Derived.RegionTactic
import Derived.ChangeAlike
import Derived.Deep.CutRange
import Derived.Deep.AppendLies
import Derived.Deep.RegionHeldLaw
namespace Go.Proofs.YtbekbllffphfeaaGreatDoor.S
open Go.RowKit
set_option linter.unusedSimpArgs false
set_option linter.unusedVariables false

end Go.Proofs.YtbekbllffphfeaaGreatDoor.S
/-
  For the laws of weave: rows of lines and their texts; the numbers that texts have. No condition.
-/
namespace Go.Proofs.YtbekbllffphfeaaGreatDoor
set_option linter.unusedSimpArgs false
set_option linter.unusedVariables false
namespace L
end L

end Go.Proofs.YtbekbllffphfeaaGreatDoor
/-
  For the laws of weave: turned about; what the parts of lines are. Condition: at most 2,000 units a row.
-/
namespace Go.Proofs.YtbekbllffphfeaaGreatDoor
set_option linter.unusedSimpArgs false
set_option linter.unusedVariables false

/-- The pieces, one by one: what is a clash differs, what is none never stands behind another such. -/
def Alt (l : List Pc) : Prop := ∀ k x y, l[k]? = some x → l[k + 1]? = some y → y.clash = false → x.clash = true
def LastC (l : List Pc) : Prop := ∀ p, l.getLast? = some p → p.clash = true
theorem alt_snoc {l : List Pc} {z : Pc} (h : Alt l) (hz : z.clash = true ∨ LastC l) : Alt (l ++ [z]) := by
  intro k x y hx hy hc
  rcases Nat.lt_or_ge (k + 1) l.length with hk | hk
  · rw [List.getElem?_append_left (by omega)] at hx
    rw [List.getElem?_append_left hk] at hy
    exact h k x y hx hy hc
  · have hl := (List.getElem?_eq_some_iff.1 hy).1
    rw [List.length_append, List.length_singleton] at hl
    have hk1 : k + 1 = l.length := by omega
    rw [List.getElem?_append_right hk, hk1, Nat.sub_self] at hy
    obtain rfl : z = y := by simpa using hy
    rw [List.getElem?_append_left (by omega)] at hx
    rcases hz with hz | hz
    · rw [hz] at hc; cases hc
    · refine hz x ?_
      rw [List.getLast?_eq_getElem?, ← hk1, Nat.add_sub_cancel]
      exact hx
def AltS (s : St) : Prop := Alt s.1 ∧ LastC s.1
theorem altS_fin {s : St} (h : AltS s) : Alt s.fin := by
  cases hs : s.2 with
  | none => rw [fin_nil s hs]; exact h.1
  | some q => rw [fin_cons s q hs]; exact alt_snoc h.1 (.inr h.2)
theorem altS_add {o a b : TL} {s : St} {c : L.Ck} (h : AltS s) : AltS (s.add o a b c) := by
  unfold St.add
  split
  · refine ⟨alt_snoc (altS_fin h) (.inl rfl), fun p hp => ?_⟩
    simp only at hp
    rw [List.getLast?_append] at hp
    simp at hp
    rw [← hp]
  · cases s.2 <;> exact h
end Go.Proofs.YtbekbllffphfeaaGreatDoor
/-
  For the laws of weave: the document's own lines and joined texts. Condition: texts of at most 5,000,000 bytes.
-/
namespace Go.Proofs.YtbekbllffphfeaaGreatDoor
open Go.RowKit Go.Shelf
set_option linter.unusedSimpArgs false
set_option linter.unusedVariables false
namespace S
theorem below_appended {w wr w1 : World} {o : Value} {n : Nat} {xs : List Value} {tmp : Obj} (hB : Below w.heap.size w wr) (hown : wr.ownsRow w.heap.size 9 1 o n xs) (hgrow : (wr.alloc tmp).grownBy w1 o.ownBlock) : Below w.heap.size w w1 :=
  (hB.alloc hB.size tmp).grown hgrow (by have := hB.size; simp; omega) fun k e => (hown.lt k e).1
theorem cell_one_new (W : World) (x : Value) (t : TypeId) : ∀ j u, ([x] : List Value)[j]? = some u → (W.alloc (.cells #[x] t)).cell? ((⟨W.heap.size, 0, none⟩ : Addr).add j) = some u := by
  intro j u hj
  rw [add_flat, Nat.zero_add, Lib.cell_of_heap (World.alloc_heap_new W _)]
  simpa using hj
theorem nlB_true' {s : ByteArray} {k : Nat} (h : k < s.size) (hb : ((s[k].toNat : Int) == 10) = true) : nlB s k = true := nlB_true h (by simpa using hb)
theorem nlB_false' {s : ByteArray} {k : Nat} (h : k < s.size) (hb : ((s[k].toNat : Int) == 10) = false) : nlB s k = false := nlB_false h (by simpa using hb)
set_option maxRecDepth 100000 in
set_option maxHeartbeats 4000000 in
theorem RefSplit_any (s : ByteArray) (hs : s.size ≤ 5000000) (w : World) :
    Calls Tryz.prog 36 #[.string s] w fun e W' => ∃ v, e = .returned v ∧ L.Vals W' v ((lns s).map .string) ∧ Below w.heap.size w W' := by
  obtain ⟨i0, hi, hz0, hz1, hz2⟩ := info_parts try_info9
  go_enter Tryz.func36, Tryz.ntmps36
  go_wp2
  go_loopw [3, 4, 5] (fun o f i wr => ∃ k : Nat, k ≤ s.size ∧ i = .int .i64 k ∧ f = .int .i64 ((st s k).2 : Nat) ∧ wr.ownsRow w.heap.size 9 1 o (st s k).1.length ((st s k).1.map Value.string) ∧ Below w.heap.size w wr)
    (fun _ _ i _ => s.size - (intOf i).toNat)
  case atStart => exact ⟨0, Nat.zero_le _, rfl, rfl, World.ownsRow_nil _ _ _ _, Below.refl _ _⟩
  case round =>
    obtain ⟨k, hk, rfl, rfl, hown, hB⟩ := hrel
    have hfk := st_le s k
    have hlk := st_len s k
    by_cases hlt : k < s.size
    · by_cases hb : ((s[k].toNat : Int) == 10) = true
      · have hst := st_yes (nlB_true' hlt hb)
        have Hst := Lib.hid hst; clear hst
        go_wp2_with (at_builtin; refine wpList_append_own _ rfl _ _ 55 rfl w.heap.size 9 i0 (.string ⟨#[]⟩) 1 16 Tryz.underlying55 hi hz0 hz1 hz2 rfl (by decide) _ _ _ rfl (hown.alloc _) ⟨wr.heap.size, 0, none⟩ 1 1 [.string (s.extract (st s k).2 (k + 1))] rfl rfl (cell_one_new _ _ _) (by simp [Value.oneCell']) (by unfold maxLen; omega) (by omega) (by have := hB.size; simp; omega) ?_; intro v' w1 hown' hgrow _)
        refine ⟨⟨k + 1, by omega, by go_num, by rw [Hst.out]; go_num, by rw [Hst.out]; simpa using hown', below_appended hB hown hgrow⟩, by simp [intOf]; omega⟩
      · replace hb : ((s[k].toNat : Int) == 10) = false := by simpa using hb
        have hst := st_no (nlB_false' hlt hb)
        have Hst := Lib.hid hst; clear hst
        go_wp2
        refine ⟨⟨k + 1, by omega, by go_num, by rw [Hst.out], by rw [Hst.out]; exact hown, hB⟩, by simp [intOf]; omega⟩
    · obtain rfl : k = s.size := by omega
      by_cases hf : (st s s.size).2 < s.size
      · have hl : lns s = (st s s.size).1 ++ [s.extract (st s s.size).2 s.size] := by unfold lns; rw [if_pos hf]
        have Hl := Lib.hid hl; clear hl
        go_wp2_with (at_builtin; refine wpList_append_own _ rfl _ _ 55 rfl w.heap.size 9 i0 (.string ⟨#[]⟩) 1 16 Tryz.underlying55 hi hz0 hz1 hz2 rfl (by decide) _ _ _ rfl (hown.alloc _) ⟨wr.heap.size, 0, none⟩ 1 1 [.string (s.extract (st s s.size).2 s.size)] rfl rfl (cell_one_new _ _ _) (by simp [Value.oneCell']) (by unfold maxLen; omega) (by omega) (by have := hB.size; simp; omega) ?_; intro v' w1 hown' hgrow _)
        go_ret
        exact ⟨v', rfl, by rw [Hl.out, List.map_append]; exact L.own_vals hown', below_appended hB hown hgrow⟩
      · have hl : lns s = (st s s.size).1 := by unfold lns; rw [if_neg hf]
        have Hl := Lib.hid hl; clear hl
        go_wp2
        go_ret
        exact ⟨_, rfl, by rw [Hl.out]; exact L.own_vals hown, hB⟩
end S
/-- What is joined so far. -/
theorem joinT_take {xs : TL} {k : Nat} {x : ByteArray} (h : xs[k]? = some x) : joinT (xs.take (k + 1)) = joinT (xs.take k) ++ tl x := by
  rw [List.take_add_one, h, joinT_app]
  congr 1
  simp [joinT]
theorem joinT_take_le (xs : TL) (k : Nat) : (joinT (xs.take k)).length ≤ (joinT xs).length := by
  conv => rhs; rw [← List.take_append_drop k xs]
  rw [joinT_app, List.length_append]
  omega
set_option maxRecDepth 100000 in
set_option maxHeartbeats 2000000 in
theorem RefJoinS_any (v : Value) (xs : TL) (w : World) (h : L.Vals w v (xs.map .string)) (hlen : (joinT xs).length ≤ 140737488355328) :
    Calls Tryz.prog 56 #[v] w fun e w' => e = .returned (.string (bs (joinT xs))) ∧ w' = w := by
  obtain ⟨a, cap, rfl, hc, hm, hat⟩ := h.at
  rw [List.length_map] at hc ⊢
  unfold maxLen at hm
  obtain ⟨n, hn⟩ : ∃ n, Hid (xs.length = n) := ⟨_, Lib.hid rfl⟩
  rw [hn.out] at hc ⊢
  have Hat := Lib.hid hat
  clear hat h
  go_enter Tryz.func56, Tryz.ntmps56
  go_wp2_with fail
  go_loop [3, 4] (fun s i => ∃ k : Nat, k ≤ n ∧ i = .int .i64 k ∧ s = .string (bs (joinT (xs.take k)))) (fun _ i => n - (intOf i).toNat)
  case atStart => exact ⟨0, Nat.zero_le _, rfl, rfl⟩
  case round =>
    obtain ⟨k, hk, rfl, rfl⟩ := hrel
    rcases Nat.lt_or_ge k n with hlt | hlt
    · obtain ⟨x, hx⟩ := get_lt (l := xs) (k := k) (by rw [hn.out]; exact hlt)
      obtain ⟨b, off, rfl, hbs, e1⟩ := Hat.out k (.string x) (by rw [List.getElem?_map, hx]; rfl)
      have hst : Hid (bs (joinT (xs.take (k + 1))) = bs (joinT (xs.take k)) ++ x) := Lib.hid (by rw [joinT_take hx, bs_cat, bs_tl])
      have hsz2 : (bs (joinT (xs.take k))).size + x.size ≤ 140737488355328 := by
        have h1 := joinT_take_le xs (k + 1)
        rw [joinT_take hx, List.length_append, tl_length] at h1
        rw [bs_size]; omega
      have d1 : decide ((k : Int) < (n : Int)) = true := decide_eq_true (by omega)
      have d2 : (0 : Int) ≤ (k : Int) := by omega
      have d3 : (k : Int) < (n : Int) := by omega
      clear hx
      obtain ⟨J, hJ⟩ : ∃ J, Hid (bs (joinT (xs.take k)) = J) := ⟨_, Lib.hid rfl⟩
      rw [hJ.out] at hst hsz2 ⊢
      go_wp2_with fail
      go_round
      case rel => exact ⟨k + 1, by omega, by go_num, by rw [hst.out]⟩
      case measure => simp [intOf]; omega
    · have d1 : decide ((k : Int) < (n : Int)) = false := decide_eq_false (by omega)
      have he : xs.take k = xs := List.take_of_length_le (by rw [hn.out]; exact hlt)
      rw [he]
      go_wp2_with fail
      go_ret
      exact ⟨rfl, rfl⟩
end Go.Proofs.YtbekbllffphfeaaGreatDoor
/-
  For the laws of weave: the document's own parts of rows of units. Condition: at most 2,000 units of at most 2,000 bytes each.
-/
namespace Go.Proofs.YtbekbllffphfeaaGreatDoor
open Go.RowKit Go.Shelf
set_option linter.unusedSimpArgs false
set_option linter.unusedVariables false

/-- The parts so far. -/
def pSt (s : St) : List Pt := s.fin.map ptOf
/-- The part of one chunk. -/
def pCk (o a b : TL) (c : L.Ck) : Pt := if c.kind = 4 then ⟨true, joinT (L.slc o c.p.o c.q.o), joinT (L.slc a c.p.a c.q.a), joinT (L.slc b c.p.b c.q.b)⟩ else ⟨false, joinT (L.slc o c.p.o c.q.o), joinT (yOf a b c), joinT (yOf a b c)⟩
/-- One part more: behind the others, or into the last. -/
theorem pSt_add {o a b : TL} {s : St} (hs : AltS s) (c : L.Ck) : (c.kind = 4 → pSt (s.add o a b c) = pSt s ++ [pCk o a b c]) ∧ (c.kind ≠ 4 →
    ((∀ p, (pSt s).getLast? = some p → p.clash = true) → pSt (s.add o a b c) = pSt s ++ [pCk o a b c]) ∧
    (∀ P x, pSt s = P ++ [x] → x.clash = false → pSt (s.add o a b c) = P ++ [⟨false, x.o ++ (pCk o a b c).o, x.a ++ (pCk o a b c).a, x.b ++ (pCk o a b c).b⟩])) := by
  refine ⟨fun h4 => ?_, fun h4 => ⟨fun hl => ?_, fun P x hP hx => ?_⟩⟩
  · unfold St.add pSt pCk
    rw [if_pos h4, if_pos h4, fin_nil _ rfl, List.map_append]
    rfl
  · cases h2 : s.2 with
    | none =>
      have e1 : s.add o a b c = (s.1, some (L.slc o c.p.o c.q.o, yOf a b c)) := by unfold St.add; rw [if_neg h4, h2]
      rw [e1]
      unfold pSt pCk
      rw [if_neg h4, fin_cons _ _ rfl, fin_nil s h2, List.map_append]
      rfl
    | some q =>
      have hbad := hl (ptOf ⟨false, q.1, q.2, []⟩) (by unfold pSt; rw [fin_cons s q h2, List.map_append]; simp)
      cases hbad
  · cases h2 : s.2 with
    | none =>
      exfalso
      have hf := hs.2
      unfold pSt at hP
      rw [fin_nil s h2] at hP
      have hlast : (s.1.map ptOf).getLast? = some x := by rw [hP]; simp
      rw [List.getLast?_map] at hlast
      cases hz : s.1.getLast? with
      | none => rw [hz] at hlast; cases hlast
      | some z =>
        rw [hz] at hlast
        have hzc := hf z hz
        have : ptOf z = x := by simpa using hlast
        rw [← this] at hx
        exact absurd (hzc.symm.trans hx) (by decide)
    | some q =>
      have e1 : s.add o a b c = (s.1, some (q.1 ++ L.slc o c.p.o c.q.o, q.2 ++ yOf a b c)) := by unfold St.add; rw [if_neg h4, h2]
      unfold pSt at hP
      rw [fin_cons s q h2, List.map_append] at hP
      obtain ⟨rfl, hxx⟩ := List.append_inj' hP rfl
      obtain rfl : ptOf ⟨false, q.1, q.2, []⟩ = x := by simpa using hxx
      rw [e1]
      unfold pSt pCk
      rw [if_neg h4, fin_cons _ _ rfl, List.map_append]
      simp only [List.map_cons, List.map_nil, ptOf, joinT_app]
      rfl
theorem altS_of (o a b : TL) (l : List L.Ck) : AltS (stOf o a b l) := by
  have : ∀ (l : List L.Ck) (s : St), AltS s → AltS (l.foldl (St.add o a b) s) := by
    intro l
    induction l with
    | nil => intro s h; exact h
    | cons c l ih => intro s h; exact ih _ (altS_add h)
  exact this l ([], none) ⟨fun k x y hx => by simp at hx, fun p hp => by simp at hp⟩
theorem stOf_take {o a b : TL} {l : List L.Ck} {k : Nat} {c : L.Ck} (h : l[k]? = some c) : stOf o a b (l.take (k + 1)) = (stOf o a b (l.take k)).add o a b c := by
  rw [List.take_add_one, h]
  exact stOf_snoc o a b _ c
/-- What the parts so far may be. -/
theorem pSt_small {o a b : TL} (l1 : o.length ≤ 2600) (l2 : a.length ≤ 2600) (l3 : b.length ≤ 2600) (m1 : ∀ s ∈ o, s.size ≤ 2600) (m2 : ∀ s ∈ a, s.size ≤ 2600) (m3 : ∀ s ∈ b, s.size ≤ 2600) (l : List L.Ck) (hl : l.length ≤ 7800) :
    ∀ p ∈ pSt (stOf o a b l), p.o.length ≤ 53000000000 ∧ p.a.length ≤ 53000000000 ∧ p.b.length ≤ 53000000000 := by
  intro p hp
  unfold pSt at hp
  obtain ⟨x, hx, rfl⟩ := List.mem_map.1 hp
  obtain ⟨h1, h2, h3⟩ := St.fin_out (stOf_out l1 l2 l3 l) x hx
  have k1 := joinT_len h1 m1 m1
  have k2 := joinT_len h2 m2 m3
  have k3 := joinT_len h3 m3 m3
  refine ⟨?_, ?_, ?_⟩
  · show (joinT x.o).length ≤ _; omega
  · show (joinT x.a).length ≤ _; omega
  · show (if x.clash then joinT x.b else joinT x.a).length ≤ _
    split <;> omega
theorem pSt_len (o a b : TL) (l : List L.Ck) : (pSt (stOf o a b l)).length ≤ 2 * l.length + 1 := by
  unfold pSt
  rw [List.length_map]
  have h1 := stOf_len' o a b l
  have : ∀ s : St, s.fin.length ≤ s.1.length + 1 := fun s => by unfold St.fin; cases s.2 <;> simp
  have h2 := this (stOf o a b l)
  omega
theorem slc_bytes {xs : TL} (h : ∀ s ∈ xs, s.size ≤ 2600) (hl : xs.length ≤ 2600) (i j : Nat) : (joinT (L.slc xs i j)).length ≤ 7000000 := by
  have h1 := joinT_len (slc_out (b := xs) i j 2600 hl) h h
  omega

theorem row7 {W : World} {g t : Nat} {a b c d e f h : Value} (r : RowAt W g t #[a, b, c, d, e, f, h]) : W.cell? ⟨g, 0, none⟩ = some a ∧ W.cell? ⟨g, 1, none⟩ = some b ∧ W.cell? ⟨g, 2, none⟩ = some c ∧ W.cell? ⟨g, 3, none⟩ = some d ∧ W.cell? ⟨g, 4, none⟩ = some e ∧ W.cell? ⟨g, 5, none⟩ = some f ∧ W.cell? ⟨g, 6, none⟩ = some h :=
  ⟨r.cell rfl, r.cell rfl, r.cell rfl, r.cell rfl, r.cell rfl, r.cell rfl, r.cell rfl⟩
theorem own_form {W : World} {base e size n : Nat} {v : Value} {xs : List Value} (h : W.ownsRow base e size v n xs) : ∃ a c, v = .slice a n c := by
  rcases h.2 with ⟨rfl, h0⟩ | ⟨g, cap, cur, rfl, _⟩
  · exact ⟨none, 0, by rw [h0]⟩
  · exact ⟨_, _, rfl⟩
theorem pv_snoc (P : List Pt) (x : Pt) : pv (P ++ [x]) = pv P ++ rowP x := by rw [pv_append]; unfold pv; simp
theorem pv_set1 (P : List Pt) (c : Bool) (x y z u : By) : (pv (P ++ [⟨c, x, y, z⟩])).set (P.length * 4 + 1) (.string (bs u)) = pv (P ++ [⟨c, u, y, z⟩]) := by
  rw [pv_snoc, pv_snoc, List.set_append, if_neg (by rw [pv_len]; omega), pv_len, Nat.add_sub_cancel_left]; rfl
theorem pv_set2 (P : List Pt) (c : Bool) (x y z u : By) : (pv (P ++ [⟨c, x, y, z⟩])).set (P.length * 4 + 2) (.string (bs u)) = pv (P ++ [⟨c, x, u, z⟩]) := by
  rw [pv_snoc, pv_snoc, List.set_append, if_neg (by rw [pv_len]; omega), pv_len, Nat.add_sub_cancel_left]; rfl
theorem pv_set3 (P : List Pt) (c : Bool) (x y z u : By) : (pv (P ++ [⟨c, x, y, z⟩])).set (P.length * 4 + 3) (.string (bs u)) = pv (P ++ [⟨c, x, y, u⟩]) := by
  rw [pv_snoc, pv_snoc, List.set_append, if_neg (by rw [pv_len]; omega), pv_len, Nat.add_sub_cancel_left]; rfl

/-- The row of parts in memory, whose last part grows; the part that is put into it. -/
structure Mg (w1 : World) (G H m cr : Nat) (P : List Pt) (Jo Jy : By) (o a b : By) (V : World) : Prop where
  own : V.ownsRow w1.heap.size 53 4 (.slice (some ⟨G, 0, none⟩) (m + 1) cr) (m + 1) (pv (P ++ [⟨false, o, a, b⟩]))
  row : RowAt V H 53 #[.bool false, .string (bs Jo), .string (bs Jy), .string (bs Jy)]
  frz : ∃ cs, RowAt V G 53 cs
  bel : Below w1.heap.size w1 V
theorem Mg.drew {w1 : World} {G H m cr : Nat} {P : List Pt} {Jo Jy o a b : By} {V : World} (h : Mg w1 G H m cr P Jo Jy o a b V) : Mg w1 G H m cr P Jo Jy o a b V.drew := ⟨h.own, h.row, h.frz, below_drew h.bel⟩
theorem Mg.at {w1 : World} {G H m cr : Nat} {P : List Pt} {Jo Jy o a b : By} {V : World} (h : Mg w1 G H m cr P Jo Jy o a b V) (hP : P.length = m) : V.cell? ⟨G, m * 4 + 1, none⟩ = some (.string (bs o)) ∧ V.cell? ⟨G, m * 4 + 2, none⟩ = some (.string (bs a)) ∧ V.cell? ⟨G, m * 4 + 3, none⟩ = some (.string (bs b)) ∧ V.frozen? ⟨G, m * 4 + 1, none⟩ = false ∧ V.frozen? ⟨G, m * 4 + 2, none⟩ = false ∧ V.frozen? ⟨G, m * 4 + 3, none⟩ = false := by
  obtain ⟨gr, cr', er, -, -, -, -, -, hcells⟩ := own_cells h.own (by omega)
  cases er
  obtain ⟨cs, hr⟩ := h.frz
  have hat : ∀ j v, (rowP ⟨false, o, a, b⟩)[j]? = some v → V.cell? ⟨G, m * 4 + j, none⟩ = some v := fun j v hj => hcells _ _ (by
    rw [pv_snoc, List.getElem?_append_right (by rw [pv_len, hP]; omega), pv_len, hP, Nat.add_sub_cancel_left]
    exact hj)
  exact ⟨hat 1 _ rfl, hat 2 _ rfl, hat 3 _ rfl, hr.frozen _, hr.frozen _, hr.frozen _⟩
theorem Mg.set1 {w1 : World} {G H m cr : Nat} {P : List Pt} {Jo Jy o a b : By} {V : World} (h : Mg w1 G H m cr P Jo Jy o a b V) (hP : P.length = m) (hG : w1.heap.size ≤ G) (hne : H ≠ G) (u : By) : Mg w1 G H m cr P Jo Jy (o ++ u) a b (V.setCell ⟨G, m * 4 + 1, none⟩ (.string (bs o ++ bs u))) := by
  obtain ⟨cs, hr⟩ := h.frz
  refine ⟨?_, h.row.other hne _ _, ⟨_, hr.set _ _⟩, h.bel.setCell (p := ⟨G, m * 4 + 1, none⟩) hG _⟩
  have k := own_store h.own (j := m * 4 + 1) (by omega) (.string (bs (o ++ u)))
  rw [← hP, pv_set1, hP, bs_cat] at k
  exact k
theorem Mg.set2 {w1 : World} {G H m cr : Nat} {P : List Pt} {Jo Jy o a b : By} {V : World} (h : Mg w1 G H m cr P Jo Jy o a b V) (hP : P.length = m) (hG : w1.heap.size ≤ G) (hne : H ≠ G) (u : By) : Mg w1 G H m cr P Jo Jy o (a ++ u) b (V.setCell ⟨G, m * 4 + 2, none⟩ (.string (bs a ++ bs u))) := by
  obtain ⟨cs, hr⟩ := h.frz
  refine ⟨?_, h.row.other hne _ _, ⟨_, hr.set _ _⟩, h.bel.setCell (p := ⟨G, m * 4 + 2, none⟩) hG _⟩
  have k := own_store h.own (j := m * 4 + 2) (by omega) (.string (bs (a ++ u)))
  rw [← hP, pv_set2, hP, bs_cat] at k
  exact k
theorem Mg.set3 {w1 : World} {G H m cr : Nat} {P : List Pt} {Jo Jy o a b : By} {V : World} (h : Mg w1 G H m cr P Jo Jy o a b V) (hP : P.length = m) (hG : w1.heap.size ≤ G) (hne : H ≠ G) (u : By) : Mg w1 G H m cr P Jo Jy o a (b ++ u) (V.setCell ⟨G, m * 4 + 3, none⟩ (.string (bs b ++ bs u))) := by
  obtain ⟨cs, hr⟩ := h.frz
  refine ⟨?_, h.row.other hne _ _, ⟨_, hr.set _ _⟩, h.bel.setCell (p := ⟨G, m * 4 + 3, none⟩) hG _⟩
  have k := own_store h.own (j := m * 4 + 3) (by omega) (.string (bs (b ++ u)))
  rw [← hP, pv_set3, hP, bs_cat] at k
  exact k

set_option maxRecDepth 100000 in
set_option maxHeartbeats 16000000 in
theorem RefParts08_any (v1 v2 v3 : Value) (o a b : TL) (w : World) (h1 : L.Vals w v1 (o.map .string)) (h2 : L.Vals w v2 (a.map .string)) (h3 : L.Vals w v3 (b.map .string)) (l1 : o.length ≤ 2600) (l2 : a.length ≤ 2600) (l3 : b.length ≤ 2600) (m1 : ∀ s ∈ o, s.size ≤ 2600) (m2 : ∀ s ∈ a, s.size ≤ 2600) (m3 : ∀ s ∈ b, s.size ≤ 2600) :
    Calls Tryz.prog 35 #[v1, v2, v3] w (Gives2 w (wovenP o a b)) := by
  have CP := Lib.hid (L.RefParts_any v1 v2 v3 o a b w h1 h2 h3 l1 l2 l3 (fun s hs => by have := m1 s hs; unfold maxLen; omega) (fun s hs => by have := m2 s hs; unfold maxLen; omega) (fun s hs => by have := m3 s hs; unfold maxLen; omega))
  have H1 := Lib.hid h1
  have H2 := Lib.hid h2
  have H3 := Lib.hid h3
  have M1 := Lib.hid (slc_bytes m1 l1)
  have M2 := Lib.hid (slc_bytes m2 l2)
  have M3 := Lib.hid (slc_bytes m3 l3)
  have HSm := Lib.hid (pSt_small l1 l2 l3 m1 m2 m3)
  have HOk := Lib.hid (chunksT_ok l1 l2 l3)
  have hCl := chunksT_len (o := o) (a := a) (b := b)
  obtain ⟨i0, hi0, hz0, hz1, hz2⟩ := info_parts infoPt
  obtain ⟨p1, k1, rfl, c1, d1, -⟩ := h1.at
  obtain ⟨p2, k2, rfl, c2, d2, -⟩ := h2.at
  obtain ⟨p3, k3, rfl, c3, d3, -⟩ := h3.at
  rw [List.length_map] at c1 c2 c3
  unfold maxLen at d1 d2 d3
  simp only [List.length_map] at CP H1 H2 H3 ⊢
  clear h1 h2 h3 m1 m2 m3
  have HL1 := Lib.hid l1
  have HL2 := Lib.hid l2
  have HL3 := Lib.hid l3
  obtain ⟨C, hC⟩ : ∃ C, Hid (L.chunksT o a b = C) := ⟨_, Lib.hid rfl⟩
  have hW : Hid (wovenP o a b = pSt (stOf o a b C)) := Lib.hid (by rw [← hC.out]; rfl)
  rw [hC.out] at CP HOk hCl
  rw [hW.out]
  obtain ⟨n, hn⟩ : ∃ n, Hid (C.length = n) := ⟨_, Lib.hid rfl⟩
  rw [hn.out] at CP hCl
  obtain ⟨z1, hz1'⟩ : ∃ z, Hid (o.length = z) := ⟨_, Lib.hid rfl⟩
  obtain ⟨z2, hz2'⟩ : ∃ z, Hid (a.length = z) := ⟨_, Lib.hid rfl⟩
  obtain ⟨z3, hz3'⟩ : ∃ z, Hid (b.length = z) := ⟨_, Lib.hid rfl⟩
  rw [hz1'.out] at CP H1 c1 l1 hCl ⊢
  rw [hz2'.out] at CP H2 c2 l2 hCl ⊢
  rw [hz3'.out] at CP H3 c3 l3 hCl ⊢
  unfold Gives2
  go_enter Tryz.func35, Tryz.ntmps35
  go_wp2_with fail
  refine CP.out.mono ?_
  rintro e w1 ⟨vc, rfl, hown, b1⟩
  have B1 := Lib.hid b1
  obtain ⟨ac, cc, rfl, hnn, hcc, hcm, hat⟩ := cks_at hown
  have Hat := Lib.hid hat
  unfold maxLen at hcm
  clear hat hown b1 hnn
  go_wp2_with fail
  go_loopw [7, 9] (fun q c wr => ∃ k : Nat, c = .int .i64 k ∧ k ≤ n ∧ Hid (wr.ownsRow w1.heap.size 53 4 q (pSt (stOf o a b (C.take k))).length (pv (pSt (stOf o a b (C.take k))))) ∧ Hid (Below w1.heap.size w1 wr)) (fun _ c _ => n - (intOf c).toNat)
  case atStart => exact ⟨0, rfl, Nat.zero_le _, Lib.hid (World.ownsRow_nil _ _ _ _), Lib.hid (Below.refl _ _)⟩
  case round =>
    obtain ⟨k, rfl, hk, hO, hB⟩ := hrel
    have hX : ∃ X, Hid (pSt (stOf o a b (C.take k)) = X) := ⟨_, Lib.hid rfl⟩
    obtain ⟨X, hX⟩ := hX
    obtain ⟨np, hnp⟩ : ∃ np, Hid (X.length = np) := ⟨_, Lib.hid rfl⟩
    rw [hX.out, hnp.out] at hO
    obtain ⟨ao, co, rfl⟩ := own_form hO.out
    have hnpl : np ≤ 15601 := by
      have h := pSt_len o a b (C.take k)
      rw [hX.out, hnp.out, List.length_take, hn.out] at h
      omega
    obtain ⟨wo, rfl⟩ : ∃ wo, wo = wr := ⟨wr, rfl⟩
    rcases Nat.lt_or_ge k n with hlt | hlt
    · obtain ⟨c, hc⟩ := get_lt (l := C) (k := k) (by rw [hn.out]; exact hlt)
      obtain ⟨gc, rfl, e0, e1, e2, e3, e4, e5, e6⟩ := Hat.out wo hB.out k c hc
      obtain ⟨⟨o1, o2⟩, ⟨a1, a2⟩, b2, b3⟩ := HOk.out c (List.mem_of_getElem? hc)
      have q1 : decide (k < n) = true := decide_eq_true hlt
      have q2 : (0 : Int) ≤ (k : Int) := by omega
      have q3 : (k : Int) < (n : Int) := by omega
      have hadd := Lib.hid (pSt_add (o := o) (a := a) (b := b) (altS_of o a b (C.take k)) c)
      have hnext := Lib.hid (stOf_take (o := o) (a := a) (b := b) hc)
      rw [hX.out] at hadd
      have hsm : Hid (∀ p ∈ X, p.o.length ≤ 53000000000 ∧ p.a.length ≤ 53000000000 ∧ p.b.length ≤ 53000000000) := Lib.hid (by
        have h := HSm.out (C.take k) (by rw [List.length_take, hn.out]; omega)
        rwa [hX.out] at h)
      clear hc
      have hbs := hB.out.size
      obtain ⟨s1, r1, j1⟩ := vals_cut (n1 := w.heap.size) H1.out (Nat.le_refl _) c.p.o c.q.o o1 o2
      obtain ⟨s2, r2, j2⟩ := vals_cut (n1 := w.heap.size) H2.out (Nat.le_refl _) c.p.a c.q.a a1 a2
      obtain ⟨s3, r3, j3⟩ := vals_cut (n1 := w.heap.size) H3.out (Nat.le_refl _) c.p.b c.q.b b2 b3
      have Bw : Hid (Below w.heap.size w wo) := Lib.hid (B1.out.trans (hB.out.mono B1.out.size))
      have J1 : Hid (∀ U, Below wo.heap.size wo U → Calls Tryz.prog 56 #[s1] U fun e w' => e = .returned (.string (bs (joinT (L.slc o c.p.o c.q.o)))) ∧ w' = U) := Lib.hid (fun U hU => RefJoinS_any s1 _ U (j1 w.heap.size U (Bw.out.trans (hU.mono Bw.out.size))).vals (by have := M1.out c.p.o c.q.o; omega))
      have J2 : Hid (∀ U, Below wo.heap.size wo U → Calls Tryz.prog 56 #[s2] U fun e w' => e = .returned (.string (bs (joinT (L.slc a c.p.a c.q.a)))) ∧ w' = U) := Lib.hid (fun U hU => RefJoinS_any s2 _ U (j2 w.heap.size U (Bw.out.trans (hU.mono Bw.out.size))).vals (by have := M2.out c.p.a c.q.a; omega))
      have J3 : Hid (∀ U, Below wo.heap.size wo U → Calls Tryz.prog 56 #[s3] U fun e w' => e = .returned (.string (bs (joinT (L.slc b c.p.b c.q.b)))) ∧ w' = U) := Lib.hid (fun U hU => RefJoinS_any s3 _ U (j3 w.heap.size U (Bw.out.trans (hU.mono Bw.out.size))).vals (by have := M3.out c.p.b c.q.b; omega))
      have S1 := M1.out c.p.o c.q.o
      have S2 := M2.out c.p.a c.q.a
      have S3 := M3.out c.p.b c.q.b
      have hck : Hid (pCk o a b c = if c.kind = 4 then ⟨true, joinT (L.slc o c.p.o c.q.o), joinT (L.slc a c.p.a c.q.a), joinT (L.slc b c.p.b c.q.b)⟩ else ⟨false, joinT (L.slc o c.p.o c.q.o), joinT (if c.kind = 2 then L.slc b c.p.b c.q.b else L.slc a c.p.a c.q.a), joinT (if c.kind = 2 then L.slc b c.p.b c.q.b else L.slc a c.p.a c.q.a)⟩) := Lib.hid rfl
      obtain ⟨Jo, hJo⟩ : ∃ J, Hid (joinT (L.slc o c.p.o c.q.o) = J) := ⟨_, Lib.hid rfl⟩
      obtain ⟨Ja, hJa⟩ : ∃ J, Hid (joinT (L.slc a c.p.a c.q.a) = J) := ⟨_, Lib.hid rfl⟩
      obtain ⟨Jb, hJb⟩ : ∃ J, Hid (joinT (L.slc b c.p.b c.q.b) = J) := ⟨_, Lib.hid rfl⟩
      have hck2 : Hid (pCk o a b c = if c.kind = 4 then ⟨true, Jo, Ja, Jb⟩ else ⟨false, Jo, if c.kind = 2 then Jb else Ja, if c.kind = 2 then Jb else Ja⟩) := Lib.hid (by
        rw [hck.out, hJo.out, hJa.out, hJb.out]
        by_cases h2 : c.kind = 2
        · simp only [if_pos h2, hJb.out]
        · simp only [if_neg h2, hJa.out])
      rw [hJo.out] at J1 S1
      rw [hJa.out] at J2 S2
      rw [hJb.out] at J3 S3
      clear hck hJo hJa hJb j1 j2 j3 o1 o2 a1 a2 b2 b3
      obtain ⟨kd, hkd⟩ : ∃ kd, Hid (c.kind = kd) := ⟨_, Lib.hid rfl⟩
      rw [hkd.out] at e0 hck2 hadd
      obtain ⟨W2, hW2⟩ : ∃ W2, Hid ((wo.alloc (.cells #[.int .i64 kd, .int .i64 (c.p.o : Nat), .int .i64 (c.q.o : Nat), .int .i64 (c.p.a : Nat), .int .i64 (c.q.a : Nat), .int .i64 (c.p.b : Nat), .int .i64 (c.q.b : Nat)] 101)).alloc (.cells #[.bool (kd == 4), .string ⟨#[]⟩, .string ⟨#[]⟩, .string ⟨#[]⟩] 53) = W2) := ⟨_, Lib.hid rfl⟩
      have R10 : RowAt W2 wo.heap.size 101 #[.int .i64 kd, .int .i64 (c.p.o : Nat), .int .i64 (c.q.o : Nat), .int .i64 (c.p.a : Nat), .int .i64 (c.q.a : Nat), .int .i64 (c.p.b : Nat), .int .i64 (c.q.b : Nat)] := by rw [← hW2.out]; exact (RowAt.new wo 101 _).alloc _
      have R11 : RowAt W2 (wo.heap.size + 1) 53 #[.bool (kd == 4), .string ⟨#[]⟩, .string ⟨#[]⟩, .string ⟨#[]⟩] := by
        rw [← hW2.out]
        have h := RowAt.new (wo.alloc (.cells #[.int .i64 kd, .int .i64 (c.p.o : Nat), .int .i64 (c.q.o : Nat), .int .i64 (c.p.a : Nat), .int .i64 (c.q.a : Nat), .int .i64 (c.p.b : Nat), .int .i64 (c.q.b : Nat)] 101)) 53 #[.bool (kd == 4), .string ⟨#[]⟩, .string ⟨#[]⟩, .string ⟨#[]⟩]
        rwa [World.size_alloc] at h
      have BW2 : Hid (Below wo.heap.size wo W2) := Lib.hid (by rw [← hW2.out]; exact ((Below.refl _ wo).alloc (Nat.le_refl _) _).alloc (by simp) _)
      go_wp2_with fail
      rw [hW2.out]
      clear hW2 e0 e1 e2 e3 e4 e5 e6
      have hne : wo.heap.size ≠ wo.heap.size + 1 := by omega
      refine (J1.out W2 BW2.out).mono ?_
      rintro e w3 ⟨rfl, rfl⟩
      obtain ⟨W3, hW3⟩ : ∃ V, Hid (w3.setCell ⟨wo.heap.size + 1, 1, none⟩ (.string (bs Jo)) = V) := ⟨_, Lib.hid rfl⟩
      have R20 := R10.other hne 1 (.string (bs Jo))
      rw [hW3.out] at R20
      have R21 : RowAt W3 (wo.heap.size + 1) 53 #[.bool (kd == 4), .string (bs Jo), .string ⟨#[]⟩, .string ⟨#[]⟩] := by rw [← hW3.out]; exact R11.set 1 _
      have BW3 : Hid (Below wo.heap.size wo W3) := Lib.hid (by rw [← hW3.out]; exact BW2.out.setCell (p := ⟨wo.heap.size + 1, 1, none⟩) (by simp) _)
      obtain ⟨y0, y1, y2, y3, f0, f1, f2, f3⟩ := row4 R11
      obtain ⟨x0, x1, x2, x3, x4, x5, x6⟩ := row7 R20
      go_upto_region 9 with fail
      rw [hW3.out]
      clear hW3 y0 y1 y2 y3 f0 f1 f2 f3 R10 R11 BW2
      go_wp2_with fail
      refine (J2.out W3 BW3.out).mono ?_
      rintro e w4 ⟨rfl, rfl⟩
      obtain ⟨W4, hW4⟩ : ∃ V, Hid (w4.setCell ⟨wo.heap.size + 1, 2, none⟩ (.string (bs Ja)) = V) := ⟨_, Lib.hid rfl⟩
      have R30 := R20.other hne 2 (.string (bs Ja))
      rw [hW4.out] at R30
      have R31 : RowAt W4 (wo.heap.size + 1) 53 #[.bool (kd == 4), .string (bs Jo), .string (bs Ja), .string ⟨#[]⟩] := by rw [← hW4.out]; exact R21.set 2 _
      have BW4 : Hid (Below wo.heap.size wo W4) := Lib.hid (by rw [← hW4.out]; exact BW3.out.setCell (p := ⟨wo.heap.size + 1, 2, none⟩) (by simp) _)
      obtain ⟨y0, y1, y2, y3, f0, f1, f2, f3⟩ := row4 R21
      go_upto_region 10 with fail
      rw [hW4.out]
      clear hW4 y0 y1 y2 y3 f0 f1 f2 f3 R20 R21 BW3 x0 x1 x2 x3 x4 x5 x6
      obtain ⟨x0, x1, x2, x3, x4, x5, x6⟩ := row7 R30
      go_wp2_with fail
      refine (J3.out W4 BW4.out).mono ?_
      rintro e w5 ⟨rfl, rfl⟩
      obtain ⟨W5, hW5⟩ : ∃ V, Hid (w5.setCell ⟨wo.heap.size + 1, 3, none⟩ (.string (bs Jb)) = V) := ⟨_, Lib.hid rfl⟩
      have R40 := R30.other hne 3 (.string (bs Jb))
      rw [hW5.out] at R40
      have R41 : RowAt W5 (wo.heap.size + 1) 53 #[.bool (kd == 4), .string (bs Jo), .string (bs Ja), .string (bs Jb)] := by rw [← hW5.out]; exact R31.set 3 _
      have BW5 : Hid (Below wo.heap.size wo W5) := Lib.hid (by rw [← hW5.out]; exact BW4.out.setCell (p := ⟨wo.heap.size + 1, 3, none⟩) (by simp) _)
      obtain ⟨y0, y1, y2, y3, f0, f1, f2, f3⟩ := row4 R31
      go_upto_region 11 with fail
      rw [hW5.out]
      clear hW5 y0 y1 y2 y3 f0 f1 f2 f3 R30 R31 BW4 x0 x1 x2 x3 x4 x5 x6
      obtain ⟨x0, -, -, -, -, -, -⟩ := row7 R40
      obtain ⟨y0, y1, y2, y3, f0, f1, f2, f3⟩ := row4 R41
      obtain ⟨b2, hb2⟩ : ∃ b2, (kd == 2) = b2 := ⟨_, rfl⟩
      have HR41 := Lib.hid R41
      clear R41 R40
      obtain ⟨Jy, hJy⟩ : ∃ J, Hid ((if kd = 2 then Jb else Ja) = J) := ⟨_, Lib.hid rfl⟩
      have hck3 : Hid (pCk o a b c = if kd = 4 then ⟨true, Jo, Jy, Jb⟩ else ⟨false, Jo, Jy, Jy⟩) := Lib.hid (by
        rw [hck2.out, ← hJy.out]
        by_cases h4 : kd = 4
        · rw [if_pos h4, if_pos h4, if_neg (by omega)]
        · rw [if_neg h4, if_neg h4])
      have Sy : Jy.length ≤ 7000000 := by rw [← hJy.out]; split <;> omega
      go_upto_if 63 with fail
      go_cut [] from 64 to 66 (fun wx => Hid (Below wo.heap.size wo wx ∧ RowAt wx (wo.heap.size + 1) 53 #[.bool (kd == 4), .string (bs Jo), .string (bs Jy), .string (bs Jb)]))
      case first =>
        cases b2 with
        | true =>
          have h2 : kd = 2 := eq_of_beq hb2
          have Hf : Hid (Below wo.heap.size wo (W5.setCell ⟨wo.heap.size + 1, 2, none⟩ (.string (bs Jb))) ∧ RowAt (W5.setCell ⟨wo.heap.size + 1, 2, none⟩ (.string (bs Jb))) (wo.heap.size + 1) 53 #[.bool (kd == 4), .string (bs Jo), .string (bs Jy), .string (bs Jb)]) := Lib.hid ⟨BW5.out.setCell (p := ⟨wo.heap.size + 1, 2, none⟩) (by simp) _, by
            rw [← hJy.out, if_pos h2]
            exact HR41.out.set 2 _⟩
          clear h2
          go_wp2_with fail
          go_meet
          exact Hf
        | false =>
          have h2 : ¬ kd = 2 := fun h => by rw [h] at hb2; cases hb2
          have Hf : Hid (Below wo.heap.size wo W5 ∧ RowAt W5 (wo.heap.size + 1) 53 #[.bool (kd == 4), .string (bs Jo), .string (bs Jy), .string (bs Jb)]) := Lib.hid ⟨BW5.out, by
            rw [← hJy.out, if_neg h2]
            exact HR41.out⟩
          clear h2
          go_wp2_with fail
          go_meet
          exact Hf
      case rest =>
      clear x0 y0 y1 y2 y3 f0 f1 f2 f3 HR41 BW5 hb2
      obtain ⟨W6, rfl⟩ : ∃ V, V = wc := ⟨_, rfl⟩
      obtain ⟨BW6, R6⟩ := hcut.out
      have HBW6 := Lib.hid BW6
      clear hcut BW6
      obtain ⟨kb, hkb⟩ : ∃ kb, (kd == 4) = kb := ⟨_, rfl⟩
      rw [hkb] at R6
      obtain ⟨y0, y1, y2, y3, f0, f1, f2, f3⟩ := row4 R6
      cases kb with
      | true =>
        have h4 : kd = 4 := eq_of_beq hkb
        have HX2 : Hid (pSt ((stOf o a b (C.take k)).add o a b c) = X ++ [⟨true, Jo, Jy, Jb⟩]) := Lib.hid (by rw [hadd.out.1 h4, hck3.out, if_pos h4])
        clear h4
        have RX := R6
        clear R6
        obtain ⟨u0, u1, u2, u3, -, -, -, -⟩ := row4 RX
        have Own8 := Lib.hid ((own_below hO.out HBW6.out).alloc (.cells #[.bool true, .string (bs Jo), .string (bs Jy), .string (bs Jb)] 53))
        have hsz7 : w1.heap.size ≤ W6.heap.size := Nat.le_trans hbs HBW6.out.size
        clear RX
        go_wp2_with (at_builtin; refine wpList_append_own _ rfl _ _ 41 rfl w1.heap.size 53 i0 _ 4 56 Tryz.underlying41 hi0 hz0 hz1 hz2 rfl (by decide) _ np _ rfl Own8.out ⟨W6.heap.size, 0, none⟩ 1 1 [.bool true, .string (bs Jo), .string (bs Jy), .string (bs Jb)] rfl rfl (pt_new W6 _ _ _ _) (pt_one _ _ _ _) (by unfold maxLen; omega) (by omega) (by simp; omega) ?_; intro v' w8 hown' hgrow _)
        have hnew : Below w1.heap.size w1 w8 := ((hB.out.trans (HBW6.out.mono hbs)).alloc hsz7 _).grown hgrow (by simp; omega) (fun j e => (hO.out.lt j e).1)
        have HNew := Lib.hid hnew
        have Hf : Hid (w8.ownsRow w1.heap.size 53 4 v' (pSt (stOf o a b (C.take (k + 1)))).length (pv (pSt (stOf o a b (C.take (k + 1)))))) := Lib.hid (by
          rw [hnext.out, HX2.out, List.length_append, hnp.out, pv_snoc]
          exact hown')
        clear hown' hgrow hnew
        exact ⟨⟨k + 1, by go_num, by omega, Hf, HNew⟩, by simp [intOf]; omega⟩
      | false =>
        have h4 : ¬ kd = 4 := fun h => by rw [h] at hkb; cases hkb
        have hadd2 := Lib.hid (hadd.out.2 h4)
        have hck4 : Hid (pCk o a b c = ⟨false, Jo, Jy, Jy⟩) := Lib.hid (by rw [hck3.out, if_neg h4])
        clear h4
        obtain ⟨W7, hW7⟩ : ∃ V, Hid (W6.setCell ⟨wo.heap.size + 1, 3, none⟩ (.string (bs Jy)) = V) := ⟨_, Lib.hid rfl⟩
        have R7 : RowAt W7 (wo.heap.size + 1) 53 #[.bool false, .string (bs Jo), .string (bs Jy), .string (bs Jy)] := by rw [← hW7.out]; exact R6.set 3 _
        have BW7 : Hid (Below wo.heap.size wo W7) := Lib.hid (by rw [← hW7.out]; exact HBW6.out.setCell (p := ⟨wo.heap.size + 1, 3, none⟩) (by simp) _)
        go_upto_region 16 with fail
        rw [hW7.out]
        clear hW7 y0 y1 y2 y3 f0 f1 f2 f3 R6 HBW6
        rcases Nat.eq_zero_or_pos np with hz | hpos
        · have g0 : decide (0 < np) = false := decide_eq_false (by omega)
          have g1 : decide ((np : Int) > 0) = false := decide_eq_false (by omega)
          have HX2 : Hid (pSt ((stOf o a b (C.take k)).add o a b c) = X ++ [⟨false, Jo, Jy, Jy⟩]) := Lib.hid (by
            rw [hadd2.out.1 (fun p hp => by rw [List.eq_nil_of_length_eq_zero (hnp.out.trans hz)] at hp; cases hp), hck4.out])
          clear hz
          have RX := R7
          clear R7
          obtain ⟨u0, u1, u2, u3, -, -, -, -⟩ := row4 RX
          have Own8 := Lib.hid ((own_below hO.out BW7.out).alloc (.cells #[.bool false, .string (bs Jo), .string (bs Jy), .string (bs Jy)] 53))
          have hsz7 : w1.heap.size ≤ W7.heap.size := Nat.le_trans hbs BW7.out.size
          clear RX
          go_wp2_with (at_builtin; refine wpList_append_own _ rfl _ _ 41 rfl w1.heap.size 53 i0 _ 4 56 Tryz.underlying41 hi0 hz0 hz1 hz2 rfl (by decide) _ np _ rfl Own8.out ⟨W7.heap.size, 0, none⟩ 1 1 [.bool false, .string (bs Jo), .string (bs Jy), .string (bs Jy)] rfl rfl (pt_new W7 _ _ _ _) (pt_one _ _ _ _) (by unfold maxLen; omega) (by omega) (by simp; omega) ?_; intro v' w8 hown' hgrow _)
          have hnew : Below w1.heap.size w1 w8 := ((hB.out.trans (BW7.out.mono hbs)).alloc hsz7 _).grown hgrow (by simp; omega) (fun j e => (hO.out.lt j e).1)
          have HNew := Lib.hid hnew
          have Hf : Hid (w8.ownsRow w1.heap.size 53 4 v' (pSt (stOf o a b (C.take (k + 1)))).length (pv (pSt (stOf o a b (C.take (k + 1)))))) := Lib.hid (by
            rw [hnext.out, HX2.out, List.length_append, hnp.out, pv_snoc]
            exact hown')
          clear hown' hgrow hnew
          exact ⟨⟨k + 1, by go_num, by omega, Hf, HNew⟩, by simp [intOf]; omega⟩
        · obtain ⟨P, x, hPx⟩ : ∃ P x, X = P ++ [x] := by
            have hne : X ≠ [] := fun h => by rw [h] at hnp; have := hnp.out; simp at this; omega
            exact ⟨_, _, (List.dropLast_concat_getLast hne).symm⟩
          have hPn : P.length + 1 = np := by have h := hnp.out; rw [hPx, List.length_append] at h; simpa using h
          obtain ⟨m, hm⟩ : ∃ m, Hid (P.length = m) := ⟨_, Lib.hid rfl⟩
          rw [hm.out] at hPn
          subst hPn
          rw [hPx] at hO hsm
          obtain ⟨gr, cr, er, hgr1, hgr2, -, hcr, ⟨csr, hrr⟩, hcells⟩ := own_cells hO.out (by omega)
          cases er
          unfold maxLen at hcr
          obtain ⟨xc, xo, xa, xb⟩ := x
          have hat : ∀ j v, (rowP ⟨xc, xo, xa, xb⟩)[j]? = some v → wo.cell? ⟨gr, m * 4 + j, none⟩ = some v := fun j v hj => hcells _ _ (by
            rw [pv_snoc, List.getElem?_append_right (by rw [pv_len, hm.out]; omega), pv_len, hm.out, Nat.add_sub_cancel_left]
            exact hj)
          have t0 : W7.cell? ⟨gr, m * 4, none⟩ = some (.bool xc) := (BW7.out.cell (p := ⟨gr, m * 4, none⟩) hgr2).trans (hat 0 _ rfl)
          have t1 : W7.cell? ⟨gr, m * 4 + 1, none⟩ = some (.string (bs xo)) := (BW7.out.cell (p := ⟨gr, m * 4 + 1, none⟩) hgr2).trans (hat 1 _ rfl)
          have t2 : W7.cell? ⟨gr, m * 4 + 2, none⟩ = some (.string (bs xa)) := (BW7.out.cell (p := ⟨gr, m * 4 + 2, none⟩) hgr2).trans (hat 2 _ rfl)
          have t3 : W7.cell? ⟨gr, m * 4 + 3, none⟩ = some (.string (bs xb)) := (BW7.out.cell (p := ⟨gr, m * 4 + 3, none⟩) hgr2).trans (hat 3 _ rfl)
          have HRR : Hid (RowAt W7 gr 53 csr) := Lib.hid (hrr.later (BW7.out.mono (Nat.le_refl _)))
          have g0 : decide (0 < m + 1) = true := decide_eq_true (by omega)
          have g2 : IntKind.i64.wrap ((m : Int) + 1 - 1) = (m : Int) := by rw [Int.add_sub_cancel]; exact Go.IntWalk.i64_in _ (by omega)
          have g3 : (m : Int) < (m : Int) + 1 := by omega
          clear hat hcells hrr hpos
          cases xc with
          | true =>
            have HX2 : Hid (pSt ((stOf o a b (C.take k)).add o a b c) = X ++ [⟨false, Jo, Jy, Jy⟩]) := Lib.hid (by
              rw [hadd2.out.1 (fun p hp => by rw [hPx] at hp; simp at hp; rw [← hp]), hck4.out])
            clear t1 t2 t3 HRR
            have RX := R7
            clear R7
            obtain ⟨u0, u1, u2, u3, -, -, -, -⟩ := row4 RX
            have Own8 := Lib.hid ((own_below hO.out BW7.out).alloc (.cells #[.bool false, .string (bs Jo), .string (bs Jy), .string (bs Jy)] 53))
            have hsz7 : w1.heap.size ≤ W7.heap.size := Nat.le_trans hbs BW7.out.size
            clear RX
            go_wp2_with (at_builtin; refine wpList_append_own _ rfl _ _ 41 rfl w1.heap.size 53 i0 _ 4 56 Tryz.underlying41 hi0 hz0 hz1 hz2 rfl (by decide) _ (m + 1) _ rfl Own8.out ⟨W7.heap.size, 0, none⟩ 1 1 [.bool false, .string (bs Jo), .string (bs Jy), .string (bs Jy)] rfl rfl (pt_new W7 _ _ _ _) (pt_one _ _ _ _) (by unfold maxLen; omega) (by omega) (by simp; omega) ?_; intro v' w8 hown' hgrow _)
            have hnew : Below w1.heap.size w1 w8 := ((hB.out.trans (BW7.out.mono hbs)).alloc hsz7 _).grown hgrow (by simp; omega) (fun j e => (hO.out.lt j e).1)
            have HNew := Lib.hid hnew
            have Hf : Hid (w8.ownsRow w1.heap.size 53 4 v' (pSt (stOf o a b (C.take (k + 1)))).length (pv (pSt (stOf o a b (C.take (k + 1)))))) := Lib.hid (by
              rw [hnext.out, HX2.out, List.length_append, hnp.out, pv_snoc, hPx]
              exact hown')
            clear hown' hgrow hnew
            exact ⟨⟨k + 1, by go_num, by omega, Hf, HNew⟩, by simp [intOf]; omega⟩
          | false =>
            have HX2 : Hid (pSt ((stOf o a b (C.take k)).add o a b c) = P ++ [⟨false, xo ++ Jo, xa ++ Jy, xb ++ Jy⟩]) := Lib.hid (by
              rw [hadd2.out.2 P ⟨false, xo, xa, xb⟩ hPx rfl, hck4.out])
            obtain ⟨zo, za, zb⟩ := hsm.out ⟨false, xo, xa, xb⟩ (by simp)
            dsimp only at zo za zb
            have hneg : wo.heap.size + 1 ≠ gr := by omega
            have MA : Hid (Mg w1 gr (wo.heap.size + 1) m co P Jo Jy xo xa xb W7) := Lib.hid ⟨own_below hO.out BW7.out, R7, ⟨_, HRR.out⟩, hB.out.trans (BW7.out.mono hbs)⟩
            clear R7 HRR BW7 hadd hadd2 t1 t2 t3
            go_upto_region 17 with fail
            clear t0
            have q0 : (0 : Int) ≤ (m : Int) := by omega
            obtain ⟨u0, u1, u2, u3, -, -, -, -⟩ := row4 MA.out.row
            obtain ⟨t1, t2, t3, f1, f2, f3⟩ := MA.out.at hm.out
            have zt : ¬ ((9223372036854775807 : Int) < ((bs xo).size : Int) + ((bs Jo).size : Int)) := by rw [bs_size, bs_size]; omega
            have zv : ¬ ((9223372036854775807 : Int) < (xo.length : Int) + (Jo.length : Int)) := by omega
            obtain ⟨W8, hW8⟩ : ∃ V, Hid ((W7.setCell ⟨gr, m * 4 + 1, none⟩ (.string (bs xo ++ bs Jo))).drew = V) := ⟨_, Lib.hid rfl⟩
            have MB : Hid (Mg w1 gr (wo.heap.size + 1) m co P Jo Jy (xo ++ Jo) xa xb W8) := Lib.hid (by rw [← hW8.out]; exact (MA.out.set1 hm.out hgr1 hneg Jo).drew)
            go_region
            rw [hW8.out]
            clear u0 u1 u2 u3 t1 t2 t3 f1 f2 f3 zt zv hW8 MA
            go_wp2_with fail
            obtain ⟨u0, u1, u2, u3, -, -, -, -⟩ := row4 MB.out.row
            obtain ⟨t1, t2, t3, f1, f2, f3⟩ := MB.out.at hm.out
            have zt : ¬ ((9223372036854775807 : Int) < ((bs xa).size : Int) + ((bs Jy).size : Int)) := by rw [bs_size, bs_size]; omega
            have zv : ¬ ((9223372036854775807 : Int) < (xa.length : Int) + (Jy.length : Int)) := by omega
            obtain ⟨W9, hW9⟩ : ∃ V, Hid ((W8.setCell ⟨gr, m * 4 + 2, none⟩ (.string (bs xa ++ bs Jy))).drew = V) := ⟨_, Lib.hid rfl⟩
            have MC : Hid (Mg w1 gr (wo.heap.size + 1) m co P Jo Jy (xo ++ Jo) (xa ++ Jy) xb W9) := Lib.hid (by rw [← hW9.out]; exact (MB.out.set2 hm.out hgr1 hneg Jy).drew)
            go_region
            rw [hW9.out]
            clear u0 u1 u2 u3 t1 t2 t3 f1 f2 f3 zt zv hW9 MB
            go_wp2_with fail
            obtain ⟨u0, u1, u2, u3, -, -, -, -⟩ := row4 MC.out.row
            obtain ⟨t1, t2, t3, f1, f2, f3⟩ := MC.out.at hm.out
            have zt : ¬ ((9223372036854775807 : Int) < ((bs xb).size : Int) + ((bs Jy).size : Int)) := by rw [bs_size, bs_size]; omega
            have zv : ¬ ((9223372036854775807 : Int) < (xb.length : Int) + (Jy.length : Int)) := by omega
            obtain ⟨W10, hW10⟩ : ∃ V, Hid ((W9.setCell ⟨gr, m * 4 + 3, none⟩ (.string (bs xb ++ bs Jy))).drew = V) := ⟨_, Lib.hid rfl⟩
            have MD : Hid (Mg w1 gr (wo.heap.size + 1) m co P Jo Jy (xo ++ Jo) (xa ++ Jy) (xb ++ Jy) W10) := Lib.hid (by rw [← hW10.out]; exact (MC.out.set3 hm.out hgr1 hneg Jy).drew)
            go_region
            rw [hW10.out]
            clear u0 u1 u2 u3 t1 t2 t3 f1 f2 f3 zt zv hW10 MC
            have Hf : Hid (W10.ownsRow w1.heap.size 53 4 (.slice (some ⟨gr, 0, none⟩) (m + 1) co) (pSt (stOf o a b (C.take (k + 1)))).length (pv (pSt (stOf o a b (C.take (k + 1)))))) := Lib.hid (by
              rw [hnext.out, HX2.out, List.length_append, hm.out]
              exact MD.out.own)
            have Hb := Lib.hid MD.out.bel
            go_wp2_with fail
            exact ⟨⟨k + 1, by go_num, by omega, Hf, Hb⟩, by simp [intOf]; omega⟩
    · have q1 : decide (k < n) = false := decide_eq_false (by omega)
      have hO2 := hO.out
      rw [← hX.out, List.take_of_length_le (by rw [hn.out]; exact hlt)] at hO2
      have Hf : Hid (Prts wo (.slice ao np co) (pSt (stOf o a b C))) := Lib.hid (own_prts hO2)
      have Hb : Hid (Below w.heap.size w wo) := Lib.hid (B1.out.trans (hB.out.mono B1.out.size))
      clear hO2
      go_wp2_with fail
      go_ret
      exact ⟨_, rfl, Hf.out, Hb.out⟩

end Go.Proofs.YtbekbllffphfeaaGreatDoor
/-
  For the laws of weave: the document's own units of a text. Condition: at most 1,000,000 bytes.
-/
namespace Go.Proofs.YtbekbllffphfeaaGreatDoor
open Go.RowKit Go.Shelf
set_option linter.unusedSimpArgs false
set_option linter.unusedVariables false
end Go.Proofs.YtbekbllffphfeaaGreatDoor
