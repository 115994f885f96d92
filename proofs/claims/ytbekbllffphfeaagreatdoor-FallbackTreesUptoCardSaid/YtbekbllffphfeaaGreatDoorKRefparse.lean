/-
  For the laws of marker: the parts of a text, by the reference. Condition: at most 50,000 bytes.
-/
import Derived.Test.YtbekbllffphfeaaGreatDoorKWhich
import Derived.Test.YtbekbllffphfeaaGreatDoorKParse
namespace Go.Proofs.YtbekbllffphfeaaGreatDoor.K
open Go.RowKit Go.Shelf
set_option linter.unusedSimpArgs false

def rowA (p : Pt) : Array Value := #[.bool p.clash, .string (bs p.o), .string (bs p.a), .string (bs p.b)]
/-- The reference's clash stands at G, its parts above. -/
structure Rf (W : World) (G : Nat) (p : Pt) (out : List Pt) (v : Value) : Prop where
  row : RowAt W G 53 (rowA p)
  own : W.ownsRow (G + 1) 53 4 v out.length (pv out)
theorem rowA_cells {W : World} {g : Nat} {p : Pt} (h : RowAt W g 53 (rowA p)) : W.cell? ⟨g, 0, none⟩ = some (.bool p.clash) ∧ W.cell? ⟨g, 1, none⟩ = some (.string (bs p.o)) ∧ W.cell? ⟨g, 2, none⟩ = some (.string (bs p.a)) ∧ W.cell? ⟨g, 3, none⟩ = some (.string (bs p.b)) :=
  ⟨h.cell (j := 0) rfl, h.cell (j := 1) rfl, h.cell (j := 2) rfl, h.cell (j := 3) rfl⟩
theorem Rf.below {W W' : World} {G : Nat} {p : Pt} {out : List Pt} {v : Value} (h : Rf W G p out v) (hb : Below W.heap.size W W') : Rf W' G p out v :=
  ⟨h.row.later hb, own_below h.own hb⟩
theorem Rf.set {W : World} {G j : Nat} {p p' : Pt} {out : List Pt} {v u : Value} (h : Rf W G p out v) (hp : (rowA p).setIfInBounds j u = rowA p') : Rf (W.setCell ⟨G, j, none⟩ u) G p' out v :=
  ⟨by rw [← hp]; exact h.row.set j u, ownsRow_setCell_below h.own (a := ⟨G, j, none⟩) (Nat.lt_succ_self G) u⟩
theorem Rf.fresh {W : World} {G : Nat} {p : Pt} {out : List Pt} {v : Value} (h : Rf W G p out v) : Rf ((((W.setCell ⟨G, 0, none⟩ (.bool true)).setCell ⟨G, 1, none⟩ (.string ⟨#[]⟩)).setCell ⟨G, 2, none⟩ (.string ⟨#[]⟩)).setCell ⟨G, 3, none⟩ (.string ⟨#[]⟩)) G freshPt out v :=
  (((h.set (p' := ⟨true, p.o, p.a, p.b⟩) rfl).set (p' := ⟨true, [], p.a, p.b⟩) rfl).set (p' := ⟨true, [], [], p.b⟩) rfl).set (p' := freshPt) rfl
theorem below_fresh {W0 W : World} {B G : Nat} (h : Below B W0 W) (hB : B ≤ G) (a b c d : Value) : Below B W0 ((((W.setCell ⟨G, 0, none⟩ a).setCell ⟨G, 1, none⟩ b).setCell ⟨G, 2, none⟩ c).setCell ⟨G, 3, none⟩ d) :=
  (((h.setCell (p := ⟨G, 0, none⟩) hB a).setCell (p := ⟨G, 1, none⟩) hB b).setCell (p := ⟨G, 2, none⟩) hB c).setCell (p := ⟨G, 3, none⟩) hB d
theorem parseT_cap (s : ByteArray) (n : Int) (m : Nat) (h1 : 1 ≤ n) (hm : min n ((s.size : Int) + 1) = (m : Int)) : parseT (lnB s) n = parseL m (lnB s) := by
  unfold parseT
  rw [if_neg (by omega)]
  by_cases h : n ≤ (s.size : Int) + 1
  · rw [show n.toNat = m from by omega]
  · exact parseL_cap (by omega) (by omega) (fun l hl => by have := lnB_sizes hl; omega) (by omega)
theorem may_cases {sec x : Nat} (hs : sec < 4) (hx : x < 4) (h : mayB sec x = true) : (sec = 0 ∧ x = 1) ∨ (sec = 1 ∧ x = 2) ∨ (sec = 1 ∧ x = 3) ∨ (sec = 2 ∧ x = 3) ∨ (sec = 3 ∧ x = 0) := by
  have h1 : sec = 0 ∨ sec = 1 ∨ sec = 2 ∨ sec = 3 := by omega
  have h2 : x = 0 ∨ x = 1 ∨ x = 2 ∨ x = 3 := by omega
  rcases h1 with rfl | rfl | rfl | rfl <;> rcases h2 with rfl | rfl | rfl | rfl <;> first | exact absurd h (by decide) | decide
theorem may_not {sec x : Nat} (hs : sec < 4) (hx : x < 4) (h : mayB sec x = false) : (sec = 0 ∧ x = 0) ∨ (sec = 0 ∧ x = 2) ∨ (sec = 0 ∧ x = 3) ∨ (sec = 1 ∧ x = 0) ∨ (sec = 1 ∧ x = 1) ∨ (sec = 2 ∧ x = 0) ∨ (sec = 2 ∧ x = 1) ∨ (sec = 2 ∧ x = 2) ∨ (sec = 3 ∧ x = 1) ∨ (sec = 3 ∧ x = 2) ∨ (sec = 3 ∧ x = 3) := by
  have h1 : sec = 0 ∨ sec = 1 ∨ sec = 2 ∨ sec = 3 := by omega
  have h2 : x = 0 ∨ x = 1 ∨ x = 2 ∨ x = 3 := by omega
  rcases h1 with rfl | rfl | rfl | rfl <;> rcases h2 with rfl | rfl | rfl | rfl <;> first | exact absurd h (by decide) | decide
theorem Rf.one {W : World} {G : Nat} {q : St} {o : Value} (h : Rf W G q.p q.out o) (hq : q.sec = 1) (t : By) : Rf (W.setCell ⟨G, 2, none⟩ (.string (bs t))) G (endS q t).p (endS q t).out o := by
  have e : endS q t = { q with p := { q.p with a := t } } := by unfold endS; rw [if_neg (by omega), if_pos hq]
  rw [e]
  exact h.set rfl
theorem Rf.two {W : World} {G : Nat} {q : St} {o : Value} (h : Rf W G q.p q.out o) (hq : q.sec = 2) (t : By) : Rf (W.setCell ⟨G, 1, none⟩ (.string (bs t))) G (endS q t).p (endS q t).out o := by
  have e : endS q t = { q with p := { q.p with o := t } } := by unfold endS; rw [if_neg (by omega), if_neg (by omega), if_pos hq]
  rw [e]
  exact h.set rfl
theorem Rf.three {W w4 : World} {G : Nat} {q : St} {o v' : Value} {ob : Obj} (h : Rf W G q.p q.out o) (hq : q.sec = 3) (t : By)
    (hown : w4.ownsRow (G + 1) 53 4 v' (q.out.length + 1) (pv q.out ++ rowP ⟨q.p.clash, q.p.o, q.p.a, t⟩)) (hgrow : ((W.setCell ⟨G, 3, none⟩ (.string (bs t))).alloc ob).grownBy w4 o.ownBlock) : Rf w4 G (endS q t).p (endS q t).out v' := by
  have e : endS q t = { q with p := ⟨q.p.clash, q.p.o, q.p.a, t⟩, out := q.out ++ [⟨q.p.clash, q.p.o, q.p.a, t⟩] } := by unfold endS; rw [if_neg (by omega), if_neg (by omega), if_neg (by omega)]
  rw [e]
  have h2 : Rf (W.setCell ⟨G, 3, none⟩ (.string (bs t))) G ⟨q.p.clash, q.p.o, q.p.a, t⟩ q.out o := h.set rfl
  refine ⟨row_grown (h2.row.alloc ob) hgrow (hneq h2.own G (Nat.lt_succ_self G)), ?_⟩
  show w4.ownsRow (G + 1) 53 4 v' (q.out ++ [_]).length (pv (q.out ++ [_]))
  rw [pv_snoc, List.length_append]
  exact hown
theorem Rf.zero {W : World} {G : Nat} {q : St} {o : Value} (h : Rf W G q.p q.out o) (hq : q.sec = 0) : Rf ((((W.setCell ⟨G, 0, none⟩ (.bool true)).setCell ⟨G, 1, none⟩ (.string ⟨#[]⟩)).setCell ⟨G, 2, none⟩ (.string ⟨#[]⟩)).setCell ⟨G, 3, none⟩ (.string ⟨#[]⟩)) G (endS q []).p (endS q []).out o := by
  have e : endS q [] = { q with p := freshPt, out := q.out } := by unfold endS; rw [if_pos hq, if_pos rfl, List.append_nil]
  rw [e]
  exact h.fresh
theorem Rf.zero2 {W w4 : World} {G : Nat} {q : St} {o v' : Value} {ob : Obj} (h : Rf W G q.p q.out o) (hq : q.sec = 0) (t : By) (ht : t ≠ [])
    (hown : w4.ownsRow (G + 1) 53 4 v' (q.out.length + 1) (pv q.out ++ rowP ⟨false, t, t, t⟩)) (hgrow : (W.alloc ob).grownBy w4 o.ownBlock) :
    Rf ((((w4.setCell ⟨G, 0, none⟩ (.bool true)).setCell ⟨G, 1, none⟩ (.string ⟨#[]⟩)).setCell ⟨G, 2, none⟩ (.string ⟨#[]⟩)).setCell ⟨G, 3, none⟩ (.string ⟨#[]⟩)) G (endS q t).p (endS q t).out v' := by
  have e : endS q t = { q with p := freshPt, out := q.out ++ [⟨false, t, t, t⟩] } := by unfold endS; rw [if_pos hq, if_neg ht]
  rw [e]
  refine Rf.fresh (p := q.p) ⟨row_grown (h.row.alloc ob) hgrow (hneq h.own G (Nat.lt_succ_self G)), ?_⟩
  rw [pv_snoc, List.length_append]
  exact hown
set_option maxRecDepth 100000 in
set_option maxHeartbeats 16000000 in
theorem RefParse_any (s : ByteArray) (hs : s.size ≤ 50000000) (n : Int) (hn9 : n ≤ 100000) (w : World) : Calls Tryz.prog 29 #[.string s, .int .i64 n] w fun e w' => ParseIs (parseT (lnB s) n) e w' ∧ Below w.heap.size w w' := by
  by_cases hn1 : n < 1
  · have f1 : decide (n < 1) = true := decide_eq_true hn1
    have hno : Hid (parseT (lnB s) n = none) := Lib.hid (by unfold parseT; rw [if_pos hn1])
    go_enter Tryz.func29, Tryz.ntmps29
    go_wp2_with fail
    go_ret2
    exact ⟨ParseIs.bad hno.out rfl, Below.refl _ _⟩
  have f1 : decide (n < 1) = false := decide_eq_false hn1
  obtain ⟨m, hm⟩ : ∃ m : Nat, min n ((s.size : Int) + 1) = (m : Int) := ⟨(min n ((s.size : Int) + 1)).toNat, by omega⟩
  have hm1 : 1 ≤ m := by omega
  have hm2 : m ≤ 100000 := by omega
  have hpt := Lib.hid (parseT_cap s n m (by omega) hm)
  rw [hpt.out]
  obtain ⟨R, hR⟩ : ∃ R, Hid (parseL m (lnB s) = R) := ⟨_, Lib.hid rfl⟩
  rw [hR.out]
  clear hn1 hpt
  obtain ⟨i0, hi0, hz0, hz1, hz2⟩ := info_parts infoPt
  have hlen : (lns s).length ≤ 50000000 := Nat.le_trans (lns_len s) hs
  go_enter Tryz.func29, Tryz.ntmps29
  go_wp2_with fail
  refine (RefSplit_any s (by omega) _).mono ?_
  rintro e w1 ⟨v, rfl, hv, b1⟩
  obtain ⟨a, cap, rfl, hc, hat⟩ := strs_of_strz hv
  have Hat := Lib.hid hat
  have HB1 := Lib.hid b1
  have hs1 := b1.size
  obtain ⟨W2, hW2⟩ : ∃ W2, Hid (w1.alloc (.cells #[.bool false, .string ⟨#[]⟩, .string ⟨#[]⟩, .string ⟨#[]⟩] 53) = W2) := ⟨_, Lib.hid rfl⟩
  have B2 : Hid (Below w1.heap.size w1 W2) := by rw [← hW2.out]; exact Lib.hid ((Below.refl _ w1).alloc (Nat.le_refl _) _)
  have R2 : Hid (Rf W2 w1.heap.size noPt [] (.slice none 0 0)) := by
    rw [← hW2.out]; exact Lib.hid ⟨RowAt.new w1 53 _, World.ownsRow_nil _ _ _ _⟩
  have hs2 : w1.heap.size + 1 ≤ W2.heap.size := by rw [← hW2.out]; simp
  clear hv hat b1 hm
  go_wp2_with fail
  rw [hW2.out]
  go_loopw [6, 8, 9, 11] (fun o p u c wr => ∃ (k : Nat) (q : St) (fr : Nat), c = .int .i64 k ∧ k ≤ (lns s).length ∧ p = .string (bs q.now) ∧ u = .int .i64 (q.sec : Nat) ∧ Hid (PInv s m k fr q) ∧ Hid (Rf wr w1.heap.size q.p q.out o) ∧ Hid (Below w1.heap.size w1 wr) ∧ w1.heap.size + 1 ≤ wr.heap.size) (fun _ _ _ c _ => (lns s).length + 1 - (intOf c).toNat)
  case atStart => exact ⟨0, st0, 0, rfl, by omega, rfl, rfl, Lib.hid (PInv.start s m), R2, B2, hs2⟩
  case round =>
    obtain ⟨k, q, fr, rfl, hk, rfl, rfl, hI, hD, hB, hsz⟩ := hrel
    have hql := hI.out.len
    obtain ⟨sec, hsec⟩ : ∃ sec, Hid (q.sec = sec) := ⟨_, Lib.hid rfl⟩
    have hs4 : sec < 4 := by rw [← hsec.out]; exact hql.2
    have hol := hql.1
    obtain ⟨Y, hY⟩ : ∃ Y, Hid (q.now = Y) := ⟨_, Lib.hid rfl⟩
    have hYl : Y.length ≤ 50000000 := by
      rw [← hY.out, hI.out.2.2, List.length_drop]; have := tx_le s k; omega
    rw [hsec.out, hY.out]
    have hkl : decide ((k : Int) ≤ ((lns s).length : Int)) = true := decide_eq_true (by omega)
    have HB := Lib.hid (HB1.out.trans (hB.out.mono hs1))
    by_cases hlt : k < (lns s).length
    · have hkl2 : decide ((k : Int) < ((lns s).length : Int)) = true := decide_eq_true (by omega)
      have hkne : ((k : Int) == ((lns s).length : Int)) = false := by rw [beq_eq_false_iff_ne]; omega
      obtain ⟨l, hl⟩ : ∃ l, (lns s)[k]? = some l := ⟨_, List.getElem?_eq_getElem hlt⟩
      obtain ⟨b, off, rfl, hbl, hl0⟩ := Hat.out k l hl
      have c0 : wr.cell? ⟨b, off + k, none⟩ = some (.string l) := (hB.out.cell (p := ⟨b, off + k, none⟩) hbl).trans hl0
      have hls := lns_sizes s l (List.mem_of_getElem? hl)
      have hlB := Lib.hid (lnB_get hl)
      clear hl0 hl hql
      go_wp2_with fail
      refine (which_any l m hm1 (by omega) _).mono ?_
      cases hmk : markOf m (tl l) with
      | none =>
        rw [show whichV none = Value.tuple #[.int .i64 0, .bool false] from rfl]
        rintro e w2 ⟨rfl, b2⟩
        have D2 := Lib.hid (hD.out.below b2)
        have HB2 := Lib.hid (hB.out.trans (b2.mono hB.out.size))
        have hsz2 : w1.heap.size + 1 ≤ w2.heap.size := by have := b2.size; omega
        have I2 := Lib.hid (hI.out.plain hlB.out hmk)
        have c2 : w2.cell? ⟨b, off + k, none⟩ = some (.string l) := (b2.cell (p := ⟨b, off + k, none⟩) (by show b < wr.heap.size; omega)).trans c0
        have hsum : Hid (bs Y ++ l = bs (q.now ++ tl l)) := Lib.hid (by rw [hY.out, app_bs])
        clear hmk b2 c0
        go_wp2_with fail
        exact ⟨⟨k + 1, _, fr, by go_num, by omega, congrArg Value.string hsum.out, by rw [← hsec.out], I2, D2, HB2, hsz2⟩, by simp [intOf]; omega⟩
      | some xc =>
        obtain ⟨x, ct⟩ := xc
        rw [show whichV (some (x, ct)) = Value.tuple #[.int .i64 (refK x), .bool ct] from rfl]
        rintro e w2 ⟨rfl, b2⟩
        have hx4 : x < 4 := markOf_lt hmk
        have Hmk := Lib.hid hmk
        have D2 := Lib.hid (hD.out.below b2)
        have HB2 := Lib.hid (hB.out.trans (b2.mono hB.out.size))
        have HW2 := Lib.hid (HB1.out.trans (HB2.out.mono hs1))
        have hsz2 : w1.heap.size + 1 ≤ w2.heap.size := by have := b2.size; omega
        clear hmk b2 c0
        have hsz3 := hsz2
        obtain ⟨rw2, ow2⟩ := D2.out
        obtain ⟨d0, d1, d2, d3⟩ := rowA_cells rw2
        have e0 := rw2.frozen 0
        have e1 := rw2.frozen 1
        have e2 := rw2.frozen 2
        have e3 := rw2.frozen 3
        have RW2 := Lib.hid rw2
        have OW2 := Lib.hid ow2
        clear rw2 ow2
        have hbad : badB q x ct = ((ct && !decide (Y.getLast? = some 10)) || ((ct && x == 1) || !mayB sec x)) := by unfold badB; rw [hY.out, hsec.out]
        cases hbb : badB q x ct with
        | true =>
          have hbd : Hid (R = none) := Lib.hid (by rw [← hR.out]; exact hI.out.bad hlB.out Hmk.out hbb)
          rw [hbb] at hbad
          cases ct with
          | false =>
            have hm : mayB sec x = false := by simpa using hbad
            have h11 := may_not hs4 hx4 hm
            clear hbad hbb hm d0 d1 d2 d3 e0 e1 e2 e3
            rcases h11 with ⟨rfl, rfl⟩ | ⟨rfl, rfl⟩ | ⟨rfl, rfl⟩ | ⟨rfl, rfl⟩ | ⟨rfl, rfl⟩ | ⟨rfl, rfl⟩ | ⟨rfl, rfl⟩ | ⟨rfl, rfl⟩ | ⟨rfl, rfl⟩ | ⟨rfl, rfl⟩ | ⟨rfl, rfl⟩
            all_goals
              first | rw [show refK 0 = 4 from rfl] | rw [show refK 1 = 1 from rfl] | rw [show refK 2 = 2 from rfl] | rw [show refK 3 = 3 from rfl]
              go_wp2_with fail
              go_ret2
              exact ⟨ParseIs.bad hbd.out rfl, HW2.out⟩
          | true =>
            by_cases hy : Y.getLast? = some 10
            · by_cases h0 : sec = 0
              · clear hbad hbb d0 d1 d2 d3 e0 e1 e2 e3
                subst h0
                have hK0 : (refK x == 0) = false := by unfold refK; rw [beq_eq_false_iff_ne]; split <;> omega
                obtain ⟨K, hK⟩ : ∃ K, Hid (refK x = K) := ⟨_, Lib.hid rfl⟩
                rw [hK.out] at hK0
                rw [hK.out]
                go_wp2_with fail
                refine (trimmed_yes (bs Y) (by rw [bs_size]; omega) (by rw [tl_bs]; exact hy) _).mono ?_
                rintro e w3 ⟨rfl, rfl⟩
                go_wp2_with fail
                go_ret2
                exact ⟨ParseIs.bad hbd.out rfl, HW2.out⟩
              · have hm : mayB sec x = false := by
                  cases hmb : mayB sec x with
                  | false => rfl
                  | true =>
                    rw [hmb] at hbad
                    have hx1 : x = 1 := by simpa [hy] using hbad
                    subst hx1
                    rcases may_cases hs4 hx4 hmb with h | h | h | h | h <;> omega
                have h11 := may_not hs4 hx4 hm
                clear hbad hbb hm d0 d1 d2 d3 e0 e1 e2 e3
                rcases h11 with ⟨rfl, rfl⟩ | ⟨rfl, rfl⟩ | ⟨rfl, rfl⟩ | ⟨rfl, rfl⟩ | ⟨rfl, rfl⟩ | ⟨rfl, rfl⟩ | ⟨rfl, rfl⟩ | ⟨rfl, rfl⟩ | ⟨rfl, rfl⟩ | ⟨rfl, rfl⟩ | ⟨rfl, rfl⟩
                all_goals
                  first
                    | exact absurd rfl h0
                    | ((first | rw [show refK 0 = 4 from rfl] | rw [show refK 1 = 1 from rfl] | rw [show refK 2 = 2 from rfl] | rw [show refK 3 = 3 from rfl])
                       clear h0
                       go_wp2_with fail
                       refine (trimmed_yes (bs Y) (by rw [bs_size]; omega) (by rw [tl_bs]; exact hy) _).mono ?_
                       rintro e w3 ⟨rfl, rfl⟩
                       go_wp2_with fail
                       go_ret2
                       exact ⟨ParseIs.bad hbd.out rfl, HW2.out⟩)
            · clear hbad hbb d0 d1 d2 d3 e0 e1 e2 e3
              have hK0 : (refK x == 0) = false := by unfold refK; rw [beq_eq_false_iff_ne]; split <;> omega
              obtain ⟨K, hK⟩ : ∃ K, Hid (refK x = K) := ⟨_, Lib.hid rfl⟩
              rw [hK.out] at hK0
              rw [hK.out]
              go_wp2_with fail
              refine (trimmed_no (bs Y) (by rw [bs_size]; omega) (by rw [tl_bs]; exact hy) _).mono ?_
              rintro e w3 ⟨rfl, rfl⟩
              go_wp2_with fail
              go_ret2
              exact ⟨ParseIs.bad hbd.out rfl, HW2.out⟩
        | false =>
          rw [hbb] at hbad
          have Hbb := Lib.hid hbb
          cases ct with
          | false =>
            have hm : mayB sec x = true := by simpa using hbad
            have h5 := may_cases hs4 hx4 hm
            clear hbad hbb hm
            have hZ : Hid (cutT q.now false = Y) := Lib.hid (by rw [hY.out]; rfl)
            rcases h5 with ⟨rfl, rfl⟩ | ⟨rfl, rfl⟩ | ⟨rfl, rfl⟩ | ⟨rfl, rfl⟩ | ⟨rfl, rfl⟩
            · rw [show refK 1 = 1 from rfl]
              by_cases hye : Y = []
              · have v1 : Y.isEmpty = true := by simpa using hye
                have HYE := Lib.hid hye
                clear hye
                go_wp2_with fail
                exact ⟨⟨k + 1, { endS q (cutT q.now false) with sec := 1, now := [] }, (tx s (k + 1)).length, by go_num, by omega, rfl, rfl, Lib.hid (hI.out.mark hlB.out Hmk.out Hbb.out), Lib.hid (by rw [hZ.out]; exact by rw [HYE.out]; exact D2.out.zero hsec.out), Lib.hid (below_fresh HB2.out (Nat.le_refl _) _ _ _ _), by simpa using hsz2⟩, by simp [intOf]; omega⟩
              · have v1 : Y.isEmpty = false := by simpa using hye
                have HYE := Lib.hid hye
                clear hye d0 d1 d2 d3 e0 e1 e2 e3
                go_wp2_with (at_builtin; refine wpList_append_own _ rfl _ _ 41 rfl (w1.heap.size + 1) 53 i0 _ 4 56 Tryz.underlying41 hi0 hz0 hz1 hz2 rfl (by decide) _ q.out.length _ rfl (OW2.out.alloc _) ⟨w2.heap.size, 0, none⟩ 1 1 (rowP ⟨false, Y, Y, Y⟩) rfl rfl (pt_new w2 ⟨false, Y, Y, Y⟩ _) (pt_one _) (by unfold maxLen; omega) (by omega) (by simp; omega) ?_; intro v' w4 hown' hgrow _; have r4 := row_grown (RW2.out.alloc _) hgrow (hneq OW2.out w1.heap.size (Nat.lt_succ_self _)); obtain ⟨d0, d1, d2, d3⟩ := rowA_cells r4; have e0 := r4.frozen 0; have e1 := r4.frozen 1; have e2 := r4.frozen 2; have e3 := r4.frozen 3; obtain ⟨ao, n', cap', rfl⟩ := own_slice hown'; have O4 := Lib.hid hown'; have G4 := Lib.hid hgrow; clear r4 hown' hgrow)
                have HB4 : Below w1.heap.size w1 w4 := (HB2.out.alloc (by omega) _).grown G4.out (by simp; omega) (fun j hj => Nat.le_of_succ_le (OW2.out.lt j hj).1)
                have hs4' : w1.heap.size + 1 ≤ w4.heap.size := by have := G4.out.size; simp at this; omega
                exact ⟨⟨k + 1, { endS q (cutT q.now false) with sec := 1, now := [] }, (tx s (k + 1)).length, by go_num, by omega, rfl, rfl, Lib.hid (hI.out.mark hlB.out Hmk.out Hbb.out), Lib.hid (by rw [hZ.out]; exact D2.out.zero2 hsec.out Y HYE.out O4.out G4.out), Lib.hid (below_fresh HB4 (Nat.le_refl _) _ _ _ _), by simpa using hs4'⟩, by simp [intOf]; omega⟩
            · rw [show refK 2 = 2 from rfl]
              go_wp2_with fail
              exact ⟨⟨k + 1, { endS q (cutT q.now false) with sec := 2, now := [] }, (tx s (k + 1)).length, by go_num, by omega, rfl, rfl, Lib.hid (hI.out.mark hlB.out Hmk.out Hbb.out), Lib.hid (by rw [hZ.out]; exact D2.out.one hsec.out Y), Lib.hid (HB2.out.setCell (p := ⟨w1.heap.size, 2, none⟩) (Nat.le_refl _) _), by simpa using hsz2⟩, by simp [intOf]; omega⟩
            · rw [show refK 3 = 3 from rfl]
              go_wp2_with fail
              exact ⟨⟨k + 1, { endS q (cutT q.now false) with sec := 3, now := [] }, (tx s (k + 1)).length, by go_num, by omega, rfl, rfl, Lib.hid (hI.out.mark hlB.out Hmk.out Hbb.out), Lib.hid (by rw [hZ.out]; exact D2.out.one hsec.out Y), Lib.hid (HB2.out.setCell (p := ⟨w1.heap.size, 2, none⟩) (Nat.le_refl _) _), by simpa using hsz2⟩, by simp [intOf]; omega⟩
            · rw [show refK 3 = 3 from rfl]
              go_wp2_with fail
              exact ⟨⟨k + 1, { endS q (cutT q.now false) with sec := 3, now := [] }, (tx s (k + 1)).length, by go_num, by omega, rfl, rfl, Lib.hid (hI.out.mark hlB.out Hmk.out Hbb.out), Lib.hid (by rw [hZ.out]; exact D2.out.two hsec.out Y), Lib.hid (HB2.out.setCell (p := ⟨w1.heap.size, 1, none⟩) (Nat.le_refl _) _), by simpa using hsz2⟩, by simp [intOf]; omega⟩
            · rw [show refK 0 = 4 from rfl]
              go_wp2_with (at_builtin; refine wpList_append_own _ rfl _ _ 41 rfl (w1.heap.size + 1) 53 i0 _ 4 56 Tryz.underlying41 hi0 hz0 hz1 hz2 rfl (by decide) _ q.out.length _ rfl ((ownsRow_setCell_below OW2.out (a := ⟨w1.heap.size, 3, none⟩) (Nat.lt_succ_self _) _).alloc _) ⟨w2.heap.size, 0, none⟩ 1 1 (rowP ⟨q.p.clash, q.p.o, q.p.a, Y⟩) rfl rfl (by intro j u hj; have := pt_new (w2.setCell ⟨w1.heap.size, 3, none⟩ (.string (bs Y))) ⟨q.p.clash, q.p.o, q.p.a, Y⟩ 53 j u hj; simpa using this) (pt_one _) (by unfold maxLen; omega) (by omega) (by simp; omega) ?_; intro v' w4 hown' hgrow _; obtain ⟨ao, n', cap', rfl⟩ := own_slice hown'; have O4 := Lib.hid hown'; have G4 := Lib.hid hgrow; clear hown' hgrow)
              have HB4 : Below w1.heap.size w1 w4 := ((HB2.out.setCell (p := ⟨w1.heap.size, 3, none⟩) (Nat.le_refl _) _).alloc (by simp; omega) _).grown G4.out (by simp; omega) (fun j hj => Nat.le_of_succ_le (OW2.out.lt j hj).1)
              have hs4' : w1.heap.size + 1 ≤ w4.heap.size := by have := G4.out.size; simp at this; omega
              exact ⟨⟨k + 1, { endS q (cutT q.now false) with sec := 0, now := [] }, (tx s (k + 1)).length, by go_num, by omega, rfl, rfl, Lib.hid (hI.out.mark hlB.out Hmk.out Hbb.out), Lib.hid (by rw [hZ.out]; exact D2.out.three hsec.out Y O4.out G4.out), Lib.hid (HB4), by exact hs4'⟩, by simp [intOf]; omega⟩
          | true =>
            have hy : Y.getLast? = some 10 := by
              by_cases hy : Y.getLast? = some 10
              · exact hy
              · simp [hy] at hbad
            have hm : mayB sec x = true := by
              cases hmb : mayB sec x with
              | true => rfl
              | false => rw [hmb] at hbad; simp at hbad
            have hx1 : x ≠ 1 := fun e => by rw [e] at hbad; simp at hbad
            have h5 := may_cases hs4 hx4 hm
            obtain ⟨Z, hZ⟩ : ∃ Z, Hid (cutT q.now true = Z) := ⟨_, Lib.hid rfl⟩
            have hZb : Hid (Y.dropLast = Z) := Lib.hid (by rw [← hZ.out, hY.out]; rfl)
            clear hbad hbb hm
            rcases h5 with ⟨rfl, rfl⟩ | ⟨rfl, rfl⟩ | ⟨rfl, rfl⟩ | ⟨rfl, rfl⟩ | ⟨rfl, rfl⟩
            · exact absurd rfl hx1
            · clear hx1
              rw [show refK 2 = 2 from rfl]
              go_wp2_with fail
              refine (trimmed_yes (bs Y) (by rw [bs_size]; omega) (by rw [tl_bs]; exact hy) _).mono ?_
              rw [tl_bs, hZb.out]
              rintro e w3 ⟨rfl, rfl⟩
              go_wp2_with fail
              exact ⟨⟨k + 1, { endS q (cutT q.now true) with sec := 2, now := [] }, (tx s (k + 1)).length, by go_num, by omega, rfl, rfl, Lib.hid (hI.out.mark hlB.out Hmk.out Hbb.out), Lib.hid (by rw [hZ.out]; exact D2.out.one hsec.out Z), Lib.hid (HB2.out.setCell (p := ⟨w1.heap.size, 2, none⟩) (Nat.le_refl _) _), by simpa using hsz2⟩, by simp [intOf]; omega⟩
            · clear hx1
              rw [show refK 3 = 3 from rfl]
              go_wp2_with fail
              refine (trimmed_yes (bs Y) (by rw [bs_size]; omega) (by rw [tl_bs]; exact hy) _).mono ?_
              rw [tl_bs, hZb.out]
              rintro e w3 ⟨rfl, rfl⟩
              go_wp2_with fail
              exact ⟨⟨k + 1, { endS q (cutT q.now true) with sec := 3, now := [] }, (tx s (k + 1)).length, by go_num, by omega, rfl, rfl, Lib.hid (hI.out.mark hlB.out Hmk.out Hbb.out), Lib.hid (by rw [hZ.out]; exact D2.out.one hsec.out Z), Lib.hid (HB2.out.setCell (p := ⟨w1.heap.size, 2, none⟩) (Nat.le_refl _) _), by simpa using hsz2⟩, by simp [intOf]; omega⟩
            · clear hx1
              rw [show refK 3 = 3 from rfl]
              go_wp2_with fail
              refine (trimmed_yes (bs Y) (by rw [bs_size]; omega) (by rw [tl_bs]; exact hy) _).mono ?_
              rw [tl_bs, hZb.out]
              rintro e w3 ⟨rfl, rfl⟩
              go_wp2_with fail
              exact ⟨⟨k + 1, { endS q (cutT q.now true) with sec := 3, now := [] }, (tx s (k + 1)).length, by go_num, by omega, rfl, rfl, Lib.hid (hI.out.mark hlB.out Hmk.out Hbb.out), Lib.hid (by rw [hZ.out]; exact D2.out.two hsec.out Z), Lib.hid (HB2.out.setCell (p := ⟨w1.heap.size, 1, none⟩) (Nat.le_refl _) _), by simpa using hsz2⟩, by simp [intOf]; omega⟩
            · clear hx1
              rw [show refK 0 = 4 from rfl]
              go_wp2_with fail
              refine (trimmed_yes (bs Y) (by rw [bs_size]; omega) (by rw [tl_bs]; exact hy) _).mono ?_
              rw [tl_bs, hZb.out]
              rintro e w3 ⟨rfl, rfl⟩
              go_wp2_with (at_builtin; refine wpList_append_own _ rfl _ _ 41 rfl (w1.heap.size + 1) 53 i0 _ 4 56 Tryz.underlying41 hi0 hz0 hz1 hz2 rfl (by decide) _ q.out.length _ rfl ((ownsRow_setCell_below OW2.out (a := ⟨w1.heap.size, 3, none⟩) (Nat.lt_succ_self _) _).alloc _) ⟨w3.heap.size, 0, none⟩ 1 1 (rowP ⟨q.p.clash, q.p.o, q.p.a, Z⟩) rfl rfl (by intro j u hj; have := pt_new (w3.setCell ⟨w1.heap.size, 3, none⟩ (.string (bs Z))) ⟨q.p.clash, q.p.o, q.p.a, Z⟩ 53 j u hj; simpa using this) (pt_one _) (by unfold maxLen; omega) (by omega) (by simp; omega) ?_; intro v' w4 hown' hgrow _; obtain ⟨ao, n', cap', rfl⟩ := own_slice hown'; have O4 := Lib.hid hown'; have G4 := Lib.hid hgrow; clear hown' hgrow)
              have HB4 : Below w1.heap.size w1 w4 := ((HB2.out.setCell (p := ⟨w1.heap.size, 3, none⟩) (Nat.le_refl _) _).alloc (by simp; omega) _).grown G4.out (by simp; omega) (fun j hj => Nat.le_of_succ_le (OW2.out.lt j hj).1)
              have hs4' : w1.heap.size + 1 ≤ w4.heap.size := by have := G4.out.size; simp at this; omega
              exact ⟨⟨k + 1, { endS q (cutT q.now true) with sec := 0, now := [] }, (tx s (k + 1)).length, by go_num, by omega, rfl, rfl, Lib.hid (hI.out.mark hlB.out Hmk.out Hbb.out), Lib.hid (by rw [hZ.out]; exact D2.out.three hsec.out Z O4.out G4.out), Lib.hid (HB4), by exact hs4'⟩, by simp [intOf]; omega⟩
    · obtain rfl : k = (lns s).length := by omega
      have hfin := hI.out.fin
      rw [hR.out] at hfin
      obtain ⟨rw2, ow2⟩ := hD.out
      obtain ⟨d0, d1, d2, d3⟩ := rowA_cells rw2
      have e0 := rw2.frozen 0
      have e1 := rw2.frozen 1
      have e2 := rw2.frozen 2
      have e3 := rw2.frozen 3
      have RW2 := Lib.hid rw2
      have OW2 := Lib.hid ow2
      clear rw2 ow2 hlt hkl hk hql
      have h4 : sec = 0 ∨ sec = 1 ∨ sec = 2 ∨ sec = 3 := by omega
      rcases h4 with rfl | rfl | rfl | rfl
      · have hR2 : Hid (R = some (endS q Y).out) := Lib.hid (by rw [hfin]; unfold finS; rw [if_pos hsec.out, hY.out])
        by_cases hye : Y = []
        · have v1 : Y.isEmpty = true := by simpa using hye
          have HYE := Lib.hid hye
          clear hye hfin
          go_wp2_with fail
          go_ret2
          have hf := hD.out.zero hsec.out
          rw [HYE.out] at hR2
          exact ⟨ParseIs.good hR2.out rfl (own_prts hf.own), HB1.out.trans ((below_fresh hB.out (Nat.le_refl _) _ _ _ _).mono hs1)⟩
        · have v1 : Y.isEmpty = false := by simpa using hye
          have HYE := Lib.hid hye
          clear hye hfin d0 d1 d2 d3 e0 e1 e2 e3
          go_wp2_with (at_builtin; refine wpList_append_own _ rfl _ _ 41 rfl (w1.heap.size + 1) 53 i0 _ 4 56 Tryz.underlying41 hi0 hz0 hz1 hz2 rfl (by decide) _ q.out.length _ rfl (OW2.out.alloc _) ⟨wr.heap.size, 0, none⟩ 1 1 (rowP ⟨false, Y, Y, Y⟩) rfl rfl (pt_new wr ⟨false, Y, Y, Y⟩ _) (pt_one _) (by unfold maxLen; omega) (by omega) (by simp; omega) ?_; intro v' w4 hown' hgrow _; have r4 := row_grown (RW2.out.alloc _) hgrow (hneq OW2.out w1.heap.size (Nat.lt_succ_self _)); obtain ⟨d0, d1, d2, d3⟩ := rowA_cells r4; have e0 := r4.frozen 0; have e1 := r4.frozen 1; have e2 := r4.frozen 2; have e3 := r4.frozen 3; obtain ⟨ao, n', cap', rfl⟩ := own_slice hown'; have O4 := Lib.hid hown'; have G4 := Lib.hid hgrow; clear r4 hown' hgrow)
          go_ret2
          have HB4 : Below w1.heap.size w1 w4 := (hB.out.alloc (by omega) _).grown G4.out (by simp; omega) (fun j hj => Nat.le_of_succ_le (OW2.out.lt j hj).1)
          have hf := hD.out.zero2 hsec.out Y HYE.out O4.out G4.out
          exact ⟨ParseIs.good hR2.out rfl (own_prts hf.own), HB1.out.trans ((below_fresh HB4 (Nat.le_refl _) _ _ _ _).mono hs1)⟩
      all_goals
        have hR2 : Hid (R = none) := Lib.hid (by rw [hfin]; unfold finS; rw [if_neg (by rw [hsec.out]; omega)])
        clear hfin d0 d1 d2 d3 e0 e1 e2 e3
        go_wp2_with fail
        go_ret2
        exact ⟨ParseIs.bad hR2.out rfl, HB.out⟩
end Go.Proofs.YtbekbllffphfeaaGreatDoor.K
