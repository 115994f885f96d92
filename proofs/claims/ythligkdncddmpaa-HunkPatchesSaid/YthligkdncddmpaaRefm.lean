/-
  For the laws of lcs: the document's Match, Length and Percent. Condition: at most 1,000,000 numbers each.
-/
import Derived.Test.YthligkdncddmpaaTable
namespace Go.Proofs.Ythligkdncddmpaa
open Go.RowKit

/-- The row that the document's Match fills: n numbers f j, at the head of a block of the call's own, which has room for c. -/
def OutW (W : World) (base : Nat) (ao : Option Addr) (n c : Nat) (f : Nat → Int) : Prop :=
  n ≤ c ∧ c ≤ maxLen ∧ (n = 0 ∨ ∃ O : Nat, ao = some ⟨O, 0, none⟩ ∧ base ≤ O ∧ ∃ cur : Array Value, RowAt W O 3 cur ∧ ∀ j, j < n → cur[j]? = some (.int .i64 (f j)))
theorem OutW.of_own {W : World} {base n : Nat} {v : Value} {x : Int} (h : W.ownsRow base 3 1 v n ((List.replicate n x).map (Value.int .i64))) : ∃ ao c, v = .slice ao n c ∧ OutW W base ao n c (fun _ => x) := by
  rcases h.2 with ⟨rfl, rfl⟩ | ⟨g, cap, cur, rfl, hg, hgg, h1, h2, h3, h4⟩
  · exact ⟨none, 0, rfl, Nat.le_refl _, Nat.zero_le _, .inl rfl⟩
  · refine ⟨_, cap, rfl, h1, h2, .inr ⟨g, rfl, hg, cur, hgg, fun j hj => ?_⟩⟩
    have h5 := congrArg (fun l => l[j]?) h4
    simp only [Nat.mul_one] at h5
    rw [List.getElem?_take_of_lt hj] at h5
    simpa [hj] using h5
theorem OutW.ints {W : World} {base n c : Nat} {ao : Option Addr} {f : Nat → Int} {l : List Int} (h : OutW W base ao n c f) (hl : l.length = n) (hf : ∀ j x, l[j]? = some x → f j = x) : Ints W .i64 (.slice ao n c) l := by
  subst hl
  obtain ⟨h1, h2, h3⟩ := h
  refine ⟨ao, c, rfl, h1, h2, ?_⟩
  rcases h3 with h3 | ⟨O, rfl, _, cur, hr, hc⟩
  · left; exact List.eq_nil_of_length_eq_zero h3
  · right
    refine ⟨O, 0, rfl, hr.lt, fun j x hj => ?_⟩
    rw [Nat.zero_add, hr.cell (hc j (List.getElem?_eq_some_iff.1 hj).1), hf j x hj]
theorem OutW.congr {W : World} {base n c : Nat} {ao : Option Addr} {f g : Nat → Int} (h : OutW W base ao n c f) (he : ∀ j, j < n → f j = g j) : OutW W base ao n c g := by
  obtain ⟨h1, h2, h3⟩ := h
  refine ⟨h1, h2, ?_⟩
  rcases h3 with h3 | ⟨O, e, hb, cur, hr, hc⟩
  · exact .inl h3
  · exact .inr ⟨O, e, hb, cur, hr, fun j hj => by rw [hc j hj, he j hj]⟩
theorem OutW.below {W W' : World} {base n c : Nat} {ao : Option Addr} {f : Nat → Int} (h : OutW W base ao n c f) (hb : Below W.heap.size W W') : OutW W' base ao n c f := by
  obtain ⟨h1, h2, h3⟩ := h
  refine ⟨h1, h2, ?_⟩
  rcases h3 with h3 | ⟨O, e, hb', cur, hr, hc⟩
  · exact .inl h3
  · exact .inr ⟨O, e, hb', cur, hr.later hb, hc⟩
theorem OutW.draws {W : World} {base n c : Nat} {ao : Option Addr} {f : Nat → Int} (h : OutW W base ao n c f) (q : Nat) : OutW (W.drewN q) base ao n c f := h
theorem OutW.open_ {W : World} {base n c i : Nat} {ao : Option Addr} {f : Nat → Int} (h : OutW W base ao n c f) (hi : i < n) : ∃ O, ao = some ⟨O, 0, none⟩ ∧ base ≤ O ∧ O < W.heap.size ∧ (∃ v0, W.cell? ⟨O, i, none⟩ = some v0) ∧ W.frozen? ⟨O, i, none⟩ = false := by
  obtain ⟨h1, h2, h3⟩ := h
  rcases h3 with h3 | ⟨O, e, hb', cur, hr, hc⟩
  · omega
  · exact ⟨O, e, hb', hr.lt, ⟨_, hr.cell (hc i hi)⟩, hr.frozen i⟩
theorem OutW.put {W : World} {base n c i O : Nat} {f : Nat → Int} (h : OutW W base (some ⟨O, 0, none⟩) n c f) (hi : i < n) (v : Int) : OutW (W.setCell ⟨O, i, none⟩ (.int .i64 v)) base (some ⟨O, 0, none⟩) n c (fun j => if j = i then v else f j) := by
  obtain ⟨h1, h2, h3⟩ := h
  refine ⟨h1, h2, ?_⟩
  rcases h3 with h3 | ⟨O', e, hb', cur, hr, hc⟩
  · omega
  · have e' : O = O' := by injection e with e; injection e
    subst e'
    refine .inr ⟨O, rfl, hb', _, hr.set i _, fun j hj => ?_⟩
    have hsz : i < cur.size := (Array.getElem?_eq_some_iff.1 (hc i hi)).1
    by_cases e : j = i
    · subst e
      simp [hsz]
    · rw [Array.getElem?_setIfInBounds, if_neg (Ne.symm e), hc j hj]
      simp [e]
theorem Rt.other {W : World} {T n m O : Nat} {F : Nat → Nat → Int} (h : Rt W T n m F) (hO : O < T) (j : Nat) (v : Value) : Rt (W.setCell ⟨O, j, none⟩ v) T n m F := by
  obtain ⟨g, h1, h2, h3⟩ := h
  exact ⟨g, h1.other (by omega) _ _, h2, fun j hj => ⟨(h3 j hj).1, (h3 j hj).2.other (by have := (h3 j hj).1; omega) _ _⟩⟩

theorem sfx_get {A B : List Int} {j : Nat} (h : j < sfx A B) : A[A.length - 1 - j]? = B[B.length - 1 - j]? := by
  have hs := sfx_le A B
  have := pfx_run (a := (A.drop (pfx A B)).reverse) (b := (B.drop (pfx A B)).reverse) (k := j) h
  rwa [rev_drop_get _ _ _ (by omega), rev_drop_get _ _ _ (by omega)] at this
theorem sfx_stop {A B : List Int} (h1 : sfx A B + pfx A B < A.length) (h2 : sfx A B + pfx A B < B.length) : A[A.length - 1 - sfx A B]? ≠ B[B.length - 1 - sfx A B]? := by
  have := pfx_stop (a := (A.drop (pfx A B)).reverse) (b := (B.drop (pfx A B)).reverse) (by show sfx A B < _; simp; omega) (by show sfx A B < _; simp; omega)
  rwa [show pfx (A.drop (pfx A B)).reverse (B.drop (pfx A B)).reverse = sfx A B from rfl, rev_drop_get _ _ _ (by omega), rev_drop_get _ _ _ (by omega)] at this

/-- What is so behind a call that gives a row of numbers. -/
def GivesI (w : World) (l : List Int) (e : Ending) (w' : World) : Prop := ∃ v, e = .returned v ∧ Ints w' .i64 v l ∧ Below w.heap.size w w'

set_option maxRecDepth 100000 in
set_option maxHeartbeats 16000000 in
theorem RefMatch_long (v1 v2 : Value) (A B : List Int) (w : World) (h1 : Ints w .i64 v1 A) (h2 : Ints w .i64 v2 B) (hl1 : A.length ≤ 10000) (hl2 : B.length ≤ 10000) (hl : 2000 < A.length ∨ 2000 < B.length) :
    Calls Try.prog 15 #[v1, v2] w (GivesI w (matchOf A B)) := by
  obtain ⟨aA, cA, rfl, -, -, atA⟩ := h1.at
  obtain ⟨aB, cB, rfl, -, -, atB⟩ := h2.at
  have AtA := Lib.hid atA; clear atA
  have AtB := Lib.hid atB; clear atB
  have HA := Lib.hid h1; clear h1
  have HB := Lib.hid h2; clear h2
  obtain ⟨i0, hi0, hz0, hz1, hz2⟩ := info3
  have hml := matchOf_length A B
  have Hl := Lib.hid hl; clear hl
  go_enter Try.func15, Try.ntmps15
  go_wp2_with fail
  go_loopw [5, 6] (fun p c wr => ∃ i : Nat, i ≤ A.length ∧ c = .int .i64 i ∧ wr.ownsRow w.heap.size 3 1 p i ((List.replicate i (-1)).map (Value.int .i64)) ∧ Below w.heap.size w wr) (fun _ c _ => A.length - (intOf c).toNat)
  case atStart => exact ⟨0, Nat.zero_le _, rfl, World.ownsRow_nil _ _ _ _, Below.refl _ _⟩
  case round =>
    obtain ⟨i, hi, rfl, hown, hB⟩ := hrel
    by_cases hlt : i < A.length
    · have hbs := hB.size
      go_wp2_with (at_builtin; refine wpList_append_own _ rfl _ _ 22 rfl w.heap.size 3 i0 (.int .i64 0) 1 8 Try.underlying22 hi0 hz0 hz1 hz2 rfl (by decide) _ _ _ rfl (hown.alloc _) ⟨wr.heap.size, 0, none⟩ 1 1 [.int .i64 (-1)] rfl rfl (cell_one_new _ _ _) (by simp [Value.oneCell']) (by unfold maxLen; omega) (by omega) (by simp; omega) ?_; intro v' w2 hown' hgrow _)
      have hnew : w2.ownsRow w.heap.size 3 1 v' (i + 1) ((List.replicate (i + 1) (-1)).map (Value.int .i64)) := by
        rw [List.replicate_succ', List.map_append]
        exact hown'
      refine ⟨⟨i + 1, by omega, by go_num, hnew, (hB.alloc hbs _).grown hgrow (by simp; omega) (fun k hk => (hown.lt k hk).1)⟩, by simp [intOf]; omega⟩
    · obtain rfl : i = A.length := by omega
      obtain ⟨ao, cc, hform, hW⟩ := OutW.of_own hown
      subst hform
      obtain ⟨w2, rfl⟩ : ∃ w2 : World, w2 = wr := ⟨_, rfl⟩
      clear hown hlt hi
      obtain ⟨n, hn⟩ : ∃ n, Hid (A.length = n) := ⟨_, Lib.hid rfl⟩
      have hl := Hl.out
      have hm : matchOf A B = (List.range A.length).map (longAt A.length B.length (pfx A B) (sfx A B)) := if_pos hl
      have Hm := Lib.hid hm; clear hm
      have hpl := pfx_le A B
      have hsl := sfx_le A B
      obtain ⟨p, hp⟩ : ∃ p, Hid (pfx A B = p) := ⟨_, Lib.hid rfl⟩
      obtain ⟨s, hs⟩ : ∃ s, Hid (sfx A B = s) := ⟨_, Lib.hid rfl⟩
      rw [hp.out] at hpl hsl
      rw [hs.out] at hsl
      have HW0 := Lib.hid (hW.congr (g := fun j => if j < 0 then (j : Int) else -1) (fun j _ => by simp))
      clear hW
      by_cases hl3 : 2000 < A.length
      all_goals
        first
        | have hd1 : decide ((2000 : Int) < (A.length : Int)) = true := by simp; omega
        | (have hd1 : decide ((2000 : Int) < (A.length : Int)) = false := by simp; omega
           have hd2 : decide ((2000 : Int) < (B.length : Int)) = true := by simp; omega)
        clear hl hl3
        go_wp2_with fail
        go_loopw [7] (fun c wr => ∃ k : Nat, k ≤ p ∧ c = .int .i64 k ∧ OutW wr w.heap.size ao A.length cc (fun j => if j < k then (j : Int) else -1) ∧ Below w.heap.size w wr) (fun c _ => p - (intOf c).toNat)
        case atStart => exact ⟨0, Nat.zero_le _, rfl, HW0.out, hB⟩
        case round =>
          clear HW0 hB
          obtain ⟨k, hk, rfl, hW, hB⟩ := hrel
          by_cases hlt : k < p
          · have hkA : k < A.length := by omega
            have hkB : k < B.length := by omega
            obtain ⟨x, hx⟩ : ∃ x, A[k]? = some x := ⟨A[k], List.getElem?_eq_getElem hkA⟩
            have hy : B[k]? = some x := by rw [← pfx_run (by rw [hp.out]; exact hlt)]; exact hx
            obtain ⟨bA, oA, rfl, lA, eA⟩ := AtA.out k x hx
            obtain ⟨bB, oB, rfl, lB, eB⟩ := AtB.out k x hy
            have ca : wr.cell? ⟨bA, oA + k, none⟩ = some (.int .i64 x) := (hB.cell (p := ⟨bA, oA + k, none⟩) lA).trans eA
            have cb : wr.cell? ⟨bB, oB + k, none⟩ = some (.int .i64 x) := (hB.cell (p := ⟨bB, oB + k, none⟩) lB).trans eB
            obtain ⟨O, rfl, hO, hOl, ⟨v0, c0⟩, f0⟩ := hW.open_ hkA
            have Hput := Lib.hid (fun q => OutW.congr (OutW.put (W := wr.drewN q) (hW.draws q) hkA (k : Int)) (g := fun j => if j < k + 1 then (j : Int) else -1) (fun j hj => by
              by_cases e : j = k
              · subst e; simp
              · by_cases e2 : j < k
                · simp [e, e2, show j < k + 1 by omega]
                · simp [e, e2, show ¬ j < k + 1 by omega]))
            have hd3 : decide (k < A.length) = true := by simpa using hkA
            have hd4 : decide (k < B.length) = true := by simpa using hkB
            have HBl := Lib.hid hB; clear hB
            clear eA eB hx hy hW
            go_wp2_with fail
            go_quiet (fail)
            go_wp2_with fail
            exact ⟨⟨k + 1, by omega, by go_num, Hput.out _, (below_draws HBl.out _).setCell (p := ⟨O, k, none⟩) hO _⟩, by simp [intOf]; omega⟩
          · obtain rfl : k = p := by omega
            have HW1 := Lib.hid (fun q => OutW.congr (hW.draws q) (g := tailAt A.length B.length k 0) (fun j hj => by unfold tailAt; rw [if_neg (show ¬ A.length - 0 ≤ j by omega)]))
            have HBl := Lib.hid hB; clear hB
            clear hW hlt
            by_cases hin : k < A.length ∧ k < B.length
            case' pos =>
              obtain ⟨hkA, hkB⟩ := hin
              obtain ⟨x, hx⟩ : ∃ x, A[k]? = some x := ⟨A[k], List.getElem?_eq_getElem hkA⟩
              obtain ⟨y, hy⟩ : ∃ y, B[k]? = some y := ⟨B[k], List.getElem?_eq_getElem hkB⟩
              have hne := pfx_stop (a := A) (b := B) (by rw [hp.out]; exact hkA) (by rw [hp.out]; exact hkB)
              rw [hp.out, hx, hy] at hne
              have hb : (x == y) = false := by rw [beq_eq_false_iff_ne]; intro e; exact hne (by rw [e])
              obtain ⟨bA, oA, ea, lA, eA⟩ := AtA.out k x hx
              obtain ⟨bB, oB, eb, lB, eB⟩ := AtB.out k y hy
              have ca : wr.cell? ⟨bA, oA + k, none⟩ = some (.int .i64 x) := (HBl.out.cell (p := ⟨bA, oA + k, none⟩) lA).trans eA
              have cb : wr.cell? ⟨bB, oB + k, none⟩ = some (.int .i64 y) := (HBl.out.cell (p := ⟨bB, oB + k, none⟩) lB).trans eB
              have hd3 : decide (k < A.length) = true := by simpa using hkA
              have hd4 : decide (k < B.length) = true := by simpa using hkB
              clear hne hx hy eA eB
              subst ea eb
              go_wp2_with fail
              go_quiet (fail)
              clear hd3 hd4 hb ca cb
              go_wp2_with fail
            case' neg =>
              by_cases hkA : k < A.length
              case' pos =>
                have hd3 : decide (k < A.length) = true := by simpa using hkA
                have hd4 : decide (k < B.length) = false := by simp; omega
                clear hin hkA
                go_wp2_with fail
                go_quiet (fail)
                clear hd3 hd4
                go_wp2_with fail
              case' neg =>
                have hd3 : decide (k < A.length) = false := by simpa using hkA
                clear hin hkA
                go_wp2_with fail
                go_quiet (fail)
                clear hd3
                go_wp2_with fail
            all_goals
              obtain ⟨V, hV⟩ : ∃ V, Hid (wr.drewN nq = V) := ⟨_, Lib.hid rfl⟩
              have HWV : Hid (OutW V w.heap.size ao A.length cc (tailAt A.length B.length k 0)) := by rw [← hV.out]; exact Lib.hid (HW1.out nq)
              have HBV : Hid (Below w.heap.size w V) := by rw [← hV.out]; exact Lib.hid (below_draws HBl.out nq)
              rw [hV.out]
              clear hV HW1 HBl
              go_loopw [8] (fun c wr => ∃ j : Nat, j ≤ s ∧ c = .int .i64 j ∧ OutW wr w.heap.size ao A.length cc (tailAt A.length B.length k j) ∧ Below w.heap.size w wr) (fun c _ => s - (intOf c).toNat)
              case atStart => exact ⟨0, Nat.zero_le _, rfl, HWV.out, HBV.out⟩
              case round =>
                clear HWV HBV
                obtain ⟨j, hj, rfl, hW, hB⟩ := hrel
                have g1 : IntKind.i64.wrap ((A.length : Int) - (k : Int)) = (A.length : Int) - k := IntWalk.i64_in _ (by omega)
                have g2 : IntKind.i64.wrap ((B.length : Int) - (k : Int)) = (B.length : Int) - k := IntWalk.i64_in _ (by omega)
                by_cases hlt2 : j < s
                · obtain ⟨a, ha⟩ : ∃ a, A.length - 1 - j = a := ⟨_, rfl⟩
                  obtain ⟨b, hb⟩ : ∃ b, B.length - 1 - j = b := ⟨_, rfl⟩
                  have haA : a < A.length := by omega
                  have hbB : b < B.length := by omega
                  obtain ⟨x, hx⟩ : ∃ x, A[a]? = some x := ⟨A[a], List.getElem?_eq_getElem haA⟩
                  have hy : B[b]? = some x := by rw [← hb, ← sfx_get (by rw [hs.out]; exact hlt2), ha]; exact hx
                  obtain ⟨bA, oA, ea, lA, eA⟩ := AtA.out a x hx
                  obtain ⟨bB, oB, eb, lB, eB⟩ := AtB.out b x hy
                  cases ea
                  cases eb
                  have ca : wr.cell? ⟨bA, oA + a, none⟩ = some (.int .i64 x) := (hB.cell (p := ⟨bA, oA + a, none⟩) lA).trans eA
                  have cb : wr.cell? ⟨bB, oB + b, none⟩ = some (.int .i64 x) := (hB.cell (p := ⟨bB, oB + b, none⟩) lB).trans eB
                  obtain ⟨O, eo, hO, hOl, ⟨v0, c0⟩, f0⟩ := hW.open_ haA
                  subst eo
                  have hval : ((B.length : Int) - 1 - (j : Int)) = (b : Int) := by omega
                  have hidx : ((A.length : Int) - 1 - (j : Int)) = (a : Int) := by omega
                  have Hput := Lib.hid (fun q => OutW.congr (OutW.put (W := wr.drewN q) (hW.draws q) haA (b : Int)) (g := tailAt A.length B.length k (j + 1)) (fun i hi => by
                    show (if i = a then (b : Int) else tailAt A.length B.length k j i) = _
                    unfold tailAt
                    by_cases e : i = a
                    · rw [if_pos e, if_pos (by omega)]; omega
                    · rw [if_neg e]
                      by_cases e2 : A.length - j ≤ i
                      · rw [if_pos e2, if_pos (by omega)]
                      · rw [if_neg e2, if_neg (show ¬ A.length - (j + 1) ≤ i by omega)]))
                  have i1 : IntKind.i64.wrap ((A.length : Int) - 1) = (A.length : Int) - 1 := IntWalk.i64_in _ (by omega)
                  have i2 : IntKind.i64.wrap ((A.length : Int) - 1 - (j : Int)) = (a : Int) := by rw [IntWalk.i64_in _ (by omega)]; omega
                  have j1 : IntKind.i64.wrap ((B.length : Int) - 1) = (B.length : Int) - 1 := IntWalk.i64_in _ (by omega)
                  have j2 : IntKind.i64.wrap ((B.length : Int) - 1 - (j : Int)) = (b : Int) := by rw [IntWalk.i64_in _ (by omega)]; omega
                  have d1 : decide ((j : Int) < (A.length : Int) - (k : Int)) = true := by simp; omega
                  have d2 : decide ((j : Int) < (B.length : Int) - (k : Int)) = true := by simp; omega
                  have HBl := Lib.hid hB; clear hB
                  clear eA eB hx hy hW ha hb
                  go_wp2_with fail
                  go_quiet (fail)
                  clear g1 g2 i1 i2 j1 j2 d1 d2
                  go_wp2_with fail
                  exact ⟨⟨j + 1, by omega, by go_num, Hput.out _, (below_draws HBl.out _).setCell (p := ⟨O, a, none⟩) hO _⟩, by simp [intOf]; omega⟩
                · obtain rfl : j = s := by omega
                  have hfin := Lib.hid (fun q => OutW.ints (l := matchOf A B) (hW.draws q) hml (fun i x hi => by
                    rw [Hm.out, List.getElem?_map] at hi
                    have hiA : i < A.length := by
                      by_cases e : i < A.length
                      · exact e
                      · rw [List.getElem?_eq_none (by simp; omega)] at hi; simp at hi
                    rw [List.getElem?_range hiA] at hi
                    simp at hi
                    rw [← hi, hp.out, hs.out]
                    unfold tailAt longAt
                    by_cases e : i < k
                    · rw [if_neg (show ¬ A.length - j ≤ i by omega), if_pos e, if_pos e]
                    · by_cases e2 : A.length - j ≤ i
                      · rw [if_pos e2, if_neg e, if_pos e2]
                      · rw [if_neg e2, if_neg e, if_neg e, if_neg e2]))
                  have HBl := Lib.hid hB; clear hB
                  by_cases hin : j + k < A.length ∧ j + k < B.length
                  · obtain ⟨hjA, hjB⟩ := hin
                    obtain ⟨a, ha⟩ : ∃ a, A.length - 1 - j = a := ⟨_, rfl⟩
                    obtain ⟨b, hb⟩ : ∃ b, B.length - 1 - j = b := ⟨_, rfl⟩
                    have haA : a < A.length := by omega
                    have hbB : b < B.length := by omega
                    obtain ⟨x, hx⟩ : ∃ x, A[a]? = some x := ⟨A[a], List.getElem?_eq_getElem haA⟩
                    obtain ⟨y, hy⟩ : ∃ y, B[b]? = some y := ⟨B[b], List.getElem?_eq_getElem hbB⟩
                    have hne := sfx_stop (A := A) (B := B) (by rw [hp.out, hs.out]; exact hjA) (by rw [hp.out, hs.out]; exact hjB)
                    rw [hs.out, ha, hb, hx, hy] at hne
                    have hbq : (x == y) = false := by rw [beq_eq_false_iff_ne]; intro e; exact hne (by rw [e])
                    obtain ⟨bA, oA, ea, lA, eA⟩ := AtA.out a x hx
                    obtain ⟨bB, oB, eb, lB, eB⟩ := AtB.out b y hy
                    cases ea
                    cases eb
                    have ca : wr.cell? ⟨bA, oA + a, none⟩ = some (.int .i64 x) := (HBl.out.cell (p := ⟨bA, oA + a, none⟩) lA).trans eA
                    have cb : wr.cell? ⟨bB, oB + b, none⟩ = some (.int .i64 y) := (HBl.out.cell (p := ⟨bB, oB + b, none⟩) lB).trans eB
                    have i1 : IntKind.i64.wrap ((A.length : Int) - 1) = (A.length : Int) - 1 := IntWalk.i64_in _ (by omega)
                    have i2 : IntKind.i64.wrap ((A.length : Int) - 1 - (j : Int)) = (a : Int) := by rw [IntWalk.i64_in _ (by omega)]; omega
                    have j1 : IntKind.i64.wrap ((B.length : Int) - 1) = (B.length : Int) - 1 := IntWalk.i64_in _ (by omega)
                    have j2 : IntKind.i64.wrap ((B.length : Int) - 1 - (j : Int)) = (b : Int) := by rw [IntWalk.i64_in _ (by omega)]; omega
                    have d1 : decide ((j : Int) < (A.length : Int) - (k : Int)) = true := by simp; omega
                    have d2 : decide ((j : Int) < (B.length : Int) - (k : Int)) = true := by simp; omega
                    clear hne hx hy eA eB ha hb hW
                    go_wp2_with fail
                    go_quiet (fail)
                    clear g1 g2 i1 i2 j1 j2 d1 d2 hbq ca cb
                    go_wp2_with fail
                    go_ret
                    exact ⟨_, rfl, hfin.out _, below_draws HBl.out _⟩
                  · by_cases hjA : j + k < A.length
                    · have d1 : decide ((j : Int) < (A.length : Int) - (k : Int)) = true := by simp; omega
                      have d2 : decide ((j : Int) < (B.length : Int) - (k : Int)) = false := by simp; omega
                      clear hin hjA hW
                      go_wp2_with fail
                      go_quiet (fail)
                      clear g1 g2 d1 d2
                      go_wp2_with fail
                      go_ret
                      exact ⟨_, rfl, hfin.out _, below_draws HBl.out _⟩
                    · have d1 : decide ((j : Int) < (A.length : Int) - (k : Int)) = false := by simp; omega
                      clear hin hjA hW
                      go_wp2_with fail
                      go_quiet (fail)
                      clear g1 g2 d1
                      go_wp2_with fail
                      go_ret
                      exact ⟨_, rfl, hfin.out _, below_draws HBl.out _⟩
end Go.Proofs.Ythligkdncddmpaa
