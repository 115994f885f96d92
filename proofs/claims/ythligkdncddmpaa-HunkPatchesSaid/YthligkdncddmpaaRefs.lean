/-
  For the laws of lcs: the document's Match where a table is made; its Length and Percent. Condition: at most 1,000,000 numbers each.
-/
import Derived.Test.YthligkdncddmpaaRefm
import Derived.Test.YthligkdncddmpaaRises
namespace Go.Proofs.Ythligkdncddmpaa
open Go.RowKit

/-- The last loop of the document's Match: where it stands, and what is told so far. -/
def Walk2 (W : World) (base : Nat) (ao : Option Addr) (c T i k : Nat) (A B : List Int) : Prop :=
  i ≤ A.length ∧ k ≤ B.length ∧ (∀ O, ao = some ⟨O, 0, none⟩ → 0 < A.length → O < T) ∧ Rt W T A.length B.length (E A B) ∧
    ∃ pre : List Int, pre.length = i ∧ gm A B 0 = pre ++ gm (A.drop i) (B.drop k) k ∧ OutW W base ao A.length c (fun j => (pre ++ List.replicate (A.length - i) (-1))[j]?.getD 0)
theorem Walk2.same {W : World} {base c T i k O : Nat} {A B : List Int} {x : Int} (h : Walk2 W base (some ⟨O, 0, none⟩) c T i k A B) (hx : A[i]? = some x) (hy : B[k]? = some x) : Walk2 (W.setCell ⟨O, i, none⟩ (.int .i64 (k : Int))) base (some ⟨O, 0, none⟩) c T (i + 1) (k + 1) A B := by
  obtain ⟨a1, a2, a5, hT, pre, b1, b2, b3⟩ := h
  have l1 := (List.getElem?_eq_some_iff.1 hx).1
  have l2 := (List.getElem?_eq_some_iff.1 hy).1
  refine ⟨by omega, by omega, a5, hT.other (a5 O rfl (by omega)) _ _, pre ++ [(k : Int)], by simp [b1], ?_, ?_⟩
  · rw [b2, drop_get hx, drop_get hy, gm_same]
    simp
  · refine (b3.put l1 (k : Int)).congr fun j hj => ?_
    show (if j = i then (k : Int) else _) = _
    by_cases e : j = i
    · subst e
      rw [if_pos rfl, List.append_assoc, List.getElem?_append_right (by omega)]
      simp [b1]
    · rw [if_neg e]
      by_cases e2 : j < i
      · rw [List.getElem?_append_left (by omega), List.append_assoc, List.getElem?_append_left (by omega)]
      · rw [List.getElem?_append_right (by omega), List.getElem?_append_right (by simp; omega), List.getElem?_replicate, List.getElem?_replicate, if_pos (by omega), if_pos (by simp; omega)]
theorem Walk2.skip {W : World} {base c T i k : Nat} {ao : Option Addr} {A B : List Int} {x y : Int} (h : Walk2 W base ao c T i k A B) (hx : A[i]? = some x) (hy : B[k]? = some y) (hne : x ≠ y) (hl : lc (A.drop i) (B.drop (k + 1)) ≤ lc (A.drop (i + 1)) (B.drop k)) : Walk2 W base ao c T (i + 1) k A B := by
  obtain ⟨a1, a2, a5, hT, pre, b1, b2, b3⟩ := h
  have l1 := (List.getElem?_eq_some_iff.1 hx).1
  refine ⟨by omega, a2, a5, hT, pre ++ [(-1 : Int)], by simp [b1], ?_, ?_⟩
  · rw [drop_get hx, drop_get hy] at b2
    rw [drop_get hx, drop_get hy] at hl
    rw [b2, gm_skip hne _ _ _ hl, drop_get hy]
    simp
  · obtain ⟨d, hd⟩ : ∃ d, A.length - i = d + 1 := ⟨A.length - i - 1, by omega⟩
    rw [hd, List.replicate_succ] at b3
    rw [show A.length - (i + 1) = d by omega]
    simpa using b3
theorem Walk2.next {W : World} {base c T i k : Nat} {ao : Option Addr} {A B : List Int} {x y : Int} (h : Walk2 W base ao c T i k A B) (hx : A[i]? = some x) (hy : B[k]? = some y) (hne : x ≠ y) (hl : ¬ lc (A.drop i) (B.drop (k + 1)) ≤ lc (A.drop (i + 1)) (B.drop k)) : Walk2 W base ao c T i (k + 1) A B := by
  obtain ⟨a1, a2, a5, hT, pre, b1, b2, b3⟩ := h
  have l2 := (List.getElem?_eq_some_iff.1 hy).1
  refine ⟨a1, by omega, a5, hT, pre, b1, ?_, b3⟩
  rw [drop_get hx, drop_get hy] at b2
  rw [drop_get hx, drop_get hy] at hl
  rw [b2, gm_next hne _ _ _ hl, drop_get hx]
  push_cast
  rfl
theorem Walk2.done {W : World} {base c T i k : Nat} {ao : Option Addr} {A B : List Int} (h : Walk2 W base ao c T i k A B) (he : ¬ (i < A.length ∧ k < B.length)) : Ints W .i64 (.slice ao A.length c) (gm A B 0) := by
  obtain ⟨a1, a2, a5, hT, pre, b1, b2, b3⟩ := h
  refine b3.ints (gm_length A B 0) fun j x hj => ?_
  rw [b2] at hj
  by_cases hi : i < A.length
  · rw [List.drop_of_length_le (show B.length ≤ k by omega), gm_nil_right, List.length_drop] at hj
    rw [hj]; rfl
  · rw [List.drop_of_length_le (show A.length ≤ i by omega), gm] at hj
    rw [show A.length - i = 0 by omega]
    simp only [List.replicate_zero]
    rw [hj]; rfl
theorem Walk2.start {W : World} {base c T : Nat} {ao : Option Addr} {A B : List Int} (hO : ∀ O, ao = some ⟨O, 0, none⟩ → 0 < A.length → O < T) (hT : Rt W T A.length B.length (E A B)) (h : OutW W base ao A.length c (fun _ => -1)) : Walk2 W base ao c T 0 0 A B := by
  refine ⟨Nat.zero_le _, Nat.zero_le _, hO, hT, [], rfl, rfl, h.congr fun j hj => ?_⟩
  simp [hj]
theorem Walk2.draws {W : World} {base c T i k : Nat} {ao : Option Addr} {A B : List Int} (h : Walk2 W base ao c T i k A B) (q : Nat) : Walk2 (W.drewN q) base ao c T i k A B := h
/-- What the walk reads of the table. -/
theorem Walk2.reads {W : World} {base c T i k : Nat} {ao : Option Addr} {A B : List Int} (h : Walk2 W base ao c T i k A B) (hi : i < A.length) (hk : k < B.length) :
    ∃ g0 g1, W.cell? ⟨T, i + 1, none⟩ = some (sl g1 B.length) ∧ W.cell? ⟨g1, k, none⟩ = some (.int .i64 (lc (A.drop (i + 1)) (B.drop k))) ∧ W.cell? ⟨T, i, none⟩ = some (sl g0 B.length) ∧ W.cell? ⟨g0, k + 1, none⟩ = some (.int .i64 (lc (A.drop i) (B.drop (k + 1)))) := by
  obtain ⟨a1, a2, a5, hT, _⟩ := h
  obtain ⟨g1, _, e1, _, r1⟩ := hT.cells (show i + 1 ≤ A.length by omega)
  obtain ⟨g0, _, e0, _, r0⟩ := hT.cells (show i ≤ A.length by omega)
  exact ⟨g0, g1, e1, r1 k (by omega), e0, r0 (k + 1) (by omega)⟩

set_option maxRecDepth 100000 in
set_option maxHeartbeats 16000000 in
theorem RefMatch_short (v1 v2 : Value) (A B : List Int) (w : World) (h1 : Ints w .i64 v1 A) (h2 : Ints w .i64 v2 B) (hl1 : A.length ≤ 2000) (hl2 : B.length ≤ 2000) :
    Calls Try.prog 15 #[v1, v2] w (GivesI w (matchOf A B)) := by
  obtain ⟨aA, cA, rfl, -, -, atA⟩ := h1.at
  obtain ⟨aB, cB, rfl, -, -, atB⟩ := h2.at
  have AtA := Lib.hid atA; clear atA
  have AtB := Lib.hid atB; clear atB
  have HA := Lib.hid h1; clear h1
  have HB := Lib.hid h2; clear h2
  obtain ⟨i0, hi0, hz0, hz1, hz2⟩ := info3
  have hm : matchOf A B = gm A B 0 := if_neg (by omega)
  have Hm := Lib.hid hm; clear hm
  go_enter Try.func15, Try.ntmps15
  go_wp2_with fail
  go_loopw [5, 6] (fun p c wr => ∃ i : Nat, i ≤ A.length ∧ c = .int .i64 i ∧ wr.ownsRow w.heap.size 3 1 p i ((List.replicate i (-1)).map (Value.int .i64)) ∧ Below w.heap.size w wr) (fun _ c _ => A.length - (intOf c).toNat)
  case atStart => exact ⟨0, Nat.zero_le _, rfl, World.ownsRow_nil _ _ _ _, Below.refl _ _⟩
  case round =>
    obtain ⟨i, hi, rfl, hown, hB⟩ := hrel
    by_cases hlt : i < A.length
    · have hbs := hB.size
      go_wp2_with (at_builtin; refine wpList_append_own _ rfl _ _ 22 rfl w.heap.size 3 i0 (.int .i64 0) 1 8 Try.underlying22 hi0 hz0 hz1 hz2 rfl (by decide) _ _ _ rfl (hown.alloc _) ⟨wr.heap.size, 0, none⟩ 1 1 [.int .i64 (-1)] rfl rfl (cell_one_new _ _ _) (by simp [Value.oneCell']) (by unfold maxLen; omega) (by omega) (by simp; omega) ?_; intro v' w2 hown' hgrow _)
      have hnew : w2.ownsRow w.heap.size 3 1 v' (i + 1) ((List.replicate (i + 1) (-1)).map (Value.int .i64)) := by
        rw [List.replicate_succ', List.map_append]
        exact hown'
      refine ⟨⟨i + 1, by omega, by go_num, hnew, (hB.alloc hbs _).grown hgrow (by simp; omega) (fun k hk => (hown.lt k hk).1)⟩, by simp [intOf]; omega⟩
    · obtain rfl : i = A.length := by omega
      obtain ⟨ao, cc, hform, hW⟩ := OutW.of_own hown
      subst hform
      obtain ⟨w2, rfl⟩ : ∃ w2 : World, w2 = wr := ⟨_, rfl⟩
      clear hown hlt hi
      have hd1 : decide ((2000 : Int) < (A.length : Int)) = false := by simp; omega
      have hd2 : decide ((2000 : Int) < (B.length : Int)) = false := by simp; omega
      have HA2 := Lib.hid (HA.out.below hB)
      have HB2 := Lib.hid (HB.out.below hB)
      go_wp2_with fail
      clear hd1 hd2
      refine (table_any _ _ A B _ HA2.out HB2.out hl1 hl2).mono ?_
      rintro e w3 ⟨T, rfl, hT, hRt, b3⟩
      have hB3 := hB.trans (b3.mono hB.size)
      have hWk : Walk2 w3 w.heap.size ao cc T 0 0 A B := Walk2.start (fun O e h0 => by
        subst e
        obtain ⟨O', e', _, hO, _⟩ := hW.open_ h0
        injection e' with e'
        injection e' with e'
        omega) hRt (hW.below b3)
      clear hB hW hRt b3 HA2 HB2 hT
      go_wp2_with fail
      go_loopw [10, 11] (fun c d wr => ∃ j k : Nat, c = .int .i64 j ∧ d = .int .i64 k ∧ Walk2 wr w.heap.size ao cc T j k A B ∧ Below w.heap.size w wr) (fun c d _ => (A.length - (intOf c).toNat) + (B.length - (intOf d).toNat))
      case atStart => exact ⟨0, 0, rfl, rfl, hWk, hB3⟩
      case round =>
        clear hWk hB3
        obtain ⟨j, k, rfl, rfl, hW, hB⟩ := hrel
        have HW := Lib.hid hW
        obtain ⟨hjA, hkB, -, -⟩ := hW
        by_cases hin : j < A.length ∧ k < B.length
        · obtain ⟨hlj, hlk⟩ := hin
          obtain ⟨x, hx⟩ : ∃ x, Hid (A[j]? = some x) := ⟨A[j], Lib.hid (List.getElem?_eq_getElem hlj)⟩
          obtain ⟨y, hy⟩ : ∃ y, Hid (B[k]? = some y) := ⟨B[k], Lib.hid (List.getElem?_eq_getElem hlk)⟩
          obtain ⟨bA, oA, rfl, hbA, cellA⟩ := AtA.out j x hx.out
          obtain ⟨bB, oB, rfl, hbB, cellB⟩ := AtB.out k y hy.out
          have ca : wr.cell? ⟨bA, oA + j, none⟩ = some (.int .i64 x) := (hB.cell (p := ⟨bA, oA + j, none⟩) hbA).trans cellA
          have cb : wr.cell? ⟨bB, oB + k, none⟩ = some (.int .i64 y) := (hB.cell (p := ⟨bB, oB + k, none⟩) hbB).trans cellB
          have hd1 : decide (j < A.length) = true := by simpa using hlj
          have hd2 : decide (k < B.length) = true := by simpa using hlk
          have Hbel := Lib.hid hB; clear hB
          clear cellA cellB
          by_cases hxy : x = y
          · have hb : (x == y) = true := by simpa using hxy
            obtain ⟨O, eo, hO, _, ⟨v0, c0⟩, f0⟩ : ∃ O, ao = some ⟨O, 0, none⟩ ∧ w.heap.size ≤ O ∧ True ∧ (∃ v0, wr.cell? ⟨O, j, none⟩ = some v0) ∧ wr.frozen? ⟨O, j, none⟩ = false := by
              obtain ⟨_, _, _, _, pre, p1, _, p3⟩ := HW.out
              obtain ⟨O, e1, e2, e3, e4, e5⟩ := p3.open_ hlj
              exact ⟨O, e1, e2, trivial, e4, e5⟩
            subst eo
            have Hnew := Lib.hid (fun q => Walk2.same (W := wr.drewN q) (HW.out.draws q) hx.out (by rw [hxy]; exact hy.out))
            clear hxy HW
            go_wp2_with fail
            go_quiet (fail)
            go_wp2_with fail
            exact ⟨⟨j + 1, k + 1, by go_num, by go_num, Hnew.out nq, (below_draws Hbel.out nq).setCell (p := ⟨O, j, none⟩) hO _⟩, by simp [intOf]; omega⟩
          · have hb : (x == y) = false := by simpa using hxy
            obtain ⟨g0, g1, t1, t2, t3, t4⟩ := Walk2.reads HW.out hlj hlk
            have hs1 : IntKind.i64.wrap ((j : Int) + 1) = (j : Int) + 1 := IntWalk.i64_in _ (by omega)
            have hs5 : IntKind.i64.wrap ((k : Int) + 1) = (k : Int) + 1 := IntWalk.i64_in _ (by omega)
            have q1 : j + 1 < A.length + 1 := by omega
            have q2 : j < A.length + 1 := by omega
            have q3 : k < B.length + 1 := by omega
            have q4 : k + 1 < B.length + 1 := by omega
            by_cases hle : lc (A.drop j) (B.drop (k + 1)) ≤ lc (A.drop (j + 1)) (B.drop k)
            · have Hnew := Lib.hid (fun q => Walk2.skip (W := wr.drewN q) (HW.out.draws q) hx.out hy.out hxy hle)
              generalize lc (A.drop j) (B.drop (k + 1)) = z1 at hle t4
              generalize lc (A.drop (j + 1)) (B.drop k) = z0 at hle t2
              have hz : decide (z1 ≤ z0) = true := by simpa using hle
              clear hxy HW hle
              go_wp2_with fail
              go_quiet (fail)
              go_wp2_with fail
              go_quiet (fail)
              go_wp2_with fail
              exact ⟨⟨j + 1, k, by go_num, rfl, Hnew.out _, below_draws Hbel.out _⟩, by simp [intOf]; omega⟩
            · have Hnew := Lib.hid (fun q => Walk2.next (W := wr.drewN q) (HW.out.draws q) hx.out hy.out hxy hle)
              generalize lc (A.drop j) (B.drop (k + 1)) = z1 at hle t4
              generalize lc (A.drop (j + 1)) (B.drop k) = z0 at hle t2
              have hz : decide (z1 ≤ z0) = false := by simpa using hle
              clear hxy HW hle
              go_wp2_with fail
              go_quiet (fail)
              go_wp2_with fail
              go_quiet (fail)
              go_wp2_with fail
              exact ⟨⟨j, k + 1, rfl, by go_num, Hnew.out _, below_draws Hbel.out _⟩, by simp [intOf]; omega⟩
        · have hfin := Walk2.done HW.out hin
          rw [← Hm.out] at hfin
          clear HW
          by_cases hlj : j < A.length
          all_goals
            first
            | (have hd1 : decide (j < A.length) = true := by simpa using hlj
               have hd2 : decide (k < B.length) = false := by simp; omega
               clear hin hlj
               go_wp2_with fail
               go_ret
               exact ⟨_, rfl, hfin, hB⟩)
            | (have hd1 : decide (j < A.length) = false := by simpa using hlj
               clear hin hlj
               go_wp2_with fail
               go_ret
               exact ⟨_, rfl, hfin, hB⟩)

theorem RefMatch_any (v1 v2 : Value) (A B : List Int) (w : World) (h1 : Ints w .i64 v1 A) (h2 : Ints w .i64 v2 B) (hl1 : A.length ≤ 10000) (hl2 : B.length ≤ 10000) :
    Calls Try.prog 15 #[v1, v2] w (GivesI w (matchOf A B)) := by
  by_cases h : 2000 < A.length ∨ 2000 < B.length
  · exact RefMatch_long v1 v2 A B w h1 h2 hl1 hl2 h
  · exact RefMatch_short v1 v2 A B w h1 h2 (by omega) (by omega)

theorem many_append (a b : List Int) : many (a ++ b) = many a + many b := by simp [many]
theorem many_all {l : List Int} (h : ∀ x ∈ l, 0 ≤ x) : many l = l.length := by
  unfold many
  rw [List.filter_eq_self.2 (fun x hx => by simpa using h x hx)]
theorem many_no {l : List Int} (h : ∀ x ∈ l, x < 0) : many l = 0 := by
  unfold many
  rw [List.filter_eq_nil_iff.2 (fun x hx => by have := h x hx; simp; omega)]
  rfl
theorem many_long (d m p s : Nat) (hm : s + p ≤ m) : many ((List.range (p + d + s)).map (longAt (p + d + s) m p s)) = p + s := by
  rw [List.range_add, List.range_add, List.map_append, List.map_append, many_append, many_append]
  rw [many_all (l := (List.range p).map _), many_no, many_all]
  · simp
  · intro x hx
    obtain ⟨y, hy, rfl⟩ := List.mem_map.1 hx
    obtain ⟨j, hj, rfl⟩ := List.mem_map.1 hy
    have := List.mem_range.1 hj
    unfold longAt
    rw [if_neg (by omega), if_pos (by omega)]
    omega
  · intro x hx
    obtain ⟨y, hy, rfl⟩ := List.mem_map.1 hx
    obtain ⟨j, hj, rfl⟩ := List.mem_map.1 hy
    have := List.mem_range.1 hj
    unfold longAt
    rw [if_neg (by omega), if_neg (by omega)]
    omega
  · intro x hx
    obtain ⟨j, hj, rfl⟩ := List.mem_map.1 hx
    have := List.mem_range.1 hj
    unfold longAt
    rw [if_pos (by omega)]
    omega
theorem match_many (A B : List Int) : (many (matchOf A B) : Int) = lenOf A B := by
  unfold matchOf lenOf
  by_cases h : 2000 < A.length ∨ 2000 < B.length
  · rw [if_pos h, if_pos h]
    have hs := sfx_le A B
    have := many_long (A.length - pfx A B - sfx A B) B.length (pfx A B) (sfx A B) (by omega)
    rw [show pfx A B + (A.length - pfx A B - sfx A B) + sfx A B = A.length by omega] at this
    rw [this]
    push_cast
    rfl
  · rw [if_neg h, if_neg h, gm_many A B 0 (Int.le_refl _)]

set_option maxRecDepth 100000 in
set_option maxHeartbeats 8000000 in
theorem RefLength_any (v1 v2 : Value) (A B : List Int) (w : World) (h1 : Ints w .i64 v1 A) (h2 : Ints w .i64 v2 B) (hl1 : A.length ≤ 10000) (hl2 : B.length ≤ 10000) :
    Calls Try.prog 17 #[v1, v2] w fun e w' => e = .returned (.int .i64 (lenOf A B)) ∧ Below w.heap.size w w' := by
  obtain ⟨aA, cA, rfl, -, -, -⟩ := h1.at
  obtain ⟨aB, cB, rfl, -, -, -⟩ := h2.at
  have hmm := match_many A B
  have hml := matchOf_length A B
  go_enter Try.func17, Try.ntmps17
  go_wp2_with fail
  refine (RefMatch_any _ _ A B _ h1 h2 hl1 hl2).mono ?_
  rintro e w1 ⟨v, rfl, hI, b1⟩
  obtain ⟨am, cm, rfl, -, -, hat⟩ := hI.at
  generalize matchOf A B = m at hmm hml hat hI
  have Hat := Lib.hid hat; clear hat
  have Hmm := Lib.hid hmm; clear hmm
  have hmL : m.length ≤ 10000 := by omega
  clear hI hml h1 h2
  go_wp2_with fail
  go_loop [6, 7] (fun c i => ∃ k : Nat, k ≤ m.length ∧ i = .int .i64 k ∧ c = .int .i64 (many (m.take k) : Nat)) (fun _ i => m.length - (intOf i).toNat)
  case atStart => exact ⟨0, Nat.zero_le _, rfl, rfl⟩
  case round =>
    obtain ⟨k, hk, rfl, rfl⟩ := hrel
    by_cases hlt : k < m.length
    · obtain ⟨v, hv⟩ : ∃ v, Hid (m[k]? = some v) := ⟨m[k], Lib.hid (List.getElem?_eq_getElem hlt)⟩
      obtain ⟨b, o, rfl, l, e⟩ := Hat.out k v hv.out
      have hs := many_snoc hv.out
      have hbd : many (m.take k) ≤ 10000 := by
        unfold many
        have := List.length_filter_le (fun v => decide (0 ≤ v)) (m.take k)
        have h2 : (m.take k).length ≤ m.length := List.length_take_le' _ _
        omega
      have Hs := Lib.hid hs; clear hs
      generalize hz : many (m.take k) = z at hbd Hs ⊢
      clear hz
      by_cases hv0 : 0 ≤ v
      all_goals
        first
        | have hd : decide (0 ≤ v) = true := by simpa using hv0
        | have hd : decide (0 ≤ v) = false := by simpa using hv0
        go_wp2_with fail
        go_round
        case rel => exact ⟨k + 1, by omega, by go_num, by rw [Hs.out]; simp [hv0]⟩
        case measure => simp [intOf]; omega
    · obtain rfl : k = m.length := by omega
      rw [List.take_length]
      have hfin : (.int .i64 (many m : Nat) : Value) = .int .i64 (lenOf A B) := by rw [Hmm.out]
      rw [hfin]
      clear hfin
      go_wp2_with fail
      go_ret
      exact ⟨rfl, b1⟩

set_option maxRecDepth 100000 in
set_option maxHeartbeats 4000000 in
theorem RefPercent_any (v1 v2 : Value) (xs ys : List Int) (w : World) (h1 : Ints w .i64 v1 xs) (h2 : Ints w .i64 v2 ys) (hl1 : xs.length ≤ 10000) (hl2 : ys.length ≤ 10000) :
    Calls Try.prog 19 #[v1, v2] w fun e w' => e = .returned (.int .i64 (percentOf xs ys)) ∧ Below w.heap.size w w' := by
  obtain ⟨a1, c1, rfl, -, -, -⟩ := h1.at
  obtain ⟨a2, c2, rfl, -, -, -⟩ := h2.at
  have hbd := lenOf_bd xs ys
  by_cases h0 : xs.length + ys.length = 0
  · have hp : percentOf xs ys = 100 := if_pos h0
    rw [hp]
    have hd : ((xs.length : Int) + (ys.length : Int) == 0) = true := by simp; omega
    clear h0 hp
    go_enter Try.func19, Try.ntmps19
    go_wp2_with fail
    go_ret
    exact ⟨rfl, Below.refl _ _⟩
  · have hp : percentOf xs ys = 200 * lenOf xs ys / ((xs.length : Int) + ys.length) := if_neg h0
    rw [hp]
    have hd : ((xs.length : Int) + (ys.length : Int) == 0) = false := by simp; omega
    have hpos : 1 ≤ (xs.length : Int) + (ys.length : Int) := by omega
    clear hp
    go_enter Try.func19, Try.ntmps19
    go_wp2_with fail
    refine (RefLength_any _ _ xs ys _ h1 h2 hl1 hl2).mono ?_
    rintro e w1 ⟨rfl, b1⟩
    go_wp2_with fail
    go_ret
    exact ⟨rfl, b1⟩
end Go.Proofs.Ythligkdncddmpaa
