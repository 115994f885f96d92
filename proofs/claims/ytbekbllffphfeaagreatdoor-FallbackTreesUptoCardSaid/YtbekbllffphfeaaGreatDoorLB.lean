/-
  For the law LcsTurned: it returns true for any two rows of numbers and any number. No condition but what can be read.
-/
import Derived.Test.YtbekbllffphfeaaGreatDoorLA
namespace Go.Proofs.YtbekbllffphfeaaGreatDoor.L
open Go.RowKit

theorem ints_vals {W : World} {v : Value} {xs : List Int} : Ints W .i64 v xs ↔ Vals W v (xs.map (Value.int .i64)) := by
  constructor
  · rintro ⟨a, cap, rfl, hc, hm, h⟩
    refine ⟨a, cap, by simp, by simpa using hc, hm, ?_⟩
    rcases h with rfl | ⟨b, off, e, hb, hx⟩
    · left; rfl
    · right
      refine ⟨b, off, e, hb, fun j x hj => ?_⟩
      rw [List.getElem?_map] at hj
      cases hy : xs[j]? with
      | none => rw [hy] at hj; simp at hj
      | some y => rw [hy] at hj; simp at hj; subst hj; exact hx j y hy
  · rintro ⟨a, cap, rfl, hc, hm, h⟩
    refine ⟨a, cap, by simp, by simpa using hc, hm, ?_⟩
    rcases h with h | ⟨b, off, e, hb, hx⟩
    · left; simpa using h
    · right
      exact ⟨b, off, e, hb, fun j x hj => hx j _ (by rw [List.getElem?_map, hj]; rfl)⟩
theorem own_ints {W : World} {base n : Nat} {v : Value} {xs : List Int} (h : W.ownsRow base 3 1 v n (xs.map (Value.int .i64))) : Ints W .i64 v xs := ints_vals.2 (own_vals h)
theorem info3 : ∃ i0, Tryz.prog.info? 3 = some i0 ∧ i0.zero = some (.int .i64 0) ∧ i0.size = 1 ∧ i0.bytes = 8 := info_parts (by kernel_rfl)
end Go.Proofs.YtbekbllffphfeaaGreatDoor.L
/-
  For the laws of lcs: the document's table of lengths. Condition: at most 2,000 numbers each.
-/
namespace Go.Proofs.YtbekbllffphfeaaGreatDoor.L
open Go.RowKit

/-- A row of n + 1 values. -/
def rowV (n : Nat) (h : Nat → Value) : Array Value := ((List.range (n + 1)).map h).toArray
theorem rowV_get {n j : Nat} (h : Nat → Value) (hj : j ≤ n) : (rowV n h)[j]? = some (h j) := by
  simp [rowV, List.getElem?_range (show j < n + 1 by omega)]
theorem rowV_set {n j : Nat} (h : Nat → Value) (v : Value) : (rowV n h).setIfInBounds j v = rowV n (fun i => if i = j then v else h i) := by
  apply Array.ext
  · simp [rowV]
  · intro i h1 h2
    simp [rowV] at h1
    rw [Array.getElem_setIfInBounds (by simp [rowV]; omega)]
    simp [rowV]
    by_cases e : j = i
    · simp [e]
    · simp [e, Ne.symm e]
theorem rowV_congr {n : Nat} {f g : Nat → Value} (h : ∀ j, j ≤ n → f j = g j) : rowV n f = rowV n g := by
  unfold rowV
  congr 1
  apply List.map_congr_left
  intro j hj
  rw [h j (by have := List.mem_range.1 hj; omega)]
theorem rowV_made (n : Nat) : madeCells (Value.slice none 0 0).cells ((((n : Nat) : Int) + 1).toNat * 1) = rowV n (fun _ => .slice none 0 0) := by
  rw [show ((((n : Nat) : Int) + 1).toNat * 1) = n + 1 by omega]
  apply Array.ext
  · simp [rowV, madeCells]
  · intro i h1 h2
    simp [rowV, madeCells, Value.cells, Nat.mod_one]
theorem made_rowV (n : Nat) (hn : n ≤ 1000000) (V : World) : (Instr.makeSlice 124 (.int .i64 ((n : Int) + 1)) (.int .i64 ((n : Int) + 1))).run Tryz.prog V = .ok (sl V.heap.size n) (V.alloc (.cells (rowV n fun _ => .slice none 0 0) 128)) := by
  obtain ⟨i0, hi, hz0, hz1, hz2⟩ : ∃ i0, Tryz.prog.info? 128 = some i0 ∧ i0.zero = some (.slice none 0 0) ∧ i0.size = 1 ∧ i0.bytes = 24 := info_parts (by kernel_rfl)
  rw [run_make V 124 128 i0 _ Tryz.underlying124 hi hz0 .i64 .i64 _ _ (by omega) (by omega) (by rw [hz2]; omega) (by omega), hz1, rowV_made]
  simp [sl]

/-- Block T is a table whose first i rows are made: row j lies in block g j. -/
def Mk (W : World) (T n m i : Nat) : Prop :=
  ∃ g : Nat → Nat, RowAt W T 128 (rowV n fun j => if j < i then sl (g j) m else .slice none 0 0) ∧ (∀ j k, j < i → k < i → g j = g k → j = k) ∧ ∀ j, j < i → T < g j ∧ RowAt W (g j) 3 (rowOf m fun _ => 0)
/-- Block T is a table; row j holds F j. -/
def Rt (W : World) (T n m : Nat) (F : Nat → Nat → Int) : Prop :=
  ∃ g : Nat → Nat, RowAt W T 128 (rowV n fun j => sl (g j) m) ∧ (∀ j k, j ≤ n → k ≤ n → g j = g k → j = k) ∧ ∀ j, j ≤ n → T < g j ∧ RowAt W (g j) 3 (rowOf m (F j))
theorem Mk.done {W : World} {T n m : Nat} (h : Mk W T n m (n + 1)) : Rt W T n m fun _ _ => 0 := by
  obtain ⟨g, h1, h2, h3⟩ := h
  refine ⟨g, ?_, fun j k hj hk => h2 j k (by omega) (by omega), fun j hj => h3 j (by omega)⟩
  rw [rowV_congr (g := fun j => sl (g j) m) (fun j hj => if_pos (by omega))] at h1
  exact h1
theorem Mk.next {W : World} {T n m i : Nat} (h : Mk W T n m i) (_hi : i ≤ n) : Mk ((W.alloc (.cells (rowOf m fun _ => 0) 3)).setCell ⟨T, i, none⟩ (sl W.heap.size m)) T n m (i + 1) := by
  obtain ⟨g, h1, h2, h3⟩ := h
  have hT := h1.lt
  refine ⟨fun j => if j = i then W.heap.size else g j, ?_, fun j k hj hk => ?_, fun j hj => ?_⟩
  · have := (h1.alloc (.cells (rowOf m fun _ => 0) 3)).set i (sl W.heap.size m)
    rw [rowV_set] at this
    rw [rowV_congr (g := fun j => if j = i then sl W.heap.size m else if j < i then sl (g j) m else .slice none 0 0)]
    · exact this
    · intro j hj
      by_cases e : j = i
      · simp [e]
      · by_cases e2 : j < i
        · simp [e, e2, show j < i + 1 by omega]
        · simp [e, e2, show ¬ j < i + 1 by omega]
  · by_cases e : j = i
    · by_cases e' : k = i
      · intro _; omega
      · simp only [e, e', if_true, if_false]
        intro hh
        have := (h3 k (by omega)).2.lt
        omega
    · by_cases e' : k = i
      · simp only [e, e', if_true, if_false]
        intro hh
        have := (h3 j (by omega)).2.lt
        omega
      · simp only [e, e', if_false]
        exact h2 j k (by omega) (by omega)
  · by_cases e : j = i
    · simp only [e, if_true]
      exact ⟨hT, (RowAt.new W 3 _).other (by omega) _ _⟩
    · simp only [e, if_false]
      have h := h3 j (by omega)
      exact ⟨h.1, (h.2.alloc _).other (by omega) _ _⟩
theorem Rt.put {W : World} {T n m : Nat} {F : Nat → Nat → Int} (h : Rt W T n m F) {g i q : Nat} (hi : i ≤ n) (hc : W.cell? ⟨T, i, none⟩ = some (sl g m)) (v : Int) : Rt (W.setCell ⟨g, q, none⟩ (.int .i64 v)) T n m (fun a b => if a = i then (if b = q then v else F a b) else F a b) := by
  obtain ⟨g', h1, h2, h3⟩ := h
  obtain rfl : g' i = g := by
    have := (h1.cell (rowV_get _ hi)).symm.trans hc
    simp [sl] at this
    exact this
  refine ⟨g', h1.other (by have := (h3 i hi).1; omega) _ _, h2, fun j hj => ⟨(h3 j hj).1, ?_⟩⟩
  by_cases e : j = i
  · subst e
    have := (h3 j hj).2.set q (.int .i64 v)
    rw [rowOf_set] at this
    simpa using this
  · simp only [e, if_false]
    exact (h3 j hj).2.other (fun h => e (h2 j i hj hi h)) _ _
theorem Rt.cells {W : World} {T n m : Nat} {F : Nat → Nat → Int} (h : Rt W T n m F) {i : Nat} (hi : i ≤ n) : ∃ g, T < g ∧ W.cell? ⟨T, i, none⟩ = some (sl g m) ∧ (∀ q, W.frozen? ⟨g, q, none⟩ = false) ∧ ∀ q, q ≤ m → W.cell? ⟨g, q, none⟩ = some (.int .i64 (F i q)) := by
  obtain ⟨g, h1, h2, h3⟩ := h
  exact ⟨g i, (h3 i hi).1, h1.cell (rowV_get _ hi), (h3 i hi).2.frozen, fun q hq => (h3 i hi).2.cell (rowOf_get _ hq)⟩
theorem Rt.draws {W : World} {T n m : Nat} {F : Nat → Nat → Int} (h : Rt W T n m F) (q : Nat) : Rt (W.drewN q) T n m F := h

/-- What is filled: all rows behind i, and row i from q on; the last column is 0. -/
def Fin_ (F : Nat → Nat → Int) (A B : List Int) (i : Int) (q : Int) : Prop :=
  (∀ j b : Nat, i < j → j ≤ A.length → b ≤ B.length → F j b = E A B j b) ∧ (∀ j b : Nat, i = j → j ≤ A.length → q ≤ b → b ≤ B.length → F j b = E A B j b) ∧ ∀ j, j ≤ A.length → F j B.length = 0
theorem Fin_.start (A B : List Int) : Fin_ (fun _ _ => 0) A B ((A.length : Int) - 1) B.length := by
  refine ⟨fun j b h1 h2 h3 => (E_end_left (by omega)).symm, fun j b h1 _ h2 h3 => (E_end_right (by omega)).symm, fun _ _ => rfl⟩
theorem Fin_.down {F : Nat → Nat → Int} {A B : List Int} {i : Int} (h : Fin_ F A B i 0) : Fin_ F A B (i - 1) B.length := by
  obtain ⟨h1, h2, h3⟩ := h
  refine ⟨fun j b h4 h5 h6 => ?_, fun j b h4 hj h5 h6 => ?_, h3⟩
  · by_cases e : i = j
    · exact h2 j b e h5 (by omega) h6
    · exact h1 j b (by omega) h5 h6
  · obtain rfl : b = B.length := by omega
    rw [h3 j hj, E_end_right (Nat.le_refl _)]
theorem Fin_.step {F : Nat → Nat → Int} {A B : List Int} {i q : Nat} {v : Int} (h : Fin_ F A B i ((q : Int) + 1)) (hq : q < B.length) (hv : v = E A B i q) : Fin_ (fun a b => if a = i then (if b = q then v else F a b) else F a b) A B i q := by
  obtain ⟨h1, h2, h3⟩ := h
  refine ⟨fun j b h4 h5 h6 => ?_, fun j b h4 hjA h5 h6 => ?_, fun j hj => ?_⟩
  · show (if j = i then _ else _) = _
    rw [if_neg (by omega)]
    exact h1 j b h4 h5 h6
  · show (if j = i then _ else _) = _
    rw [if_pos (by omega)]
    by_cases e : b = q
    · obtain rfl : j = i := by omega
      rw [if_pos e, hv, e]
    · rw [if_neg e]
      exact h2 j b h4 hjA (by omega) h6
  · show (if j = i then _ else _) = _
    by_cases e : j = i
    · rw [if_pos e, if_neg (by omega)]
      exact h3 j hj
    · rw [if_neg e]
      exact h3 j hj

/-- What is so behind table. -/
def Tabled (w : World) (A B : List Int) (e : Ending) (w' : World) : Prop :=
  ∃ T, e = .returned (sl T A.length) ∧ w.heap.size ≤ T ∧ Rt w' T A.length B.length (E A B) ∧ Below w.heap.size w w'
theorem Rt.congr {W : World} {T n m : Nat} {F G : Nat → Nat → Int} (h : Rt W T n m F) (he : ∀ j b, j ≤ n → b ≤ m → F j b = G j b) : Rt W T n m G := by
  obtain ⟨g, h1, h2, h3⟩ := h
  refine ⟨g, h1, h2, fun j hj => ⟨(h3 j hj).1, ?_⟩⟩
  rw [← rowOf_congr (fun b hb => he j b hj hb)]
  exact (h3 j hj).2

set_option maxRecDepth 100000 in
set_option maxHeartbeats 16000000 in
theorem table_any (v1 v2 : Value) (A B : List Int) (w : World) (h1 : Ints w .i64 v1 A) (h2 : Ints w .i64 v2 B) (hl1 : A.length ≤ 2000) (hl2 : B.length ≤ 2000) :
    Calls Tryz.prog 105 #[v1, v2] w (Tabled w A B) := by
  obtain ⟨aA, cA, rfl, -, -, atA⟩ := h1.at
  obtain ⟨aB, cB, rfl, -, -, atB⟩ := h2.at
  have AtA := Lib.hid atA; clear atA
  have AtB := Lib.hid atB; clear atB
  have Hbd := Lib.hid (E_bd A B)
  have Hrow := Lib.hid (made_row B.length (by omega))
  clear h1 h2
  obtain ⟨T, hT⟩ : ∃ T, w.heap.size = T := ⟨_, rfl⟩
  obtain ⟨W2, hW2⟩ : ∃ W2, Hid (w.alloc (.cells (rowV A.length fun _ => .slice none 0 0) 128) = W2) := ⟨_, Lib.hid rfl⟩
  have hmk : (Instr.makeSlice 124 (.int .i64 ((A.length : Int) + 1)) (.int .i64 ((A.length : Int) + 1))).run Tryz.prog w = .ok (sl T A.length) W2 := by rw [made_rowV A.length (by omega), hW2.out, hT]
  have hM : Mk W2 T A.length B.length 0 := by
    refine ⟨fun _ => 0, ?_, fun j k h => by omega, fun j h => by omega⟩
    rw [← hW2.out, ← hT]
    exact RowAt.new _ _ _
  have bT : Below T w W2 := by rw [← hW2.out, ← hT]; exact (Below.refl _ w).alloc (Nat.le_refl _) _
  have hT0 : w.heap.size ≤ T := by omega
  clear hW2
  go_enter Tryz.func105, Tryz.ntmps105
  go_wp2_with fail
  clear hmk
  go_loopw [6] (fun c wr => ∃ i : Nat, i ≤ A.length + 1 ∧ c = .int .i64 i ∧ Mk wr T A.length B.length i ∧ Below T w wr) (fun c _ => A.length + 1 - (intOf c).toNat)
  case atStart => exact ⟨0, by omega, rfl, hM, bT⟩
  case round =>
    clear hM bT
    obtain ⟨i, hi, rfl, hM, hB⟩ := hrel
    by_cases hlt : i ≤ A.length
    · have hnext := Lib.hid (hM.next hlt)
      obtain ⟨g, r1, -, -⟩ := hM
      have hgT := r1.lt
      obtain ⟨W3, hW3⟩ : ∃ W3, Hid (wr.alloc (.cells (rowOf B.length fun _ => 0) 3) = W3) := ⟨_, Lib.hid rfl⟩
      have hmk : (Instr.makeSlice 128 (.int .i64 ((B.length : Int) + 1)) (.int .i64 ((B.length : Int) + 1))).run Tryz.prog wr = .ok (sl wr.heap.size B.length) W3 := by rw [Hrow.out, hW3.out]
      have r3 := r1.alloc (.cells (rowOf B.length fun _ => 0) 3)
      rw [hW3.out] at r3
      have c0 : W3.cell? ⟨T, i, none⟩ = some _ := r3.cell (rowV_get _ hlt)
      have f0 := r3.frozen i
      have Hnext : Hid (Mk (W3.setCell ⟨T, i, none⟩ (sl wr.heap.size B.length)) T A.length B.length (i + 1)) := by rw [← hW3.out]; exact hnext
      have HB3 : Hid (Below T w (W3.setCell ⟨T, i, none⟩ (sl wr.heap.size B.length))) := by rw [← hW3.out]; exact Lib.hid ((hB.alloc (by omega) _).setCell (p := ⟨T, i, none⟩) (Nat.le_refl _) _)
      have hd : decide (i ≤ A.length) = true := by simpa using hlt
      clear r1 r3 hnext hW3 hB
      go_wp2_with fail
      exact ⟨⟨i + 1, by omega, by go_num, Hnext.out, HB3.out⟩, by simp [intOf]; omega⟩
    · obtain rfl : i = A.length + 1 := by omega
      have hR := Lib.hid hM.done
      clear hM hlt hi
      have HB0 := Lib.hid hB; clear hB
      have hd : decide (A.length + 1 ≤ A.length) = false := by simp
      go_wp2_with fail
      go_loopw [7] (fun c wr => ∃ k : Int, -1 ≤ k ∧ k < A.length ∧ c = .int .i64 k ∧ (∃ F, Rt wr T A.length B.length F ∧ Fin_ F A B k B.length) ∧ Below T w wr) (fun c _ => (intOf c + 1).toNat)
      case atStart => exact ⟨_, by omega, by omega, rfl, ⟨_, hR.out, Fin_.start A B⟩, HB0.out⟩
      case round =>
        clear hR HB0
        obtain ⟨k, hk1, hk2, rfl, ⟨F, hR, hF⟩, hB⟩ := hrel
        by_cases hk : 0 ≤ k
        · obtain ⟨i, rfl⟩ := Int.eq_ofNat_of_zero_le hk
          have hiA : i < A.length := by omega
          obtain ⟨x, hx⟩ : ∃ x, Hid (A[i]? = some x) := ⟨A[i], Lib.hid (List.getElem?_eq_getElem hiA)⟩
          obtain ⟨bA, oA, rfl, lA, eA⟩ := AtA.out i x hx.out
          rw [hT] at lA
          have HeA := Lib.hid eA; clear eA
          have HR := Lib.hid hR; clear hR
          have HF := Lib.hid hF; clear hF
          have HBw := Lib.hid hB; clear hB
          go_wp2_with fail
          go_loopw [8] (fun c wr => ∃ l : Int, -1 ≤ l ∧ l < B.length ∧ c = .int .i64 l ∧ (∃ F, Rt wr T A.length B.length F ∧ Fin_ F A B i (l + 1)) ∧ Below T w wr) (fun c _ => (intOf c + 1).toNat)
          case atStart => exact ⟨_, by omega, by omega, rfl, ⟨_, HR.out, by rw [show (B.length : Int) - 1 + 1 = B.length by omega]; exact HF.out⟩, HBw.out⟩
          case round =>
            clear HR HF HBw
            obtain ⟨l, hl1', hl2', rfl, ⟨F, hR, hF⟩, hB⟩ := hrel
            by_cases hl : 0 ≤ l
            · obtain ⟨q, rfl⟩ := Int.eq_ofNat_of_zero_le hl
              have hqB : q < B.length := by omega
              obtain ⟨y, hy⟩ : ∃ y, Hid (B[q]? = some y) := ⟨B[q], Lib.hid (List.getElem?_eq_getElem hqB)⟩
              obtain ⟨bB, oB, rfl, lB, eB⟩ := AtB.out q y hy.out
              rw [hT] at lB
              have ca : wr.cell? ⟨bA, oA + i, none⟩ = some (.int .i64 x) := (hB.cell (p := ⟨bA, oA + i, none⟩) lA).trans HeA.out
              have cb : wr.cell? ⟨bB, oB + q, none⟩ = some (.int .i64 y) := (hB.cell (p := ⟨bB, oB + q, none⟩) lB).trans eB
              obtain ⟨g0, hg0, t0, f0, u0⟩ := hR.cells (show i ≤ A.length by omega)
              obtain ⟨g1, hg1, t1, _, u1⟩ := hR.cells (show i + 1 ≤ A.length by omega)
              have z0 := u0 q (by omega)
              have z1 := u0 (q + 1) (by omega)
              have z2 := u1 q (by omega)
              have z3 := u1 (q + 1) (by omega)
              have f1 := f0 q
              rw [hF.2.1 i (q + 1) rfl (by omega) (by omega) (by omega)] at z1
              rw [hF.1 (i + 1) q (by omega) (by omega) (by omega)] at z2
              rw [hF.1 (i + 1) (q + 1) (by omega) (by omega) (by omega)] at z3
              have s1 : IntKind.i64.wrap ((i : Int) + 1) = (i : Int) + 1 := IntWalk.i64_in _ (by omega)
              have s2 : IntKind.i64.wrap ((q : Int) + 1) = (q : Int) + 1 := IntWalk.i64_in _ (by omega)
              have d3 := Hbd.out (i + 1) (q + 1)
              have s3 : IntKind.i64.wrap (E A B (i + 1) (q + 1) + 1) = E A B (i + 1) (q + 1) + 1 := IntWalk.i64_in _ (by omega)
              have Hput := Lib.hid (fun d v => Rt.put (W := wr.drewN d) (hR.draws d) (show i ≤ A.length by omega) t0 (q := q) v)
              have HF := Lib.hid hF; clear hF
              have HBl := Lib.hid hB; clear hB
              have q1 : i < A.length + 1 := by omega
              have q2 : i + 1 < A.length + 1 := by omega
              have q3 : q < B.length + 1 := by omega
              have q4 : q + 1 < B.length + 1 := by omega
              clear u0 u1 f0 hR eB
              by_cases hxy : x = y
              · have hb : (x == y) = true := by simpa using hxy
                have hval := E_same hx.out (by rw [hxy]; exact hy.out)
                have Hval := Lib.hid hval; clear hval hxy
                go_wp2_with fail
                go_quiet (fail)
                go_wp2_with fail
                go_region
                all_goals
                  go_wp2_with fail
                  exact ⟨⟨(q : Int) - 1, by omega, by omega, rfl, ⟨_, Hput.out _ _, by rw [show (q : Int) - 1 + 1 = q by omega]; exact Fin_.step HF.out hqB Hval.out.symm⟩, (below_draws HBl.out _).setCell (p := ⟨g0, q, none⟩) (Nat.le_of_lt hg0) _⟩, by simp [intOf]⟩
              · have hb : (x == y) = false := by simpa using hxy
                have hval := E_diff hx.out hy.out hxy
                have Hval := Lib.hid hval; clear hval hxy
                go_wp2_with fail
                go_quiet (fail)
                go_wp2_with fail
                go_region
                all_goals
                  go_wp2_with fail
                  exact ⟨⟨(q : Int) - 1, by omega, by omega, rfl, ⟨_, Hput.out _ _, by rw [show (q : Int) - 1 + 1 = q by omega]; exact Fin_.step HF.out hqB (by rw [Hval.out]; split <;> omega)⟩, (below_draws HBl.out _).setCell (p := ⟨g0, q, none⟩) (Nat.le_of_lt hg0) _⟩, by simp [intOf]⟩
            · obtain rfl : l = -1 := by omega
              have hF2 := Lib.hid (Fin_.down (i := i) hF)
              have hR2 := Lib.hid hR
              clear hF hR hl hl1' hl2'
              go_wp2_with fail
              exact ⟨⟨(i : Int) - 1, by omega, by omega, rfl, ⟨F, hR2.out, hF2.out⟩, hB⟩, by simp [intOf]⟩
        · obtain rfl : k = -1 := by omega
          have hfin := Lib.hid (hR.congr (G := E A B) (fun j b hj hb => hF.1 j b (by omega) hj hb))
          have hBw := hB.mono hT0
          clear hR hF hk hk1 hk2 hB hT
          go_wp2_with fail
          go_ret
          exact ⟨T, rfl, hT0, hfin.out, hBw⟩
end Go.Proofs.YtbekbllffphfeaaGreatDoor.L
/-
  For the laws of lcs: the document's Match, Length and Percent. Condition: at most 1,000,000 numbers each.
-/
namespace Go.Proofs.YtbekbllffphfeaaGreatDoor.L
open Go.RowKit

/-- The row that the document's Match fills: n numbers f j, at the head of a block of the call's own, which has room for c. -/
def OutW (W : World) (base : Nat) (ao : Option Addr) (n c : Nat) (f : Nat → Int) : Prop :=
  n ≤ c ∧ c ≤ maxLen ∧ (n = 0 ∨ ∃ O : Nat, ao = some ⟨O, 0, none⟩ ∧ base ≤ O ∧ ∃ cur : Array Value, RowAt W O 3 cur ∧ ∀ j, j < n → cur[j]? = some (.int .i64 (f j)))
theorem OutW.of_own {W : World} {base n : Nat} {v : Value} {x : Int} (h : W.ownsRow base 3 1 v n ((List.replicate n x).map (Value.int .i64))) : ∃ ao c, v = .slice ao n c ∧ OutW W base ao n c (fun _ => x) := by
  rcases h.2 with ⟨rfl, rfl⟩ | ⟨g, cap, cur, rfl, hg, hgg, h1, h2, h3, h4⟩
  · exact ⟨none, 0, rfl, Nat.le_refl _, Nat.zero_le _, .inl rfl⟩
  · refine ⟨_, cap, rfl, h1, h2, .inr ⟨g, rfl, hg, cur, hgg, fun j hj => ?_⟩⟩
    have h5 := congrArg (fun l => l[j]?) h4
    simp only [Nat.mul_one] at h5
    rw [List.getElem?_take_of_lt hj] at h5
    simpa [hj] using h5
theorem OutW.ints {W : World} {base n c : Nat} {ao : Option Addr} {f : Nat → Int} {l : List Int} (h : OutW W base ao n c f) (hl : l.length = n) (hf : ∀ j x, l[j]? = some x → f j = x) : Ints W .i64 (.slice ao n c) l := by
  subst hl
  obtain ⟨h1, h2, h3⟩ := h
  refine ⟨ao, c, rfl, h1, h2, ?_⟩
  rcases h3 with h3 | ⟨O, rfl, _, cur, hr, hc⟩
  · left; exact List.eq_nil_of_length_eq_zero h3
  · right
    refine ⟨O, 0, rfl, hr.lt, fun j x hj => ?_⟩
    rw [Nat.zero_add, hr.cell (hc j (List.getElem?_eq_some_iff.1 hj).1), hf j x hj]
theorem OutW.congr {W : World} {base n c : Nat} {ao : Option Addr} {f g : Nat → Int} (h : OutW W base ao n c f) (he : ∀ j, j < n → f j = g j) : OutW W base ao n c g := by
  obtain ⟨h1, h2, h3⟩ := h
  refine ⟨h1, h2, ?_⟩
  rcases h3 with h3 | ⟨O, e, hb, cur, hr, hc⟩
  · exact .inl h3
  · exact .inr ⟨O, e, hb, cur, hr, fun j hj => by rw [hc j hj, he j hj]⟩
theorem OutW.below {W W' : World} {base n c : Nat} {ao : Option Addr} {f : Nat → Int} (h : OutW W base ao n c f) (hb : Below W.heap.size W W') : OutW W' base ao n c f := by
  obtain ⟨h1, h2, h3⟩ := h
  refine ⟨h1, h2, ?_⟩
  rcases h3 with h3 | ⟨O, e, hb', cur, hr, hc⟩
  · exact .inl h3
  · exact .inr ⟨O, e, hb', cur, hr.later hb, hc⟩
theorem OutW.draws {W : World} {base n c : Nat} {ao : Option Addr} {f : Nat → Int} (h : OutW W base ao n c f) (q : Nat) : OutW (W.drewN q) base ao n c f := h
theorem OutW.open_ {W : World} {base n c i : Nat} {ao : Option Addr} {f : Nat → Int} (h : OutW W base ao n c f) (hi : i < n) : ∃ O, ao = some ⟨O, 0, none⟩ ∧ base ≤ O ∧ O < W.heap.size ∧ (∃ v0, W.cell? ⟨O, i, none⟩ = some v0) ∧ W.frozen? ⟨O, i, none⟩ = false := by
  obtain ⟨h1, h2, h3⟩ := h
  rcases h3 with h3 | ⟨O, e, hb', cur, hr, hc⟩
  · omega
  · exact ⟨O, e, hb', hr.lt, ⟨_, hr.cell (hc i hi)⟩, hr.frozen i⟩
theorem OutW.put {W : World} {base n c i O : Nat} {f : Nat → Int} (h : OutW W base (some ⟨O, 0, none⟩) n c f) (hi : i < n) (v : Int) : OutW (W.setCell ⟨O, i, none⟩ (.int .i64 v)) base (some ⟨O, 0, none⟩) n c (fun j => if j = i then v else f j) := by
  obtain ⟨h1, h2, h3⟩ := h
  refine ⟨h1, h2, ?_⟩
  rcases h3 with h3 | ⟨O', e, hb', cur, hr, hc⟩
  · omega
  · have e' : O = O' := by injection e with e; injection e
    subst e'
    refine .inr ⟨O, rfl, hb', _, hr.set i _, fun j hj => ?_⟩
    have hsz : i < cur.size := (Array.getElem?_eq_some_iff.1 (hc i hi)).1
    by_cases e : j = i
    · subst e
      simp [hsz]
    · rw [Array.getElem?_setIfInBounds, if_neg (Ne.symm e), hc j hj]
      simp [e]
theorem Rt.other {W : World} {T n m O : Nat} {F : Nat → Nat → Int} (h : Rt W T n m F) (hO : O < T) (j : Nat) (v : Value) : Rt (W.setCell ⟨O, j, none⟩ v) T n m F := by
  obtain ⟨g, h1, h2, h3⟩ := h
  exact ⟨g, h1.other (by omega) _ _, h2, fun j hj => ⟨(h3 j hj).1, (h3 j hj).2.other (by have := (h3 j hj).1; omega) _ _⟩⟩

theorem sfx_get {A B : List Int} {j : Nat} (h : j < sfx A B) : A[A.length - 1 - j]? = B[B.length - 1 - j]? := by
  have hs := sfx_le A B
  have := pfx_run (a := (A.drop (pfx A B)).reverse) (b := (B.drop (pfx A B)).reverse) (k := j) h
  rwa [rev_drop_get _ _ _ (by omega), rev_drop_get _ _ _ (by omega)] at this
theorem sfx_stop {A B : List Int} (h1 : sfx A B + pfx A B < A.length) (h2 : sfx A B + pfx A B < B.length) : A[A.length - 1 - sfx A B]? ≠ B[B.length - 1 - sfx A B]? := by
  have := pfx_stop (a := (A.drop (pfx A B)).reverse) (b := (B.drop (pfx A B)).reverse) (by show sfx A B < _; simp; omega) (by show sfx A B < _; simp; omega)
  rwa [show pfx (A.drop (pfx A B)).reverse (B.drop (pfx A B)).reverse = sfx A B from rfl, rev_drop_get _ _ _ (by omega), rev_drop_get _ _ _ (by omega)] at this

/-- What is so behind a call that gives a row of numbers. -/
def GivesI (w : World) (l : List Int) (e : Ending) (w' : World) : Prop := ∃ v, e = .returned v ∧ Ints w' .i64 v l ∧ Below w.heap.size w w'

set_option maxRecDepth 100000 in
set_option maxHeartbeats 16000000 in
theorem RefMatch_long (v1 v2 : Value) (A B : List Int) (w : World) (h1 : Ints w .i64 v1 A) (h2 : Ints w .i64 v2 B) (hl1 : A.length ≤ 10000) (hl2 : B.length ≤ 10000) (hl : 2000 < A.length ∨ 2000 < B.length) :
    Calls Tryz.prog 86 #[v1, v2] w (GivesI w (matchOf A B)) := by
  obtain ⟨aA, cA, rfl, -, -, atA⟩ := h1.at
  obtain ⟨aB, cB, rfl, -, -, atB⟩ := h2.at
  have AtA := Lib.hid atA; clear atA
  have AtB := Lib.hid atB; clear atB
  have HA := Lib.hid h1; clear h1
  have HB := Lib.hid h2; clear h2
  obtain ⟨i0, hi0, hz0, hz1, hz2⟩ := info3
  have hml := matchOf_length A B
  have Hl := Lib.hid hl; clear hl
  go_enter Tryz.func86, Tryz.ntmps86
  go_wp2_with fail
  go_loopw [5, 6] (fun p c wr => ∃ i : Nat, i ≤ A.length ∧ c = .int .i64 i ∧ wr.ownsRow w.heap.size 3 1 p i ((List.replicate i (-1)).map (Value.int .i64)) ∧ Below w.heap.size w wr) (fun _ c _ => A.length - (intOf c).toNat)
  case atStart => exact ⟨0, Nat.zero_le _, rfl, World.ownsRow_nil _ _ _ _, Below.refl _ _⟩
  case round =>
    obtain ⟨i, hi, rfl, hown, hB⟩ := hrel
    by_cases hlt : i < A.length
    · have hbs := hB.size
      go_wp2_with (at_builtin; refine wpList_append_own _ rfl _ _ 128 rfl w.heap.size 3 i0 (.int .i64 0) 1 8 Tryz.underlying128 hi0 hz0 hz1 hz2 rfl (by decide) _ _ _ rfl (hown.alloc _) ⟨wr.heap.size, 0, none⟩ 1 1 [.int .i64 (-1)] rfl rfl (cell_one_new _ _ _) (by simp [Value.oneCell']) (by unfold maxLen; omega) (by omega) (by simp; omega) ?_; intro v' w2 hown' hgrow _)
      have hnew : w2.ownsRow w.heap.size 3 1 v' (i + 1) ((List.replicate (i + 1) (-1)).map (Value.int .i64)) := by
        rw [List.replicate_succ', List.map_append]
        exact hown'
      refine ⟨⟨i + 1, by omega, by go_num, hnew, (hB.alloc hbs _).grown hgrow (by simp; omega) (fun k hk => (hown.lt k hk).1)⟩, by simp [intOf]; omega⟩
    · obtain rfl : i = A.length := by omega
      obtain ⟨ao, cc, hform, hW⟩ := OutW.of_own hown
      subst hform
      obtain ⟨w2, rfl⟩ : ∃ w2 : World, w2 = wr := ⟨_, rfl⟩
      clear hown hlt hi
      obtain ⟨n, hn⟩ : ∃ n, Hid (A.length = n) := ⟨_, Lib.hid rfl⟩
      have hl := Hl.out
      have hm : matchOf A B = (List.range A.length).map (longAt A.length B.length (pfx A B) (sfx A B)) := if_pos hl
      have Hm := Lib.hid hm; clear hm
      have hpl := pfx_le A B
      have hsl := sfx_le A B
      obtain ⟨p, hp⟩ : ∃ p, Hid (pfx A B = p) := ⟨_, Lib.hid rfl⟩
      obtain ⟨s, hs⟩ : ∃ s, Hid (sfx A B = s) := ⟨_, Lib.hid rfl⟩
      rw [hp.out] at hpl hsl
      rw [hs.out] at hsl
      have HW0 := Lib.hid (hW.congr (g := fun j => if j < 0 then (j : Int) else -1) (fun j _ => by simp))
      clear hW
      by_cases hl3 : 2000 < A.length
      all_goals
        first
        | have hd1 : decide ((2000 : Int) < (A.length : Int)) = true := by simp; omega
        | (have hd1 : decide ((2000 : Int) < (A.length : Int)) = false := by simp; omega
           have hd2 : decide ((2000 : Int) < (B.length : Int)) = true := by simp; omega)
        clear hl hl3
        go_wp2_with fail
        go_loopw [7] (fun c wr => ∃ k : Nat, k ≤ p ∧ c = .int .i64 k ∧ OutW wr w.heap.size ao A.length cc (fun j => if j < k then (j : Int) else -1) ∧ Below w.heap.size w wr) (fun c _ => p - (intOf c).toNat)
        case atStart => exact ⟨0, Nat.zero_le _, rfl, HW0.out, hB⟩
        case round =>
          clear HW0 hB
          obtain ⟨k, hk, rfl, hW, hB⟩ := hrel
          by_cases hlt : k < p
          · have hkA : k < A.length := by omega
            have hkB : k < B.length := by omega
            obtain ⟨x, hx⟩ : ∃ x, A[k]? = some x := ⟨A[k], List.getElem?_eq_getElem hkA⟩
            have hy : B[k]? = some x := by rw [← pfx_run (by rw [hp.out]; exact hlt)]; exact hx
            obtain ⟨bA, oA, rfl, lA, eA⟩ := AtA.out k x hx
            obtain ⟨bB, oB, rfl, lB, eB⟩ := AtB.out k x hy
            have ca : wr.cell? ⟨bA, oA + k, none⟩ = some (.int .i64 x) := (hB.cell (p := ⟨bA, oA + k, none⟩) lA).trans eA
            have cb : wr.cell? ⟨bB, oB + k, none⟩ = some (.int .i64 x) := (hB.cell (p := ⟨bB, oB + k, none⟩) lB).trans eB
            obtain ⟨O, rfl, hO, hOl, ⟨v0, c0⟩, f0⟩ := hW.open_ hkA
            have Hput := Lib.hid (fun q => OutW.congr (OutW.put (W := wr.drewN q) (hW.draws q) hkA (k : Int)) (g := fun j => if j < k + 1 then (j : Int) else -1) (fun j hj => by
              by_cases e : j = k
              · subst e; simp
              · by_cases e2 : j < k
                · simp [e, e2, show j < k + 1 by omega]
                · simp [e, e2, show ¬ j < k + 1 by omega]))
            have hd3 : decide (k < A.length) = true := by simpa using hkA
            have hd4 : decide (k < B.length) = true := by simpa using hkB
            have HBl := Lib.hid hB; clear hB
            clear eA eB hx hy hW
            go_wp2_with fail
            go_quiet (fail)
            go_wp2_with fail
            exact ⟨⟨k + 1, by omega, by go_num, Hput.out _, (below_draws HBl.out _).setCell (p := ⟨O, k, none⟩) hO _⟩, by simp [intOf]; omega⟩
          · obtain rfl : k = p := by omega
            have HW1 := Lib.hid (fun q => OutW.congr (hW.draws q) (g := tailAt A.length B.length k 0) (fun j hj => by unfold tailAt; rw [if_neg (show ¬ A.length - 0 ≤ j by omega)]))
            have HBl := Lib.hid hB; clear hB
            clear hW hlt
            by_cases hin : k < A.length ∧ k < B.length
            case' pos =>
              obtain ⟨hkA, hkB⟩ := hin
              obtain ⟨x, hx⟩ : ∃ x, A[k]? = some x := ⟨A[k], List.getElem?_eq_getElem hkA⟩
              obtain ⟨y, hy⟩ : ∃ y, B[k]? = some y := ⟨B[k], List.getElem?_eq_getElem hkB⟩
              have hne := pfx_stop (a := A) (b := B) (by rw [hp.out]; exact hkA) (by rw [hp.out]; exact hkB)
              rw [hp.out, hx, hy] at hne
              have hb : (x == y) = false := by rw [beq_eq_false_iff_ne]; intro e; exact hne (by rw [e])
              obtain ⟨bA, oA, ea, lA, eA⟩ := AtA.out k x hx
              obtain ⟨bB, oB, eb, lB, eB⟩ := AtB.out k y hy
              have ca : wr.cell? ⟨bA, oA + k, none⟩ = some (.int .i64 x) := (HBl.out.cell (p := ⟨bA, oA + k, none⟩) lA).trans eA
              have cb : wr.cell? ⟨bB, oB + k, none⟩ = some (.int .i64 y) := (HBl.out.cell (p := ⟨bB, oB + k, none⟩) lB).trans eB
              have hd3 : decide (k < A.length) = true := by simpa using hkA
              have hd4 : decide (k < B.length) = true := by simpa using hkB
              clear hne hx hy eA eB
              subst ea eb
              go_wp2_with fail
              go_quiet (fail)
              clear hd3 hd4 hb ca cb
              go_wp2_with fail
            case' neg =>
              by_cases hkA : k < A.length
              case' pos =>
                have hd3 : decide (k < A.length) = true := by simpa using hkA
                have hd4 : decide (k < B.length) = false := by simp; omega
                clear hin hkA
                go_wp2_with fail
                go_quiet (fail)
                clear hd3 hd4
                go_wp2_with fail
              case' neg =>
                have hd3 : decide (k < A.length) = false := by simpa using hkA
                clear hin hkA
                go_wp2_with fail
                go_quiet (fail)
                clear hd3
                go_wp2_with fail
            all_goals
              obtain ⟨V, hV⟩ : ∃ V, Hid (wr.drewN nq = V) := ⟨_, Lib.hid rfl⟩
              have HWV : Hid (OutW V w.heap.size ao A.length cc (tailAt A.length B.length k 0)) := by rw [← hV.out]; exact Lib.hid (HW1.out nq)
              have HBV : Hid (Below w.heap.size w V) := by rw [← hV.out]; exact Lib.hid (below_draws HBl.out nq)
              rw [hV.out]
              clear hV HW1 HBl
              go_loopw [8] (fun c wr => ∃ j : Nat, j ≤ s ∧ c = .int .i64 j ∧ OutW wr w.heap.size ao A.length cc (tailAt A.length B.length k j) ∧ Below w.heap.size w wr) (fun c _ => s - (intOf c).toNat)
              case atStart => exact ⟨0, Nat.zero_le _, rfl, HWV.out, HBV.out⟩
              case round =>
                clear HWV HBV
                obtain ⟨j, hj, rfl, hW, hB⟩ := hrel
                have g1 : IntKind.i64.wrap ((A.length : Int) - (k : Int)) = (A.length : Int) - k := IntWalk.i64_in _ (by omega)
                have g2 : IntKind.i64.wrap ((B.length : Int) - (k : Int)) = (B.length : Int) - k := IntWalk.i64_in _ (by omega)
                by_cases hlt2 : j < s
                · obtain ⟨a, ha⟩ : ∃ a, A.length - 1 - j = a := ⟨_, rfl⟩
                  obtain ⟨b, hb⟩ : ∃ b, B.length - 1 - j = b := ⟨_, rfl⟩
                  have haA : a < A.length := by omega
                  have hbB : b < B.length := by omega
                  obtain ⟨x, hx⟩ : ∃ x, A[a]? = some x := ⟨A[a], List.getElem?_eq_getElem haA⟩
                  have hy : B[b]? = some x := by rw [← hb, ← sfx_get (by rw [hs.out]; exact hlt2), ha]; exact hx
                  obtain ⟨bA, oA, ea, lA, eA⟩ := AtA.out a x hx
                  obtain ⟨bB, oB, eb, lB, eB⟩ := AtB.out b x hy
                  cases ea
                  cases eb
                  have ca : wr.cell? ⟨bA, oA + a, none⟩ = some (.int .i64 x) := (hB.cell (p := ⟨bA, oA + a, none⟩) lA).trans eA
                  have cb : wr.cell? ⟨bB, oB + b, none⟩ = some (.int .i64 x) := (hB.cell (p := ⟨bB, oB + b, none⟩) lB).trans eB
                  obtain ⟨O, eo, hO, hOl, ⟨v0, c0⟩, f0⟩ := hW.open_ haA
                  subst eo
                  have hval : ((B.length : Int) - 1 - (j : Int)) = (b : Int) := by omega
                  have hidx : ((A.length : Int) - 1 - (j : Int)) = (a : Int) := by omega
                  have Hput := Lib.hid (fun q => OutW.congr (OutW.put (W := wr.drewN q) (hW.draws q) haA (b : Int)) (g := tailAt A.length B.length k (j + 1)) (fun i hi => by
                    show (if i = a then (b : Int) else tailAt A.length B.length k j i) = _
                    unfold tailAt
                    by_cases e : i = a
                    · rw [if_pos e, if_pos (by omega)]; omega
                    · rw [if_neg e]
                      by_cases e2 : A.length - j ≤ i
                      · rw [if_pos e2, if_pos (by omega)]
                      · rw [if_neg e2, if_neg (show ¬ A.length - (j + 1) ≤ i by omega)]))
                  have i1 : IntKind.i64.wrap ((A.length : Int) - 1) = (A.length : Int) - 1 := IntWalk.i64_in _ (by omega)
                  have i2 : IntKind.i64.wrap ((A.length : Int) - 1 - (j : Int)) = (a : Int) := by rw [IntWalk.i64_in _ (by omega)]; omega
                  have j1 : IntKind.i64.wrap ((B.length : Int) - 1) = (B.length : Int) - 1 := IntWalk.i64_in _ (by omega)
                  have j2 : IntKind.i64.wrap ((B.length : Int) - 1 - (j : Int)) = (b : Int) := by rw [IntWalk.i64_in _ (by omega)]; omega
                  have d1 : decide ((j : Int) < (A.length : Int) - (k : Int)) = true := by simp; omega
                  have d2 : decide ((j : Int) < (B.length : Int) - (k : Int)) = true := by simp; omega
                  have HBl := Lib.hid hB; clear hB
                  clear eA eB hx hy hW ha hb
                  go_wp2_with fail
                  go_quiet (fail)
                  clear g1 g2 i1 i2 j1 j2 d1 d2
                  go_wp2_with fail
                  exact ⟨⟨j + 1, by omega, by go_num, Hput.out _, (below_draws HBl.out _).setCell (p := ⟨O, a, none⟩) hO _⟩, by simp [intOf]; omega⟩
                · obtain rfl : j = s := by omega
                  have hfin := Lib.hid (fun q => OutW.ints (l := matchOf A B) (hW.draws q) hml (fun i x hi => by
                    rw [Hm.out, List.getElem?_map] at hi
                    have hiA : i < A.length := by
                      by_cases e : i < A.length
                      · exact e
                      · rw [List.getElem?_eq_none (by simp; omega)] at hi; simp at hi
                    rw [List.getElem?_range hiA] at hi
                    simp at hi
                    rw [← hi, hp.out, hs.out]
                    unfold tailAt longAt
                    by_cases e : i < k
                    · rw [if_neg (show ¬ A.length - j ≤ i by omega), if_pos e, if_pos e]
                    · by_cases e2 : A.length - j ≤ i
                      · rw [if_pos e2, if_neg e, if_pos e2]
                      · rw [if_neg e2, if_neg e, if_neg e, if_neg e2]))
                  have HBl := Lib.hid hB; clear hB
                  by_cases hin : j + k < A.length ∧ j + k < B.length
                  · obtain ⟨hjA, hjB⟩ := hin
                    obtain ⟨a, ha⟩ : ∃ a, A.length - 1 - j = a := ⟨_, rfl⟩
                    obtain ⟨b, hb⟩ : ∃ b, B.length - 1 - j = b := ⟨_, rfl⟩
                    have haA : a < A.length := by omega
                    have hbB : b < B.length := by omega
                    obtain ⟨x, hx⟩ : ∃ x, A[a]? = some x := ⟨A[a], List.getElem?_eq_getElem haA⟩
                    obtain ⟨y, hy⟩ : ∃ y, B[b]? = some y := ⟨B[b], List.getElem?_eq_getElem hbB⟩
                    have hne := sfx_stop (A := A) (B := B) (by rw [hp.out, hs.out]; exact hjA) (by rw [hp.out, hs.out]; exact hjB)
                    rw [hs.out, ha, hb, hx, hy] at hne
                    have hbq : (x == y) = false := by rw [beq_eq_false_iff_ne]; intro e; exact hne (by rw [e])
                    obtain ⟨bA, oA, ea, lA, eA⟩ := AtA.out a x hx
                    obtain ⟨bB, oB, eb, lB, eB⟩ := AtB.out b y hy
                    cases ea
                    cases eb
                    have ca : wr.cell? ⟨bA, oA + a, none⟩ = some (.int .i64 x) := (HBl.out.cell (p := ⟨bA, oA + a, none⟩) lA).trans eA
                    have cb : wr.cell? ⟨bB, oB + b, none⟩ = some (.int .i64 y) := (HBl.out.cell (p := ⟨bB, oB + b, none⟩) lB).trans eB
                    have i1 : IntKind.i64.wrap ((A.length : Int) - 1) = (A.length : Int) - 1 := IntWalk.i64_in _ (by omega)
                    have i2 : IntKind.i64.wrap ((A.length : Int) - 1 - (j : Int)) = (a : Int) := by rw [IntWalk.i64_in _ (by omega)]; omega
                    have j1 : IntKind.i64.wrap ((B.length : Int) - 1) = (B.length : Int) - 1 := IntWalk.i64_in _ (by omega)
                    have j2 : IntKind.i64.wrap ((B.length : Int) - 1 - (j : Int)) = (b : Int) := by rw [IntWalk.i64_in _ (by omega)]; omega
                    have d1 : decide ((j : Int) < (A.length : Int) - (k : Int)) = true := by simp; omega
                    have d2 : decide ((j : Int) < (B.length : Int) - (k : Int)) = true := by simp; omega
                    clear hne hx hy eA eB ha hb hW
                    go_wp2_with fail
                    go_quiet (fail)
                    clear g1 g2 i1 i2 j1 j2 d1 d2 hbq ca cb
                    go_wp2_with fail
                    go_ret
                    exact ⟨_, rfl, hfin.out _, below_draws HBl.out _⟩
                  · by_cases hjA : j + k < A.length
                    · have d1 : decide ((j : Int) < (A.length : Int) - (k : Int)) = true := by simp; omega
                      have d2 : decide ((j : Int) < (B.length : Int) - (k : Int)) = false := by simp; omega
                      clear hin hjA hW
                      go_wp2_with fail
                      go_quiet (fail)
                      clear g1 g2 d1 d2
                      go_wp2_with fail
                      go_ret
                      exact ⟨_, rfl, hfin.out _, below_draws HBl.out _⟩
                    · have d1 : decide ((j : Int) < (A.length : Int) - (k : Int)) = false := by simp; omega
                      clear hin hjA hW
                      go_wp2_with fail
                      go_quiet (fail)
                      clear g1 g2 d1
                      go_wp2_with fail
                      go_ret
                      exact ⟨_, rfl, hfin.out _, below_draws HBl.out _⟩
end Go.Proofs.YtbekbllffphfeaaGreatDoor.L
/-
  For the laws of lcs: the document's Match where a table is made; its Length and Percent. Condition: at most 1,000,000 numbers each.
-/
namespace Go.Proofs.YtbekbllffphfeaaGreatDoor.L
open Go.RowKit

/-- The last loop of the document's Match: where it stands, and what is told so far. -/
def Walk2 (W : World) (base : Nat) (ao : Option Addr) (c T i k : Nat) (A B : List Int) : Prop :=
  i ≤ A.length ∧ k ≤ B.length ∧ (∀ O, ao = some ⟨O, 0, none⟩ → 0 < A.length → O < T) ∧ Rt W T A.length B.length (E A B) ∧
    ∃ pre : List Int, pre.length = i ∧ gm A B 0 = pre ++ gm (A.drop i) (B.drop k) k ∧ OutW W base ao A.length c (fun j => (pre ++ List.replicate (A.length - i) (-1))[j]?.getD 0)
theorem Walk2.same {W : World} {base c T i k O : Nat} {A B : List Int} {x : Int} (h : Walk2 W base (some ⟨O, 0, none⟩) c T i k A B) (hx : A[i]? = some x) (hy : B[k]? = some x) : Walk2 (W.setCell ⟨O, i, none⟩ (.int .i64 (k : Int))) base (some ⟨O, 0, none⟩) c T (i + 1) (k + 1) A B := by
  obtain ⟨a1, a2, a5, hT, pre, b1, b2, b3⟩ := h
  have l1 := (List.getElem?_eq_some_iff.1 hx).1
  have l2 := (List.getElem?_eq_some_iff.1 hy).1
  refine ⟨by omega, by omega, a5, hT.other (a5 O rfl (by omega)) _ _, pre ++ [(k : Int)], by simp [b1], ?_, ?_⟩
  · rw [b2, drop_get hx, drop_get hy, gm_same]
    simp
  · refine (b3.put l1 (k : Int)).congr fun j hj => ?_
    show (if j = i then (k : Int) else _) = _
    by_cases e : j = i
    · subst e
      rw [if_pos rfl, List.append_assoc, List.getElem?_append_right (by omega)]
      simp [b1]
    · rw [if_neg e]
      by_cases e2 : j < i
      · rw [List.getElem?_append_left (by omega), List.append_assoc, List.getElem?_append_left (by omega)]
      · rw [List.getElem?_append_right (by omega), List.getElem?_append_right (by simp; omega), List.getElem?_replicate, List.getElem?_replicate, if_pos (by omega), if_pos (by simp; omega)]
theorem Walk2.skip {W : World} {base c T i k : Nat} {ao : Option Addr} {A B : List Int} {x y : Int} (h : Walk2 W base ao c T i k A B) (hx : A[i]? = some x) (hy : B[k]? = some y) (hne : x ≠ y) (hl : lc (A.drop i) (B.drop (k + 1)) ≤ lc (A.drop (i + 1)) (B.drop k)) : Walk2 W base ao c T (i + 1) k A B := by
  obtain ⟨a1, a2, a5, hT, pre, b1, b2, b3⟩ := h
  have l1 := (List.getElem?_eq_some_iff.1 hx).1
  refine ⟨by omega, a2, a5, hT, pre ++ [(-1 : Int)], by simp [b1], ?_, ?_⟩
  · rw [drop_get hx, drop_get hy] at b2
    rw [drop_get hx, drop_get hy] at hl
    rw [b2, gm_skip hne _ _ _ hl, drop_get hy]
    simp
  · obtain ⟨d, hd⟩ : ∃ d, A.length - i = d + 1 := ⟨A.length - i - 1, by omega⟩
    rw [hd, List.replicate_succ] at b3
    rw [show A.length - (i + 1) = d by omega]
    simpa using b3
theorem Walk2.next {W : World} {base c T i k : Nat} {ao : Option Addr} {A B : List Int} {x y : Int} (h : Walk2 W base ao c T i k A B) (hx : A[i]? = some x) (hy : B[k]? = some y) (hne : x ≠ y) (hl : ¬ lc (A.drop i) (B.drop (k + 1)) ≤ lc (A.drop (i + 1)) (B.drop k)) : Walk2 W base ao c T i (k + 1) A B := by
  obtain ⟨a1, a2, a5, hT, pre, b1, b2, b3⟩ := h
  have l2 := (List.getElem?_eq_some_iff.1 hy).1
  refine ⟨a1, by omega, a5, hT, pre, b1, ?_, b3⟩
  rw [drop_get hx, drop_get hy] at b2
  rw [drop_get hx, drop_get hy] at hl
  rw [b2, gm_next hne _ _ _ hl, drop_get hx]
  push_cast
  rfl
theorem Walk2.done {W : World} {base c T i k : Nat} {ao : Option Addr} {A B : List Int} (h : Walk2 W base ao c T i k A B) (he : ¬ (i < A.length ∧ k < B.length)) : Ints W .i64 (.slice ao A.length c) (gm A B 0) := by
  obtain ⟨a1, a2, a5, hT, pre, b1, b2, b3⟩ := h
  refine b3.ints (gm_length A B 0) fun j x hj => ?_
  rw [b2] at hj
  by_cases hi : i < A.length
  · rw [List.drop_of_length_le (show B.length ≤ k by omega), gm_nil_right, List.length_drop] at hj
    rw [hj]; rfl
  · rw [List.drop_of_length_le (show A.length ≤ i by omega), gm] at hj
    rw [show A.length - i = 0 by omega]
    simp only [List.replicate_zero]
    rw [hj]; rfl
theorem Walk2.start {W : World} {base c T : Nat} {ao : Option Addr} {A B : List Int} (hO : ∀ O, ao = some ⟨O, 0, none⟩ → 0 < A.length → O < T) (hT : Rt W T A.length B.length (E A B)) (h : OutW W base ao A.length c (fun _ => -1)) : Walk2 W base ao c T 0 0 A B := by
  refine ⟨Nat.zero_le _, Nat.zero_le _, hO, hT, [], rfl, rfl, h.congr fun j hj => ?_⟩
  simp [hj]
theorem Walk2.draws {W : World} {base c T i k : Nat} {ao : Option Addr} {A B : List Int} (h : Walk2 W base ao c T i k A B) (q : Nat) : Walk2 (W.drewN q) base ao c T i k A B := h
/-- What the walk reads of the table. -/
theorem Walk2.reads {W : World} {base c T i k : Nat} {ao : Option Addr} {A B : List Int} (h : Walk2 W base ao c T i k A B) (hi : i < A.length) (hk : k < B.length) :
    ∃ g0 g1, W.cell? ⟨T, i + 1, none⟩ = some (sl g1 B.length) ∧ W.cell? ⟨g1, k, none⟩ = some (.int .i64 (lc (A.drop (i + 1)) (B.drop k))) ∧ W.cell? ⟨T, i, none⟩ = some (sl g0 B.length) ∧ W.cell? ⟨g0, k + 1, none⟩ = some (.int .i64 (lc (A.drop i) (B.drop (k + 1)))) := by
  obtain ⟨a1, a2, a5, hT, _⟩ := h
  obtain ⟨g1, _, e1, _, r1⟩ := hT.cells (show i + 1 ≤ A.length by omega)
  obtain ⟨g0, _, e0, _, r0⟩ := hT.cells (show i ≤ A.length by omega)
  exact ⟨g0, g1, e1, r1 k (by omega), e0, r0 (k + 1) (by omega)⟩

set_option maxRecDepth 100000 in
set_option maxHeartbeats 16000000 in
theorem RefMatch_short (v1 v2 : Value) (A B : List Int) (w : World) (h1 : Ints w .i64 v1 A) (h2 : Ints w .i64 v2 B) (hl1 : A.length ≤ 2000) (hl2 : B.length ≤ 2000) :
    Calls Tryz.prog 86 #[v1, v2] w (GivesI w (matchOf A B)) := by
  obtain ⟨aA, cA, rfl, -, -, atA⟩ := h1.at
  obtain ⟨aB, cB, rfl, -, -, atB⟩ := h2.at
  have AtA := Lib.hid atA; clear atA
  have AtB := Lib.hid atB; clear atB
  have HA := Lib.hid h1; clear h1
  have HB := Lib.hid h2; clear h2
  obtain ⟨i0, hi0, hz0, hz1, hz2⟩ := info3
  have hm : matchOf A B = gm A B 0 := if_neg (by omega)
  have Hm := Lib.hid hm; clear hm
  go_enter Tryz.func86, Tryz.ntmps86
  go_wp2_with fail
  go_loopw [5, 6] (fun p c wr => ∃ i : Nat, i ≤ A.length ∧ c = .int .i64 i ∧ wr.ownsRow w.heap.size 3 1 p i ((List.replicate i (-1)).map (Value.int .i64)) ∧ Below w.heap.size w wr) (fun _ c _ => A.length - (intOf c).toNat)
  case atStart => exact ⟨0, Nat.zero_le _, rfl, World.ownsRow_nil _ _ _ _, Below.refl _ _⟩
  case round =>
    obtain ⟨i, hi, rfl, hown, hB⟩ := hrel
    by_cases hlt : i < A.length
    · have hbs := hB.size
      go_wp2_with (at_builtin; refine wpList_append_own _ rfl _ _ 128 rfl w.heap.size 3 i0 (.int .i64 0) 1 8 Tryz.underlying128 hi0 hz0 hz1 hz2 rfl (by decide) _ _ _ rfl (hown.alloc _) ⟨wr.heap.size, 0, none⟩ 1 1 [.int .i64 (-1)] rfl rfl (cell_one_new _ _ _) (by simp [Value.oneCell']) (by unfold maxLen; omega) (by omega) (by simp; omega) ?_; intro v' w2 hown' hgrow _)
      have hnew : w2.ownsRow w.heap.size 3 1 v' (i + 1) ((List.replicate (i + 1) (-1)).map (Value.int .i64)) := by
        rw [List.replicate_succ', List.map_append]
        exact hown'
      refine ⟨⟨i + 1, by omega, by go_num, hnew, (hB.alloc hbs _).grown hgrow (by simp; omega) (fun k hk => (hown.lt k hk).1)⟩, by simp [intOf]; omega⟩
    · obtain rfl : i = A.length := by omega
      obtain ⟨ao, cc, hform, hW⟩ := OutW.of_own hown
      subst hform
      obtain ⟨w2, rfl⟩ : ∃ w2 : World, w2 = wr := ⟨_, rfl⟩
      clear hown hlt hi
      have hd1 : decide ((2000 : Int) < (A.length : Int)) = false := by simp; omega
      have hd2 : decide ((2000 : Int) < (B.length : Int)) = false := by simp; omega
      have HA2 := Lib.hid (HA.out.below hB)
      have HB2 := Lib.hid (HB.out.below hB)
      go_wp2_with fail
      clear hd1 hd2
      refine (table_any _ _ A B _ HA2.out HB2.out hl1 hl2).mono ?_
      rintro e w3 ⟨T, rfl, hT, hRt, b3⟩
      have hB3 := hB.trans (b3.mono hB.size)
      have hWk : Walk2 w3 w.heap.size ao cc T 0 0 A B := Walk2.start (fun O e h0 => by
        subst e
        obtain ⟨O', e', _, hO, _⟩ := hW.open_ h0
        injection e' with e'
        injection e' with e'
        omega) hRt (hW.below b3)
      clear hB hW hRt b3 HA2 HB2 hT
      go_wp2_with fail
      go_loopw [10, 11] (fun c d wr => ∃ j k : Nat, c = .int .i64 j ∧ d = .int .i64 k ∧ Walk2 wr w.heap.size ao cc T j k A B ∧ Below w.heap.size w wr) (fun c d _ => (A.length - (intOf c).toNat) + (B.length - (intOf d).toNat))
      case atStart => exact ⟨0, 0, rfl, rfl, hWk, hB3⟩
      case round =>
        clear hWk hB3
        obtain ⟨j, k, rfl, rfl, hW, hB⟩ := hrel
        have HW := Lib.hid hW
        obtain ⟨hjA, hkB, -, -⟩ := hW
        by_cases hin : j < A.length ∧ k < B.length
        · obtain ⟨hlj, hlk⟩ := hin
          obtain ⟨x, hx⟩ : ∃ x, Hid (A[j]? = some x) := ⟨A[j], Lib.hid (List.getElem?_eq_getElem hlj)⟩
          obtain ⟨y, hy⟩ : ∃ y, Hid (B[k]? = some y) := ⟨B[k], Lib.hid (List.getElem?_eq_getElem hlk)⟩
          obtain ⟨bA, oA, rfl, hbA, cellA⟩ := AtA.out j x hx.out
          obtain ⟨bB, oB, rfl, hbB, cellB⟩ := AtB.out k y hy.out
          have ca : wr.cell? ⟨bA, oA + j, none⟩ = some (.int .i64 x) := (hB.cell (p := ⟨bA, oA + j, none⟩) hbA).trans cellA
          have cb : wr.cell? ⟨bB, oB + k, none⟩ = some (.int .i64 y) := (hB.cell (p := ⟨bB, oB + k, none⟩) hbB).trans cellB
          have hd1 : decide (j < A.length) = true := by simpa using hlj
          have hd2 : decide (k < B.length) = true := by simpa using hlk
          have Hbel := Lib.hid hB; clear hB
          clear cellA cellB
          by_cases hxy : x = y
          · have hb : (x == y) = true := by simpa using hxy
            obtain ⟨O, eo, hO, _, ⟨v0, c0⟩, f0⟩ : ∃ O, ao = some ⟨O, 0, none⟩ ∧ w.heap.size ≤ O ∧ True ∧ (∃ v0, wr.cell? ⟨O, j, none⟩ = some v0) ∧ wr.frozen? ⟨O, j, none⟩ = false := by
              obtain ⟨_, _, _, _, pre, p1, _, p3⟩ := HW.out
              obtain ⟨O, e1, e2, e3, e4, e5⟩ := p3.open_ hlj
              exact ⟨O, e1, e2, trivial, e4, e5⟩
            subst eo
            have Hnew := Lib.hid (fun q => Walk2.same (W := wr.drewN q) (HW.out.draws q) hx.out (by rw [hxy]; exact hy.out))
            clear hxy HW
            go_wp2_with fail
            go_quiet (fail)
            go_wp2_with fail
            exact ⟨⟨j + 1, k + 1, by go_num, by go_num, Hnew.out nq, (below_draws Hbel.out nq).setCell (p := ⟨O, j, none⟩) hO _⟩, by simp [intOf]; omega⟩
          · have hb : (x == y) = false := by simpa using hxy
            obtain ⟨g0, g1, t1, t2, t3, t4⟩ := Walk2.reads HW.out hlj hlk
            have hs1 : IntKind.i64.wrap ((j : Int) + 1) = (j : Int) + 1 := IntWalk.i64_in _ (by omega)
            have hs5 : IntKind.i64.wrap ((k : Int) + 1) = (k : Int) + 1 := IntWalk.i64_in _ (by omega)
            have q1 : j + 1 < A.length + 1 := by omega
            have q2 : j < A.length + 1 := by omega
            have q3 : k < B.length + 1 := by omega
            have q4 : k + 1 < B.length + 1 := by omega
            by_cases hle : lc (A.drop j) (B.drop (k + 1)) ≤ lc (A.drop (j + 1)) (B.drop k)
            · have Hnew := Lib.hid (fun q => Walk2.skip (W := wr.drewN q) (HW.out.draws q) hx.out hy.out hxy hle)
              generalize lc (A.drop j) (B.drop (k + 1)) = z1 at hle t4
              generalize lc (A.drop (j + 1)) (B.drop k) = z0 at hle t2
              have hz : decide (z1 ≤ z0) = true := by simpa using hle
              clear hxy HW hle
              go_wp2_with fail
              go_quiet (fail)
              go_wp2_with fail
              go_quiet (fail)
              go_wp2_with fail
              exact ⟨⟨j + 1, k, by go_num, rfl, Hnew.out _, below_draws Hbel.out _⟩, by simp [intOf]; omega⟩
            · have Hnew := Lib.hid (fun q => Walk2.next (W := wr.drewN q) (HW.out.draws q) hx.out hy.out hxy hle)
              generalize lc (A.drop j) (B.drop (k + 1)) = z1 at hle t4
              generalize lc (A.drop (j + 1)) (B.drop k) = z0 at hle t2
              have hz : decide (z1 ≤ z0) = false := by simpa using hle
              clear hxy HW hle
              go_wp2_with fail
              go_quiet (fail)
              go_wp2_with fail
              go_quiet (fail)
              go_wp2_with fail
              exact ⟨⟨j, k + 1, rfl, by go_num, Hnew.out _, below_draws Hbel.out _⟩, by simp [intOf]; omega⟩
        · have hfin := Walk2.done HW.out hin
          rw [← Hm.out] at hfin
          clear HW
          by_cases hlj : j < A.length
          all_goals
            first
            | (have hd1 : decide (j < A.length) = true := by simpa using hlj
               have hd2 : decide (k < B.length) = false := by simp; omega
               clear hin hlj
               go_wp2_with fail
               go_ret
               exact ⟨_, rfl, hfin, hB⟩)
            | (have hd1 : decide (j < A.length) = false := by simpa using hlj
               clear hin hlj
               go_wp2_with fail
               go_ret
               exact ⟨_, rfl, hfin, hB⟩)

theorem RefMatch_any (v1 v2 : Value) (A B : List Int) (w : World) (h1 : Ints w .i64 v1 A) (h2 : Ints w .i64 v2 B) (hl1 : A.length ≤ 10000) (hl2 : B.length ≤ 10000) :
    Calls Tryz.prog 86 #[v1, v2] w (GivesI w (matchOf A B)) := by
  by_cases h : 2000 < A.length ∨ 2000 < B.length
  · exact RefMatch_long v1 v2 A B w h1 h2 hl1 hl2 h
  · exact RefMatch_short v1 v2 A B w h1 h2 (by omega) (by omega)

end Go.Proofs.YtbekbllffphfeaaGreatDoor.L
/-
  For the laws of lcs: the document's Numbers. Conditions: at most 1,000 rows of at most 10,000 texts each, each text no longer than any text may be.
-/
namespace Go.Proofs.YtbekbllffphfeaaGreatDoor.L
open Go.RowKit Go.Maps Go.WideMaps
set_option linter.unusedVariables false

/-- The rows that are told are rows of numbers of the call's own. -/
def ROwn (W : World) (base : Nat) (vs : List Value) (ns : List (List Int)) : Prop :=
  vs.length = ns.length ∧ ∀ (j : Nat) (l : List Int), ns[j]? = some l → ∃ x, vs[j]? = some x ∧ W.ownsRow base 3 1 x l.length (l.map (Value.int .i64))
/-- Nothing below base has turned, and no row below B but rows of texts. -/
def Keep9 (base B : Nat) (W W' : World) : Prop := Below base W W' ∧ ∀ (g : Nat) (cs : Array Value) (t : TypeId), g < B → RowAt W g t cs → t ≠ 9 → W'.heap[g]? = W.heap[g]?
theorem Keep9.refl (base B : Nat) (W : World) : Keep9 base B W W := ⟨Below.refl _ _, fun _ _ _ _ _ _ => rfl⟩
theorem Keep9.below {base B : Nat} {A C D : World} (h : Keep9 base B A C) (hb : Below C.heap.size C D) (h1 : base ≤ A.heap.size) (hB : B ≤ A.heap.size) : Keep9 base B A D :=
  ⟨h.1.trans (hb.mono (by have := h.1.size; omega)), fun g cs t hg hr ht => (hb.block g (by have := h.1.size; omega)).trans (h.2 g cs t hg hr ht)⟩
theorem Keep9.grown {base B e : Nat} {A C D : World} {n : Nat} {v : Value} {xs : List Value} (h : Keep9 base B A C) (hown : C.ownsRow base 9 1 v n xs) (hg : C.grownBy D v.ownBlock) (h1 : base ≤ A.heap.size) (hB : B ≤ A.heap.size) (_he : e = 9) : Keep9 base B A D :=
  ⟨h.1.grown hg (by have := h.1.size; omega) (fun k hk => (hown.lt k hk).1), fun g cs t hg' hr ht => by
    have h2 := h.2 g cs t hg' hr ht
    rw [← h2]
    exact hg.block g (by have := h.1.size; omega) (own_ne hown (hr.same h2) ht)⟩
theorem Keep9.grown3 {base B : Nat} {A C D : World} {n : Nat} {v : Value} {xs : List Value} (h : Keep9 base B A C) (hown : C.ownsRow B 3 1 v n xs) (hg : C.grownBy D v.ownBlock) (h1 : base ≤ A.heap.size) (hB : B ≤ A.heap.size) (hbB : base ≤ B) : Keep9 base B A D :=
  ⟨h.1.grown hg (by have := h.1.size; omega) (fun k hk => by have := (hown.lt k hk).1; omega), fun g cs t hg' hr ht => by
    have h2 := h.2 g cs t hg' hr ht
    rw [← h2]
    exact hg.block g (by have := h.1.size; omega) (fun e => by have := (hown.lt g e.symm).1; omega)⟩
theorem own_keep {base B : Nat} {A C : World} {t : TypeId} {n : Nat} {v : Value} {xs : List Value} (h : Keep9 base B A C) (hown : A.ownsRow base t 1 v n xs) (hB : A.heap.size ≤ B) (ht : t ≠ 9) : C.ownsRow base t 1 v n xs := by
  refine owns_same hown fun k e => ?_
  rcases hown.2 with ⟨rfl, _⟩ | ⟨g, cap, cur, rfl, _, hg, _⟩
  · simp [Value.ownBlock] at e
  · simp [Value.ownBlock] at e
    subst e
    exact h.2 g cur t (by have := (Array.getElem?_eq_some_iff.1 hg).1; omega) hg ht

theorem idx_stop {L : List (List UInt8)} {x : List UInt8} {n : Nat} (h : n < L.idxOf x) : ∃ y, L[n]? = some y ∧ y ≠ x := by
  have hl : n < L.length := Nat.lt_of_lt_of_le h List.idxOf_le_length
  refine ⟨L[n], List.getElem?_eq_getElem hl, ?_⟩
  intro e
  have := List.not_of_lt_findIdx (p := (· == x)) (xs := L) (i := n) h
  simp [e] at this
theorem idx_here {L : List (List UInt8)} {x : List UInt8} (h : L.idxOf x < L.length) : L[L.idxOf x]? = some x := by
  rw [List.getElem?_eq_getElem h, List.getElem_idxOf]

theorem owns_later {W W' : World} {base : Nat} {e : TypeId} {size : Nat} {v : Value} {n : Nat} {xs : List Value} (h : W.ownsRow base e size v n xs) (hb : Below W.heap.size W W') : W'.ownsRow base e size v n xs :=
  owns_same h fun k hk => hb.block k (h.lt k hk).2
theorem beq_no {a b : ByteArray} (h : wd a ≠ wd b) : (a.toList == b.toList) = false := by
  rw [ByteArray.toList_eq, ByteArray.toList_eq]; simpa using h
theorem beq_yes {a b : ByteArray} (h : wd a = wd b) : (a.toList == b.toList) = true := by
  rw [ByteArray.toList_eq, ByteArray.toList_eq]; simpa using h
theorem take_snoc_get {l : List Int} {k : Nat} {v : Int} (h : l[k]? = some v) : l.take (k + 1) = l.take k ++ [v] := by
  rw [List.take_add_one, h]; rfl
/-- What is so behind the document's Numbers. -/
def NGivesI (w : World) (ns : List (List Int)) (e : Ending) (w' : World) : Prop :=
  ∃ v vs, e = .returned v ∧ Vals w' v vs ∧ vs.length = ns.length ∧ (∀ (j : Nat) (l : List Int), ns[j]? = some l → ∃ x, vs[j]? = some x ∧ Ints w' .i64 x l) ∧ Below w.heap.size w w'
/-- The texts seen so far. -/
def Seen (W : World) (base : Nat) (v : Value) (L : List (List UInt8)) (m : Nat) : Prop := ∃ S : List ByteArray, W.ownsRow base 9 1 v S.length (S.map Value.string) ∧ S.map wd = L ∧ S.length ≤ m
theorem Seen.later {W W' : World} {base m : Nat} {v : Value} {L : List (List UInt8)} (h : Seen W base v L m) (hk : ∀ g cs, RowAt W g 9 cs → W'.heap[g]? = W.heap[g]?) : Seen W' base v L m := by
  obtain ⟨S, h1, h2, h3⟩ := h
  refine ⟨S, owns_same h1 fun k e => ?_, h2, h3⟩
  rcases h1.2 with ⟨rfl, _⟩ | ⟨g, cap, cur, rfl, _, hg, _⟩
  · simp [Value.ownBlock] at e
  · simp [Value.ownBlock] at e
    subst e
    exact hk g cur hg
/-- Rows of another type stay where a row of the call's own grows. -/
theorem grown_keeps {V w2 : World} {base n : Nat} {t t' : TypeId} {v : Value} {xs : List Value} {o : Obj} (hown : V.ownsRow base t 1 v n xs) (hg : (V.alloc o).grownBy w2 v.ownBlock) (hne : t' ≠ t) (g : Nat) (cs : Array Value) (hr : RowAt V g t' cs) : w2.heap[g]? = V.heap[g]? :=
  (hg.block g (by have := hr.lt; simp; omega) (own_ne hown hr hne)).trans (Below.heap_alloc _ _ _ hr.lt)
theorem own_rebase {W : World} {base base' n : Nat} {t : TypeId} {v : Value} {xs : List Value} (h : W.ownsRow base t 1 v n xs) (hb : base' ≤ base) : W.ownsRow base' t 1 v n xs := by
  refine ⟨h.1, ?_⟩
  rcases h.2 with h2 | ⟨g, cap, cur, h1, h2, h3⟩
  · exact .inl h2
  · exact .inr ⟨g, cap, cur, h1, by omega, h3⟩
theorem own_type {W W' : World} {base n : Nat} {t : TypeId} {v : Value} {xs : List Value} (h : W.ownsRow base t 1 v n xs) (hk : ∀ g cs, RowAt W g t cs → W'.heap[g]? = W.heap[g]?) : W'.ownsRow base t 1 v n xs := by
  refine owns_same h fun k e => ?_
  rcases h.2 with ⟨rfl, _⟩ | ⟨g, cap, cur, rfl, _, hg, _⟩
  · simp [Value.ownBlock] at e
  · simp [Value.ownBlock] at e
    subst e
    exact hk g cur hg
theorem ROwn.snoc {W : World} {base : Nat} {vs : List Value} {ns : List (List Int)} {l : List Int} {x : Value} (h : ROwn W base vs ns) (hx : W.ownsRow base 3 1 x l.length (l.map (Value.int .i64))) : ROwn W base (vs ++ [x]) (ns ++ [l]) := by
  obtain ⟨h1, h2⟩ := h
  refine ⟨by simp [h1], fun j l' hj => ?_⟩
  by_cases e : j < ns.length
  · rw [List.getElem?_append_left e] at hj
    rw [List.getElem?_append_left (by omega)]
    exact h2 j l' hj
  · rw [List.getElem?_append_right (by omega)] at hj
    have hz : j - ns.length = 0 := by
      have := (List.getElem?_eq_some_iff.1 hj).1
      simp at this
      omega
    rw [hz] at hj
    simp at hj
    subst hj
    rw [List.getElem?_append_right (by omega), h1, hz]
    exact ⟨x, rfl, hx⟩
theorem ROwn.later {W W' : World} {base : Nat} {vs : List Value} {ns : List (List Int)} (h : ROwn W base vs ns) (hk : ∀ x l, W.ownsRow base 3 1 x (l : List Int).length (l.map (Value.int .i64)) → W'.ownsRow base 3 1 x l.length (l.map (Value.int .i64))) : ROwn W' base vs ns :=
  ⟨h.1, fun j l hj => by obtain ⟨x, h1, h2⟩ := h.2 j l hj; exact ⟨x, h1, hk x l h2⟩⟩
theorem info9 : ∃ i0, Tryz.prog.info? 9 = some i0 ∧ i0.zero = some (.string ⟨#[]⟩) ∧ i0.size = 1 ∧ i0.bytes = 16 := info_parts (by kernel_rfl)
theorem info22 : ∃ i0, Tryz.prog.info? 128 = some i0 ∧ i0.zero = some (.slice none 0 0) ∧ i0.size = 1 ∧ i0.bytes = 24 := info_parts (by kernel_rfl)

set_option maxRecDepth 100000 in
set_option maxHeartbeats 16000000 in
theorem RefNumbers_any (v : Value) (vals : List Value) (rows : List (List ByteArray)) (w : World) (hv : Vals w v vals) (hl : vals.length = rows.length) (hr : ∀ (j : Nat) (x : Value) (ss : List ByteArray), vals[j]? = some x → rows[j]? = some ss → Vals w x (ss.map Value.string) ∧ ss.length ≤ 10000 ∧ ∀ s ∈ ss, s.size ≤ maxLen) (hrows : rows.length ≤ 1000) :
    Calls Tryz.prog 72 #[v] w (NGivesI w (numRows [] rows)) := by
  obtain ⟨a0, c0, rfl, -, -, hat⟩ := hv.at
  rw [hl]
  have Hat := Lib.hid hat; clear hat
  have Hr := Lib.hid hr; clear hr
  have Hl := Lib.hid hl; clear hl
  obtain ⟨i9, hi9, hz9, hs9, hb9⟩ := info9
  obtain ⟨i3, hi3, hz3, hs3, hb3⟩ := info3
  obtain ⟨i22, hi22, hz22, hs22, hb22⟩ := info22
  clear hv
  go_enter Tryz.func72, Tryz.ntmps72
  go_wp2_with fail
  go_loopw [3, 4, 5] (fun sn o c wr => ∃ i : Nat, i ≤ rows.length ∧ c = .int .i64 i ∧ Seen wr w.heap.size sn (knownRows rows i) (i * 10000) ∧ (∃ vs, wr.ownsRow w.heap.size 128 1 o i vs ∧ ROwn wr w.heap.size vs ((numRows [] rows).take i)) ∧ Below w.heap.size w wr) (fun _ _ c _ => rows.length - (intOf c).toNat)
  case atStart => exact ⟨0, Nat.zero_le _, rfl, ⟨[], World.ownsRow_nil _ _ _ _, rfl, by simp⟩, ⟨[], World.ownsRow_nil _ _ _ _, rfl, fun j l h => by simp at h⟩, Below.refl _ _⟩
  case round =>
    obtain ⟨i, hi, rfl, hSeen, ⟨vs, hvs, hro⟩, hB⟩ := hrel
    by_cases hlt : i < rows.length
    · obtain ⟨ss, hss⟩ : ∃ ss, Hid (rows[i]? = some ss) := ⟨rows[i], Lib.hid (List.getElem?_eq_getElem hlt)⟩
      obtain ⟨x, hx⟩ : ∃ x, Hid (vals[i]? = some x) := ⟨vals[i]'(by rw [Hl.out]; exact hlt), Lib.hid (List.getElem?_eq_getElem _)⟩
      obtain ⟨hxv, hsl, hsz⟩ := Hr.out i x ss hx.out hss.out
      obtain ⟨b, off, rfl, hb, hcell⟩ := Hat.out i x hx.out
      obtain ⟨ax, cx, rfl, -, -, hatx⟩ := hxv.at
      rw [List.length_map] at hcell
      have Hatx := Lib.hid hatx; clear hatx
      have Hcell := Lib.hid hcell; clear hcell
      have HB := Lib.hid hB; clear hB
      have Hvs := Lib.hid hvs; clear hvs
      have Hro := Lib.hid hro; clear hro
      obtain ⟨K, hK⟩ : ∃ K, Hid (knownRows rows i = K) := ⟨_, Lib.hid rfl⟩
      rw [hK.out] at hSeen
      have HSeen := Lib.hid hSeen; clear hSeen
      obtain ⟨Wo, rfl⟩ : ∃ Wo : World, Wo = wr := ⟨_, rfl⟩
      have hbW : w.heap.size ≤ Wo.heap.size := HB.out.size
      clear hxv
      go_wp2_with fail
      go_loopw [3, 6, 7] (fun sn l c wr => ∃ k : Nat, k ≤ ss.length ∧ c = .int .i64 k ∧ Seen wr w.heap.size sn (knownBy K (ss.take k)) (i * 10000 + k) ∧ wr.ownsRow Wo.heap.size 3 1 l k (((numRow K ss).take k).map (Value.int .i64)) ∧ Keep9 w.heap.size Wo.heap.size Wo wr) (fun _ _ c _ => ss.length - (intOf c).toNat)
      case atStart => exact ⟨0, Nat.zero_le _, rfl, HSeen.out, World.ownsRow_nil _ _ _ _, Keep9.refl _ _ _⟩
      case round =>
        clear HSeen
        obtain ⟨k, hk, rfl, hSeen, hown, hKeep⟩ := hrel
        have hBw : Below w.heap.size w wr := HB.out.trans hKeep.1
        have cr : wr.cell? ⟨b, off + i, none⟩ = some (.slice ax ss.length cx) := (hBw.cell (p := ⟨b, off + i, none⟩) hb).trans Hcell.out
        by_cases hltk : k < ss.length
        · obtain ⟨s, hs⟩ : ∃ s, Hid (ss[k]? = some s) := ⟨ss[k], Lib.hid (List.getElem?_eq_getElem hltk)⟩
          obtain ⟨bx, ox, rfl, hbx, hcx⟩ := Hatx.out k (.string s) (by rw [List.getElem?_map, hs.out]; rfl)
          have cs : wr.cell? ⟨bx, ox + k, none⟩ = some (.string s) := (hBw.cell (p := ⟨bx, ox + k, none⟩) hbx).trans hcx
          obtain ⟨S, hS, hSL, hSl⟩ := hSeen
          obtain ⟨asn, csn, hform, hcc, hcm, hatS⟩ := (own_vals hS).at
          rw [List.length_map] at hform
          subst hform
          have HatS := Lib.hid hatS; clear hatS
          have HSL := Lib.hid hSL; clear hSL
          have HKeep := Lib.hid hKeep; clear hKeep
          have HS := Lib.hid hS; clear hS
          have Hown := Lib.hid hown; clear hown
          obtain ⟨idx, hidx⟩ : ∃ idx, Hid ((S.map wd).idxOf (wd s) = idx) := ⟨_, Lib.hid rfl⟩
          have hidl : idx ≤ S.length := by rw [← hidx.out]; have := List.idxOf_le_length (l := S.map wd) (a := wd s); simpa using this
          obtain ⟨W1, rfl⟩ : ∃ W1 : World, W1 = wr := ⟨_, rfl⟩
          have hW1 := hBw.size
          have Hcr := Lib.hid cr
          have Hcs := Lib.hid cs
          have hSbd : S.length ≤ 100000000 := by omega
          clear hcx hBw
          go_wp2_with fail
          clear cr cs
          go_loopw [8] (fun c wq => ∃ n : Nat, n ≤ idx ∧ c = .int .i64 n ∧ Below W1.heap.size W1 wq) (fun c _ => idx - (intOf c).toNat)
          case atStart => exact ⟨0, Nat.zero_le _, rfl, Below.refl _ _⟩
          case round =>
            obtain ⟨n, hn, rfl, hq⟩ := hrel
            by_cases hnl : n < idx
            · obtain ⟨y, hy, hyne⟩ := idx_stop (L := S.map wd) (x := wd s) (n := n) (by rw [hidx.out]; exact hnl)
              rw [List.getElem?_map] at hy
              obtain ⟨t, ht, rfl⟩ : ∃ t, S[n]? = some t ∧ wd t = y := by
                cases h : S[n]? with
                | none => rw [h] at hy; simp at hy
                | some t => rw [h] at hy; exact ⟨t, rfl, by simpa using hy⟩
              obtain ⟨bs, os, rfl, hbs, hcs'⟩ := HatS.out n (.string t) (by rw [List.getElem?_map, ht]; rfl)
              have c1 : wr.cell? ⟨bs, os + n, none⟩ = some (.string t) := (hq.cell (p := ⟨bs, os + n, none⟩) hbs).trans hcs'
              have c2 : wr.cell? ⟨b, off + i, none⟩ = some (.slice (some ⟨bx, ox, none⟩) ss.length cx) := (hq.cell (p := ⟨b, off + i, none⟩) (by show b < _; omega)).trans Hcr.out
              have c3 : wr.cell? ⟨bx, ox + k, none⟩ = some (.string s) := (hq.cell (p := ⟨bx, ox + k, none⟩) (by show bx < _; omega)).trans Hcs.out
              have hd : decide (n < S.length) = true := by simp; omega
              have hnS : n < S.length := by omega
              have hne := beq_no hyne
              have Hq := Lib.hid hq; clear hq
              clear hy ht hyne hcs'
              go_wp2_with fail
              go_quiet (fail)
              go_wp2_with fail
              exact ⟨⟨n + 1, by omega, by go_num, below_draws Hq.out _⟩, by simp [intOf]; omega⟩
            · obtain rfl : n = idx := by omega
              have hnum := numRow_get K ss k s hs.out
              have hkb := knownBy_snoc K ss k s hs.out
              rw [← HSL.out, hidx.out] at hnum
              rw [← HSL.out] at hkb
              have htk := take_snoc_get hnum
              have Htk := Lib.hid htk; clear htk
              have Hkb := Lib.hid hkb; clear hkb
              have c2 : wr.cell? ⟨b, off + i, none⟩ = some (.slice (some ⟨bx, ox, none⟩) ss.length cx) := (hq.cell (p := ⟨b, off + i, none⟩) (by show b < _; omega)).trans Hcr.out
              have c3 : wr.cell? ⟨bx, ox + k, none⟩ = some (.string s) := (hq.cell (p := ⟨bx, ox + k, none⟩) (by show bx < _; omega)).trans Hcs.out
              clear hnum
              by_cases hnl' : n < S.length
              · have hy := idx_here (L := S.map wd) (x := wd s) (by rw [hidx.out]; simpa using hnl')
                rw [hidx.out, List.getElem?_map] at hy
                obtain ⟨t, ht, hts⟩ : ∃ t, S[n]? = some t ∧ wd t = wd s := by
                  cases h : S[n]? with
                  | none => rw [h] at hy; simp at hy
                  | some t => rw [h] at hy; exact ⟨t, rfl, by simpa using hy⟩
                obtain ⟨bs, os, rfl, hbs, hcs'⟩ := HatS.out n (.string t) (by rw [List.getElem?_map, ht]; rfl)
                have c1 : wr.cell? ⟨bs, os + n, none⟩ = some (.string t) := (hq.cell (p := ⟨bs, os + n, none⟩) hbs).trans hcs'
                have hd : decide (n < S.length) = true := by simpa using hnl'
                have heq := beq_yes hts
                have hqq : ((n : Int) == (S.length : Int)) = false := by rw [beq_eq_false_iff_ne]; omega
                have hin : wd s ∈ S.map wd := List.idxOf_lt_length_iff.1 (by rw [hidx.out]; simpa using hnl')
                have hkb2 : knownBy K (ss.take (k + 1)) = S.map wd := by rw [Hkb.out]; unfold numStep; rw [if_pos hin]
                have Hkb2 := Lib.hid hkb2; clear hkb2
                have Hq := Lib.hid hq; clear hq
                clear hy ht hts hcs' hin
                go_wp2_with fail
                go_quiet (fail)
                obtain ⟨V, hV⟩ : ∃ V, Hid (wr.drewN nq = V) := ⟨_, Lib.hid rfl⟩
                have bV : Below W1.heap.size W1 V := by rw [← hV.out]; exact below_draws Hq.out nq
                have ownV := owns_later Hown.out bV
                have seenV : Hid (Seen V w.heap.size (.slice (some ⟨bs, os, none⟩) S.length csn) (knownBy K (ss.take (k + 1))) (i * 10000 + (k + 1))) := Lib.hid ⟨S, owns_later HS.out bV, Hkb2.out.symm, by omega⟩
                have keepV := Lib.hid (HKeep.out.below bV hbW (Nat.le_refl _))
                have sV : Wo.heap.size ≤ V.heap.size := keepV.out.1.size
                rw [hV.out]
                clear hV bV c1 c2 c3 hd heq
                go_wp2_with (at_builtin; refine wpList_append_own _ rfl _ _ 128 rfl Wo.heap.size 3 i3 (.int .i64 0) 1 8 Tryz.underlying128 hi3 hz3 hs3 hb3 rfl (by decide) _ _ _ rfl (ownV.alloc _) ⟨V.heap.size, 0, none⟩ 1 1 [.int .i64 n] rfl rfl (cell_one_new _ _ _) (by simp [Value.oneCell']) (by unfold maxLen; omega) (by omega) (by simp; omega) ?_; intro v' w2 hown' hgrow _)
                exact ⟨⟨k + 1, by omega, by go_num, seenV.out.later (fun g cs hr => grown_keeps ownV hgrow (by decide) g cs hr), by rw [Htk.out, List.map_append]; exact hown', (keepV.out.below ((Below.refl _ V).alloc (Nat.le_refl _) _) hbW (Nat.le_refl _)).grown3 (ownV.alloc _) hgrow hbW (Nat.le_refl _) hbW⟩, by simp [intOf]; omega⟩
              · obtain rfl : n = S.length := by omega
                have hd : decide (S.length < S.length) = false := by simp
                have hout : wd s ∉ S.map wd := by
                  intro hm
                  have := List.idxOf_lt_length_iff.2 hm
                  rw [hidx.out] at this
                  simp at this
                have hkb2 : knownBy K (ss.take (k + 1)) = S.map wd ++ [wd s] := by rw [Hkb.out]; unfold numStep; rw [if_neg hout]
                have Hkb2 := Lib.hid hkb2; clear hkb2
                have bV : Below W1.heap.size W1 wr := hq
                have ownV := owns_later Hown.out bV
                have ownS := owns_later HS.out bV
                have keepV := Lib.hid (HKeep.out.below bV hbW (Nat.le_refl _))
                have sV : Wo.heap.size ≤ wr.heap.size := keepV.out.1.size
                clear hout hnl hnl' hq bV
                go_wp2_with fail
                go_quiet (fail)
                obtain ⟨V, hV⟩ : ∃ V, Hid (wr.drewN nq = V) := ⟨_, Lib.hid rfl⟩
                have bwV : Below wr.heap.size wr V := by rw [← hV.out]; exact below_draws (Below.refl _ _) _
                have ownV' := owns_later ownV bwV
                have ownS' := owns_later ownS bwV
                have keepV' := Lib.hid (keepV.out.below bwV hbW (Nat.le_refl _))
                have sV' : Wo.heap.size ≤ V.heap.size := by have := bwV.size; omega
                have d2 : V.cell? ⟨b, off + i, none⟩ = some (.slice (some ⟨bx, ox, none⟩) ss.length cx) := by rw [← hV.out]; exact c2
                have d3 : V.cell? ⟨bx, ox + k, none⟩ = some (.string s) := by rw [← hV.out]; exact c3
                rw [hV.out]
                clear hV c2 c3 hd ownV ownS keepV sV bwV
                have hS1 : S.length + 1 ≤ 100000000 := by omega
                go_wp2_with (first
                  | (at_builtin
                     refine wpList_append_own _ rfl (.tmp 48) (.tmp 56) 55 rfl w.heap.size 9 i9 (.string ⟨#[]⟩) 1 16 Tryz.underlying55 hi9 hz9 hs9 hb9 rfl (by decide) _ _ _ rfl (ownS'.alloc _) ⟨V.heap.size, 0, none⟩ 1 1 [.string s] rfl rfl (cell_one_new _ _ _) (by simp [Value.oneCell']) (by unfold maxLen; omega) (by omega) (by simp; omega) ?_
                     intro v5 w5 hown5 hgrow5 _
                     have own5 : w5.ownsRow Wo.heap.size 3 1 u6 k _ := owns_same ownV' (fun g e => by
                       rcases ownV'.2 with ⟨e1, _⟩ | ⟨g', cap, cur, e1, _, hg, _⟩
                       · rw [e1] at e; simp [Value.ownBlock] at e
                       · rw [e1] at e
                         simp [Value.ownBlock] at e
                         subst e
                         exact grown_keeps ownS' hgrow5 (by decide) g' cur hg)
                     have keep5 := Lib.hid ((keepV'.out.below ((Below.refl _ V).alloc (Nat.le_refl _) _) hbW (Nat.le_refl _)).grown (ownS'.alloc _) hgrow5 hbW (Nat.le_refl _) rfl)
                     have s5 : Wo.heap.size ≤ w5.heap.size := keep5.out.1.size
                     clear hgrow5 ownV' ownS' keepV' d2 d3)
                  | (at_builtin
                     refine wpList_append_own _ rfl (.tmp 58) (.tmp 60) 128 rfl Wo.heap.size 3 i3 (.int .i64 0) 1 8 Tryz.underlying128 hi3 hz3 hs3 hb3 rfl (by decide) _ _ _ rfl (own5.alloc _) ⟨w5.heap.size, 0, none⟩ 1 1 [.int .i64 S.length] rfl rfl (cell_one_new _ _ _) (by simp [Value.oneCell']) (by unfold maxLen; omega) (by omega) (by simp; omega) ?_
                     intro v6 w6 hown6 hgrow6 _))
                have seen5 : Seen w5 w.heap.size v5 (knownBy K (ss.take (k + 1))) (i * 10000 + (k + 1)) := ⟨S ++ [s], by simpa using hown5, by rw [Hkb2.out]; simp, by simp; omega⟩
                exact ⟨⟨k + 1, by omega, by go_num, seen5.later (fun g cs hr => grown_keeps own5 hgrow6 (by decide) g cs hr), by rw [Htk.out, List.map_append]; exact hown6, (keep5.out.below ((Below.refl _ w5).alloc (Nat.le_refl _) _) hbW (Nat.le_refl _)).grown3 (own5.alloc _) hgrow6 hbW (Nat.le_refl _) hbW⟩, by simp [intOf]; omega⟩
        · obtain rfl : k = ss.length := by omega
          rw [List.take_of_length_le (Nat.le_refl _), ← hK.out, ← knownRows_succ hss.out] at hSeen
          rw [List.take_of_length_le (by rw [numRow_length]; exact Nat.le_refl _)] at hown
          obtain ⟨al, cl, hf, -, -, -⟩ := (own_vals hown).at
          rw [List.length_map] at hf
          subst hf
          have hown2 : wr.ownsRow w.heap.size 3 1 _ (numRow K ss).length ((numRow K ss).map (Value.int .i64)) := own_rebase (by rw [numRow_length]; exact hown) hbW
          have hvs2 := own_keep hKeep Hvs.out (Nat.le_refl _) (by decide)
          have hro2 : ROwn wr w.heap.size vs ((numRows [] rows).take i) := Hro.out.later (fun x l h => own_keep hKeep h (Nat.le_refl _) (by decide))
          have hro3 := hro2.snoc hown2
          have hl' : (numRows [] rows)[i]? = some (numRow K ss) := by rw [← hK.out]; exact numRows_get [] rows i ss hss.out
          have htk : (numRows [] rows).take (i + 1) = (numRows [] rows).take i ++ [numRow K ss] := by rw [List.take_add_one, hl']; rfl
          rw [← htk] at hro3
          have Hro3 := Lib.hid hro3
          have HSeen := Lib.hid hSeen
          have sW := hBw.size
          have hd : decide (ss.length < ss.length) = false := by simp
          have hi1 : i + 1 ≤ 1000 := by omega
          clear hro3 hSeen hown hro2 hown2 htk hl' hK
          go_wp2_with (at_builtin; refine wpList_append_own _ rfl _ _ 124 rfl w.heap.size 128 i22 (.slice none 0 0) 1 24 Tryz.underlying124 hi22 hz22 hs22 hb22 rfl (by decide) _ _ _ rfl (hvs2.alloc _) ⟨wr.heap.size, 0, none⟩ 1 1 [.slice al (numRow K ss).length cl] rfl rfl (cell_one_new _ _ _) (by simp [Value.oneCell']) (by unfold maxLen; omega) (by omega) (by simp; omega) ?_; intro v6 w6 hown6 hgrow6 _)
          refine ⟨⟨i + 1, by omega, by go_num, ?_, ⟨_, hown6, Hro3.out.later (fun x l h => own_type h (fun g cs hr => grown_keeps hvs2 hgrow6 (by decide) g cs hr))⟩, (hBw.alloc sW _).grown hgrow6 (by simp; omega) (fun k hk => (hvs2.lt k hk).1)⟩, by simp [intOf]; omega⟩
          obtain ⟨S, q1, q2, q3⟩ := HSeen.out.later (fun g cs hr => grown_keeps hvs2 hgrow6 (by decide) g cs hr)
          exact ⟨S, q1, q2, by omega⟩
    · obtain rfl : i = rows.length := by omega
      rw [List.take_of_length_le (by rw [numRows_length]; exact Nat.le_refl _)] at hro
      have Hro := Lib.hid hro
      have Hvs := Lib.hid hvs
      clear hro hvs hSeen hlt hi
      go_wp2_with fail
      go_ret
      refine ⟨_, vs, rfl, own_vals Hvs.out, Hro.out.1, fun j l hj => ?_, hB⟩
      obtain ⟨x, h1, h2⟩ := Hro.out.2 j l hj
      exact ⟨x, h1, own_ints h2⟩
end Go.Proofs.YtbekbllffphfeaaGreatDoor.L
