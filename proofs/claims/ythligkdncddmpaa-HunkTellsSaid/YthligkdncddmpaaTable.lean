/-
  For the laws of lcs: the document's table of lengths. Condition: at most 2,000 numbers each.
-/
import Derived.Test.YthligkdncddmpaaTurned
namespace Go.Proofs.Ythligkdncddmpaa
open Go.RowKit

/-- A row of n + 1 values. -/
def rowV (n : Nat) (h : Nat → Value) : Array Value := ((List.range (n + 1)).map h).toArray
theorem rowV_get {n j : Nat} (h : Nat → Value) (hj : j ≤ n) : (rowV n h)[j]? = some (h j) := by
  simp [rowV, List.getElem?_range (show j < n + 1 by omega)]
theorem rowV_set {n j : Nat} (h : Nat → Value) (v : Value) : (rowV n h).setIfInBounds j v = rowV n (fun i => if i = j then v else h i) := by
  apply Array.ext
  · simp [rowV]
  · intro i h1 h2
    simp [rowV] at h1
    rw [Array.getElem_setIfInBounds (by simp [rowV]; omega)]
    simp [rowV]
    by_cases e : j = i
    · simp [e]
    · simp [e, Ne.symm e]
theorem rowV_congr {n : Nat} {f g : Nat → Value} (h : ∀ j, j ≤ n → f j = g j) : rowV n f = rowV n g := by
  unfold rowV
  congr 1
  apply List.map_congr_left
  intro j hj
  rw [h j (by have := List.mem_range.1 hj; omega)]
theorem rowV_made (n : Nat) : madeCells (Value.slice none 0 0).cells ((((n : Nat) : Int) + 1).toNat * 1) = rowV n (fun _ => .slice none 0 0) := by
  rw [show ((((n : Nat) : Int) + 1).toNat * 1) = n + 1 by omega]
  apply Array.ext
  · simp [rowV, madeCells]
  · intro i h1 h2
    simp [rowV, madeCells, Value.cells, Nat.mod_one]
theorem made_rowV (n : Nat) (hn : n ≤ 1000000) (V : World) : (Instr.makeSlice 28 (.int .i64 ((n : Int) + 1)) (.int .i64 ((n : Int) + 1))).run Try.prog V = .ok (sl V.heap.size n) (V.alloc (.cells (rowV n fun _ => .slice none 0 0) 22)) := by
  obtain ⟨i0, hi, hz0, hz1, hz2⟩ : ∃ i0, Try.prog.info? 22 = some i0 ∧ i0.zero = some (.slice none 0 0) ∧ i0.size = 1 ∧ i0.bytes = 24 := ⟨_, rfl, by kernel_rfl, by kernel_rfl, by kernel_rfl⟩
  rw [run_make V 28 22 i0 _ Try.underlying28 hi hz0 .i64 .i64 _ _ (by omega) (by omega) (by rw [hz2]; omega) (by omega), hz1, rowV_made]
  simp [sl]

/-- Block T is a table whose first i rows are made: row j lies in block g j. -/
def Mk (W : World) (T n m i : Nat) : Prop :=
  ∃ g : Nat → Nat, RowAt W T 22 (rowV n fun j => if j < i then sl (g j) m else .slice none 0 0) ∧ (∀ j k, j < i → k < i → g j = g k → j = k) ∧ ∀ j, j < i → T < g j ∧ RowAt W (g j) 3 (rowOf m fun _ => 0)
/-- Block T is a table; row j holds F j. -/
def Rt (W : World) (T n m : Nat) (F : Nat → Nat → Int) : Prop :=
  ∃ g : Nat → Nat, RowAt W T 22 (rowV n fun j => sl (g j) m) ∧ (∀ j k, j ≤ n → k ≤ n → g j = g k → j = k) ∧ ∀ j, j ≤ n → T < g j ∧ RowAt W (g j) 3 (rowOf m (F j))
theorem Mk.done {W : World} {T n m : Nat} (h : Mk W T n m (n + 1)) : Rt W T n m fun _ _ => 0 := by
  obtain ⟨g, h1, h2, h3⟩ := h
  refine ⟨g, ?_, fun j k hj hk => h2 j k (by omega) (by omega), fun j hj => h3 j (by omega)⟩
  rw [rowV_congr (g := fun j => sl (g j) m) (fun j hj => if_pos (by omega))] at h1
  exact h1
theorem Mk.next {W : World} {T n m i : Nat} (h : Mk W T n m i) (_hi : i ≤ n) : Mk ((W.alloc (.cells (rowOf m fun _ => 0) 3)).setCell ⟨T, i, none⟩ (sl W.heap.size m)) T n m (i + 1) := by
  obtain ⟨g, h1, h2, h3⟩ := h
  have hT := h1.lt
  refine ⟨fun j => if j = i then W.heap.size else g j, ?_, fun j k hj hk => ?_, fun j hj => ?_⟩
  · have := (h1.alloc (.cells (rowOf m fun _ => 0) 3)).set i (sl W.heap.size m)
    rw [rowV_set] at this
    rw [rowV_congr (g := fun j => if j = i then sl W.heap.size m else if j < i then sl (g j) m else .slice none 0 0)]
    · exact this
    · intro j hj
      by_cases e : j = i
      · simp [e]
      · by_cases e2 : j < i
        · simp [e, e2, show j < i + 1 by omega]
        · simp [e, e2, show ¬ j < i + 1 by omega]
  · by_cases e : j = i
    · by_cases e' : k = i
      · intro _; omega
      · simp only [e, e', if_true, if_false]
        intro hh
        have := (h3 k (by omega)).2.lt
        omega
    · by_cases e' : k = i
      · simp only [e, e', if_true, if_false]
        intro hh
        have := (h3 j (by omega)).2.lt
        omega
      · simp only [e, e', if_false]
        exact h2 j k (by omega) (by omega)
  · by_cases e : j = i
    · simp only [e, if_true]
      exact ⟨hT, (RowAt.new W 3 _).other (by omega) _ _⟩
    · simp only [e, if_false]
      have h := h3 j (by omega)
      exact ⟨h.1, (h.2.alloc _).other (by omega) _ _⟩
theorem Rt.put {W : World} {T n m : Nat} {F : Nat → Nat → Int} (h : Rt W T n m F) {g i q : Nat} (hi : i ≤ n) (hc : W.cell? ⟨T, i, none⟩ = some (sl g m)) (v : Int) : Rt (W.setCell ⟨g, q, none⟩ (.int .i64 v)) T n m (fun a b => if a = i then (if b = q then v else F a b) else F a b) := by
  obtain ⟨g', h1, h2, h3⟩ := h
  obtain rfl : g' i = g := by
    have := (h1.cell (rowV_get _ hi)).symm.trans hc
    simp [sl] at this
    exact this
  refine ⟨g', h1.other (by have := (h3 i hi).1; omega) _ _, h2, fun j hj => ⟨(h3 j hj).1, ?_⟩⟩
  by_cases e : j = i
  · subst e
    have := (h3 j hj).2.set q (.int .i64 v)
    rw [rowOf_set] at this
    simpa using this
  · simp only [e, if_false]
    exact (h3 j hj).2.other (fun h => e (h2 j i hj hi h)) _ _
theorem Rt.cells {W : World} {T n m : Nat} {F : Nat → Nat → Int} (h : Rt W T n m F) {i : Nat} (hi : i ≤ n) : ∃ g, T < g ∧ W.cell? ⟨T, i, none⟩ = some (sl g m) ∧ (∀ q, W.frozen? ⟨g, q, none⟩ = false) ∧ ∀ q, q ≤ m → W.cell? ⟨g, q, none⟩ = some (.int .i64 (F i q)) := by
  obtain ⟨g, h1, h2, h3⟩ := h
  exact ⟨g i, (h3 i hi).1, h1.cell (rowV_get _ hi), (h3 i hi).2.frozen, fun q hq => (h3 i hi).2.cell (rowOf_get _ hq)⟩
theorem Rt.draws {W : World} {T n m : Nat} {F : Nat → Nat → Int} (h : Rt W T n m F) (q : Nat) : Rt (W.drewN q) T n m F := h

/-- What is filled: all rows behind i, and row i from q on; the last column is 0. -/
def Fin_ (F : Nat → Nat → Int) (A B : List Int) (i : Int) (q : Int) : Prop :=
  (∀ j b : Nat, i < j → j ≤ A.length → b ≤ B.length → F j b = E A B j b) ∧ (∀ j b : Nat, i = j → j ≤ A.length → q ≤ b → b ≤ B.length → F j b = E A B j b) ∧ ∀ j, j ≤ A.length → F j B.length = 0
theorem Fin_.start (A B : List Int) : Fin_ (fun _ _ => 0) A B ((A.length : Int) - 1) B.length := by
  refine ⟨fun j b h1 h2 h3 => (E_end_left (by omega)).symm, fun j b h1 _ h2 h3 => (E_end_right (by omega)).symm, fun _ _ => rfl⟩
theorem Fin_.down {F : Nat → Nat → Int} {A B : List Int} {i : Int} (h : Fin_ F A B i 0) : Fin_ F A B (i - 1) B.length := by
  obtain ⟨h1, h2, h3⟩ := h
  refine ⟨fun j b h4 h5 h6 => ?_, fun j b h4 hj h5 h6 => ?_, h3⟩
  · by_cases e : i = j
    · exact h2 j b e h5 (by omega) h6
    · exact h1 j b (by omega) h5 h6
  · obtain rfl : b = B.length := by omega
    rw [h3 j hj, E_end_right (Nat.le_refl _)]
theorem Fin_.step {F : Nat → Nat → Int} {A B : List Int} {i q : Nat} {v : Int} (h : Fin_ F A B i ((q : Int) + 1)) (hq : q < B.length) (hv : v = E A B i q) : Fin_ (fun a b => if a = i then (if b = q then v else F a b) else F a b) A B i q := by
  obtain ⟨h1, h2, h3⟩ := h
  refine ⟨fun j b h4 h5 h6 => ?_, fun j b h4 hjA h5 h6 => ?_, fun j hj => ?_⟩
  · show (if j = i then _ else _) = _
    rw [if_neg (by omega)]
    exact h1 j b h4 h5 h6
  · show (if j = i then _ else _) = _
    rw [if_pos (by omega)]
    by_cases e : b = q
    · obtain rfl : j = i := by omega
      rw [if_pos e, hv, e]
    · rw [if_neg e]
      exact h2 j b h4 hjA (by omega) h6
  · show (if j = i then _ else _) = _
    by_cases e : j = i
    · rw [if_pos e, if_neg (by omega)]
      exact h3 j hj
    · rw [if_neg e]
      exact h3 j hj

/-- What is so behind table. -/
def Tabled (w : World) (A B : List Int) (e : Ending) (w' : World) : Prop :=
  ∃ T, e = .returned (sl T A.length) ∧ w.heap.size ≤ T ∧ Rt w' T A.length B.length (E A B) ∧ Below w.heap.size w w'
theorem Rt.congr {W : World} {T n m : Nat} {F G : Nat → Nat → Int} (h : Rt W T n m F) (he : ∀ j b, j ≤ n → b ≤ m → F j b = G j b) : Rt W T n m G := by
  obtain ⟨g, h1, h2, h3⟩ := h
  refine ⟨g, h1, h2, fun j hj => ⟨(h3 j hj).1, ?_⟩⟩
  rw [← rowOf_congr (fun b hb => he j b hj hb)]
  exact (h3 j hj).2

set_option maxRecDepth 100000 in
set_option maxHeartbeats 16000000 in
theorem table_any (v1 v2 : Value) (A B : List Int) (w : World) (h1 : Ints w .i64 v1 A) (h2 : Ints w .i64 v2 B) (hl1 : A.length ≤ 2000) (hl2 : B.length ≤ 2000) :
    Calls Try.prog 42 #[v1, v2] w (Tabled w A B) := by
  obtain ⟨aA, cA, rfl, -, -, atA⟩ := h1.at
  obtain ⟨aB, cB, rfl, -, -, atB⟩ := h2.at
  have AtA := Lib.hid atA; clear atA
  have AtB := Lib.hid atB; clear atB
  have Hbd := Lib.hid (E_bd A B)
  have Hrow := Lib.hid (made_row B.length (by omega))
  clear h1 h2
  obtain ⟨T, hT⟩ : ∃ T, w.heap.size = T := ⟨_, rfl⟩
  obtain ⟨W2, hW2⟩ : ∃ W2, Hid (w.alloc (.cells (rowV A.length fun _ => .slice none 0 0) 22) = W2) := ⟨_, Lib.hid rfl⟩
  have hmk : (Instr.makeSlice 28 (.int .i64 ((A.length : Int) + 1)) (.int .i64 ((A.length : Int) + 1))).run Try.prog w = .ok (sl T A.length) W2 := by rw [made_rowV A.length (by omega), hW2.out, hT]
  have hM : Mk W2 T A.length B.length 0 := by
    refine ⟨fun _ => 0, ?_, fun j k h => by omega, fun j h => by omega⟩
    rw [← hW2.out, ← hT]
    exact RowAt.new _ _ _
  have bT : Below T w W2 := by rw [← hW2.out, ← hT]; exact (Below.refl _ w).alloc (Nat.le_refl _) _
  have hT0 : w.heap.size ≤ T := by omega
  clear hW2
  go_enter Try.func42, Try.ntmps42
  go_wp2_with fail
  clear hmk
  go_loopw [6] (fun c wr => ∃ i : Nat, i ≤ A.length + 1 ∧ c = .int .i64 i ∧ Mk wr T A.length B.length i ∧ Below T w wr) (fun c _ => A.length + 1 - (intOf c).toNat)
  case atStart => exact ⟨0, by omega, rfl, hM, bT⟩
  case round =>
    clear hM bT
    obtain ⟨i, hi, rfl, hM, hB⟩ := hrel
    by_cases hlt : i ≤ A.length
    · have hnext := Lib.hid (hM.next hlt)
      obtain ⟨g, r1, -, -⟩ := hM
      have hgT := r1.lt
      obtain ⟨W3, hW3⟩ : ∃ W3, Hid (wr.alloc (.cells (rowOf B.length fun _ => 0) 3) = W3) := ⟨_, Lib.hid rfl⟩
      have hmk : (Instr.makeSlice 22 (.int .i64 ((B.length : Int) + 1)) (.int .i64 ((B.length : Int) + 1))).run Try.prog wr = .ok (sl wr.heap.size B.length) W3 := by rw [Hrow.out, hW3.out]
      have r3 := r1.alloc (.cells (rowOf B.length fun _ => 0) 3)
      rw [hW3.out] at r3
      have c0 : W3.cell? ⟨T, i, none⟩ = some _ := r3.cell (rowV_get _ hlt)
      have f0 := r3.frozen i
      have Hnext : Hid (Mk (W3.setCell ⟨T, i, none⟩ (sl wr.heap.size B.length)) T A.length B.length (i + 1)) := by rw [← hW3.out]; exact hnext
      have HB3 : Hid (Below T w (W3.setCell ⟨T, i, none⟩ (sl wr.heap.size B.length))) := by rw [← hW3.out]; exact Lib.hid ((hB.alloc (by omega) _).setCell (p := ⟨T, i, none⟩) (Nat.le_refl _) _)
      have hd : decide (i ≤ A.length) = true := by simpa using hlt
      clear r1 r3 hnext hW3 hB
      go_wp2_with fail
      exact ⟨⟨i + 1, by omega, by go_num, Hnext.out, HB3.out⟩, by simp [intOf]; omega⟩
    · obtain rfl : i = A.length + 1 := by omega
      have hR := Lib.hid hM.done
      clear hM hlt hi
      have HB0 := Lib.hid hB; clear hB
      have hd : decide (A.length + 1 ≤ A.length) = false := by simp
      go_wp2_with fail
      go_loopw [7] (fun c wr => ∃ k : Int, -1 ≤ k ∧ k < A.length ∧ c = .int .i64 k ∧ (∃ F, Rt wr T A.length B.length F ∧ Fin_ F A B k B.length) ∧ Below T w wr) (fun c _ => (intOf c + 1).toNat)
      case atStart => exact ⟨_, by omega, by omega, rfl, ⟨_, hR.out, Fin_.start A B⟩, HB0.out⟩
      case round =>
        clear hR HB0
        obtain ⟨k, hk1, hk2, rfl, ⟨F, hR, hF⟩, hB⟩ := hrel
        by_cases hk : 0 ≤ k
        · obtain ⟨i, rfl⟩ := Int.eq_ofNat_of_zero_le hk
          have hiA : i < A.length := by omega
          obtain ⟨x, hx⟩ : ∃ x, Hid (A[i]? = some x) := ⟨A[i], Lib.hid (List.getElem?_eq_getElem hiA)⟩
          obtain ⟨bA, oA, rfl, lA, eA⟩ := AtA.out i x hx.out
          rw [hT] at lA
          have HeA := Lib.hid eA; clear eA
          have HR := Lib.hid hR; clear hR
          have HF := Lib.hid hF; clear hF
          have HBw := Lib.hid hB; clear hB
          go_wp2_with fail
          go_loopw [8] (fun c wr => ∃ l : Int, -1 ≤ l ∧ l < B.length ∧ c = .int .i64 l ∧ (∃ F, Rt wr T A.length B.length F ∧ Fin_ F A B i (l + 1)) ∧ Below T w wr) (fun c _ => (intOf c + 1).toNat)
          case atStart => exact ⟨_, by omega, by omega, rfl, ⟨_, HR.out, by rw [show (B.length : Int) - 1 + 1 = B.length by omega]; exact HF.out⟩, HBw.out⟩
          case round =>
            clear HR HF HBw
            obtain ⟨l, hl1', hl2', rfl, ⟨F, hR, hF⟩, hB⟩ := hrel
            by_cases hl : 0 ≤ l
            · obtain ⟨q, rfl⟩ := Int.eq_ofNat_of_zero_le hl
              have hqB : q < B.length := by omega
              obtain ⟨y, hy⟩ : ∃ y, Hid (B[q]? = some y) := ⟨B[q], Lib.hid (List.getElem?_eq_getElem hqB)⟩
              obtain ⟨bB, oB, rfl, lB, eB⟩ := AtB.out q y hy.out
              rw [hT] at lB
              have ca : wr.cell? ⟨bA, oA + i, none⟩ = some (.int .i64 x) := (hB.cell (p := ⟨bA, oA + i, none⟩) lA).trans HeA.out
              have cb : wr.cell? ⟨bB, oB + q, none⟩ = some (.int .i64 y) := (hB.cell (p := ⟨bB, oB + q, none⟩) lB).trans eB
              obtain ⟨g0, hg0, t0, f0, u0⟩ := hR.cells (show i ≤ A.length by omega)
              obtain ⟨g1, hg1, t1, _, u1⟩ := hR.cells (show i + 1 ≤ A.length by omega)
              have z0 := u0 q (by omega)
              have z1 := u0 (q + 1) (by omega)
              have z2 := u1 q (by omega)
              have z3 := u1 (q + 1) (by omega)
              have f1 := f0 q
              rw [hF.2.1 i (q + 1) rfl (by omega) (by omega) (by omega)] at z1
              rw [hF.1 (i + 1) q (by omega) (by omega) (by omega)] at z2
              rw [hF.1 (i + 1) (q + 1) (by omega) (by omega) (by omega)] at z3
              have s1 : IntKind.i64.wrap ((i : Int) + 1) = (i : Int) + 1 := IntWalk.i64_in _ (by omega)
              have s2 : IntKind.i64.wrap ((q : Int) + 1) = (q : Int) + 1 := IntWalk.i64_in _ (by omega)
              have d3 := Hbd.out (i + 1) (q + 1)
              have s3 : IntKind.i64.wrap (E A B (i + 1) (q + 1) + 1) = E A B (i + 1) (q + 1) + 1 := IntWalk.i64_in _ (by omega)
              have Hput := Lib.hid (fun d v => Rt.put (W := wr.drewN d) (hR.draws d) (show i ≤ A.length by omega) t0 (q := q) v)
              have HF := Lib.hid hF; clear hF
              have HBl := Lib.hid hB; clear hB
              have q1 : i < A.length + 1 := by omega
              have q2 : i + 1 < A.length + 1 := by omega
              have q3 : q < B.length + 1 := by omega
              have q4 : q + 1 < B.length + 1 := by omega
              clear u0 u1 f0 hR eB
              by_cases hxy : x = y
              · have hb : (x == y) = true := by simpa using hxy
                have hval := E_same hx.out (by rw [hxy]; exact hy.out)
                have Hval := Lib.hid hval; clear hval hxy
                go_wp2_with fail
                go_quiet (fail)
                go_wp2_with fail
                go_region
                all_goals
                  go_wp2_with fail
                  exact ⟨⟨(q : Int) - 1, by omega, by omega, rfl, ⟨_, Hput.out _ _, by rw [show (q : Int) - 1 + 1 = q by omega]; exact Fin_.step HF.out hqB Hval.out.symm⟩, (below_draws HBl.out _).setCell (p := ⟨g0, q, none⟩) (Nat.le_of_lt hg0) _⟩, by simp [intOf]⟩
              · have hb : (x == y) = false := by simpa using hxy
                have hval := E_diff hx.out hy.out hxy
                have Hval := Lib.hid hval; clear hval hxy
                go_wp2_with fail
                go_quiet (fail)
                go_wp2_with fail
                go_region
                all_goals
                  go_wp2_with fail
                  exact ⟨⟨(q : Int) - 1, by omega, by omega, rfl, ⟨_, Hput.out _ _, by rw [show (q : Int) - 1 + 1 = q by omega]; exact Fin_.step HF.out hqB (by rw [Hval.out]; split <;> omega)⟩, (below_draws HBl.out _).setCell (p := ⟨g0, q, none⟩) (Nat.le_of_lt hg0) _⟩, by simp [intOf]⟩
            · obtain rfl : l = -1 := by omega
              have hF2 := Lib.hid (Fin_.down (i := i) hF)
              have hR2 := Lib.hid hR
              clear hF hR hl hl1' hl2'
              go_wp2_with fail
              exact ⟨⟨(i : Int) - 1, by omega, by omega, rfl, ⟨F, hR2.out, hF2.out⟩, hB⟩, by simp [intOf]⟩
        · obtain rfl : k = -1 := by omega
          have hfin := Lib.hid (hR.congr (G := E A B) (fun j b hj hb => hF.1 j b (by omega) hj hb))
          have hBw := hB.mono hT0
          clear hR hF hk hk1 hk2 hB hT
          go_wp2_with fail
          go_ret
          exact ⟨T, rfl, hT0, hfin.out, hBw⟩
end Go.Proofs.Ythligkdncddmpaa
