/-
  For the laws of lcs: the table of lengths that Match reads. Condition: at most 2,000 numbers each.
-/
import Derived.Test.YtfjmhnnjgjcmeaaDoorLLen
namespace Go.Proofs.YtfjmhnnjgjcmeaaDoor.L
open Go.RowKit

/-- How much what is left from i on and from k on have in common. -/
def E (a b : List Int) (i k : Nat) : Int := lc (a.drop i) (b.drop k)
theorem E_bd (a b : List Int) (i k : Nat) : 0 ≤ E a b i k ∧ E a b i k ≤ a.length := by
  unfold E
  have := lc_le_left (a.drop i) (b.drop k)
  have h2 : (a.drop i).length ≤ a.length := by simp
  omega
theorem drop_get {a : List Int} {i : Nat} {x : Int} (h : a[i]? = some x) : a.drop i = x :: a.drop (i + 1) := by
  obtain ⟨h1, h2⟩ := List.getElem?_eq_some_iff.1 h
  rw [List.drop_eq_getElem_cons h1, h2]
theorem E_same {a b : List Int} {i k : Nat} {x : Int} (h1 : a[i]? = some x) (h2 : b[k]? = some x) : E a b i k = E a b (i + 1) (k + 1) + 1 := by
  unfold E
  rw [drop_get h1, drop_get h2, lc_same]; rfl
theorem E_diff {a b : List Int} {i k : Nat} {x y : Int} (h1 : a[i]? = some x) (h2 : b[k]? = some y) (h : x ≠ y) : E a b i k = max (E a b (i + 1) k) (E a b i (k + 1)) := by
  unfold E
  rw [drop_get h1, drop_get h2, lc_diff h]; omega
theorem E_end_left {a b : List Int} {i k : Nat} (h : a.length ≤ i) : E a b i k = 0 := by
  unfold E; rw [List.drop_of_length_le h, lc_nil_left]; rfl
theorem E_end_right {a b : List Int} {i k : Nat} (h : b.length ≤ k) : E a b i k = 0 := by
  unfold E; rw [List.drop_of_length_le h, lc_nil_right]; rfl

/-- A row of m + 1 small numbers. -/
def rowU (m : Nat) (f : Nat → Int) : Array Value := ((List.range (m + 1)).map fun j => Value.int .u16 (f j)).toArray
theorem rowU_get {m j : Nat} (f : Nat → Int) (h : j ≤ m) : (rowU m f)[j]? = some (.int .u16 (f j)) := by
  simp [rowU, List.getElem?_range (show j < m + 1 by omega)]
theorem rowU_set {m j : Nat} (f : Nat → Int) (v : Int) : (rowU m f).setIfInBounds j (.int .u16 v) = rowU m (fun i => if i = j then v else f i) := by
  apply Array.ext
  · simp [rowU]
  · intro i h1 h2
    simp [rowU] at h1
    rw [Array.getElem_setIfInBounds (by simp [rowU]; omega)]
    simp [rowU]
    by_cases e : j = i
    · simp [e]
    · simp [e, Ne.symm e]
theorem rowU_congr {m : Nat} {f g : Nat → Int} (h : ∀ j, j ≤ m → f j = g j) : rowU m f = rowU m g := by
  unfold rowU
  congr 1
  apply List.map_congr_left
  intro j hj
  rw [h j (by have := List.mem_range.1 hj; omega)]
theorem rowU_made (m : Nat) : madeCells (Value.int .u16 0).cells ((((m : Nat) : Int) + 1).toNat * 1) = rowU m (fun _ => 0) := by
  rw [show ((((m : Nat) : Int) + 1).toNat * 1) = m + 1 by omega]
  apply Array.ext
  · simp [rowU, madeCells]
  · intro i h1 h2
    simp [rowU, madeCells, Value.cells, Nat.mod_one]
theorem made_rowU (m : Nat) (hm : m ≤ 1000000) (V : World) : (Instr.makeSlice 125 (.int .i64 ((m : Int) + 1)) (.int .i64 ((m : Int) + 1))).run Tryd.prog V = .ok (sl V.heap.size m) (V.alloc (.cells (rowU m fun _ => 0) 124)) := by
  obtain ⟨i0, hi, hz0, hz1, hz2⟩ : ∃ i0, Tryd.prog.info? 124 = some i0 ∧ i0.zero = some (.int .u16 0) ∧ i0.size = 1 ∧ i0.bytes = 2 := info_parts (by kernel_rfl)
  rw [run_make V 125 124 i0 _ Tryd.underlying125 hi hz0 .i64 .i64 _ _ (by omega) (by omega) (by rw [hz2]; omega) (by omega), hz1, rowU_made]
  simp [sl]

/-- Block T is the table: from the row i on its rows are filled. -/
def Tab (W : World) (T i : Nat) (a b : List Int) : Prop :=
  ∃ vs : Array Value, RowAt W T 136 vs ∧ vs.size = 2001 ∧ ∀ j, i ≤ j → j ≤ a.length → ∃ g, T < g ∧ vs[j]? = some (sl g b.length) ∧ RowAt W g 124 (rowU b.length (E a b j))
theorem u16_in (v : Int) (h0 : 0 ≤ v) (h1 : v < 65536) : IntKind.u16.wrap v = v := by
  simp [IntKind.wrap, IntKind.bits, IntKind.signed]
  omega
/-- While the row r is filled from its end on: its last k + 1 numbers are there. -/
def RowU (W : World) (g r k : Nat) (a b : List Int) : Prop :=
  ∃ f : Nat → Int, (∀ j, b.length - k ≤ j → j ≤ b.length → f j = E a b r j) ∧ RowAt W g 124 (rowU b.length f)
theorem RowU.step {W : World} {g r k q : Nat} {a b : List Int} {v : Int} (h : RowU W g r k a b) (hq : b.length - 1 - k = q) (hk : k < b.length) (hv : v = E a b r q) : RowU (W.setCell ⟨g, q, none⟩ (.int .u16 v)) g r (k + 1) a b := by
  obtain ⟨f, q2, q3⟩ := h
  refine ⟨_, ?_, by have := q3.set q (.int .u16 v); rw [rowU_set] at this; exact this⟩
  intro j h1 h2
  show (if j = q then v else f j) = _
  by_cases e : j = q
  · rw [if_pos e, e, hv]
  · rw [if_neg e, q2 j (by omega) h2]
def zeros69 : Array Value := Array.replicate 2001 (.slice none 0 0)
set_option maxRecDepth 100000 in
theorem zero136 (V : World) : (zeroValue 136).run Tryd.prog V = .ok (.agg zeros69) V := by
  have h : (Tryd.prog.info? 136).bind (fun i => i.zero) = some (.agg (Array.replicate 2001 (.slice none 0 0))) := by kernel_rfl
  obtain ⟨i, hi, hz⟩ : ∃ i, Tryd.prog.info? 136 = some i ∧ i.zero = some (.agg zeros69) := by
    cases hh : Tryd.prog.info? 136 with
    | none => rw [hh] at h; cases h
    | some i => rw [hh] at h; exact ⟨i, rfl, h⟩
  simp [zeroValue, typeInfo, hi, hz]
theorem zeros_size : zeros69.size = 2001 := by simp [zeros69]

/-- What is so behind fill. -/
def Filled (w : World) (A B : List Int) (e : Ending) (w' : World) : Prop :=
  ∃ T, e = .returned (.pointer (some ⟨T, 0, none⟩)) ∧ w.heap.size ≤ T ∧ Tab w' T 0 A B ∧ Below w.heap.size w w'

set_option maxRecDepth 100000 in
set_option maxHeartbeats 16000000 in
theorem fill_any (v1 v2 : Value) (A B : List Int) (w : World) (h1 : Ints w .i64 v1 A) (h2 : Ints w .i64 v2 B) (hl1 : A.length ≤ 2000) (hl2 : B.length ≤ 2000) :
    Calls Tryd.prog 71 #[v1, v2] w (Filled w A B) := by
  obtain ⟨aA, cA, rfl, -, hmxA, -⟩ := h1.at
  obtain ⟨aB, cB, rfl, -, hmxB, -⟩ := h2.at
  have HA := Lib.hid h1; clear h1
  have HB := Lib.hid h2; clear h2
  have Hbd := Lib.hid (E_bd A B)
  have Hmk := Lib.hid (made_rowU B.length (by omega))
  have hz := zero136
  have hzs := zeros_size
  generalize zeros69 = zs at hz hzs
  obtain ⟨T, hT⟩ : ∃ T, w.heap.size = T := ⟨_, rfl⟩
  have rT : RowAt (w.alloc (.cells zs 136)) T 136 zs := by rw [← hT]; exact RowAt.new _ _ _
  have bT : Below T w (w.alloc (.cells zs 136)) := by rw [← hT]; exact (Below.refl _ w).alloc (Nat.le_refl _) _
  have hsz : (w.alloc (.cells zs 136)).heap.size = T + 1 := by simp [hT]
  obtain ⟨W2, hW2⟩ : ∃ W2, Hid ((w.alloc (.cells zs 136)).alloc (.cells (rowU B.length fun _ => 0) 124) = W2) := ⟨_, rfl⟩
  have hmk : (Instr.makeSlice 125 (.int .i64 ((B.length : Int) + 1)) (.int .i64 ((B.length : Int) + 1))).run Tryd.prog (w.alloc (.cells zs 136)) = .ok (sl (T + 1) B.length) W2 := by rw [Hmk.out, hW2.out, hsz]
  have rT2 : RowAt W2 T 136 zs := by rw [← hW2.out]; exact rT.alloc _
  have g2 : RowAt W2 (T + 1) 124 (rowU B.length fun _ => 0) := by rw [← hW2.out, ← hsz]; exact RowAt.new _ _ _
  have bT2 : Below T w W2 := by rw [← hW2.out]; exact bT.alloc (by omega) _
  obtain ⟨z0, hz0⟩ : ∃ z0, zs[A.length]? = some z0 := ⟨_, Array.getElem?_eq_getElem (show A.length < zs.size by omega)⟩
  have c0 : W2.cell? ⟨T, A.length, none⟩ = some z0 := rT2.cell hz0
  clear hz0
  have f0 := rT2.frozen A.length
  have hTab : Tab (W2.setCell ⟨T, A.length, none⟩ (sl (T + 1) B.length)) T A.length A B := by
    refine ⟨_, rT2.set A.length _, by simp [hzs], fun j h1 h2 => ?_⟩
    obtain rfl : j = A.length := by omega
    refine ⟨T + 1, by omega, by rw [Array.getElem?_setIfInBounds, if_pos rfl, if_pos (by omega)], ?_⟩
    rw [rowU_congr (g := fun _ => 0) (fun j _ => E_end_left (Nat.le_refl _))]
    exact g2.other (by omega) _ _
  have bT3 : Below T w (W2.setCell ⟨T, A.length, none⟩ (sl (T + 1) B.length)) := bT2.setCell (p := ⟨T, A.length, none⟩) (Nat.le_refl _) _
  have Hx := Lib.hid hTab; clear hTab
  have Hy := Lib.hid bT3; clear bT3
  clear bT2 g2 rT2 bT rT hsz hzs
  go_enter Tryd.func71, Tryd.ntmps71
  go_wp2_with fail
  clear hmk c0 f0 hz hW2
  generalize W2.setCell ⟨T, A.length, none⟩ (sl (T + 1) B.length) = W3 at Hx Hy
  have hT0 : w.heap.size ≤ T := by omega
  have HA := Lib.hid (HA.out)
  go_loopw [19] (fun c wr => ∃ i : Nat, i ≤ A.length ∧ c = .int .i64 i ∧ Tab wr T (A.length - i) A B ∧ Below T w wr) (fun c _ => A.length - (intOf c).toNat)
  case atStart => exact ⟨0, Nat.zero_le _, rfl, Hx.out, Hy.out⟩
  case round =>
    clear Hx Hy
    obtain ⟨i, hi, rfl, hT2, hB⟩ := hrel
    by_cases hlt : i < A.length
    · obtain ⟨r, hr⟩ : ∃ r, A.length - 1 - i = r := ⟨_, rfl⟩
      have hr1 : A.length - i = r + 1 := by omega
      have hrA : r < A.length := by omega
      have i1 : IntKind.i64.wrap ((A.length : Int) - 1) = (A.length : Int) - 1 := IntWalk.i64_in _ (by omega)
      have i2 : IntKind.i64.wrap ((r : Int) + 1) = (r : Int) + 1 := IntWalk.i64_in _ (by omega)
      have i3 : (A.length : Int) - 1 - (i : Int) = (r : Int) := by omega
      rw [hr1] at hT2
      obtain ⟨vs, rT, hvs, hrows⟩ := hT2
      obtain ⟨gb, hTb, hvb, rb⟩ := hrows (r + 1) (Nat.le_refl _) (by omega)
      have Hrows := Lib.hid hrows; clear hrows
      have hlT := rT.lt
      have c1 : wr.cell? ⟨T, r + 1, none⟩ = some (sl gb B.length) := rT.cell hvb
      have hmk := Hmk.out
      clear hr hr1
      go_wp2_with fail
      go_region
      all_goals
        obtain ⟨W4, hW4⟩ : ∃ W4, Hid ((wr.alloc (.cells (rowU B.length fun _ => 0) 124)).drew = W4) := ⟨_, rfl⟩
        obtain ⟨gn, hgn⟩ : ∃ gn, wr.heap.size = gn := ⟨_, rfl⟩
        have b4 : Below gn wr W4 := by
          rw [← hW4.out, ← hgn]
          have := (Below.refl _ wr).alloc (Nat.le_refl _) (.cells (rowU B.length fun _ => 0) 124)
          exact ⟨this.os, this.tape, this.output, this.size, this.block⟩
        have r4 : RowU W4 gn r 0 A B := by
          refine ⟨fun _ => 0, fun j h1 h2 => (E_end_right (by omega)).symm, ?_⟩
          rw [← hW4.out, ← hgn]
          exact RowAt.new wr _ _
        have Hr4 := Lib.hid r4; clear r4
        have Hb4 := Lib.hid b4; clear b4
        rw [hW4.out, hgn]
        clear hW4 hmk c1 hvb i1 i2
        obtain ⟨x, hx⟩ : ∃ x, Hid (A[r]? = some x) := ⟨A[r], Lib.hid (List.getElem?_eq_getElem hrA)⟩
        obtain ⟨aA', cA', eA, -, -, hatA⟩ := HA.out.at
        obtain ⟨bA, oA, rfl, hbA, cellA⟩ := hatA r x hx.out
        cases eA
        have CA : Hid (wr.cell? ⟨bA, oA + r, none⟩ = some (.int .i64 x)) := Lib.hid ((hB.cell (p := ⟨bA, oA + r, none⟩) (by show bA < T; omega)).trans cellA)
        have hbA' : bA < gn := by omega
        clear hatA cellA
        have HrT := Lib.hid rT; clear rT
        have Hrb := Lib.hid rb; clear rb
        have HB' := Lib.hid hB; clear hB
        have hgb : gb < gn := by rw [← hgn]; exact Hrb.out.lt
        obtain ⟨Wo, rfl⟩ : ∃ Wo : World, Wo = wr := ⟨_, rfl⟩
        have Hgn := Lib.hid hgn; clear hgn
        go_wp2
        go_loopw [37] (fun c wi => ∃ k : Nat, k ≤ B.length ∧ c = .int .i64 k ∧ RowU wi gn r k A B ∧ Below gn Wo wi) (fun c _ => B.length - (intOf c).toNat)
        case atStart => exact ⟨0, Nat.zero_le _, rfl, Hr4.out, Hb4.out⟩
        case round =>
          clear Hr4 Hb4
          obtain ⟨k, hk, rfl, hRU, hbi⟩ := hrel
          by_cases hltk : k < B.length
          · obtain ⟨q, hq⟩ : ∃ q, B.length - 1 - k = q := ⟨_, rfl⟩
            have hqB : q < B.length := by omega
            obtain ⟨y, hy⟩ : ∃ y, Hid (B[q]? = some y) := ⟨B[q], Lib.hid (List.getElem?_eq_getElem hqB)⟩
            obtain ⟨aB', cB', eB, -, -, hatB⟩ := HB.out.at
            obtain ⟨bB, oB, rfl, hbB, cellB⟩ := hatB q y hy.out
            cases eB
            have hHR := Lib.hid hRU
            obtain ⟨f, q2, q3⟩ := hRU
            have hbB' : bB < T := by omega
            have hTg : T < gn := by rw [← Hgn.out]; exact hlT
            have ca : wr.cell? ⟨bA, oA + r, none⟩ = some (.int .i64 x) := (hbi.cell (p := ⟨bA, oA + r, none⟩) hbA').trans CA.out
            have cb : wr.cell? ⟨bB, oB + q, none⟩ = some (.int .i64 y) := (hbi.cell (p := ⟨bB, oB + q, none⟩) (by show bB < gn; omega)).trans ((HB'.out.cell (p := ⟨bB, oB + q, none⟩) hbB').trans cellB)
            have rb2 : RowAt wr gb 124 (rowU B.length (E A B (r + 1))) := Hrb.out.same (hbi.block gb hgb)
            have k0 : wr.cell? ⟨gb, q, none⟩ = some (.int .u16 (E A B (r + 1) q)) := rb2.cell (rowU_get _ (by omega))
            have k1 : wr.cell? ⟨gb, q + 1, none⟩ = some (.int .u16 (E A B (r + 1) (q + 1))) := rb2.cell (rowU_get _ (by omega))
            have k2 : wr.cell? ⟨gn, q + 1, none⟩ = some (.int .u16 (E A B r (q + 1))) := by rw [← q2 (q + 1) (by omega) (by omega)]; exact q3.cell (rowU_get _ (by omega))
            have k3 : wr.cell? ⟨gn, q, none⟩ = some (.int .u16 (f q)) := q3.cell (rowU_get _ (by omega))
            have f3 := q3.frozen q
            have d0 := Hbd.out (r + 1) (q + 1)
            have i1 : IntKind.i64.wrap ((B.length : Int) - 1) = (B.length : Int) - 1 := IntWalk.i64_in _ (by omega)
            have i2 : IntKind.i64.wrap ((q : Int) + 1) = (q : Int) + 1 := IntWalk.i64_in _ (by omega)
            have i3' : (B.length : Int) - 1 - (k : Int) = (q : Int) := by omega
            have i4 : IntKind.u16.wrap (E A B (r + 1) (q + 1) + 1) = E A B (r + 1) (q + 1) + 1 := u16_in _ (by omega) (by omega)
            have Hbi := Lib.hid hbi
            clear hatB cellB q2 q3 rb2 hbi
            by_cases hxy : x = y
            · have hb : (x == y) = true := by simpa using hxy
              have Hxy := Lib.hid hxy; clear hxy
              have Hq := Lib.hid hq; clear hq
              go_wp2_with fail
              go_quiet (fail)
              go_wp2_with fail
              refine ⟨⟨k + 1, by omega, by go_num, RowU.step (W := wr.drewN nq) hHR.out Hq.out hltk (E_same hx.out (by rw [Hxy.out]; exact hy.out)).symm, (below_draws Hbi.out nq).setCell (p := ⟨gn, q, none⟩) (Nat.le_refl _) _⟩, by simp [intOf]; omega⟩
            · have hb : (x == y) = false := by simpa using hxy
              have Hxy := Lib.hid hxy; clear hxy
              have Hq := Lib.hid hq; clear hq
              go_wp2_with fail
              go_quiet (fail)
              go_wp2_with fail
              go_region
              all_goals
                go_wp2_with fail
                refine ⟨⟨k + 1, by omega, by go_num, RowU.step (W := wr.drewN (nq + 1)) hHR.out Hq.out hltk (by rw [E_diff hx.out hy.out Hxy.out]; split <;> omega), (below_draws Hbi.out (nq + 1)).setCell (p := ⟨gn, q, none⟩) (Nat.le_refl _) _⟩, by simp [intOf]; omega⟩
          · obtain rfl : k = B.length := by omega
            obtain ⟨f, q2, q3⟩ := hRU
            rw [rowU_congr (g := E A B r) (fun j hj => q2 j (by omega) hj)] at q3
            have hTg : T < gn := by rw [← Hgn.out]; exact hlT
            have hrT := HrT.out.later (hbi.mono (by rw [Hgn.out]; exact Nat.le_refl _))
            obtain ⟨z0, hz0⟩ : ∃ z0, vs[r]? = some z0 := ⟨_, Array.getElem?_eq_getElem (show r < vs.size by omega)⟩
            have c0 : wr.cell? ⟨T, r, none⟩ = some z0 := hrT.cell hz0
            have f0 := hrT.frozen r
            have hnew : Tab (wr.setCell ⟨T, r, none⟩ (sl gn B.length)) T r A B := by
              refine ⟨_, hrT.set r _, by simp [hvs], fun j h1 h2 => ?_⟩
              by_cases e : j = r
              · subst e
                exact ⟨gn, hTg, by rw [Array.getElem?_setIfInBounds, if_pos rfl, if_pos (by omega)], q3.other (by omega) _ _⟩
              · obtain ⟨g, g1, g2, g3⟩ := Hrows.out j (by omega) h2
                refine ⟨g, g1, by rw [Array.getElem?_setIfInBounds, if_neg (by omega)]; exact g2, ?_⟩
                exact (g3.later (hbi.mono (by rw [Hgn.out]; exact Nat.le_refl _))).other (by omega) _ _
            have Hnew := Lib.hid hnew; clear hnew
            have hbb : Below T w wr := HB'.out.trans (hbi.mono (by omega))
            have hri : A.length - (i + 1) = r := by omega
            have Hri := Lib.hid hri; clear hri
            clear hz0 hrT q2 q3 hbi hltk hk hvs i3
            go_wp2_with fail
            refine ⟨⟨i + 1, by omega, by go_num, by rw [Hri.out]; exact Hnew.out, hbb.setCell (p := ⟨T, r, none⟩) (Nat.le_refl _) _⟩, by simp [intOf]; omega⟩
    · obtain rfl : i = A.length := by omega
      rw [Nat.sub_self] at hT2
      have H2 := Lib.hid hT2; clear hT2
      go_wp2
      go_ret
      exact ⟨T, rfl, hT0, H2.out, hB.mono hT0⟩
end Go.Proofs.YtfjmhnnjgjcmeaaDoor.L
