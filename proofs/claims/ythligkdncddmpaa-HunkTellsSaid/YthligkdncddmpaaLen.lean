/-
  For the laws of lcs: Length: how much two rows have in common. Condition: at most 1,000,000 numbers each.
-/
import Derived.Test.YthligkdncddmpaaGrid
import Derived.RegionTactic
import Derived.ChangeAlike
namespace Go.Proofs.Ythligkdncddmpaa
open Go.RowKit

/-- What Length tells. -/
def lenOf (a b : List Int) : Int := if 2000 < a.length ∨ 2000 < b.length then pfx a b + sfx a b else lc a b

theorem made_row (m : Nat) (hm : m ≤ 1000000) (V : World) : (Instr.makeSlice 22 (.int .i64 ((m : Int) + 1)) (.int .i64 ((m : Int) + 1))).run Try.prog V = .ok (.slice (some ⟨V.heap.size, 0, none⟩) (m + 1) (m + 1)) (V.alloc (.cells (rowOf m fun _ => 0) 3)) := by
  obtain ⟨i0, hi, hz0, hz1, hz2⟩ : ∃ i0, Try.prog.info? 3 = some i0 ∧ i0.zero = some (.int .i64 0) ∧ i0.size = 1 ∧ i0.bytes = 8 := ⟨_, rfl, by kernel_rfl, by kernel_rfl, by kernel_rfl⟩
  rw [run_make V 22 3 i0 _ Try.underlying22 hi hz0 .i64 .i64 _ _ (by omega) (by omega) (by rw [hz2]; omega) (by omega), hz1, rowOf_made]
  simp

set_option maxRecDepth 100000 in
set_option maxHeartbeats 4000000 in
theorem Length_long (v1 v2 : Value) (xs ys : List Int) (w : World) (h1 : Ints w .i64 v1 xs) (h2 : Ints w .i64 v2 ys) (hl1 : xs.length ≤ 1000000) (hl2 : ys.length ≤ 1000000) (hl : 2000 < xs.length ∨ 2000 < ys.length) :
    Calls Try.prog 16 #[v1, v2] w fun e w' => e = .returned (.int .i64 (pfx xs ys + sfx xs ys)) ∧ Below w.heap.size w w' := by
  obtain ⟨a1, c1, rfl, -, -, -⟩ := h1.at
  obtain ⟨a2, c2, rfl, -, -, -⟩ := h2.at
  have hd : (decide (2000 < xs.length) || decide (2000 < ys.length)) = true := by simpa using hl
  have hp := sfx_le xs ys
  go_enter Try.func16, Try.ntmps16
  go_wp2_with fail
  refine (ends_any _ _ xs ys _ h1 h2 hl1 hl2).mono ?_
  rintro e w1 ⟨rfl, b1⟩
  go_wp2_with fail
  refine (tooLong_any _ _ _ _ _ _ _).mono ?_
  rw [hd]
  rintro e w' ⟨rfl, rfl⟩
  go_wp2
  go_ret
  exact ⟨rfl, b1⟩

theorem RowAt.ne_ {W : World} {b b' : Nat} {t t' : TypeId} {vs vs' : Array Value} (h : RowAt W b t vs) (h' : RowAt W b' t' vs') (hne : t ≠ t') : b ≠ b' := by
  rintro rfl
  unfold RowAt at h h'
  rw [h] at h'
  injection h' with h'
  injection h' with _ ht
  exact hne ht
/-- The slice of the whole row g of m + 1 numbers. -/
abbrev sl (g m : Nat) : Value := .slice (some ⟨g, 0, none⟩) (m + 1) (m + 1)
theorem rowOf_congr {m : Nat} {f g : Nat → Int} (h : ∀ j, j ≤ m → f j = g j) : rowOf m f = rowOf m g := by
  unfold rowOf
  congr 1
  apply List.map_congr_left
  intro j hj
  rw [h j (by have := List.mem_range.1 hj; omega)]
/-- While the row of i + 1 is filled: ga has the row above; gr's first k + 1 numbers are there. -/
def Row2 (W : World) (ga gr i k : Nat) (A B : List Int) : Prop :=
  RowAt W ga 3 (rowOf B.length (D A B i)) ∧ ∃ f : Nat → Int, (∀ j, j ≤ k → f j = D A B (i + 1) j) ∧ RowAt W gr 3 (rowOf B.length f)
theorem Row2.step {W : World} {ga gr i k : Nat} {A B : List Int} {v : Int} (h : Row2 W ga gr i k A B) (hne : ga ≠ gr) (hv : v = D A B (i + 1) (k + 1)) : Row2 (W.setCell ⟨gr, k + 1, none⟩ (.int .i64 v)) ga gr i (k + 1) A B := by
  obtain ⟨q1, f, q2, q3⟩ := h
  refine ⟨q1.other hne _ _, _, ?_, by have := q3.set (k + 1) (.int .i64 v); rw [rowOf_set] at this; exact this⟩
  intro j hj
  show (if j = k + 1 then v else f j) = _
  by_cases e : j = k + 1
  · rw [if_pos e, e, hv]
  · rw [if_neg e, q2 j (by omega)]
theorem keepR {W : World} {R g j : Nat} (h : R < g) (v : Value) : (W.setCell ⟨g, j, none⟩ v).heap[R]? = W.heap[R]? := Below.heap_setCell W ⟨g, j, none⟩ v R (by show R ≠ g; omega)
/-- The two rows, k of them made. -/
def Two (W : World) (R m : Nat) : Nat → Prop
  | 0 => RowAt W R 60 #[.slice none 0 0, .slice none 0 0]
  | 1 => ∃ g0, R < g0 ∧ RowAt W R 60 #[sl g0 m, .slice none 0 0] ∧ RowAt W g0 3 (rowOf m fun _ => 0)
  | _ => ∃ g0 g1, g0 ≠ g1 ∧ R < g0 ∧ R < g1 ∧ RowAt W R 60 #[sl g0 m, sl g1 m] ∧ RowAt W g0 3 (rowOf m fun _ => 0) ∧ RowAt W g1 3 (rowOf m fun _ => 0)
/-- Behind i rounds: ga has the row above, gr the other one, whose first number is 0. -/
def Pair (W : World) (R m ga gr i : Nat) (A B : List Int) : Prop :=
  ga ≠ gr ∧ R < ga ∧ R < gr ∧ (i % 2 = 0 → RowAt W R 60 #[sl ga m, sl gr m]) ∧ (i % 2 = 1 → RowAt W R 60 #[sl gr m, sl ga m]) ∧ RowAt W ga 3 (rowOf m (D A B i)) ∧ ∃ f : Nat → Int, f 0 = 0 ∧ RowAt W gr 3 (rowOf m f)

theorem Pair.next {V W : World} {R ga gr i : Nat} {A B : List Int} (hP : Pair V R B.length ga gr i A B) (h : Row2 W ga gr i B.length A B) (hR : W.heap[R]? = V.heap[R]?) : Pair W R B.length gr ga (i + 1) A B := by
  obtain ⟨p1, p2, p3, p4, p5, _, _⟩ := hP
  obtain ⟨q1, f, q2, q3⟩ := h
  refine ⟨Ne.symm p1, p3, p2, fun h => (p5 (by omega)).same hR, fun h => (p4 (by omega)).same hR, ?_, D A B i, D_zero_right A B i, q1⟩
  rw [← rowOf_congr q2]
  exact q3

set_option maxRecDepth 100000 in
set_option maxHeartbeats 16000000 in
theorem Length_short (v1 v2 : Value) (xs ys : List Int) (w : World) (h1 : Ints w .i64 v1 xs) (h2 : Ints w .i64 v2 ys) (hl1 : xs.length ≤ 2000) (hl2 : ys.length ≤ 2000) :
    Calls Try.prog 16 #[v1, v2] w fun e w' => e = .returned (.int .i64 (lc xs ys)) ∧ Below w.heap.size w w' := by
  obtain ⟨a1, c1, rfl, -, -, -⟩ := h1.at
  obtain ⟨a2, c2, rfl, -, -, -⟩ := h2.at
  have hd : (decide (2000 < xs.length) || decide (2000 < ys.length)) = false := by simp; omega
  have hp := sfx_le xs ys
  have hmid := lc_mid xs ys
  have hpl := pfx_le xs ys
  obtain ⟨va, hra, hA⟩ := h1.cut (pfx xs ys) (xs.length - sfx xs ys) (by omega) (by omega) (pfx xs ys : Nat) ((xs.length : Int) - (sfx xs ys : Nat)) rfl (by omega)
  obtain ⟨vb, hrb, hB⟩ := h2.cut (pfx xs ys) (ys.length - sfx xs ys) (by omega) (by omega) (pfx xs ys : Nat) ((ys.length : Int) - (sfx xs ys : Nat)) rfl (by omega)
  have hmidA : (xs.drop (pfx xs ys)).take (xs.length - sfx xs ys - pfx xs ys) = mid xs ys := by unfold mid; congr 1; omega
  rw [hmidA] at hA
  rw [show ys.length - sfx xs ys - pfx xs ys = ys.length - pfx xs ys - sfx xs ys by omega] at hB
  have hmA : (mid xs ys).length ≤ 2000 := by rw [← hmidA]; simp; omega
  clear hmidA
  generalize mid xs ys = A at hA hmid hmA
  have hmB : ((ys.drop (pfx xs ys)).take (ys.length - pfx xs ys - sfx xs ys)).length ≤ 2000 := by simp; omega
  generalize (ys.drop (pfx xs ys)).take (ys.length - pfx xs ys - sfx xs ys) = B at hB hmid hmB
  rw [hmid]
  clear hmid
  obtain ⟨aA, cA, rfl, -, hmxA, -⟩ := hA.at
  obtain ⟨aB, cB, rfl, -, hmxB, -⟩ := hB.at
  have HA := Lib.hid hA; clear hA
  have HB := Lib.hid hB; clear hB
  have Hbd := Lib.hid (D_bd A B); 
  have hmk := made_row B.length (by omega)
  obtain ⟨p, hpp⟩ : ∃ p, Hid (pfx xs ys = p) := ⟨_, rfl⟩
  obtain ⟨s, hss⟩ : ∃ s, Hid (sfx xs ys = s) := ⟨_, rfl⟩
  go_enter Try.func16, Try.ntmps16
  go_wp2_with fail
  refine (ends_any _ _ xs ys _ h1 h2 (by omega) (by omega)).mono ?_
  rintro e w1 ⟨rfl, b1⟩
  go_wp2_with fail
  refine (tooLong_any _ _ _ _ _ _ _).mono ?_
  rw [hd]
  rintro e w' ⟨rfl, rfl⟩
  have g1 : IntKind.i64.wrap ((xs.length : Int) - (sfx xs ys : Nat)) = (xs.length : Int) - (sfx xs ys : Nat) := IntWalk.i64_in _ (by omega)
  have g2 : IntKind.i64.wrap ((ys.length : Int) - (sfx xs ys : Nat)) = (ys.length : Int) - (sfx xs ys : Nat) := IntWalk.i64_in _ (by omega)
  go_wp2_with fail
  go_quiet (fail)
  clear g1 g2 hra hrb h1 h2 hd hp hpl
  obtain ⟨W, hW⟩ : ∃ W, Hid (w1.drewN nq = W) := ⟨_, rfl⟩
  have bW : Below w.heap.size w W := by rw [← hW.out]; exact below_draws b1 nq
  clear b1
  rw [hW.out, hpp.out, hss.out]
  go_wp2
  obtain ⟨R, hR⟩ : ∃ R, W.heap.size = R := ⟨_, rfl⟩
  have hR0 : w.heap.size ≤ R := by rw [← hR]; exact bW.size
  have Hmk := Lib.hid hmk; clear hmk
  have HA := Lib.hid (HA.out.below (bW.mono (Nat.le_refl _)))
  have HB := Lib.hid (HB.out.below (bW.mono (Nat.le_refl _)))
  have c60 : RowAt (W.alloc (.cells #[.slice none 0 0, .slice none 0 0] 60)) R 60 #[.slice none 0 0, .slice none 0 0] := by rw [← hR]; exact RowAt.new _ _ _
  have bW2 : Below R W (W.alloc (.cells #[.slice none 0 0, .slice none 0 0] 60)) := by rw [← hR]; exact (Below.refl _ W).alloc (Nat.le_refl _) _
  rw [hR]
  have hmB' : B.length ≤ 9223372036854775807 := by omega
  clear hmxA hmxB
  clear hW
  go_loopw [39] (fun i wr => ∃ k : Nat, k ≤ 2 ∧ i = .int .i64 k ∧ Two wr R B.length k ∧ Below R W wr) (fun i _ => 2 - (intOf i).toNat)
  case atStart => exact ⟨0, by omega, rfl, c60, bW2⟩
  case round =>
    clear c60 bW2
    obtain ⟨k, hk, rfl, hT, hB⟩ := hrel
    obtain ⟨W2, hW2⟩ : ∃ W2, Hid (wr.alloc (.cells (rowOf B.length fun _ => 0) 3) = W2) := ⟨_, rfl⟩
    have hmk : (Instr.makeSlice 22 (.int .i64 ((B.length : Int) + 1)) (.int .i64 ((B.length : Int) + 1))).run Try.prog wr = .ok (.slice (some ⟨wr.heap.size, 0, none⟩) (B.length + 1) (B.length + 1)) W2 := by rw [Hmk.out, hW2.out]
    have r2 : RowAt W2 wr.heap.size 3 (rowOf B.length fun _ => 0) := by rw [← hW2.out]; exact RowAt.new _ _ _
    have hB2 : Below R W W2 := by rw [← hW2.out]; exact hB.alloc (by have := hB.size; omega) _
    match k, hk with
    | 0, _ =>
      have hT : RowAt wr R 60 #[.slice none 0 0, .slice none 0 0] := hT
      have hT2 : RowAt W2 R 60 #[.slice none 0 0, .slice none 0 0] := by rw [← hW2.out]; exact hT.alloc _
      have hlt := hT.lt
      have hl2 := hT2.lt
      have f0 := hT2.frozen 0
      have c0 : W2.cell? ⟨R, 0, none⟩ = some (.slice none 0 0) := hT2.cell rfl
      go_wp2
      go_roundw
      case rel => exact ⟨1, by omega, rfl, ⟨wr.heap.size, hlt, hT2.set 0 _, r2.other (by omega) _ _⟩, hB2.setCell (p := ⟨R, 0, none⟩) (Nat.le_refl _) _⟩
      case measure => simp [intOf]
    | 1, _ =>
      obtain ⟨g0, hRg, hT, r0⟩ : ∃ g0, R < g0 ∧ RowAt wr R 60 #[sl g0 B.length, .slice none 0 0] ∧ RowAt wr g0 3 (rowOf B.length fun _ => 0) := hT
      have hT2 : RowAt W2 R 60 #[sl g0 B.length, .slice none 0 0] := by rw [← hW2.out]; exact hT.alloc _
      have r02 : RowAt W2 g0 3 (rowOf B.length fun _ => 0) := by rw [← hW2.out]; exact r0.alloc _
      have hlt := hT.lt
      have hlg := r0.lt
      have hne := r0.ne_ hT (by decide)
      have hl2 := hT2.lt
      have f0 := hT2.frozen 1
      have c0 : W2.cell? ⟨R, 1, none⟩ = some (.slice none 0 0) := hT2.cell rfl
      go_wp2
      go_roundw
      case rel => exact ⟨2, by omega, rfl, ⟨g0, wr.heap.size, by omega, hRg, hlt, hT2.set 1 _, r02.other hne _ _, r2.other (by omega) _ _⟩, hB2.setCell (p := ⟨R, 1, none⟩) (Nat.le_refl _) _⟩
      case measure => simp [intOf]
    | 2, _ =>
      clear hmk r2 hB2 hW2 Hmk
      obtain ⟨g0, g1, hg, hRg, hRh, hT, r0, r1⟩ : ∃ g0 g1, g0 ≠ g1 ∧ R < g0 ∧ R < g1 ∧ RowAt wr R 60 #[sl g0 B.length, sl g1 B.length] ∧ RowAt wr g0 3 (rowOf B.length fun _ => 0) ∧ RowAt wr g1 3 (rowOf B.length fun _ => 0) := hT
      have hP : Pair wr R B.length g0 g1 0 A B := by
        refine ⟨hg, hRg, hRh, fun _ => hT, fun h => by omega, ?_, fun _ => 0, rfl, r1⟩
        rw [show D A B 0 = fun _ => 0 from funext fun k => D_zero_left A B k]
        exact r0
      clear hT r0 r1 hg
      go_wp2
      go_loopw [51] (fun c wr => ∃ i : Nat, i ≤ A.length ∧ c = .int .i64 i ∧ (∃ ga gr, Pair wr R B.length ga gr i A B) ∧ Below R W wr) (fun c _ => A.length - (intOf c).toNat)
      case atStart => exact ⟨0, Nat.zero_le _, rfl, ⟨g0, g1, hP⟩, hB⟩
      case round =>
        clear hP hB
        obtain ⟨i, hi, rfl, ⟨ga, gr, hP⟩, hB⟩ := hrel
        have hgg := hP.1
        have hga := hP.2.1
        have hgr := hP.2.2.1
        by_cases hlt : i < A.length
        · obtain ⟨x, hx⟩ : ∃ x, Hid (A[i]? = some x) := ⟨A[i], Lib.hid (List.getElem?_eq_getElem hlt)⟩
          obtain ⟨aA', cA', eA, -, -, hatA⟩ := HA.out.at
          obtain ⟨bA, oA, rfl, hbA, cellA⟩ := hatA i x hx.out
          cases eA
          obtain ⟨s0, s1, hrow, hsa, hsr⟩ : ∃ s0 s1 : Value, RowAt wr R 60 #[s0, s1] ∧ (i % 2 = 0 → s0 = sl ga B.length ∧ s1 = sl gr B.length) ∧ (i % 2 = 1 → s0 = sl gr B.length ∧ s1 = sl ga B.length) := by
            rcases Nat.mod_two_eq_zero_or_one i with h | h
            · exact ⟨_, _, hP.2.2.2.1 h, fun _ => ⟨rfl, rfl⟩, fun h' => by omega⟩
            · exact ⟨_, _, hP.2.2.2.2.1 h, fun h' => by omega, fun _ => ⟨rfl, rfl⟩⟩
          have HP := Lib.hid hP; clear hP hatA
          have CA := Lib.hid cellA; clear cellA
          have Hbelow := Lib.hid hB; clear hB
          have w1 : IntKind.i64.wrap ((i : Int) + 1) = (i : Int) + 1 := IntWalk.i64_in _ (by omega)
          have c0 : wr.cell? ⟨R, 0, none⟩ = some s0 := hrow.cell rfl
          have c1 : wr.cell? ⟨R, 1, none⟩ = some s1 := hrow.cell rfl
          rcases Nat.mod_two_eq_zero_or_one i with h2 | h2
          all_goals
            first
            | (obtain ⟨rfl, rfl⟩ := hsa h2
               have m0 : (i : Int).tmod 2 = 0 := by rw [Int.tmod_eq_emod_of_nonneg (by omega)]; omega
               have m1 : ((i : Int) + 1).tmod 2 = 1 := by rw [Int.tmod_eq_emod_of_nonneg (by omega)]; omega)
            | (obtain ⟨rfl, rfl⟩ := hsr h2
               have m0 : (i : Int).tmod 2 = 1 := by rw [Int.tmod_eq_emod_of_nonneg (by omega)]; omega
               have m1 : ((i : Int) + 1).tmod 2 = 0 := by rw [Int.tmod_eq_emod_of_nonneg (by omega)]; omega)
            clear hsa hsr
            have H2 := Lib.hid h2; clear h2
            go_wp2_with fail
            go_quiet (fail)
            obtain ⟨V, hV⟩ : ∃ V, Hid (wr.drewN nq = V) := ⟨_, rfl⟩
            have Hbel : Hid (Below R W V) := by rw [← hV.out]; exact Lib.hid (below_draws Hbelow.out nq)
            have HP1 : Hid (Pair V R B.length ga gr i A B) := by rw [← hV.out]; exact HP
            rw [hV.out]
            clear hV HP Hbelow c0 c1 m0 m1 w1 hrow nq
            go_wp2
            go_loopw [65] (fun c wi => ∃ k : Nat, k ≤ B.length ∧ c = .int .i64 k ∧ Row2 wi ga gr i k A B ∧ wi.heap[R]? = V.heap[R]? ∧ Below R W wi) (fun c _ => B.length - (intOf c).toNat)
            case atStart =>
              obtain ⟨_, _, _, _, _, q1, f, q2, q3⟩ := HP1.out
              exact ⟨0, Nat.zero_le _, rfl, ⟨q1, f, fun j hj => by obtain rfl : j = 0 := by omega
                                                                   rw [q2, D_zero_right], q3⟩, rfl, Hbel.out⟩
            case round =>
              obtain ⟨k, hk, rfl, ⟨q1, f, q2, q3⟩, hR2, hB⟩ := hrel
              by_cases hltk : k < B.length
              · obtain ⟨y, hy⟩ : ∃ y, Hid (B[k]? = some y) := ⟨B[k], Lib.hid (List.getElem?_eq_getElem hltk)⟩
                obtain ⟨aB', cB', eB, -, -, hatB⟩ := HB.out.at
                obtain ⟨bB, oB, rfl, hbB, cellB⟩ := hatB k y hy.out
                cases eB
                have ca : wr.cell? ⟨bA, oA + i, none⟩ = some (.int .i64 x) := (hB.cell (p := ⟨bA, oA + i, none⟩) (by rw [← hR]; exact hbA)).trans CA.out
                have cb : wr.cell? ⟨bB, oB + k, none⟩ = some (.int .i64 y) := (hB.cell (p := ⟨bB, oB + k, none⟩) (by rw [← hR]; exact hbB)).trans cellB
                have k0 : wr.cell? ⟨ga, k, none⟩ = some (.int .i64 (D A B i k)) := q1.cell (rowOf_get _ (by omega))
                have k1 : wr.cell? ⟨ga, k + 1, none⟩ = some (.int .i64 (D A B i (k + 1))) := q1.cell (rowOf_get _ (by omega))
                have k2 : wr.cell? ⟨gr, k, none⟩ = some (.int .i64 (D A B (i + 1) k)) := by rw [← q2 k (Nat.le_refl _)]; exact q3.cell (rowOf_get _ (by omega))
                have k3 : wr.cell? ⟨gr, k + 1, none⟩ = some (.int .i64 (f (k + 1))) := q3.cell (rowOf_get _ (by omega))
                have f3 := q3.frozen (k + 1)
                have w1 : IntKind.i64.wrap ((k : Int) + 1) = (k : Int) + 1 := IntWalk.i64_in _ (by omega)
                have d0 := Hbd.out i k
                have w2 : IntKind.i64.wrap (D A B i k + 1) = D A B i k + 1 := IntWalk.i64_in _ (by omega)
                have HQ : Hid (Row2 (wr.drewN 0) ga gr i k A B) := Lib.hid ⟨q1, f, q2, q3⟩
                have HB2 := Lib.hid hB
                have HR2 := Lib.hid hR2
                clear hatB cellB q1 q2 q3 hR2 hB
                by_cases hxy : x = y
                · have hb : (x == y) = true := by simpa using hxy
                  have Hxy := Lib.hid hxy; clear hxy
                  go_wp2_with fail
                  go_quiet (fail)
                  go_wp2_with fail
                  refine ⟨⟨k + 1, by omega, by go_num, Row2.step (W := wr.drewN nq) HQ.out hgg (D_same hx.out (by rw [Hxy.out]; exact hy.out)).symm, (keepR (W := wr.drewN nq) hgr _).trans HR2.out, (below_draws HB2.out nq).setCell (p := ⟨gr, k + 1, none⟩) (by show R ≤ gr; omega) _⟩, by simp [intOf]; omega⟩
                · have hb : (x == y) = false := by simpa using hxy
                  have Hxy := Lib.hid hxy; clear hxy
                  go_wp2_with fail
                  go_quiet (fail)
                  go_wp2_with fail
                  go_region
                  all_goals
                    go_wp2_with fail
                    refine ⟨⟨k + 1, by omega, by go_num, Row2.step (W := wr.drewN (nq + 1)) HQ.out hgg (by rw [D_diff hx.out hy.out Hxy.out]; split <;> omega), (keepR (W := wr.drewN (nq + 1)) hgr _).trans HR2.out, (below_draws HB2.out (nq + 1)).setCell (p := ⟨gr, k + 1, none⟩) (by show R ≤ gr; omega) _⟩, by simp [intOf]; omega⟩
              · obtain rfl : k = B.length := by omega
                have HQ : Hid (Pair wr R B.length gr ga (i + 1) A B) := Lib.hid (Pair.next HP1.out ⟨q1, f, q2, q3⟩ hR2)
                clear q1 q2 q3 hR2 hltk hk
                go_wp2_with fail
                refine ⟨⟨i + 1, by omega, by go_num, ⟨gr, ga, HQ.out⟩, hB⟩, by simp [intOf]; omega⟩
        · obtain rfl : i = A.length := by omega
          obtain ⟨s0, s1, hrow, hsa, hsr⟩ : ∃ s0 s1 : Value, RowAt wr R 60 #[s0, s1] ∧ (A.length % 2 = 0 → s0 = sl ga B.length ∧ s1 = sl gr B.length) ∧ (A.length % 2 = 1 → s0 = sl gr B.length ∧ s1 = sl ga B.length) := by
            rcases Nat.mod_two_eq_zero_or_one A.length with h | h
            · exact ⟨_, _, hP.2.2.2.1 h, fun _ => ⟨rfl, rfl⟩, fun h' => by omega⟩
            · exact ⟨_, _, hP.2.2.2.2.1 h, fun h' => by omega, fun _ => ⟨rfl, rfl⟩⟩
          have kD : wr.cell? ⟨ga, B.length, none⟩ = some (.int .i64 (lc A B)) := by
            have := hP.2.2.2.2.2.1.cell (rowOf_get (m := B.length) (j := B.length) _ (Nat.le_refl _))
            rw [this]
            unfold D
            rw [List.take_length, List.take_length]
          have hlc := lc_le_left A B
          have c0 : wr.cell? ⟨R, 0, none⟩ = some s0 := hrow.cell rfl
          have c1 : wr.cell? ⟨R, 1, none⟩ = some s1 := hrow.cell rfl
          have hp2 : p ≤ 2000 := by rw [← hpp.out]; have := pfx_le xs ys; omega
          have hs2 : s ≤ 2000 := by rw [← hss.out]; have := sfx_le xs ys; omega
          have hBw := bW.trans (hB.mono hR0)
          clear hP hlt hrow hi
          rcases Nat.mod_two_eq_zero_or_one A.length with h2 | h2
          all_goals
            first
            | (obtain ⟨rfl, rfl⟩ := hsa h2
               have m0 : (A.length : Int) % 2 = 0 := by omega)
            | (obtain ⟨rfl, rfl⟩ := hsr h2
               have m0 : (A.length : Int) % 2 = 1 := by omega)
            clear hsa hsr h2
            go_wp2
            go_ret
            exact ⟨by have e1 := hpp.out; have e2 := hss.out; (try rw [e1, e2]); push_cast; rfl, hBw⟩

theorem Length_any (v1 v2 : Value) (xs ys : List Int) (w : World) (h1 : Ints w .i64 v1 xs) (h2 : Ints w .i64 v2 ys) (hl1 : xs.length ≤ 1000000) (hl2 : ys.length ≤ 1000000) :
    Calls Try.prog 16 #[v1, v2] w fun e w' => e = .returned (.int .i64 (lenOf xs ys)) ∧ Below w.heap.size w w' := by
  by_cases h : 2000 < xs.length ∨ 2000 < ys.length
  · rw [show lenOf xs ys = _ from if_pos h]
    exact Length_long v1 v2 xs ys w h1 h2 hl1 hl2 h
  · rw [show lenOf xs ys = _ from if_neg h]
    exact Length_short v1 v2 xs ys w h1 h2 (by omega) (by omega)
theorem lenOf_small {xs ys : List Int} (h1 : xs.length ≤ 2000) (h2 : ys.length ≤ 2000) : lenOf xs ys = lc xs ys := if_neg (by omega)
end Go.Proofs.Ythligkdncddmpaa
