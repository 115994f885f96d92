/-
  For the laws of lines: Start returns where a line begins. Condition: at most 5,000,000 bytes.
-/
import Derived.Test.YthojjmebjhempaaJoin
namespace Go.Proofs.Ythojjmebjhempaa
open Go.RowKit Go.Shelf

attribute [local go_sem] Oper.semAt_some

/-- How many bytes these texts have together. -/
def sumL (xs : List ByteArray) : Nat := (xs.map (·.size)).sum
theorem sumL_snoc (xs : List ByteArray) (x : ByteArray) : sumL (xs ++ [x]) = sumL xs + x.size := by simp [sumL]

/-- The answer of Start. -/
def startV (s : ByteArray) (line : Int) : Nat × Bool :=
  if 1 ≤ line ∧ line ≤ (lns s).length then (sumL ((lns s).take (line - 1).toNat), true)
  else if line = (lns s).length + 1 ∧ whole s = s then (sumL (lns s), true) else (0, false)

theorem sumL_st (s : ByteArray) : ∀ k, k ≤ s.size → sumL (st s k).1 = (st s k).2
  | 0, _ => rfl
  | k + 1, hk => by
    have h1 := sumL_st s k (by omega)
    have h2 := st_le s k
    cases h : nlB s k with
    | true => rw [st_yes h]; simp only [sumL_snoc, h1, ByteArray.size_extract]; omega
    | false => rw [st_no h]; exact h1
theorem sumL_lns (s : ByteArray) : sumL (lns s) = s.size := by
  have h1 := sumL_st s s.size (Nat.le_refl _)
  have h2 := st_le s s.size
  unfold lns
  split
  · simp only [sumL_snoc, h1, ByteArray.size_extract]; omega
  · omega
theorem sumL_prefix {xs ys : List ByteArray} (h : xs <+: ys) : sumL xs ≤ sumL ys := by
  obtain ⟨t, rfl⟩ := h
  simp [sumL]

/-- .. as the loop reckons it. -/
def sumW (xs : List ByteArray) : Int := xs.foldl (fun a x => wrap64 (a + x.size)) 0
theorem sumW_snoc (xs : List ByteArray) (x : ByteArray) : sumW (xs ++ [x]) = wrap64 (sumW xs + x.size) := by simp [sumW]
theorem wrap64_small {a : Int} (h0 : 0 ≤ a) (h : a ≤ 10000000) : wrap64 a = a := by
  unfold wrap64; omega
theorem sumW_eq (xs : List ByteArray) : sumL xs ≤ 5000000 → sumW xs = (sumL xs : Nat) := by
  rw [show xs = xs.reverse.reverse by simp]
  induction xs.reverse with
  | nil => intro _; rfl
  | cons x r ih =>
    intro h
    rw [List.reverse_cons, sumL_snoc] at h
    rw [List.reverse_cons, sumL_snoc, sumW_snoc, ih (by omega), wrap64_small (by omega) (by omega)]
    omega

set_option maxRecDepth 100000 in
set_option maxHeartbeats 2000000 in
theorem Start_in (n : Nat) (hn : 3 ≤ n) (s : ByteArray) (line : Int) (hs : s.size ≤ 5000000) (w : World) :
    CallsIn Fence.wide n Try.prog 19 #[.string s, .int .i64 line] w fun e W' => e = .returned (.tuple #[.int .i64 ((startV s line).1 : Nat), .bool (startV s line).2]) ∧ Below w.heap.size w W' := by
  have hro : Fence.wide.round = none := rfl
  have h1 : 1 ≤ n := by omega
  refine callsIn_of_wp_marks Try.func19 rfl trivial ?_ hro
  simp only [Try.ntmps19, List.size_toArray, List.length_cons, List.length_nil, Nat.reduceAdd, Nat.reduceSub, Array.replicate_succ, Array.replicate_zero, List.push_toArray, List.append_toArray, List.nil_append, List.cons_append]
  gi_wp2_with (refine ⟨trivial, ?_⟩; gi_at_call 21; refine (each_in Fence.wide (n - 1) trivial hro _ _).mono ?_; rintro e w' ⟨rfl, rfl⟩)
  have bL := Boxed.new w 3 (.int .i64 line)
  have bR := Boxed.new (w.alloc (.cells #[.int .i64 line] 3)) 3 (.int .i64 0)
  have bB := Boxed.new ((w.alloc (.cells #[.int .i64 line] 3)).alloc (.cells #[.int .i64 0] 3)) 4 (.bool false)
  have bA := Boxed.new (((w.alloc (.cells #[.int .i64 line] 3)).alloc (.cells #[.int .i64 0] 3)).alloc (.cells #[.bool false] 4)) 3 (.int .i64 0)
  have bN := Boxed.new ((((w.alloc (.cells #[.int .i64 line] 3)).alloc (.cells #[.int .i64 0] 3)).alloc (.cells #[.bool false] 4)).alloc (.cells #[.int .i64 0] 3)) 3 (.int .i64 1)
  have bS := Boxed.new (((((w.alloc (.cells #[.int .i64 line] 3)).alloc (.cells #[.int .i64 0] 3)).alloc (.cells #[.bool false] 4)).alloc (.cells #[.int .i64 0] 3)).alloc (.cells #[.int .i64 1] 3)) 9 (.string s)
  simp only [World.size_alloc] at bR bB bA bN bS
  have hB0 : Below w.heap.size w ((((((w.alloc (.cells #[.int .i64 line] 3)).alloc (.cells #[.int .i64 0] 3)).alloc (.cells #[.bool false] 4)).alloc (.cells #[.int .i64 0] 3)).alloc (.cells #[.int .i64 1] 3)).alloc (.cells #[.string s] 9)) :=
    ((((((Below.refl _ w).alloc (Nat.le_refl _) _).alloc (by simp) _).alloc (by simp; omega) _).alloc (by simp; omega) _).alloc (by simp; omega) _).alloc (by simp; omega) _
  have hll := lns_len s
  have hsl := sumL_lns s
  refine wpIn_rangeFunc_ownG hro h1 (gf := 24) (lb := #[.pointer (some ⟨w.heap.size + 1 + 1 + 1 + 1 + 1, 0, none⟩)]) rfl trivial (enters_of Try.func24 (by kernel_rfl) rfl)
    (each_stops Fence.wide (n - 1) trivial hro (by omega) (w.heap.size + 1 + 1 + 1 + 1 + 1) s (by omega) _ (by simp) bS.cell) kpBox_t (kpBox_b (by simp)) (Below.refl _ _) (fun _ => rfl)
    (fun pre W => (((((Boxed W w.heap.size 3 (.int .i64 line) ∧ Boxed W (w.heap.size + 1) 3 (.int .i64 0)) ∧ Boxed W (w.heap.size + 1 + 1) 4 (.bool false)) ∧ Boxed W (w.heap.size + 1 + 1 + 1) 3 (.int .i64 (sumW pre))) ∧ Boxed W (w.heap.size + 1 + 1 + 1 + 1) 3 (.int .i64 ((pre.length : Nat) + 1))) ∧ Boxed W (w.heap.size + 1 + 1 + 1 + 1 + 1) 9 (.string s)) ∧ Below w.heap.size w W ∧ (line < 1 ∨ (pre.length : Int) < line))
    (fun c pre W => (Boxed W (w.heap.size + 1) 3 (.int .i64 (sumW pre.dropLast)) ∧ Boxed W (w.heap.size + 1 + 1) 4 (.bool true)) ∧ Below w.heap.size w W ∧ (c = .ret ∧ line = (pre.length : Int) ∧ 1 ≤ pre.length))
    (OwnFrom.and (OwnFrom.and (OwnFrom.and (OwnFrom.and (OwnFrom.and (OwnFrom.and (Own.from (boxed_own _ _ _) _) (Own.from (boxed_own _ _ _) _)) (Own.from (boxed_own _ _ _) _)) (Own.from (boxed_own _ _ _) _)) (Own.from (boxed_own _ _ (fun pre : List ByteArray => .int .i64 ((pre.length : Nat) + 1))) _)) (Own.from (boxed_own _ _ _) _)) (OwnFrom.and (ownFrom_below (Nat.le_refl _) (by simp; omega)) (ownFrom_pure _ _)))
    (fun c => OwnFrom.and (OwnFrom.and (Own.from (boxed_own _ _ (fun pre : List ByteArray => .int .i64 (sumW pre.dropLast))) _) (Own.from (boxed_own _ _ _) _)) (OwnFrom.and (ownFrom_below (Nat.le_refl _) (by simp; omega)) (ownFrom_pure _ _)))
    ⟨⟨⟨⟨⟨⟨((((bL.alloc _).alloc _).alloc _).alloc _).alloc _, (((bR.alloc _).alloc _).alloc _).alloc _⟩, ((bB.alloc _).alloc _).alloc _⟩, (bA.alloc _).alloc _⟩, bN.alloc _⟩, bS⟩, hB0, by simp; omega⟩
    (fun x => { tmps := #[.string s, .int .i64 line, undef, .pointer (some ⟨w.heap.size, 0, none⟩), .pointer (some ⟨w.heap.size + 1, 0, none⟩), .pointer (some ⟨w.heap.size + 1 + 1, 0, none⟩), .pointer (some ⟨w.heap.size + 1 + 1 + 1, 0, none⟩), .pointer (some ⟨w.heap.size + 1 + 1 + 1 + 1, 0, none⟩), .string x, .string s, .func (.func 24) #[] #[.pointer (some ⟨w.heap.size + 1 + 1 + 1 + 1 + 1, 0, none⟩)], .string x, undef, undef, undef, undef, undef, undef, undef, undef, undef, undef, undef, undef, undef, undef, undef, undef, undef, undef, undef, undef], defers := [] }) ?assign ?body ?done ?stop
  case assign =>
    intro l x W K hK
    gi_wp2
    exact hK
  case body =>
    rintro l pre x W ⟨⟨⟨⟨⟨⟨hL, hR⟩, hBb⟩, hA⟩, hN⟩, hS⟩, hB, hno⟩ hlt
    have cL := hL.cell
    have cR := hR.cell
    have cB := hBb.cell
    have cA := hA.cell
    have cN := hN.cell
    have fR := hR.frozen
    have fB := hBb.frozen
    have fA := hA.frozen
    have fN := hN.frozen
    by_cases hb : (((pre.length : Int) + 1) == line) = true
    · gi_wp2
      have hl : line = (pre.length : Int) + 1 := (beq_iff_eq.1 hb).symm
      refine ⟨((KeepsOthers.setCell _ _ _).trans (KeepsOthers.setCell _ _ _)).from _, ⟨?_, ?_⟩, (hB.setCell (p := ⟨w.heap.size + 1, 0, none⟩) (by simp) _).setCell (p := ⟨w.heap.size + 1 + 1, 0, none⟩) (by simp; omega) _, rfl, by simp; omega, by simp⟩
      · have h := (hR.set (.int .i64 (sumW pre))).other (B' := w.heap.size + 1 + 1) (by omega) (.bool true)
        simpa using h
      · exact (hBb.other (B' := w.heap.size + 1) (by omega) _).set _
    · replace hb : (((pre.length : Int) + 1) == line) = false := by simpa using hb
      gi_wp2
      have hl : ¬ (pre.length : Int) + 1 = line := by simpa using hb
      refine ⟨((KeepsOthers.setCell _ _ _).trans (KeepsOthers.setCell _ _ _)).from _, kpBox_t (kpBox_set (by omega) _) (kpBox_set (by omega) _), ⟨⟨⟨⟨⟨⟨(hL.other (by omega) _).other (by omega) _, (hR.other (by omega) _).other (by omega) _⟩, (hBb.other (by omega) _).other (by omega) _⟩, ?_⟩, ?_⟩, (hS.other (by omega) _).other (by omega) _⟩, (hB.setCell (p := ⟨w.heap.size + 1 + 1 + 1, 0, none⟩) (by simp; omega) _).setCell (p := ⟨w.heap.size + 1 + 1 + 1 + 1, 0, none⟩) (by simp; omega) _, by simp; omega⟩⟩
      · rw [sumW_snoc]; exact (hA.set _).other (by omega) _
      · have h := (hN.other (B' := w.heap.size + 1 + 1 + 1) (by omega) (.int .i64 (wrap64 (sumW pre + x.size)))).set (.int .i64 ((pre.length : Int) + 1 + 1))
        simpa using h
  case done =>
    rintro D ys W hD rfl ⟨⟨⟨⟨⟨⟨hL, hR⟩, hBb⟩, hA⟩, hN⟩, hS⟩, hB, hno⟩ hK
    have cL := hL.cell
    have cR := hR.cell
    have cB := hBb.cell
    have cA := hA.cell
    have cN := hN.cell
    have fR := hR.frozen
    have fB := hBb.frozen
    rw [sumW_eq _ (by omega)] at cA hA
    have fin : ∀ (W2 : World) (r : Int) (b : Bool), Boxed W2 (w.heap.size + 1) 3 (.int .i64 r) → Boxed W2 (w.heap.size + 1 + 1) 4 (.bool b) → W2.heap[D]? = some (.deferred (some [])) → Below w.heap.size w W2 →
        (((W2.putObj D (.deferred none)).cell? ⟨w.heap.size + 1, 0, none⟩ = some (.int .i64 r) ∧ (W2.putObj D (.deferred none)).cell? ⟨w.heap.size + 1 + 1, 0, none⟩ = some (.bool b)) ∧ Below w.heap.size w (W2.putObj D (.deferred none))) := fun W2 r b k1 k2 k3 k4 =>
      ⟨⟨cell_kept k1.cell (grownBy_putObj' _ D (.deferred none)) (fun r e => by cases e; exact ⟨_, k3, rfl⟩), cell_kept k2.cell (grownBy_putObj' _ D (.deferred none)) (fun r e => by cases e; exact ⟨_, k3, rfl⟩)⟩, k4.trans (belowK_b (w := w) (Nat.le_refl _) W2 D _ _ (by simp at hD; omega) k3 rfl rfl)⟩
    have hKs : ∀ u1 u2, ((W.setCell ⟨w.heap.size + 1, 0, none⟩ u1).setCell ⟨w.heap.size + 1 + 1, 0, none⟩ u2).heap[D]? = some (.deferred (some [])) := fun u1 u2 =>
      ((KeepsOthers.setCell _ _ _).trans (KeepsOthers.setCell _ _ _)).same D _ hK rfl
    by_cases hb : ((((lns s).length : Int) + 1) == line) = true
    · have hl : line = ((lns s).length : Int) + 1 := (beq_iff_eq.1 hb).symm
      by_cases hw : whole s = s
      · have hwb : ((whole s).toList == s.toList) = true := by rw [hw]; simp
        have hv : startV s line = (sumL (lns s), true) := by
          unfold startV; rw [if_neg (by omega), if_pos ⟨hl, hw⟩]
        have Hv := Lib.hid hv; clear hv hl
        have Hw := Lib.hid hw; clear hw
        gi_wp2_with (refine ⟨trivial, ?_⟩; gi_at_call 15; refine ((callsIn_wide (n := n - 1)).2 (Whole_any s hs _)).mono ?_; rintro e w' ⟨rfl, rfl⟩)
        obtain ⟨⟨q1, q2⟩, q3⟩ := fin _ (s.size : Int) true ((hR.set (.int .i64 (s.size : Int))).other (B' := w.heap.size + 1 + 1) (by omega) (.bool true)) ((hBb.other (B' := w.heap.size + 1) (by omega) _).set _) (hKs _ _) ((hB.setCell (p := ⟨w.heap.size + 1, 0, none⟩) (by simp) _).setCell (p := ⟨w.heap.size + 1 + 1, 0, none⟩) (by simp; omega) _)
        refine ⟨by simp, .inl ⟨_, _, rfl, run_takeDeferred (hKs _ _), ?_⟩⟩
        refine ⟨.tuple #[.int .i64 (s.size : Int), .bool true], by simp [results, Try.results19, go_sem, q1, q2], by rw [Hv.out, hsl], ?_⟩
        exact q3
      · have hwb : ((whole s).toList == s.toList) = false := by
          rw [beq_eq_false_iff_ne]
          intro e
          exact hw (by rw [Lib.toList_data, Lib.toList_data] at e; exact ByteArray.ext (Array.toList_inj.1 e))
        have hv : startV s line = (0, false) := by
          unfold startV; rw [if_neg (by omega), if_neg (fun h => hw h.2)]
        have Hv := Lib.hid hv; clear hv hl
        clear hw
        gi_wp2_with (refine ⟨trivial, ?_⟩; gi_at_call 15; refine ((callsIn_wide (n := n - 1)).2 (Whole_any s hs _)).mono ?_; rintro e w' ⟨rfl, rfl⟩)
        obtain ⟨⟨q1, q2⟩, q3⟩ := fin _ 0 false ((hR.set (.int .i64 0)).other (B' := w.heap.size + 1 + 1) (by omega) (.bool false)) ((hBb.other (B' := w.heap.size + 1) (by omega) _).set _) (hKs _ _) ((hB.setCell (p := ⟨w.heap.size + 1, 0, none⟩) (by simp) _).setCell (p := ⟨w.heap.size + 1 + 1, 0, none⟩) (by simp; omega) _)
        refine ⟨by simp, .inl ⟨_, _, rfl, run_takeDeferred (hKs _ _), ?_⟩⟩
        refine ⟨.tuple #[.int .i64 0, .bool false], by simp [results, Try.results19, go_sem, q1, q2], by rw [Hv.out]; rfl, ?_⟩
        exact q3
    · replace hb : ((((lns s).length : Int) + 1) == line) = false := by simpa using hb
      have hl : ¬ ((lns s).length : Int) + 1 = line := by simpa using hb
      have hv : startV s line = (0, false) := by
        unfold startV; rw [if_neg (by omega), if_neg (by omega)]
      have Hv := Lib.hid hv; clear hv
      gi_wp2
      refine ⟨trivial, ?_⟩
      gi_wp2
      obtain ⟨⟨q1, q2⟩, q3⟩ := fin _ 0 false ((hR.set (.int .i64 0)).other (B' := w.heap.size + 1 + 1) (by omega) (.bool false)) ((hBb.other (B' := w.heap.size + 1) (by omega) _).set _) (hKs _ _) ((hB.setCell (p := ⟨w.heap.size + 1, 0, none⟩) (by simp) _).setCell (p := ⟨w.heap.size + 1 + 1, 0, none⟩) (by simp; omega) _)
      refine ⟨by simp, .inl ⟨_, _, rfl, run_takeDeferred (hKs _ _), ?_⟩⟩
      refine ⟨.tuple #[.int .i64 0, .bool false], by simp [results, Try.results19, go_sem, q1, q2], by rw [Hv.out]; rfl, ?_⟩
      exact q3
  case stop =>
    rintro D c pre W hD hpre ⟨⟨hR, hBb⟩, hB, rfl, hl, hp⟩ hK
    have cR := hR.cell
    have cB := hBb.cell
    gi_wp2
    obtain ⟨q, rfl⟩ : ∃ q, (lns s).take pre.length = q := ⟨_, rfl⟩
    have hpl := hpre.length_le
    have hsp := sumL_prefix hpre
    have hdl : sumW pre.dropLast = (sumL ((lns s).take (line - 1).toNat) : Nat) := by
      obtain ⟨t, ht⟩ := hpre
      have e : (lns s).take (line - 1).toNat = pre.dropLast := by
        rw [hl, ← ht, List.dropLast_eq_take, List.take_append_of_le_length (by omega)]
        congr 1
        omega
      have h2 := sumL_prefix (show pre.dropLast <+: pre from List.dropLast_prefix pre)
      rw [e]
      exact sumW_eq _ (by omega)
    have hv : startV s line = (sumL ((lns s).take (line - 1).toNat), true) := by
      unfold startV; rw [if_pos ⟨by omega, by omega⟩]
    rw [hdl] at hR
    have q1 : (W.putObj D (.deferred none)).cell? ⟨w.heap.size + 1, 0, none⟩ = _ := cell_kept hR.cell (grownBy_putObj' _ D (.deferred none)) (fun r e => by cases e; exact ⟨_, hK, rfl⟩)
    have q2 : (W.putObj D (.deferred none)).cell? ⟨w.heap.size + 1 + 1, 0, none⟩ = _ := cell_kept hBb.cell (grownBy_putObj' _ D (.deferred none)) (fun r e => by cases e; exact ⟨_, hK, rfl⟩)
    refine ⟨by simp, .inl ⟨_, _, rfl, run_takeDeferred hK, ?_⟩⟩
    refine ⟨.tuple #[.int .i64 (sumL ((lns s).take (line - 1).toNat) : Nat), .bool true], by simp [results, Try.results19, go_sem, q1, q2], by rw [hv], ?_⟩
    exact hB.trans (belowK_b (w := w) (Nat.le_refl _) W D _ _ (by simp at hD; omega) hK rfl rfl)

theorem Start_any (s : ByteArray) (line : Int) (hs : s.size ≤ 5000000) (w : World) :
    Calls Try.prog 19 #[.string s, .int .i64 line] w fun e W' => e = .returned (.tuple #[.int .i64 ((startV s line).1 : Nat), .bool (startV s line).2]) ∧ Below w.heap.size w W' :=
  (callsIn_wide (n := 3)).1 (Start_in 3 (Nat.le_refl _) s line hs w)
theorem Split_any (s : ByteArray) (hs : s.size ≤ 5000000) (w : World) :
    Calls Try.prog 11 #[.string s] w fun e W' => ∃ v, e = .returned v ∧ Strs W' v (lns s) ∧ Below w.heap.size w W' :=
  (callsIn_wide (n := 3)).1 (Split_in Fence.wide 3 trivial trivial trivial rfl (Nat.le_refl _) s hs w)
theorem Count_any (s : ByteArray) (hs : s.size ≤ 5000000) (w : World) :
    Calls Try.prog 12 #[.string s] w fun e W' => e = .returned (.int .i64 ((lns s).length : Nat)) ∧ Below w.heap.size w W' :=
  (callsIn_wide (n := 3)).1 (Count_in Fence.wide 3 trivial trivial trivial rfl (Nat.le_refl _) s (by omega) w)
end Go.Proofs.Ythojjmebjhempaa
