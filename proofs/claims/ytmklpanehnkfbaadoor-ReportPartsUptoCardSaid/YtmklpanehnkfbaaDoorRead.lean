/-
  For the laws of report: a line's conflict, by the program. Condition: at most 1,000,000 bytes; the program's tables are as they are laid.
-/
import Derived.Test.YtmklpanehnkfbaaDoorWord
namespace Go.Proofs.YtmklpanehnkfbaaDoor
open Go.RowKit Go.Shelf

theorem index_cut : ∀ (s : List UInt8), (32 ∈ s → Lib.indexByte s 32 = ((cutA s).length : Int)) ∧ (32 ∉ s → Lib.indexByte s 32 = -1)
  | [] => by simp [Lib.indexByte]
  | b :: l => by
    have ih := index_cut l
    unfold cutA at ih ⊢
    rw [Lib.indexByte, List.takeWhile_cons]
    by_cases hb : b = 32
    · subst hb
      simp
    · have h1 : (b == 32) = false := by simpa using hb
      have h2 : (b != 32) = true := by simpa using hb
      rw [h1, h2]
      simp only [Bool.false_eq_true, if_false, if_true, List.length_cons, List.mem_cons]
      constructor
      · intro h
        have hl : 32 ∈ l := h.resolve_left (fun e => hb e.symm)
        rw [ih.1 hl]
        have : (((l.takeWhile fun c => c != 32).length : Int) == -1) = false := by simp
        rw [this]
        simp
      · intro h
        have hl : 32 ∉ l := fun e => h (.inr e)
        rw [ih.2 hl]
        simp
theorem cutA_take (s : List UInt8) : s.take (cutA s).length = cutA s := by
  unfold cutA
  exact (List.prefix_iff_eq_take.1 (List.takeWhile_prefix _)).symm
theorem cut_eq (s : List UInt8) : (Lib.cut s [32]).1 = cutA s ∧ (Lib.cut s [32]).2.1 = cutB s := by
  unfold Lib.cut
  rw [Lib.index_one]
  have h := index_cut s
  by_cases hm : 32 ∈ s
  · rw [h.1 hm, if_pos (by omega)]
    simp only [Int.toNat_natCast, List.length_singleton]
    exact ⟨cutA_take s, rfl⟩
  · rw [h.2 hm, if_neg (by omega)]
    have hA : cutA s = s := tw_alone hm
    refine ⟨hA.symm, ?_⟩
    unfold cutB
    rw [hA, List.drop_of_length_le (by omega)]
theorem mem_index (l : List UInt8) (c : UInt8) : decide (0 ≤ Lib.indexByte l c) = decide (c ∈ l) := by
  rw [decide_eq_decide]
  constructor
  · intro h
    obtain ⟨o, ho⟩ := Int.eq_ofNat_of_zero_le h
    exact List.mem_of_getElem? (Lib.indexByte_some ho).1
  · intro h
    have hg := Lib.indexByte_ge l c
    rcases Int.lt_or_le (Lib.indexByte l c) 0 with h1 | h1
    · exfalso
      obtain ⟨k, hk⟩ := List.getElem?_of_mem h
      exact Lib.indexByte_none (show Lib.indexByte l c = -1 by omega) k hk
    · exact h1
theorem cut_any (s : ByteArray) (A K : ByteArray) (w : World) (hW : RepW w) (hs : s.size ≤ 1000000) (hA : bs (cutA (tl s)) = A) (hK : bs (cutB (tl s)) = K) : Calls Tryd.prog 20 #[.string s, .string ⟨#[32]⟩] w fun e w' => (∃ b, e = .returned (.tuple #[.string A, .string K, .bool b])) ∧ ∃ n, w' = w.drewN n := by
  obtain ⟨m, hm⟩ := hW.max
  refine (Tryd.strings_Cut s ⟨#[32]⟩ m w (by omega) hm).mono fun e w' ⟨he, hn⟩ => ⟨⟨(Lib.cut (tl s) [32]).2.2, ?_⟩, hn⟩
  obtain ⟨h1, h2⟩ := cut_eq (tl s)
  rw [he]
  congr 1
  show _ = Value.tuple #[.string A, .string K, .bool (Lib.cut (tl s) [32]).2.2]
  rw [← hA, ← hK, ← h1, ← h2]
theorem nl_any (K : ByteArray) (b : Bool) (w : World) (hb : decide (10 ∈ tl K) = b) : Calls Tryd.prog 21 #[.string K, .string ⟨#[10]⟩] w fun e w' => e = .returned (.bool b) ∧ w = w' := by
  refine (Tryd.strings_Contains_one K 10 w).mono fun e w' ⟨he, hw⟩ => ⟨?_, hw.symm⟩
  rw [he, mem_index, ← hb]
/-- What Read answers. -/
def ReadGives (w : World) (s : ByteArray) (e : Ending) (w' : World) : Prop :=
  ((∃ (k : Int) (key : ByteArray), Reads (tl s) k (tl key) ∧ e = .returned (.tuple #[.agg #[.int .i64 k, .string key], .bool true])) ∨ ((∀ k key, ¬ Reads (tl s) k key) ∧ e = .returned (.tuple #[.agg #[.int .i64 0, .string ⟨#[]⟩], .bool false]))) ∧ Below w.heap.size w w'
set_option maxRecDepth 100000 in
set_option maxHeartbeats 8000000 in
theorem Read_any (s : ByteArray) (w : World) (hW : RepW w) (hs : s.size ≤ 1000000) : Calls Tryd.prog 8 #[.string s] w (ReadGives w s) := by
  have HW := Lib.hid hW; clear hW
  have hW4 := HW.out.size
  obtain ⟨A, hA⟩ : ∃ A, Hid (bs (cutA (tl s)) = A) := ⟨_, Lib.hid rfl⟩
  obtain ⟨K, hK⟩ : ∃ K, Hid (bs (cutB (tl s)) = K) := ⟨_, Lib.hid rfl⟩
  have hAt : Hid (tl A = cutA (tl s)) := by rw [← hA.out]; exact Lib.hid (tl_bs _)
  have hKt : Hid (tl K = cutB (tl s)) := by rw [← hK.out]; exact Lib.hid (tl_bs _)
  have hKs : K.size ≤ 1000000 := by
    rw [← tl_length, hKt.out]
    unfold cutB
    rw [List.length_drop, tl_length]; omega
  have hKr : ∀ k key, Reads (tl s) k key → key = tl K := fun k key h => by rw [hKt.out]; exact h.cut.2.symm
  have hAr : ∀ k key, Reads (tl s) k key → conW[(k - 1).toNat]? = some (tl A) := fun k key h => by rw [hAt.out]; exact h.cut.1
  have HKr := Lib.hid hKr
  have HAr := Lib.hid hAr
  clear hKr hAr
  have hR0 : Hid (RepW (w.alloc (.cells #[.int .i64 0, .string ⟨#[]⟩] 23))) := Lib.hid (HW.out.below ((Below.refl _ w).alloc (Nat.le_refl _) _) hW4)
  go_enter Tryd.func8, Tryd.ntmps8
  go_wp2_with fail
  refine (cut_any s A K _ hR0.out hs hA.out hK.out).mono ?_
  rintro e w' ⟨⟨bb, rfl⟩, n, rfl⟩
  obtain ⟨W1, hW1⟩ : ∃ W1, Hid (w.alloc (.cells #[.int .i64 0, .string ⟨#[]⟩] 23) = W1) := ⟨_, Lib.hid rfl⟩
  have hz1 : Hid (W1.heap[w.heap.size]? = some (.cells #[.int .i64 0, .string ⟨#[]⟩] 23)) := by rw [← hW1.out]; exact Lib.hid (World.alloc_heap_new w _)
  have hb1 : Hid (Below w.heap.size w W1) := by rw [← hW1.out]; exact Lib.hid ((Below.refl _ w).alloc (Nat.le_refl _) _)
  have hs1 : w.heap.size + 1 ≤ W1.heap.size := by rw [← hW1.out]; simp
  go_wp2_with fail
  rw [hW1.out]
  go_loopw [15] (fun c wr => ∃ i : Nat, c = .int .i64 i ∧ i ≤ 5 ∧ Hid (Below (w.heap.size + 1) W1 wr) ∧ Hid (∀ j : Nat, j < i → ¬ Reads (tl s) ((j : Int) + 1) (tl K))) (fun c _ => 5 - (intOf c).toNat)
  case atStart => exact ⟨0, rfl, by omega, Lib.hid (below_draws (Below.refl _ _) _), Lib.hid (fun j h => by omega)⟩
  case round =>
    obtain ⟨i, rfl, hi, hB, hno⟩ := hrel
    have hBw : Hid (Below w.heap.size w wr) := Lib.hid (hb1.out.trans (hB.out.mono (by omega)))
    have hsz := hB.out.size
    have hzr : Hid (wr.heap[w.heap.size]? = some (.cells #[.int .i64 0, .string ⟨#[]⟩] 23)) := Lib.hid ((hB.out.block _ (by omega)).trans hz1.out)
    by_cases hlt : i < 5
    · obtain ⟨x, hx, -, x1, x2, x3⟩ := conW_get hlt
      obtain ⟨c0, c1⟩ := HW.out.con i x hx
      have g0 : wr.cell? ⟨0, i * 2, none⟩ = some (.int .i64 ((i : Int) + 1)) := (hBw.out.cell (p := ⟨0, i * 2, none⟩) (by show 0 < w.heap.size; omega)).trans c0
      have g1 : wr.cell? ⟨0, i * 2 + 1, none⟩ = some (.string (bs x)) := (hBw.out.cell (p := ⟨0, i * 2 + 1, none⟩) (by show 0 < w.heap.size; omega)).trans c1
      have f := bs_beq A x
      have Hx := Lib.hid hx
      have hRa : Hid (RepW (wr.alloc (.cells #[.int .i64 ((i : Int) + 1), .string K] 23))) := Lib.hid (HW.out.below (hBw.out.alloc (by omega) _) hW4)
      have hBa : Hid (Below (w.heap.size + 1) W1 (wr.alloc (.cells #[.int .i64 ((i : Int) + 1), .string K] 23))) := Lib.hid (hB.out.alloc (by omega) _)
      have step : ¬ Reads (tl s) ((i : Int) + 1) (tl K) → Hid (∀ j : Nat, j < i + 1 → ¬ Reads (tl s) ((j : Int) + 1) (tl K)) := fun h => Lib.hid (fun j hj => by
        rcases Nat.lt_or_ge j i with h' | h'
        · exact hno.out j h'
        · obtain rfl : j = i := by omega
          exact h)
      have Step := Lib.hid step
      have g1' : (wr.alloc (.cells #[.int .i64 ((i : Int) + 1), .string K] 23)).cell? ⟨0, i * 2 + 1, none⟩ = some (.string (bs x)) := ((hBw.out.alloc (by omega) _).cell (p := ⟨0, i * 2 + 1, none⟩) (by show 0 < w.heap.size; omega)).trans c1
      clear step c0 c1 hx x1 x2 x3
      by_cases e1 : x = tl A
      · rw [decide_eq_true e1] at f
        have hE1 := Lib.hid e1
        clear e1
        obtain ⟨r, hr⟩ : ∃ r, Hid (conOf ((i : Int) + 1) (tl K) = r) := ⟨_, Lib.hid rfl⟩
        have f2 := bs_beq s r
        have hRow : Hid (RowAt (wr.alloc (.cells #[.int .i64 ((i : Int) + 1), .string K] 23)) wr.heap.size 23 #[.int .i64 ((i : Int) + 1), .string K]) := Lib.hid (RowAt.new _ _ _)
        have k0 := hRow.out.cell (j := 0) rfl
        have k1 := hRow.out.cell (j := 1) rfl
        have hRes0 : Hid (RowAt wr w.heap.size 23 #[.int .i64 0, .string ⟨#[]⟩]) := Lib.hid hzr.out
        go_wp2_with fail
        refine (Conflict_any _ K _ hRa.out (by omega)).mono ?_
        rw [hr.out]
        rintro e w5 ⟨rfl, b5⟩
        have hB5 := Lib.hid (hBa.out.trans (b5.mono (Nat.le_trans hs1 hBa.out.size)))
        have hRes5 := Lib.hid ((hRes0.out.alloc (.cells #[.int .i64 ((i : Int) + 1), .string K] 23)).later b5)
        have hRow5 := Lib.hid (hRow.out.later b5)
        have hs5 := b5.size
        rw [World.size_alloc] at hs5
        clear b5 k0 k1 g0 g1 g1'
        by_cases e2 : r = tl s
        · rw [decide_eq_true e2] at f2
          have hE2 := Lib.hid e2
          clear e2
          obtain ⟨nl, hnl⟩ : ∃ nl, Hid (decide (10 ∈ tl K) = nl) := ⟨_, Lib.hid rfl⟩
          go_wp2_with fail
          refine (nl_any K nl _ hnl.out).mono ?_
          rintro e w6 ⟨rfl, rfl⟩
          cases nl with
          | true =>
            have hnx := Step.out (fun h => by have := hnl.out; rw [decide_eq_true_iff] at this; exact h.2.2.2 this)
            go_wp2_with fail
            exact ⟨⟨i + 1, by go_num, by omega, hB5, hnx⟩, by simp [intOf]; omega⟩
          | false =>
            have hR : Hid (Reads (tl s) ((i : Int) + 1) (tl K)) := Lib.hid ⟨by omega, by omega, hr.out.trans hE2.out, by simpa using hnl.out⟩
            have k0 := hRow5.out.cell (j := 0) rfl
            have k1 := hRow5.out.cell (j := 1) rfl
            have z0 := hRes5.out.cell (j := 0) rfl
            have z1 := hRes5.out.cell (j := 1) rfl
            have y0 := hRes5.out.frozen 0
            have y1 := hRes5.out.frozen 1
            go_wp2_with fail
            refine bodyPost_ret (results_cell_row_tmp rfl _ _ w.heap.size 23 #[.int .i64 ((i : Int) + 1), .string K] (0, 0) _ rfl ((hRes5.out.set 0 _).set 1 _) Tryd.underlying23 rfl rfl) rfl ?_
            exact ⟨.inl ⟨_, _, hR.out, rfl⟩, ((hb1.out.trans (hB5.out.mono (by omega))).setCell (p := ⟨w.heap.size, 0, none⟩) (Nat.le_refl _) _).setCell (p := ⟨w.heap.size, 1, none⟩) (Nat.le_refl _) _⟩
        · rw [decide_eq_false e2] at f2
          have hnx := Step.out (fun h => e2 (by rw [← hr.out]; exact h.2.2.1))
          clear e2 Step
          go_wp2_with fail
          exact ⟨⟨i + 1, by go_num, by omega, hB5, hnx⟩, by simp [intOf]; omega⟩
      · rw [decide_eq_false e1] at f
        have hnx := Step.out (fun h => e1 (by
          have := HAr.out _ _ h
          rw [show ((i : Int) + 1 - 1).toNat = i from by omega, Hx.out] at this
          exact Option.some.inj this))
        clear e1 Step
        go_wp2_with fail
        exact ⟨⟨i + 1, by go_num, by omega, hBa, hnx⟩, by simp [intOf]; omega⟩
    · obtain rfl : i = 5 := by omega
      have hall : ∀ k key, ¬ Reads (tl s) k key := fun k key h => by
        have h1 := h.1
        have h2 := h.2.1
        have e := HKr.out k key h
        subst e
        refine hno.out (k - 1).toNat (by omega) ?_
        rw [show (((k - 1).toNat : Nat) : Int) + 1 = k from by omega]
        exact h
      have Hall := Lib.hid hall
      have z0 : wr.cell? ⟨w.heap.size, 0, none⟩ = some (.int .i64 0) := by rw [Lib.cell_of_heap hzr.out]; rfl
      have z1 : wr.cell? ⟨w.heap.size, 1, none⟩ = some (.string ⟨#[]⟩) := by rw [Lib.cell_of_heap hzr.out]; rfl
      have y0 : wr.frozen? ⟨w.heap.size, 0, none⟩ = false := Lib.frozen_of_heap hzr.out 0
      have y1 : wr.frozen? ⟨w.heap.size, 1, none⟩ = false := Lib.frozen_of_heap hzr.out 1
      have hRes0 : Hid (RowAt wr w.heap.size 23 #[.int .i64 0, .string ⟨#[]⟩]) := Lib.hid hzr.out
      clear hall
      go_wp2_with fail
      refine bodyPost_ret (results_cell_row_tmp rfl _ _ w.heap.size 23 #[.int .i64 0, .string ⟨#[]⟩] (0, 0) _ rfl ((hRes0.out.set 0 _).set 1 _) Tryd.underlying23 rfl rfl) rfl ?_
      exact ⟨.inr ⟨Hall.out, rfl⟩, (hBw.out.setCell (p := ⟨w.heap.size, 0, none⟩) (Nat.le_refl _) _).setCell (p := ⟨w.heap.size, 1, none⟩) (Nat.le_refl _) _⟩
end Go.Proofs.YtmklpanehnkfbaaDoor
