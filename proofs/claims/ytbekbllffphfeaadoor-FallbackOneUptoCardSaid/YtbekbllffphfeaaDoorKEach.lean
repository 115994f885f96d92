/-
  For the laws of marker: the iterator over the lines of a text hands over the lines, in order, up to where a round says no more. Condition: the text is shorter than 2 to the 47.
-/
import Derived.RangeFuncBox
import Derived.RangeFuncLeaves
import Derived.RangeFuncNested
import Derived.RangeFuncBound
import Derived.RangeFuncCalls
import Derived.Shelf.Abstract
import Derived.WalkKit
import Derived.OwnWalkIn
import Derived.TacticsInMore
import Derived.LoopNIn
import Derived.LoopIn
import Derived.Maps.AppendAt
import Derived.WalkSpells
import Derived.Lib.Hide
import Derived.Test.YtbekbllffphfeaaDoorProg
namespace Go.Proofs.YtbekbllffphfeaaDoor.K
open Go.RowKit Go.Shelf

attribute [local go_sem] Oper.semAt_some

/-- Is the byte at k a newline? -/
def nlB (s : ByteArray) (k : Nat) : Bool := s.data[k]?.getD 0 == 10

/-- After k bytes: the whole lines, and where the next one begins. -/
def st (s : ByteArray) : Nat → List ByteArray × Nat
  | 0 => ([], 0)
  | k + 1 => if nlB s k then ((st s k).1 ++ [s.extract (st s k).2 (k + 1)], k + 1) else st s k

def lns (s : ByteArray) : List ByteArray :=
  if (st s s.size).2 < s.size then (st s s.size).1 ++ [s.extract (st s s.size).2 s.size] else (st s s.size).1


theorem st_le (s : ByteArray) : ∀ k, (st s k).2 ≤ k
  | 0 => Nat.le_refl _
  | k + 1 => by unfold st; split; exact Nat.le_refl _; exact Nat.le_succ_of_le (st_le s k)
theorem st_yes {s : ByteArray} {k : Nat} (h : nlB s k = true) : st s (k + 1) = ((st s k).1 ++ [s.extract (st s k).2 (k + 1)], k + 1) := by rw [st, if_pos h]
theorem st_no {s : ByteArray} {k : Nat} (h : nlB s k = false) : st s (k + 1) = st s k := by rw [st, h]; rfl
theorem st_step (s : ByteArray) (k : Nat) : (st s k).1 <+: (st s (k + 1)).1 := by
  cases h : nlB s k with
  | true => rw [st_yes h]; exact List.prefix_append _ _
  | false => rw [st_no h]; exact List.prefix_refl _
theorem st_mono (s : ByteArray) (j : Nat) : ∀ d, (st s j).1 <+: (st s (j + d)).1
  | 0 => List.prefix_refl _
  | d + 1 => (st_mono s j d).trans (st_step s (j + d))
theorem st_lns {s : ByteArray} {k : Nat} (h : k ≤ s.size) : (st s k).1 <+: lns s := by
  have h1 := st_mono s k (s.size - k)
  rw [show k + (s.size - k) = s.size from by omega] at h1
  unfold lns
  split
  · exact h1.trans (List.prefix_append _ _)
  · exact h1
theorem nlB_true {s : ByteArray} {k : Nat} (h : k < s.size) (hb : ((s[k].toNat : Int) != 10) = false) : nlB s k = true := by
  have h1 : s[k].toNat = 10 := by have : (s[k].toNat : Int) = 10 := by simpa using hb
                                  omega
  have h2 : s.data[k]?.getD 0 = s[k] := by rw [Array.getElem?_eq_getElem (by simpa using h)]; rfl
  unfold nlB
  rw [h2, beq_iff_eq]
  exact UInt8.toNat_inj.1 h1
theorem nlB_false {s : ByteArray} {k : Nat} (h : k < s.size) (hb : ((s[k].toNat : Int) != 10) = true) : nlB s k = false := by
  have h1 : ¬ s[k].toNat = 10 := by intro e; simp [e] at hb
  have h2 : s.data[k]?.getD 0 = s[k] := by rw [Array.getElem?_eq_getElem (by simpa using h)]; rfl
  unfold nlB
  rw [h2, beq_eq_false_iff_ne]
  intro e
  exact h1 (by rw [e]; rfl)

/-- What a round keeps of the box. -/
def KpBox (Bs : Nat) (v : Value) (A B : World) : Prop := A.cell? ⟨Bs, 0, none⟩ = some v → B.cell? ⟨Bs, 0, none⟩ = some v

set_option maxRecDepth 100000 in
set_option maxHeartbeats 2000000 in
theorem each1_in (F : Fence) (n : Nat) (h7 : F.fn 51) (hro : F.round = none) (hn : 1 ≤ n) (l Bs : Nat) (s : ByteArray) (hs : s.size ≤ 140737488351232) (J Jx : List ByteArray → World → Prop)
    (hY : ∀ pre x W, J pre W → pre.length < (lns s).length → YieldAt F (n - 1) Tryd.prog l #[.string x] W fun e W' =>
      (e = .returned (.bool true) ∧ J (pre ++ [x]) W' ∧ KpBox Bs (.string s) W W') ∨ (e = .returned (.bool false) ∧ Jx (pre ++ [x]) W'))
    (W : World) (hBs : W.cell? ⟨Bs, 0, none⟩ = some (.string s)) (h0 : J [] W) :
    CallsIn F n Tryd.prog 51 #[.func (.yield l) #[] #[], .pointer (some ⟨Bs, 0, none⟩)] W fun e W' => (∃ v, e = .returned v) ∧
      ((∃ ys, ys = lns s ∧ J ys W') ∨ (∃ pre, pre <+: lns s ∧ Jx pre W')) := by
  refine callsIn_of_wp Tryd.func51 rfl h7 ?_ hro
  simp only [Tryd.ntmps51, List.size_toArray, List.length_cons, List.length_nil, Nat.reduceAdd, Nat.reduceSub, Array.replicate_succ, Array.replicate_zero, List.push_toArray, List.append_toArray, List.nil_append, List.cons_append]
  gi_wp2
  gi_loopw [3, 7] (fun f i wr => ∃ k : Nat, k ≤ s.size ∧ i = .int .i64 k ∧ f = .int .i64 ((st s k).2 : Nat) ∧ (st s k).2 ≤ k ∧ J (st s k).1 wr ∧ wr.cell? ⟨Bs, 0, none⟩ = some (.string s))
    (fun _ i _ => s.size - (intOf i).toNat)
  case atStart => exact ⟨0, Nat.zero_le _, rfl, rfl, Nat.le_refl _, h0, hBs⟩
  case round =>
    obtain ⟨k, hk, rfl, rfl, hfk, hJs, hcx⟩ := hrel
    by_cases hlt : k < s.size
    · by_cases hb : ((s[k].toNat : Int) != 10) = true
      · have hst := st_no (nlB_false hlt hb)
        have Hst := Lib.hid hst; clear hst
        gi_wp2
        refine ⟨⟨k + 1, by omega, by go_num, by rw [Hst.out], by rw [Hst.out]; omega, by rw [Hst.out]; exact hJs, hcx⟩, by simp [intOf]; omega⟩
      · replace hb : ((s[k].toNat : Int) != 10) = false := by simpa using hb
        have hst := st_yes (nlB_true hlt hb)
        have hpre := st_lns (s := s) (k := k + 1) (by omega)
        rw [hst] at hpre
        obtain ⟨fn, tmps, assign, body, hy, hR⟩ := hY (st s k).1 (s.extract (st s k).2 (k + 1)) wr hJs (by have := hpre.length_le; simp at this; omega)
        have Hst := Lib.hid hst; clear hst
        gi_wp2
        refine hR.mono ?_
        rintro e W3 (⟨rfl, hJ3, hk3⟩ | ⟨rfl, hJx3⟩)
        · have hc3 := hk3 hcx
          gi_wp2
          refine ⟨⟨k + 1, by omega, by go_num, by rw [Hst.out]; go_num, by rw [Hst.out]; exact Nat.le_refl _, by rw [Hst.out]; exact hJ3, hc3⟩, by simp [intOf]; omega⟩
        · gi_wp2
          refine bodyPost_ret (results_none rfl _ _ _) rfl ?_
          exact ⟨⟨_, rfl⟩, .inr ⟨_, hpre, hJx3⟩⟩
    · obtain rfl : k = s.size := by omega
      by_cases hf : (st s s.size).2 < s.size
      · have hl : lns s = (st s s.size).1 ++ [s.extract (st s s.size).2 s.size] := by unfold lns; rw [if_pos hf]
        obtain ⟨fn, tmps, assign, body, hy, hR⟩ := hY (st s s.size).1 (s.extract (st s s.size).2 s.size) wr hJs (by rw [hl]; simp)
        have Hl := Lib.hid hl; clear hl
        gi_wp2
        refine hR.mono ?_
        rintro e W3 (⟨rfl, hJ3, hk3⟩ | ⟨rfl, hJx3⟩)
        · gi_wp2
          go_end0
          exact ⟨⟨_, rfl⟩, .inl ⟨_, Hl.out.symm, hJ3⟩⟩
        · gi_wp2
          go_end0
          exact ⟨⟨_, rfl⟩, .inr ⟨_, by rw [Hl.out]; exact List.prefix_refl _, hJx3⟩⟩
      · have hl : lns s = (st s s.size).1 := by unfold lns; rw [if_neg hf]
        have Hl := Lib.hid hl; clear hl
        gi_wp2
        go_end0
        exact ⟨⟨_, rfl⟩, .inl ⟨_, Hl.out.symm, hJs⟩⟩

set_option maxHeartbeats 1000000 in
theorem each_in (F : Fence) (n : Nat) (h : F.fn 39) (hro : F.round = none) (s : ByteArray) (w : World) :
    CallsIn F n Tryd.prog 39 #[.string s] w fun e w' => e = .returned (.func (.func 51) #[] #[.pointer (some ⟨w.heap.size, 0, none⟩)]) ∧ w' = w.alloc (.cells #[.string s] 9) := by
  refine callsIn_of_wp Tryd.func39 rfl h ?_ hro
  simp only [Tryd.ntmps39, List.size_toArray, List.length_cons, List.length_nil, Nat.reduceAdd, Nat.reduceSub, Array.replicate_succ, Array.replicate_zero, List.push_toArray, List.append_toArray, List.nil_append, List.cons_append]
  gi_wp2
  go_ret
  exact ⟨rfl, rfl⟩

theorem each_stops (F : Fence) (n : Nat) (h : F.fn 51) (hro : F.round = none) (hn : 1 ≤ n) (Bs : Nat) (s : ByteArray) (hs : s.size ≤ 140737488351232) (w : World) (hBs : Bs < w.heap.size)
    (hc : w.cell? ⟨Bs, 0, none⟩ = some (.string s)) :
    SeqStopsK F n Tryd.prog 51 #[.pointer (some ⟨Bs, 0, none⟩)] (fun x : ByteArray => #[Value.string x]) (KpBox Bs (.string s)) (fun ys => ys = lns s) (fun pre => pre <+: lns s) (lns s).length w := fun l J Jx W hW _ _ hY h0 =>
  each1_in F n h hro hn l Bs s hs J Jx hY W ((hW.cell (p := ⟨Bs, 0, none⟩) hBs).trans hc) h0

theorem kpBox_t {Bs : Nat} {v : Value} {A B C : World} (h : KpBox Bs v A B) (k : KpBox Bs v B C) : KpBox Bs v A C := fun x => k (h x)
theorem kpBox_b {Bs : Nat} {v : Value} {w : World} (hBs : Bs < w.heap.size) (W : World) (l : Nat) (o o' : Obj) (hl : w.heap.size ≤ l) (_ : W.heap[l]? = some o) (_ : o.isCells = false) (_ : o.isWalk = false) : KpBox Bs v W (W.putObj l o') := fun hv => by
  have hne : Bs ≠ l := by omega
  rw [World.cell?_of_block (w := W) (w' := W.putObj l o') (a := ⟨Bs, 0, none⟩) (World.putObj_heap_other hne)]
  exact hv

theorem st_len (s : ByteArray) : ∀ k, (st s k).1.length ≤ (st s k).2
  | 0 => Nat.le_refl _
  | k + 1 => by
    have h1 := st_len s k
    have h2 := st_le s k
    cases h : nlB s k with
    | true => rw [st_yes h]; simp; omega
    | false => rw [st_no h]; exact h1
theorem lns_len (s : ByteArray) : (lns s).length ≤ s.size := by
  have h1 := st_len s s.size
  have h2 := st_le s s.size
  unfold lns
  split
  · simp; omega
  · omega
end Go.Proofs.YtbekbllffphfeaaDoor.K
