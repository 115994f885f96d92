/-
  For the laws of hunk: the iterator over the places of a match; the hunks of a match. Conditions: at most 1,000,000 places, none above 1,000,000.
-/
import Derived.Test.YthligkdncddmpaaHy
import Derived.RangeFuncLeaves
import Derived.RangeFuncNested
import Derived.RangeFuncBound
import Derived.RangeFuncCalls
import Derived.OwnWalkIn
import Derived.TacticsInMore
import Derived.LoopNIn
import Derived.LoopIn
import Derived.Laws.EntriesVeiled
import Derived.Shelf.Abstract
namespace Go.Proofs.Ythligkdncddmpaa
open Go.RowKit Go.Shelf

attribute [local go_sem] Oper.semAt_some

/-- What a round keeps: the blocks of S. -/
def KpSet (S : Nat → Prop) (A B : World) : Prop := ∀ q, S q → B.heap[q]? = A.heap[q]?
theorem kpSet_t {S : Nat → Prop} {A B C : World} (h : KpSet S A B) (k : KpSet S B C) : KpSet S A C := fun q hq => (k q hq).trans (h q hq)
theorem kpSet_b {S : Nat → Prop} {w : World} (hS : ∀ q, S q → q < w.heap.size) (W : World) (l : Nat) (o o' : Obj) (hl : w.heap.size ≤ l) (_ : W.heap[l]? = some o) (_ : o.isCells = false) (_ : o.isWalk = false) : KpSet S W (W.putObj l o') := fun q hq => by
  have := hS q hq
  exact World.putObj_heap_other (by omega)

theorem preP_append (A B : List Int) (i : Nat) : preP i (A ++ B) = preP i A ++ preP (i + A.length) B := by
  induction A generalizing i with
  | nil => simp [preP]
  | cons y A ih =>
    simp only [List.cons_append, preP, ih]
    rw [show i + 1 + A.length = i + (y :: A).length from by simp; omega]
    split <;> simp
theorem preP_take_le (M : List Int) (k : Nat) : (preP 0 (M.take k)).length ≤ (preP 0 M).length := by
  have h := preP_append (M.take k) (M.drop k) 0
  rw [List.take_append_drop] at h
  rw [h, List.length_append]
  omega

theorem kept_any (a : Option Addr) (m c : Nat) (n : Int) (w : World) : Calls Try.prog 45 #[.slice a m c, .int .i64 n] w fun e w' => e = .returned (.func (.func 47) #[] #[.pointer (some ⟨w.heap.size, 0, none⟩), .pointer (some ⟨w.heap.size + 1, 0, none⟩)]) ∧ w' = (w.alloc (.cells #[.slice a m c] 22)).alloc (.cells #[.int .i64 n] 3) := by
  go_enter Try.func45, Try.ntmps45
  go_wp2_with fail
  go_ret
  exact ⟨rfl, rfl⟩

/-- A place that is handed over. -/
abbrev Pl := { p : Int × Int // (0 ≤ p.1 ∧ p.1 ≤ 1000000) ∧ (0 ≤ p.2 ∧ p.2 ≤ 1000000) }
def plain (ps : List Pl) : List (Int × Int) := ps.map Subtype.val
theorem plain_snoc (ps : List Pl) (p : Pl) : plain (ps ++ [p]) = plain ps ++ [p.1] := by simp [plain]
theorem upAll_bd (ps : List Pl) : (0 ≤ (upAll (plain ps)).2.1 ∧ (upAll (plain ps)).2.1 ≤ 1000001) ∧ (0 ≤ (upAll (plain ps)).2.2 ∧ (upAll (plain ps)).2.2 ≤ 1000001) := by
  rcases List.eq_nil_or_concat ps with rfl | ⟨qs, q, rfl⟩
  · simp [plain, upAll]
  · rw [List.concat_eq_append, plain_snoc, upAll_snoc]
    have := q.2
    simp only [upSt]
    omega

set_option maxRecDepth 100000 in
set_option maxHeartbeats 2000000 in
theorem kept1_in (F : Fence) (fu : Nat) (h7 : F.fn 47) (hro : F.round = none) (hn : 1 ≤ fu) (l Bm Bn : Nat) (v : Value) (M : List Int) (n : Int) (S : Nat → Prop) (J Jx : List Pl → World → Prop)
    (hY : ∀ pre x W, J pre W → pre.length < (pairs M n).length → YieldAt F (fu - 1) Try.prog l #[.int .i64 x.1.1, .int .i64 x.1.2] W fun e W' =>
      (e = .returned (.bool true) ∧ J (pre ++ [x]) W' ∧ KpSet S W W') ∨ (e = .returned (.bool false) ∧ Jx (pre ++ [x]) W'))
    (W : World) (hBm : W.cell? ⟨Bm, 0, none⟩ = some v) (hBn : W.cell? ⟨Bn, 0, none⟩ = some (.int .i64 n)) (h1 : Ints W .i64 v M) (hlen : M.length ≤ 1000000) (hx1 : ∀ x ∈ M, x ≤ 1000000) (hn0 : 0 ≤ n) (hn1 : n ≤ 1000000)
    (hSm : S Bm) (hSn : S Bn) (hSv : ∀ b off c m, v = .slice (some ⟨b, off, none⟩) c m → M ≠ [] → S b) (h0 : J [] W) :
    CallsIn F fu Try.prog 47 #[.func (.yield l) #[] #[], .pointer (some ⟨Bm, 0, none⟩), .pointer (some ⟨Bn, 0, none⟩)] W fun e W' => (∃ v, e = .returned v) ∧
      ((∃ ys, plain ys = pairs M n ∧ J ys W') ∨ (∃ pre, True ∧ Jx pre W')) := by
  obtain ⟨a, cap, rfl, hc, hm, hat⟩ := h1.at
  have Hat := Lib.hid hat; clear hat h1
  unfold maxLen at hm
  refine callsIn_of_wp Try.func47 rfl h7 ?_ hro
  simp only [Try.ntmps47, List.size_toArray, List.length_cons, List.length_nil, Nat.reduceAdd, Nat.reduceSub, Array.replicate_succ, Array.replicate_zero, List.push_toArray, List.append_toArray, List.nil_append, List.cons_append]
  gi_wp2
  gi_loopw [8] (fun i wr => ∃ (k : Nat) (ps : List Pl), k ≤ M.length ∧ i = .int .i64 k ∧ plain ps = preP 0 (M.take k) ∧ J ps wr ∧ KpSet S W wr)
    (fun i _ => M.length - (intOf i).toNat)
  case atStart => exact ⟨0, [], Nat.zero_le _, rfl, by simp [preP, plain], h0, fun _ _ => rfl⟩
  case round =>
    obtain ⟨k, ps, hk, rfl, hps, hJs, hKp⟩ := hrel
    have hcn : wr.cell? ⟨Bn, 0, none⟩ = some (.int .i64 n) := (World.cell?_of_block (w := W) (a := ⟨Bn, 0, none⟩) (hKp Bn hSn)).trans hBn
    have hcm : wr.cell? ⟨Bm, 0, none⟩ = some (.slice a M.length cap) := (World.cell?_of_block (w := W) (a := ⟨Bm, 0, none⟩) (hKp Bm hSm)).trans hBm
    have hpl : ps.length = (preP 0 (M.take k)).length := by rw [← hps]; simp [plain]
    by_cases hlt : k < M.length
    · obtain ⟨x, hx⟩ : ∃ x, M[k]? = some x := ⟨_, List.getElem?_eq_getElem hlt⟩
      have hxb := hx1 x (List.mem_of_getElem? hx)
      obtain ⟨b, off, rfl, hl, e1⟩ := Hat.out k x hx
      have c1 : wr.cell? ⟨b, off + k, none⟩ = some (.int .i64 x) := (World.cell?_of_block (w := W) (a := ⟨b, off + k, none⟩) (hKp b (hSv b off _ _ rfl (by rintro rfl; simp at hlt)))).trans e1
      have hp := preP_take hx
      rw [← hps] at hp
      have Hps := Lib.hid hps; clear hps
      by_cases h0x : 0 ≤ x
      · rw [if_pos h0x] at hp
        obtain ⟨fn, tmps, assign, body, hy, hR⟩ := hY ps ⟨((k : Int), x), ⟨by omega, by simp; omega⟩, ⟨by omega, by omega⟩⟩ wr hJs (by have := preP_take_le M k; unfold pairs; simp; omega)
        have Hp := Lib.hid hp; have Hpl := Lib.hid hpl; clear hp e1 hx hpl
        have d0 : decide (0 ≤ x) = true := decide_eq_true h0x
        gi_wp2
        refine hR.mono ?_
        rintro e W3 (⟨rfl, hJ3, hk3⟩ | ⟨rfl, hJx3⟩)
        · gi_wp2
          refine ⟨⟨k + 1, _, by omega, by go_num, by rw [Hp.out, plain_snoc], hJ3, kpSet_t hKp hk3⟩, by simp [intOf]; omega⟩
        · gi_wp2
          refine bodyPost_ret (results_none rfl _ _ _) rfl ?_
          exact ⟨⟨_, rfl⟩, .inr ⟨_, trivial, hJx3⟩⟩
      · rw [if_neg h0x, List.append_nil] at hp
        have Hp := Lib.hid hp; have Hpl := Lib.hid hpl; clear hp e1 hx hpl
        have d0 : decide (0 ≤ x) = false := decide_eq_false h0x
        gi_wp2
        refine ⟨(by intro f hf; cases hf), ?_⟩
        gi_wp2
        refine ⟨⟨k + 1, ps, by omega, by go_num, Hp.out.symm, hJs, hKp⟩, by simp [intOf]; omega⟩
    · obtain rfl : k = M.length := by omega
      rw [List.take_length] at hps hpl
      obtain ⟨fn, tmps, assign, body, hy, hR⟩ := hY ps ⟨((M.length : Int), n), ⟨by omega, by simp; omega⟩, ⟨hn0, hn1⟩⟩ wr hJs (by simp [pairs]; omega)
      have hfin : plain (ps ++ [⟨((M.length : Int), n), ⟨by omega, by simp; omega⟩, ⟨hn0, hn1⟩⟩]) = pairs M n := by rw [plain_snoc, hps]; rfl
      have Hfin := Lib.hid hfin; clear hfin hps hpl
      gi_wp2
      refine hR.mono ?_
      rintro e W3 (⟨rfl, hJ3, hk3⟩ | ⟨rfl, hJx3⟩)
      · gi_wp2
        go_end0
        exact ⟨⟨_, rfl⟩, .inl ⟨_, Hfin.out, hJ3⟩⟩
      · gi_wp2
        go_end0
        exact ⟨⟨_, rfl⟩, .inr ⟨_, trivial, hJx3⟩⟩

theorem kept_stops (F : Fence) (fu : Nat) (h7 : F.fn 47) (hro : F.round = none) (hn : 1 ≤ fu) (Bm Bn : Nat) (v : Value) (M : List Int) (n : Int) (S : Nat → Prop) (w : World) (hS : ∀ q, S q → q < w.heap.size)
    (hBm : w.cell? ⟨Bm, 0, none⟩ = some v) (hBn : w.cell? ⟨Bn, 0, none⟩ = some (.int .i64 n)) (h1 : Ints w .i64 v M) (hlen : M.length ≤ 1000000) (hx1 : ∀ x ∈ M, x ≤ 1000000) (hn0 : 0 ≤ n) (hn1 : n ≤ 1000000)
    (hSm : S Bm) (hSn : S Bn) (hSv : ∀ b off c m, v = .slice (some ⟨b, off, none⟩) c m → M ≠ [] → S b) :
    SeqStopsK F fu Try.prog 47 #[.pointer (some ⟨Bm, 0, none⟩), .pointer (some ⟨Bn, 0, none⟩)] (fun x : Pl => #[Value.int .i64 x.1.1, Value.int .i64 x.1.2]) (KpSet S) (fun ys => plain ys = pairs M n) (fun _ => True) (pairs M n).length w := fun l J Jx W hW _ _ hY h0 =>
  kept1_in F fu h7 hro hn l Bm Bn v M n S J Jx hY W ((hW.cell (p := ⟨Bm, 0, none⟩) (hS _ hSm)).trans hBm) ((hW.cell (p := ⟨Bn, 0, none⟩) (hS _ hSn)).trans hBn) (h1.below hW) hlen hx1 hn0 hn1 hSm hSn hSv h0

theorem isMatch_le {n : Int} : ∀ {M : List Int} {q : Int}, isMatch n q M → ∀ x ∈ M, x < n
  | [], _, _, _, h => by simp at h
  | _ :: _, _, h, x, hx => by
    rcases List.mem_cons.1 hx with rfl | hx
    · exact h.2.1
    · exact isMatch_le h.2.2.2 x hx

theorem upTo_any (W : World) (base Ba Bb Bl : Nat) (ps : List Pl) (p : Pl) (h1 : Boxed W Ba 3 (.int .i64 (upAll (plain ps)).2.1)) (h2 : Boxed W Bb 3 (.int .i64 (upAll (plain ps)).2.2)) (v : Value) (h3 : Boxed W Bl 37 v)
    (ho : W.ownsRow base 50 4 v (upAll (plain ps)).1.length ((upAll (plain ps)).1.flatMap Hk.row)) (hsz : base ≤ W.heap.size) (hL : ps.length ≤ 1000000) (hla : Bl < Ba) (hab : Ba < Bb) (hbb : Bb < base) :
    Calls Try.prog 44 #[.int .i64 p.1.1, .int .i64 p.1.2, .pointer (some ⟨Ba, 0, none⟩), .pointer (some ⟨Bb, 0, none⟩), .pointer (some ⟨Bl, 0, none⟩)] W (UpTo W base Ba Bb Bl (upAll (plain (ps ++ [p]))).1 p.1.1 p.1.2) := by
  have hbd := upAll_bd ps
  have hp := p.2
  have hle := upAll_len (plain ps)
  have hpl : (plain ps).length = ps.length := by simp [plain]
  rw [plain_snoc, upAll_snoc]
  simp only [upSt]
  by_cases hg : (upAll (plain ps)).2.1 < p.1.1 ∨ (upAll (plain ps)).2.2 < p.1.2
  · rw [gap, if_pos hg]
    exact upTo_gap W base Ba Bb Bl _ _ _ _ _ h1 h2 v h3 ho hsz (by omega) hla hab hbb (by omega) (by omega) (by omega) (by omega) (by omega) (by omega) (by omega) (by omega) hg
  · rw [gap, if_neg hg, List.append_nil]
    exact upTo_none W base Ba Bb Bl _ _ _ _ _ h1 h2 v h3 ho hla hab hbb (by omega) (by omega) (by omega) (by omega) hg

/-- The six boxes. -/
theorem six (w : World) (t1 t2 t3 t4 t5 t6 : TypeId) (x1 x2 x3 x4 x5 x6 : Value) (W : World) (hW : ((((((w.alloc (.cells #[x1] t1)).alloc (.cells #[x2] t2)).alloc (.cells #[x3] t3)).alloc (.cells #[x4] t4)).alloc (.cells #[x5] t5)).alloc (.cells #[x6] t6)) = W) :
    Boxed W w.heap.size t1 x1 ∧ Boxed W (w.heap.size + 1) t2 x2 ∧ Boxed W (w.heap.size + 1 + 1) t3 x3 ∧ Boxed W (w.heap.size + 1 + 1 + 1) t4 x4 ∧ Boxed W (w.heap.size + 1 + 1 + 1 + 1) t5 x5 ∧ Boxed W (w.heap.size + 1 + 1 + 1 + 1 + 1) t6 x6 ∧ Below w.heap.size w W ∧ W.heap.size = w.heap.size + 6 := by
  subst hW
  have b1 := Boxed.new w t1 x1
  have b2 := Boxed.new (w.alloc (.cells #[x1] t1)) t2 x2
  have b3 := Boxed.new ((w.alloc (.cells #[x1] t1)).alloc (.cells #[x2] t2)) t3 x3
  have b4 := Boxed.new (((w.alloc (.cells #[x1] t1)).alloc (.cells #[x2] t2)).alloc (.cells #[x3] t3)) t4 x4
  have b5 := Boxed.new ((((w.alloc (.cells #[x1] t1)).alloc (.cells #[x2] t2)).alloc (.cells #[x3] t3)).alloc (.cells #[x4] t4)) t5 x5
  have b6 := Boxed.new (((((w.alloc (.cells #[x1] t1)).alloc (.cells #[x2] t2)).alloc (.cells #[x3] t3)).alloc (.cells #[x4] t4)).alloc (.cells #[x5] t5)) t6 x6
  simp only [World.size_alloc] at b2 b3 b4 b5 b6
  refine ⟨((((b1.alloc _).alloc _).alloc _).alloc _).alloc _, (((b2.alloc _).alloc _).alloc _).alloc _, ((b3.alloc _).alloc _).alloc _, (b4.alloc _).alloc _, b5.alloc _, b6, ?_, by simp⟩
  exact ((((((Below.refl _ w).alloc (by simp) _).alloc (by simp) _).alloc (by simp; omega) _).alloc (by simp; omega) _).alloc (by simp; omega) _).alloc (by simp; omega) _

set_option maxRecDepth 100000 in
set_option maxHeartbeats 2000000 in
theorem Of_in (fu : Nat) (hfu : 3 ≤ fu) (v : Value) (M : List Int) (n : Int) (w : World) (h1 : Ints w .i64 v M) (hlen : M.length ≤ 1000000) (hn1 : n ≤ 1000000) (hM : isMatch n 0 M) :
    CallsIn Fence.wide fu Try.prog 26 #[v, .int .i64 n] w fun e W' => ∃ v', e = .returned v' ∧ Hunks W' v' (ofL M n) ∧ Below w.heap.size w W' := by
  have hro : Fence.wide.round = none := rfl
  have hf1 : 1 ≤ fu := by omega
  have hn0 := isMatch_nonneg hM
  have hx1 : ∀ x ∈ M, x ≤ 1000000 := fun x hx => by have := isMatch_le hM x hx; omega
  have Hx1 := Lib.hid hx1; clear hx1
  obtain ⟨a, cap, rfl, hc, hm, hat⟩ := h1.at
  have hSv : Hid (∀ b off c m, Value.slice a M.length cap = .slice (some ⟨b, off, none⟩) c m → M ≠ [] → b < w.heap.size) := by
    refine Lib.hid fun b off c m e hne => ?_
    cases e
    obtain ⟨x, xs, rfl⟩ := List.exists_cons_of_ne_nil hne
    obtain ⟨b', off', e', hl, -⟩ := hat 0 x rfl
    cases e'
    exact hl
  clear hat
  refine callsIn_of_wp_marks Try.func26 rfl trivial ?_ hro
  simp only [Try.ntmps26, List.size_toArray, List.length_cons, List.length_nil, Nat.reduceAdd, Nat.reduceSub, Array.replicate_succ, Array.replicate_zero, List.push_toArray, List.append_toArray, List.nil_append, List.cons_append]
  gi_wp2_with (refine ⟨trivial, ?_⟩; gi_at_call 43; refine (callsIn_wide.2 (matches_any _ M n w h1 (by omega))).mono ?_; rintro e w1 ⟨⟨c, rfl, hc'⟩, hb⟩; obtain rfl : c = true := hc'.2 hM; clear hc')
  refine ⟨trivial, ?_⟩
  refine (callsIn_wide.2 (kept_any a M.length cap n _)).mono ?_
  rintro e W ⟨rfl, hW⟩
  obtain ⟨b1, b2, b3, b4, b5, b6, hBW, hsz⟩ := six w1 37 3 3 64 22 3 _ _ _ _ _ _ W hW.symm
  clear hW
  have hb2 : Below w.heap.size w W := hb.trans (hBW.mono hb.size)
  have hi : Ints W .i64 (.slice a M.length cap) M := (h1.below hb2)
  have hsl := hb.size
  obtain ⟨n1, hn1'⟩ : ∃ n1, Hid (w1.heap.size = n1) := ⟨_, Lib.hid rfl⟩
  have hg : ∀ q, (fun q => q < w.heap.size ∨ q = n1 + 1 + 1 + 1 + 1 ∨ q = n1 + 1 + 1 + 1 + 1 + 1) q → q < W.heap.size := by
    have := hn1'.out
    intro q hq
    omega
  have Hg := Lib.hid hg; clear hg
  simp only [World.size_alloc]
  gi_wp2
  rw [hn1'.out] at b1 b2 b3 b4 b5 b6 hsz hsl
  simp only [hn1'.out]
  refine wpIn_rangeFunc_ownG hro hf1 (gf := 47) (lb := #[.pointer (some ⟨n1 + 1 + 1 + 1 + 1, 0, none⟩), .pointer (some ⟨n1 + 1 + 1 + 1 + 1 + 1, 0, none⟩)]) rfl trivial (enters_of Try.func47 (by kernel_rfl) rfl)
    (kept_stops Fence.wide (fu - 1) trivial hro (by omega) (n1 + 1 + 1 + 1 + 1) (n1 + 1 + 1 + 1 + 1 + 1) _ M n (fun q => q < w.heap.size ∨ q = n1 + 1 + 1 + 1 + 1 ∨ q = n1 + 1 + 1 + 1 + 1 + 1) W Hg.out b5.cell b6.cell hi hlen Hx1.out hn0 hn1 (.inr (.inl rfl)) (.inr (.inr rfl)) (fun b off c m e hne => .inl (hSv.out b off c m e hne)))
    kpSet_t (kpSet_b Hg.out) (Below.refl _ _) (fun _ => rfl)
    (fun pre W' => (((∃ v, Boxed W' n1 37 v ∧ W'.ownsRow (n1 + 6) 50 4 v (upAll (plain pre)).1.length ((upAll (plain pre)).1.flatMap Hk.row) ∧ True) ∧ Boxed W' (n1 + 1) 3 (.int .i64 (upAll (plain pre)).2.1)) ∧ (Boxed W' (n1 + 1 + 1) 3 (.int .i64 (upAll (plain pre)).2.2) ∧ Boxed W' (n1 + 1 + 1 + 1) 64 (.func (.func 44) #[] #[.pointer (some ⟨n1 + 1, 0, none⟩), .pointer (some ⟨n1 + 1 + 1, 0, none⟩), .pointer (some ⟨n1, 0, none⟩)]))) ∧ Below w.heap.size w W' ∧ n1 + 6 ≤ W'.heap.size)
    (fun _ _ _ => False)
    (OwnFrom.and (OwnFrom.and (OwnFrom.and (Own.from (holdsRow_own (n1 + 6) n1 37 50 4 (fun pre : List Pl => (upAll (plain pre)).1.length) (fun pre => (upAll (plain pre)).1.flatMap Hk.row) (fun _ _ => True)) _) (Own.from (boxed_own _ _ _) _)) (OwnFrom.and (Own.from (boxed_own _ _ _) _) (Own.from (boxed_own _ _ _) _))) (OwnFrom.and (ownFrom_below (Nat.le_refl _) (by omega)) (fun _ _ _ _ hs hg _ => Nat.le_trans hs hg.size)))
    (fun _ _ _ _ _ hs _ _ => hs)
    ⟨⟨⟨⟨_, b1, World.ownsRow_nil _ _ _ _, trivial⟩, b2⟩, b3, b4⟩, hb2, by omega⟩
    (fun x => { tmps := #[.slice a M.length cap, .int .i64 n, undef, undef, .slice none 0 0, .pointer (some ⟨n1, 0, none⟩), .pointer (some ⟨n1 + 1, 0, none⟩), .pointer (some ⟨n1 + 1 + 1, 0, none⟩), .pointer (some ⟨n1 + 1 + 1 + 1, 0, none⟩), .int .i64 x.1.1, .int .i64 x.1.2, .slice a M.length cap, .int .i64 n, .bool true, .bool false, .func (.func 44) #[] #[.pointer (some ⟨n1 + 1, 0, none⟩), .pointer (some ⟨n1 + 1 + 1, 0, none⟩), .pointer (some ⟨n1, 0, none⟩)], .slice a M.length cap, .int .i64 n, .func (.func 47) #[] #[.pointer (some ⟨n1 + 1 + 1 + 1 + 1, 0, none⟩), .pointer (some ⟨n1 + 1 + 1 + 1 + 1 + 1, 0, none⟩)], .int .i64 x.1.1, .int .i64 x.1.2, undef, undef, undef, undef, undef], defers := [] }) ?assign ?body ?done ?stop
  case assign =>
    intro l x W' K hK
    gi_wp2
    exact hK
  case body =>
    rintro l pre x W' ⟨⟨⟨⟨v, c1, hrow, _⟩, c2⟩, c3, c4⟩, hB, hsz2⟩ hlt
    have hc := c4.cell
    gi_wp2
    refine ⟨trivial, (fun h => by cases h), ?_⟩
    refine ((callsIn_wide.2 (upTo_any W' (n1 + 6) (n1 + 1) (n1 + 1 + 1) n1 pre x c2 c3 v c1 hrow hsz2 (by have := preP_len M 0; simp [pairs] at hlt; omega) (by omega) (by omega) (by omega))).inRound l).mono ?_
    rintro e W2 ⟨⟨r, rfl⟩, g2, g3, ⟨v2, g1, hrow2⟩, hko, hbl, hq⟩
    gi_wp2
    refine ⟨hko.from _, fun q hS => hq q ?_ ?_ ?_ ?_, ⟨⟨⟨v2, g1, hrow2, trivial⟩, ?_⟩, ?_, ?_⟩, hB.trans (hbl.mono (by omega)), Nat.le_trans hsz2 hbl.size⟩
    · rcases hS with h | h | h <;> omega
    · rcases hS with h | h | h <;> omega
    · rcases hS with h | h | h <;> omega
    · rcases hS with h | h | h <;> omega
    · rw [plain_snoc, upAll_snoc]; exact g2
    · rw [plain_snoc, upAll_snoc]; exact g3
    · exact (hq _ (by omega) (by omega) (by omega) (by omega)).trans c4
  case done =>
    rintro D ys W' hD hys ⟨⟨⟨⟨v, hv, hrow, _⟩, _⟩, _, _⟩, hB, _⟩ hK
    have hcv := hv.cell
    gi_wp2
    refine ⟨by simp, .inl ⟨_, _, rfl, run_takeDeferred hK, ?_⟩⟩
    have ho := own_hunks (ownsRow_putObj hrow (.deferred none) hK rfl)
    rw [hys] at ho
    exact ⟨_, results_tmp rfl _ _ _, v, rfl, ho, hB.trans (belowK_b (w := w) (Nat.le_refl _) W' D _ _ (by omega) hK rfl rfl)⟩
  case stop =>
    rintro D c pre W' _ _ h _
    exact h.elim

theorem Of_yes (v : Value) (M : List Int) (n : Int) (w : World) (h1 : Ints w .i64 v M) (hlen : M.length ≤ 1000000) (hn1 : n ≤ 1000000) (hM : isMatch n 0 M) :
    Calls Try.prog 26 #[v, .int .i64 n] w fun e W' => ∃ v', e = .returned v' ∧ Hunks W' v' (ofL M n) ∧ Below w.heap.size w W' :=
  (callsIn_wide (n := 3)).1 (Of_in 3 (Nat.le_refl _) v M n w h1 hlen hn1 hM)

set_option maxHeartbeats 1000000 in
theorem Of_no (v : Value) (M : List Int) (n : Int) (w : World) (h1 : Ints w .i64 v M) (hn1 : n ≤ 1000000) (hM : ¬ isMatch n 0 M) :
    Calls Try.prog 26 #[v, .int .i64 n] w fun e W' => ∃ v', e = .returned v' ∧ Hunks W' v' [] ∧ Below w.heap.size w W' := by
  have H1 := Lib.hid h1; clear h1
  go_enter Try.func26, Try.ntmps26
  go_wp2_with (go_at_call 43; refine (matches_any _ M n w H1.out (by omega)).mono ?_; rintro e w1 ⟨⟨c, rfl, hc'⟩, hb⟩; obtain rfl : c = false := Bool.eq_false_iff.2 (fun h => hM (hc'.1 h)); clear hc')
  go_ret
  exact ⟨_, rfl, ⟨none, 0, rfl, Nat.le_refl _, Nat.zero_le _, by simp⟩, hb⟩
instance isMatch_dec (n : Int) : ∀ (q : Int) (M : List Int), Decidable (isMatch n q M)
  | _, [] => inferInstanceAs (Decidable (0 ≤ n))
  | q, x :: M => by
    have := isMatch_dec n (if 0 ≤ x then x + 1 else q) M
    unfold isMatch
    infer_instance
/-- The hunks of any row. -/
def hunksOf (M : List Int) (n : Int) : List Hk := if isMatch n 0 M then ofL M n else []
theorem Of_any (v : Value) (M : List Int) (n : Int) (w : World) (h1 : Ints w .i64 v M) (hlen : M.length ≤ 1000000) (hn1 : n ≤ 1000000) :
    Calls Try.prog 26 #[v, .int .i64 n] w fun e W' => ∃ v', e = .returned v' ∧ Hunks W' v' (hunksOf M n) ∧ Below w.heap.size w W' := by
  unfold hunksOf
  by_cases h : isMatch n 0 M
  · rw [if_pos h]; exact Of_yes v M n w h1 hlen hn1 h
  · rw [if_neg h]; exact Of_no v M n w h1 hn1 h
end Go.Proofs.Ythligkdncddmpaa
