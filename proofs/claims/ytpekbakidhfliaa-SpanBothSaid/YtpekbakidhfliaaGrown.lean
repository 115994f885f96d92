/-
  For the laws of span: the edits in order, each with by how much the text has grown ahead of it, by the program. Condition: at most 1,000,000 edits.
-/
import Derived.Test.YtpekbakidhfliaaMay
import Derived.RangeFuncNested
import Derived.RangeFuncBound
import Derived.RangeFuncCalls
import Derived.RangeFuncLeaves
import Derived.Shelf.Abstract
import Derived.OwnWalkIn
import Derived.TacticsInMore
import Derived.LoopNIn
import Derived.LoopIn
namespace Go.Proofs.Ytpekbakidhfliaa
open Go.RowKit Go.Shelf

attribute [local go_sem] Oper.semAt_some

/-- By how much edits make it longer. -/
def gsum : List Ed → Int
  | [] => 0
  | e :: L => gr e + gsum L
theorem gsum_append (A B : List Ed) : gsum (A ++ B) = gsum A + gsum B := by
  induction A with
  | nil => simp [gsum]
  | cons e A ih => simp only [List.cons_append, gsum, ih]; omega
theorem gsum_take {L : List Ed} {k : Nat} {e : Ed} (h : L[k]? = some e) : gsum (L.take (k + 1)) = gsum (L.take k) + gr e := by
  rw [List.take_add_one, h, gsum_append]
  simp [gsum]
/-- What is handed over. -/
def grL : Int → List Ed → List (Int × Ed)
  | _, [] => []
  | b, e :: L => (wrap64 b, e) :: grL (b + gr e) L
theorem grL_len (b : Int) (L : List Ed) : (grL b L).length = L.length := by
  induction L generalizing b with
  | nil => rfl
  | cons e L ih => rw [grL, List.length_cons, ih, List.length_cons]
theorem grL_at (b : Int) (L : List Ed) (k : Nat) (e : Ed) (h : L[k]? = some e) : (grL b L)[k]? = some (wrap64 (b + gsum (L.take k)), e) := by
  induction L generalizing b k with
  | nil => simp at h
  | cons x L ih =>
    cases k with
    | zero =>
      simp only [List.getElem?_cons_zero, Option.some.injEq] at h
      subst h
      simp [grL, gsum]
    | succ k =>
      simp only [List.getElem?_cons_succ] at h
      rw [grL, List.getElem?_cons_succ, ih _ _ h, List.take_succ_cons, gsum]
      congr 3; omega
theorem grL_take {L : List Ed} {k : Nat} {e : Ed} (h : L[k]? = some e) : (grL 0 L).take (k + 1) = (grL 0 L).take k ++ [(wrap64 (gsum (L.take k)), e)] := by
  rw [List.take_add_one, grL_at 0 L k e h, Int.zero_add]
  rfl
theorem by_next {b l f g s : Int} (h : b = wrap64 s) : wrap64 (b + wrap64 (l - wrap64 (g - f))) = wrap64 (s + (l - (g - f))) := by
  subst h; unfold wrap64; omega

/-- The value in the box ob points at nothing that is not there. -/
def Lo (ob : Nat) (W : World) : Prop := ∃ v, W.cell? ⟨ob, 0, none⟩ = some v ∧ ∀ j, v.ownBlock = some j → j < W.heap.size
/-- A block that a round may not turn. -/
def Fr (T : Nat → Prop) (ob : Nat) (W : World) (q : Nat) : Prop := ¬ T q ∧ ∀ v, W.cell? ⟨ob, 0, none⟩ = some v → v.ownBlock ≠ some q
def KpF (T : Nat → Prop) (ob : Nat) (A B : World) : Prop := Lo ob A → Lo ob B ∧ A.heap.size ≤ B.heap.size ∧ ∀ q cs t fz, A.heap[q]? = some (.cells cs t fz) → Fr T ob A q → B.heap[q]? = A.heap[q]? ∧ Fr T ob B q
theorem KpF.refl (T : Nat → Prop) (ob : Nat) (A : World) : KpF T ob A A := fun h => ⟨h, Nat.le_refl _, fun _ _ _ _ _ hf => ⟨rfl, hf⟩⟩
theorem kpF_t {T : Nat → Prop} {ob : Nat} {A B C : World} (h : KpF T ob A B) (k : KpF T ob B C) : KpF T ob A C := fun hl => by
  obtain ⟨h1, h2, h3⟩ := h hl
  obtain ⟨k1, k2, k3⟩ := k h1
  refine ⟨k1, Nat.le_trans h2 k2, fun q cs t fz hq hf => ?_⟩
  obtain ⟨e1, f1⟩ := h3 q cs t fz hq hf
  obtain ⟨e2, f2⟩ := k3 q cs t fz (e1.trans hq) f1
  exact ⟨e2.trans e1, f2⟩
theorem cell_same {A B : World} {ob : Nat} (h : B.heap[ob]? = A.heap[ob]?) : B.cell? ⟨ob, 0, none⟩ = A.cell? ⟨ob, 0, none⟩ := World.cell?_of_block (w := A) (a := ⟨ob, 0, none⟩) h
/-- What leaves the box and all that is free as it was. -/
theorem kpF_of {T : Nat → Prop} {ob : Nat} {A B : World} (hs : A.heap.size ≤ B.heap.size) (ho : B.heap[ob]? = A.heap[ob]?) (hq : ∀ q cs t fz, A.heap[q]? = some (.cells cs t fz) → ¬ T q → B.heap[q]? = A.heap[q]?) : KpF T ob A B := fun ⟨v, hv, hj⟩ =>
  ⟨⟨v, (cell_same ho).trans hv, fun j e => Nat.lt_of_lt_of_le (hj j e) hs⟩, hs, fun q cs t fz h hf => ⟨hq q cs t fz h hf.1, hf.1, fun v' hv' => hf.2 v' ((cell_same ho).symm.trans hv')⟩⟩
theorem kpF_b {T : Nat → Prop} {ob : Nat} {w : World} (hob : ob < w.heap.size) (W : World) (l : Nat) (o o' : Obj) (hl : w.heap.size ≤ l) (hk : W.heap[l]? = some o) (hc : o.isCells = false) (_ : o.isWalk = false) : KpF T ob W (W.putObj l o') := by
  refine kpF_of ?_ (World.putObj_heap_other (by omega)) fun q cs t fz hq _ => World.putObj_heap_other ?_
  · show _ ≤ (W.putObj l o').heap.size
    simp [World.putObj]
  · rintro rfl
    rw [hk] at hq; cases hq; cases hc
theorem kpF_alloc {T : Nat → Prop} {ob : Nat} (W : World) (o : Obj) (hob : ob < W.heap.size) : KpF T ob W (W.alloc o) :=
  kpF_of (by simp) (Below.heap_alloc _ _ _ hob) fun q _ _ _ hq _ => Below.heap_alloc _ _ _ (Array.getElem?_eq_some_iff.1 hq).1
theorem fr_new {T : Nat → Prop} {ob : Nat} {W : World} (h : Lo ob W) (hT : ¬ T W.heap.size) (o : Obj) (hob : ob < W.heap.size) : Fr T ob (W.alloc o) W.heap.size := by
  refine ⟨hT, fun v hv e => ?_⟩
  obtain ⟨v', hv', hj⟩ := h
  rw [cell_same (Below.heap_alloc _ _ _ hob), hv'] at hv
  cases hv
  exact Nat.lt_irrefl _ (hj _ e)
def encE (x : Int × Ed) : Array Value := #[.int .i64 x.1, .agg #[.int .i64 x.2.fr, .int .i64 x.2.to, .string (bs x.2.tx)]]
theorem grown_any (a : Option Addr) (m c : Nat) (w : World) : Calls Try.prog 24 #[.slice a m c] w fun e w' => e = .returned (.func (.func 33) #[] #[.pointer (some ⟨w.heap.size, 0, none⟩)]) ∧ w' = w.alloc (.cells #[.slice a m c] 22) := by
  go_enter Try.func24, Try.ntmps24
  go_wp2_with fail
  go_ret
  exact ⟨rfl, rfl⟩
set_option maxRecDepth 100000 in
set_option maxHeartbeats 4000000 in
theorem grown1_in (F : Fence) (fu : Nat) (h7 : F.fn 33) (hro : F.round = none) (hn : 1 ≤ fu) (l Bm ob : Nat) (T : Nat → Prop) (v : Value) (L : List Ed) (okp : Int × Ed → Prop) (hokp : ∀ x ∈ grL 0 L, okp x) (J Jx : List (Int × Ed) → World → Prop)
    (hY : ∀ pre x W, okp x → J pre W → pre.length < L.length → YieldAt F (fu - 1) Try.prog l (encE x) W fun e W' =>
      (e = .returned (.bool true) ∧ J (pre ++ [x]) W' ∧ KpF T ob W W') ∨ (e = .returned (.bool false) ∧ Jx (pre ++ [x]) W'))
    (hJ : ∀ pre W o, J pre W → J pre (W.alloc o))
    (W : World) (hBm : Boxed W Bm 22 v) (h1 : Eds W v L) (hlen : L.length ≤ 1000000) (hlo : Lo ob W) (hob : ob < W.heap.size) (hTB : ∀ q, T q → q < W.heap.size)
    (hfv : ∀ b off c m, v = .slice (some ⟨b, off, none⟩) c m → L ≠ [] → (∃ cs t fz, W.heap[b]? = some (.cells cs t fz)) ∧ Fr T ob W b) (h0 : J [] W) :
    CallsIn F fu Try.prog 33 #[.func (.yield l) #[] #[], .pointer (some ⟨Bm, 0, none⟩)] W fun e W' => (∃ v, e = .returned v) ∧
      ((∃ ys, ys = grL 0 L ∧ J ys W') ∨ (∃ pre, pre <+: grL 0 L ∧ Jx pre W')) := by
  obtain ⟨a, cap, rfl, hc, hm, hat⟩ := h1
  have Hat := Lib.hid hat; clear hat
  unfold maxLen at hm
  have cB := hBm.cell
  refine callsIn_of_wp Try.func33 rfl h7 ?_ hro
  simp only [Try.ntmps33, List.size_toArray, List.length_cons, List.length_nil, Nat.reduceAdd, Nat.reduceSub, Array.replicate_succ, Array.replicate_zero, List.push_toArray, List.append_toArray, List.nil_append, List.cons_append]
  gi_wp2
  gi_loopw [3, 8] (fun bv c wr => ∃ (k : Nat) (b : Int), k ≤ L.length ∧ c = .int .i64 k ∧ bv = .int .i64 b ∧ Hid (b = wrap64 (gsum (L.take k))) ∧ J ((grL 0 L).take k) wr ∧ Hid (KpF T ob W wr))
    (fun _ c _ => L.length - (intOf c).toNat)
  case atStart => exact ⟨0, 0, Nat.zero_le _, rfl, rfl, Lib.hid (by rw [List.take_zero, gsum]; unfold wrap64; omega), h0, Lib.hid (KpF.refl _ _ _)⟩
  case round =>
    obtain ⟨k, b0, hk, rfl, rfl, hb0, hJs, hKp⟩ := hrel
    obtain ⟨hlo2, hsz2, hkeep⟩ := hKp.out hlo
    have Hlo2 := Lib.hid hlo2
    have Hkeep := Lib.hid hkeep
    clear hkeep hlo2
    by_cases hlt : k < L.length
    · obtain ⟨x, hx⟩ : ∃ x, L[k]? = some x := ⟨_, List.getElem?_eq_getElem hlt⟩
      obtain ⟨b, off, rfl, hbl, hl0, hl1, hl2⟩ := Hat.out k x hx
      obtain ⟨⟨cs, t, fz, hcs⟩, hfr⟩ := hfv b off _ _ rfl (by rintro rfl; simp at hlt)
      have hbk := (Hkeep.out b cs t fz hcs hfr).1
      have c0 : wr.cell? ⟨b, off + k * 3, none⟩ = some (.int .i64 x.fr) := (World.cell?_of_block (w := W) (a := ⟨b, off + k * 3, none⟩) hbk).trans hl0
      have c1 : wr.cell? ⟨b, off + k * 3 + 1, none⟩ = some (.int .i64 x.to) := (World.cell?_of_block (w := W) (a := ⟨b, off + k * 3 + 1, none⟩) hbk).trans hl1
      have c2 : wr.cell? ⟨b, off + k * 3 + 2, none⟩ = some (.string (bs x.tx)) := (World.cell?_of_block (w := W) (a := ⟨b, off + k * 3 + 2, none⟩) hbk).trans hl2
      have Htk := Lib.hid (grL_take hx)
      have Hgs := Lib.hid (gsum_take hx)
      have hJa := hJ _ _ (.cells #[.int .i64 x.fr, .int .i64 x.to, .string (bs x.tx)] 39) hJs
      have R0 := Lib.hid (ed_new wr x.fr x.to (bs x.tx))
      have d0 := R0.out.cell (j := 0) (v := .int .i64 x.fr) rfl
      have d1 := R0.out.cell (j := 1) (v := .int .i64 x.to) rfl
      have d2 := R0.out.cell (j := 2) (v := .string (bs x.tx)) rfl
      have hnew := Lib.hid (fr_new (T := T) Hlo2.out (fun h => by have := hTB _ h; omega) (.cells #[.int .i64 x.fr, .int .i64 x.to, .string (bs x.tx)] 39) (by omega))
      have Hka := Lib.hid (kpF_t hKp.out (kpF_alloc (T := T) wr (.cells #[.int .i64 x.fr, .int .i64 x.to, .string (bs x.tx)] 39) (by omega)))
      obtain ⟨fn, tmps, assign, body, hy, hR⟩ := hY _ (b0, x) _ (by
        refine hokp _ (List.mem_of_getElem? (i := k) ?_)
        rw [grL_at 0 L k x hx, Int.zero_add, hb0.out]) hJa (by rw [List.length_take, grL_len]; omega)
      dsimp only [encE] at hy
      clear hl0 hl1 hl2 hx hbk hcs hfr
      gi_wp2
      refine hR.mono ?_
      rintro e W3 (⟨rfl, hJ3, hk3⟩ | ⟨rfl, hJx3⟩)
      · obtain ⟨hlo3, hsz3, hkeep3⟩ := hk3 (by
          obtain ⟨v', hv', hj'⟩ := Hlo2.out
          exact ⟨v', (cell_same (Below.heap_alloc _ _ _ (by omega))).trans hv', fun j e => by have := hj' j e; simp; omega⟩)
        have hq3 := (hkeep3 _ _ _ _ R0.out hnew.out).1
        have R3 := R0.out.same hq3
        have e0 := R3.cell (j := 0) (v := .int .i64 x.fr) rfl
        have e1 := R3.cell (j := 1) (v := .int .i64 x.to) rfl
        have e2 := R3.cell (j := 2) (v := .string (bs x.tx)) rfl
        have Hk3 := Lib.hid (kpF_t Hka.out hk3)
        clear hlo3 hsz3 hkeep3 hq3 R3 hk3 d0 d1 d2
        gi_wp2
        refine ⟨⟨k + 1, _, by omega, by go_num, rfl, Lib.hid ?_, by rw [Htk.out, ← hb0.out]; exact hJ3, Hk3⟩, by simp [intOf]; omega⟩
        rw [Hgs.out]
        exact by_next hb0.out
      · gi_wp2
        refine bodyPost_ret (results_none rfl _ _ _) rfl ?_
        refine ⟨⟨_, rfl⟩, .inr ⟨_, ?_, hJx3⟩⟩
        rw [hb0.out, ← Htk.out]
        exact List.take_prefix _ _
    · obtain rfl : k = L.length := by omega
      rw [List.take_of_length_le (by rw [grL_len]; exact Nat.le_refl _)] at hJs
      gi_wp2
      go_end0
      exact ⟨⟨_, rfl⟩, .inl ⟨_, rfl, hJs⟩⟩
theorem lo_below {ob : Nat} {w W : World} (h : Lo ob w) (hob : ob < w.heap.size) (hW : Below w.heap.size w W) : Lo ob W := by
  obtain ⟨v, hv, hj⟩ := h
  exact ⟨v, (cell_same (hW.block _ hob)).trans hv, fun j e => Nat.lt_of_lt_of_le (hj j e) hW.size⟩
theorem fr_below {T : Nat → Prop} {ob q : Nat} {w W : World} (h : Fr T ob w q) (hob : ob < w.heap.size) (hW : Below w.heap.size w W) : Fr T ob W q :=
  ⟨h.1, fun v hv => h.2 v ((cell_same (hW.block _ hob)).symm.trans hv)⟩
theorem grown_stops (F : Fence) (fu : Nat) (h7 : F.fn 33) (hro : F.round = none) (hn : 1 ≤ fu) (Bm ob : Nat) (T : Nat → Prop) (v : Value) (L : List Ed) (w : World)
    (hBm : Boxed w Bm 22 v) (h1 : Eds w v L) (hlen : L.length ≤ 1000000) (hlo : Lo ob w) (hob : ob < w.heap.size) (hTB : ∀ q, T q → q < w.heap.size)
    (hfv : ∀ b off c m, v = .slice (some ⟨b, off, none⟩) c m → L ≠ [] → (∃ cs t fz, w.heap[b]? = some (.cells cs t fz)) ∧ Fr T ob w b) :
    SeqStopsK F fu Try.prog 33 #[.pointer (some ⟨Bm, 0, none⟩)] encE (KpF T ob) (fun ys => ys = grL 0 L) (fun pre => pre <+: grL 0 L) L.length w := fun l J Jx W hW hJ _ hY h0 =>
  grown1_in F fu h7 hro hn l Bm ob T v L (fun _ => True) (fun _ _ => trivial) J Jx (fun pre x W _ => hY pre x W) (fun pre W' o hj => hJ pre W' _ none hj (World.grownBy_alloc W' o none) (fun r e => by cases e)) W
    (boxed_below hBm hW) (h1.below hW) hlen (lo_below hlo hob hW) (Nat.lt_of_lt_of_le hob hW.size) (fun q hq => Nat.lt_of_lt_of_le (hTB q hq) hW.size)
    (fun b off c m e hne => by
      obtain ⟨⟨cs, t, fz, hq⟩, hf⟩ := hfv b off c m e hne
      exact ⟨⟨cs, t, fz, (hW.block _ (Array.getElem?_eq_some_iff.1 hq).1).trans hq⟩, fr_below hf hob hW⟩) h0
/-- The same, where what is handed over is known to meet okp. -/
theorem grown_stopsP (F : Fence) (fu : Nat) (h7 : F.fn 33) (hro : F.round = none) (hn : 1 ≤ fu) (Bm ob : Nat) (T : Nat → Prop) (v : Value) (L : List Ed) (okp : Int × Ed → Prop) (hokp : ∀ x ∈ grL 0 L, okp x) (w : World)
    (hBm : Boxed w Bm 22 v) (h1 : Eds w v L) (hlen : L.length ≤ 1000000) (hlo : Lo ob w) (hob : ob < w.heap.size) (hTB : ∀ q, T q → q < w.heap.size)
    (hfv : ∀ b off c m, v = .slice (some ⟨b, off, none⟩) c m → L ≠ [] → (∃ cs t fz, w.heap[b]? = some (.cells cs t fz)) ∧ Fr T ob w b) :
    SeqStopsK F fu Try.prog 33 #[.pointer (some ⟨Bm, 0, none⟩)] (fun x : { x : Int × Ed // okp x } => encE x.1) (KpF T ob) (fun ys => ys.map (·.1) = grL 0 L) (fun pre => pre.map (·.1) <+: grL 0 L) L.length w := fun l J Jx W hW hJ _ hY h0 => by
  refine (grown1_in F fu h7 hro hn l Bm ob T v L okp hokp (fun pre W => ∃ p : List { x : Int × Ed // okp x }, p.map (·.1) = pre ∧ J p W) (fun pre W => ∃ p : List { x : Int × Ed // okp x }, p.map (·.1) = pre ∧ Jx p W) (fun pre x W hx => ?_) (fun pre W' o hj => ?_) W
    (boxed_below hBm hW) (h1.below hW) hlen (lo_below hlo hob hW) (Nat.lt_of_lt_of_le hob hW.size) (fun q hq => Nat.lt_of_lt_of_le (hTB q hq) hW.size)
    (fun b off c m e hne => by
      obtain ⟨⟨cs, t, fz, hq⟩, hf⟩ := hfv b off c m e hne
      exact ⟨⟨cs, t, fz, (hW.block _ (Array.getElem?_eq_some_iff.1 hq).1).trans hq⟩, fr_below hf hob hW⟩) ⟨[], rfl, h0⟩).mono ?_
  · rintro ⟨p, rfl, hp⟩ hl
    obtain ⟨fn, tmps, assign, body, hy, hR⟩ := hY p ⟨x, hx⟩ W hp (by simpa using hl)
    refine ⟨fn, tmps, assign, body, hy, hR.mono ?_⟩
    rintro e W' (⟨rfl, h2, h3⟩ | ⟨rfl, h2⟩)
    · exact .inl ⟨rfl, ⟨_, by simp, h2⟩, h3⟩
    · exact .inr ⟨rfl, _, by simp, h2⟩
  · obtain ⟨p, e, hp⟩ := hj
    exact ⟨p, e, hJ p W' _ none hp (World.grownBy_alloc W' o none) (fun r e => by cases e)⟩
  · rintro e W' ⟨hv, h⟩
    refine ⟨hv, ?_⟩
    rcases h with ⟨ys, rfl, p, e, hp⟩ | ⟨pre, hpre, p, e, hp⟩
    · exact .inl ⟨p, e, hp⟩
    · subst e; exact .inr ⟨p, hpre, hp⟩
end Go.Proofs.Ytpekbakidhfliaa
