/-
  For the laws of flow: the iterator over a row of spots hands over the nodes in order. Condition: at most 2,000,000 nodes.
-/
import Derived.Test.YtbnbmjdjkadgoaaFFl
import Derived.Test.YtbnbmjdjkadgoaaFRn
import Derived.Test.YtbnbmjdjkadgoaaKLasu
import Derived.Test.YtbnbmjdjkadgoaaKChg
import Derived.OwnWalkIn
import Derived.Deep.AppendLies
import Derived.Deep.Cut
import Derived.TacticsInMore
import Derived.LoopNIn
import Derived.LoopIn
namespace Go.Proofs.Ytbnbmjdjkadgoaa.F
open Go.RowKit Go.Shelf
open Go.Proofs.Ytbnbmjdjkadgoaa.K (wpAnyZIn wpIn_region_Z wpAnyZIn_takeF wpAnyZIn_one wpAnyZIn_done least least_spec)
set_option linter.unusedSimpArgs false
set_option linter.unusedVariables false

attribute [local go_sem] Oper.semAt_some

noncomputable def leastC {α : Type} (I : List α → Prop) (c : List α → Nat) : Nat := least fun n => ∃ S, I S ∧ c S = n
theorem leastC_le {α : Type} {I : List α → Prop} {c : List α → Nat} {S : List α} (h : I S) : leastC I c ≤ c S := (least_spec (P := fun n => ∃ S, I S ∧ c S = n) ⟨S, h, rfl⟩).2
theorem leastC_spec {α : Type} {I : List α → Prop} {c : List α → Nat} (h : ∃ S, I S) : ∃ S, I S ∧ c S = leastC I c := by
  obtain ⟨S, h⟩ := h
  exact (least_spec (P := fun n => ∃ S, I S ∧ c S = n) ⟨S, h, rfl⟩).1
theorem infoPlace : (Try.prog.info? 155).map (fun i => (i.zero, i.size, i.bytes)) = some (some (.agg #[.int .i64 0, .bool false]), 2, 16) := by kernel_rfl
abbrev Ip := Nat × Bool
def tQ (Q : List Sp) (i : Nat) : Nd := match Q[i]? with
  | some s => s.t
  | none => .mk ⟨0, [], [], 0, 0, 0, 0, 0⟩ []
theorem tQ_at {Q : List Sp} {i : Nat} {s : Sp} (h : Q[i]? = some s) : tQ Q i = s.t := by unfold tQ; rw [h]
def stk (Q : List Sp) (L : List Ip) : List (Nd × Bool) := L.map fun x => (tQ Q x.1, x.2)
def cntI (Q : List Sp) (L : List Ip) : Nat := cntL (L.map fun x => tQ Q x.1)
theorem cntI_app (Q : List Sp) (A B : List Ip) : cntI Q (A ++ B) = cntI Q A + cntI Q B := by unfold cntI; rw [List.map_append, cntL_app]
theorem cntI_one (Q : List Sp) (x : Ip) : cntI Q [x] = (tQ Q x.1).cnt := by simp [cntI, cntL]
theorem cntI_len (Q : List Sp) (L : List Ip) : L.length ≤ cntI Q L := by
  have := cntL_len (L.map fun x => tQ Q x.1)
  rw [List.length_map] at this
  exact this
theorem cntL_rev : ∀ L : List Nd, cntL L.reverse = cntL L
  | [] => rfl
  | x :: L => by rw [List.reverse_cons, cntL_app, cntL_rev L]; simp [cntL]; omega
def plI (S : List Ip) : List Value := S.flatMap fun x => [.int .i64 (x.1 : Nat), .bool x.2]
theorem plI_len (S : List Ip) : (plI S).length = S.length * 2 := by
  unfold plI
  induction S with
  | nil => rfl
  | cons x L ih => rw [List.flatMap_cons, List.length_append, ih, List.length_cons]; simp; omega
theorem plI_app (A B : List Ip) : plI (A ++ B) = plI A ++ plI B := by unfold plI; rw [List.flatMap_append]
/-- The places of the kids of a spot. -/
def kidI (f n stop : Nat) : List Ip := (List.range n).map fun k => (f + k, decide (stop ≤ k))
theorem kidI_len (f n stop : Nat) : (kidI f n stop).length = n := by unfold kidI; simp
theorem kidI_at {f n stop k : Nat} (h : k < n) : (kidI f n stop)[k]? = some (f + k, decide (stop ≤ k)) := by
  unfold kidI
  rw [List.getElem?_map, List.getElem?_range h]; rfl
theorem kidI_mem {f n stop : Nat} {x : Ip} (h : x ∈ kidI f n stop) : ∃ k, k < n ∧ x = (f + k, decide (stop ≤ k)) := by
  unfold kidI at h
  obtain ⟨k, h1, h2⟩ := List.mem_map.1 h
  exact ⟨k, List.mem_range.1 h1, h2.symm⟩
theorem kidI_rev {f n stop i : Nat} (h : i < n) : (kidI f n stop).reverse.take (i + 1) = (kidI f n stop).reverse.take i ++ [(f + (n - 1 - i), decide (stop ≤ n - 1 - i))] := by
  rw [List.take_add_one]
  congr 1
  rw [List.getElem?_reverse (by rw [kidI_len]; omega), kidI_len, kidI_at (by omega)]
  rfl
theorem kid_t {Q : List Sp} {s : Sp} (hk : KidOk Q s) {k : Nat} (h : k < s.t.kids.length) : s.t.kids[k]? = some (tQ Q (s.first + k)) := by
  have hf := hk.fits
  have h1 := kidsS_get (S := Q) h
  have h2 := congrArg (fun l => l[k]?) hk.2
  simp only [List.getElem?_map, h1] at h2
  rw [List.getElem?_eq_getElem (by omega)] at h2
  rw [← h2, tQ_at (List.getElem?_eq_getElem (by omega))]
  rfl
theorem stk_kids {Q : List Sp} {s : Sp} (hk : KidOk Q s) : stk Q (kidI s.first s.t.kids.length (stopN s.t)) = flags (decide (s.t.hd.kind = 5)) false s.t.kids := by
  refine List.ext_getElem? fun k => ?_
  rcases Nat.lt_or_ge k s.t.kids.length with h | h
  · rw [flags_kid _ k _ (kid_t hk h)]
    unfold stk
    rw [List.getElem?_map, kidI_at h]; rfl
  · rw [List.getElem?_eq_none (by unfold stk; rw [List.length_map, kidI_len]; exact h), List.getElem?_eq_none (by rw [flags_len]; exact h)]
theorem cnt_kidI {Q : List Sp} {s : Sp} (hk : KidOk Q s) (stop : Nat) : cntI Q (kidI s.first s.t.kids.length stop).reverse = cntL s.t.kids := by
  unfold cntI
  rw [List.map_reverse, cntL_rev]
  congr 1
  refine List.ext_getElem? fun k => ?_
  rcases Nat.lt_or_ge k s.t.kids.length with h | h
  · rw [kid_t hk h, List.getElem?_map, kidI_at h]; rfl
  · rw [List.getElem?_eq_none (by rw [List.length_map, kidI_len]; exact h), List.getElem?_eq_none h]
abbrev El (Q : List Sp) := { x : Sp × Bool // x.1 ∈ Q }
def encQ {Q : List Sp} (x : El Q) : Array Value := #[.pointer (some ⟨x.1.1.b, x.1.1.o, none⟩), .bool x.1.2]
/-- What a round keeps of the iterator. -/
def KpQ (n0 Bn : Nat) (A B : World) : Prop := A.heap.size ≤ B.heap.size ∧ Below n0 A B ∧ B.heap[Bn]? = A.heap[Bn]? ∧ ∀ (b : Nat) (cs : Array Value), A.heap[b]? = some (Obj.cells cs 155 (0, 0)) → B.heap[b]? = some (Obj.cells cs 155 (0, 0))
theorem KpQ.trans {n0 Bn : Nat} {A B C : World} (h : KpQ n0 Bn A B) (k : KpQ n0 Bn B C) : KpQ n0 Bn A C := ⟨Nat.le_trans h.1 k.1, h.2.1.trans k.2.1, k.2.2.1.trans h.2.2.1, fun b cs hb => k.2.2.2 b cs (h.2.2.2 b cs hb)⟩
theorem KpQ.refl (n0 Bn : Nat) (A : World) : KpQ n0 Bn A A := ⟨Nat.le_refl _, Below.refl _ _, rfl, fun _ _ h => h⟩
theorem kpQ_put {n0 Bn : Nat} {w : World} (hn : n0 ≤ w.heap.size) (hB : Bn < w.heap.size) (W : World) (l : Nat) (o o' : Obj) (hl : w.heap.size ≤ l) (h : W.heap[l]? = some o) (hc : o.isCells = false) : KpQ n0 Bn W (W.putObj l o') := by
  refine ⟨by simp [World.putObj], (Below.refl n0 W).grown (grownBy_putObj' W l o') (by have := (Array.getElem?_eq_some_iff.1 h).1; omega) (fun k e => by cases e; omega), World.putObj_heap_other (by omega), fun b cs hb => (World.putObj_heap_other ?_).trans hb⟩
  rintro rfl
  rw [hb] at h; cases h; cases hc
/-- Between two rounds of the iterator. -/
structure OInv (w0 W : World) (Bn : Nat) (T : Nd) (Q : List Sp) (J : List (El Q) → World → Prop) (S : List Ip) (u : Value) (wr : World) : Prop where
  own : wr.ownsRow W.heap.size 155 2 u S.length (plI S)
  ok : ∀ x ∈ S, x.1 < Q.length
  ord : ∃ pre : List (El Q), J pre wr ∧ ((∀ y ∈ pre, y.1.2 = false) → deadN T = deadS (stk Q S.reverse))
  kb : wr.heap[Bn]? = W.heap[Bn]?
  bel : Below w0.heap.size w0 wr
  size : W.heap.size ≤ wr.heap.size
  few : cntI Q S ≤ 2000000
theorem below_grown {A B : World} (h : Below A.heap.size A B) : A.grownBy B none := ⟨h.os, h.tape, h.output, h.size, fun k hk _ => h.block k hk⟩
theorem AbT.later {β : Type} {B : Nat} {I : β → World → Prop} (h : AbT B I) {s : β} {A A' : World} (hs : I s A) (hb : Below A.heap.size A A') : I s A' := h s A A' none hs (below_grown hb) (fun r e => by cases e)
/-- An own row, one element more; where it lies then. -/
theorem wpList_append_el2 {W : World} {base t e size bytes n : Nat} {ops : Array Oper} {rest : List Oper} {o : Oper} {a : Act} {Q : Exit → Act → World → Prop} (hgd : o.guard = none) (s x : Operand)
    (ho : o.op = .call { callee := .builtin .append, args := #[s, x], argTypes := #[t, t] }) (ht : Try.prog.underlying t = some (.slice e)) {z : Value} (hinfo : (Try.prog.info? e).map (fun i => (i.zero, i.size, i.bytes)) = some (some z, size, bytes))
    (hzs : z.cells.size = size) (hsz : 0 < size) (hby : bytes ≤ 1000) (v : Value) (xs news : List Value) (hs : a.eval s = v) (hown : W.ownsRow base e size v n xs) (gb : Nat) (hx : a.eval x = .slice (some ⟨gb, 0, none⟩) 1 1) (hl : news.length = size)
    (hnews : ∀ j u, news[j]? = some u → W.cell? ⟨gb, j, none⟩ = some u) (h1 : ∀ u ∈ news, u.oneCell' = true) (hn : n + 1 ≤ 5000000) (hbase : base ≤ W.heap.size)
    (h : ∀ g cap w', w'.ownsRow base e size (.slice (some ⟨g, 0, none⟩) (n + 1) cap) (n + 1) (xs ++ news) → W.grownBy w' v.ownBlock → (v.ownBlock = some g ∨ g = W.heap.size) → wpList Try.prog ops Q rest (a.put o.dst (.slice (some ⟨g, 0, none⟩) (n + 1) cap)) w') : wpList Try.prog ops Q (o :: rest) a W := by
  obtain ⟨i0, hi, hz0, hz1, hz2⟩ := info_parts hinfo
  refine wpList_append_lies W hgd s x t ho base e i0 z size bytes ht hi hz0 hz1 hz2 hzs hsz v n xs hs hown ⟨gb, 0, none⟩ 1 1 news hx (by omega) (fun j u hj => by rw [add_flat, Nat.zero_add]; exact hnews j u hj) h1 (by omega) (by unfold maxLen; omega) ?_ hbase W.heap.size rfl fun g cap w' a1 a2 a3 _ => h g cap w' a1 a2 a3
  exact Nat.le_trans (Nat.mul_le_mul hn hby) (by omega)
set_option maxRecDepth 100000 in
set_option maxHeartbeats 8000000 in
theorem inOrder_any (v : Value) (Q : List Sp) (w : World) (hr : SpRow w v Q) : Calls Try.prog 84 #[v] w fun e w' => e = .returned (.func (.func 118) #[] #[.pointer (some ⟨w.heap.size, 0, none⟩)]) ∧ w' = w.alloc (.cells #[v] 84) := by
  obtain ⟨a, cap, rfl, -⟩ := hr.get
  obtain ⟨n, hn⟩ : ∃ n, Hid (Q.length = n) := ⟨_, Lib.hid rfl⟩
  rw [hn.out]
  clear hr
  go_enter Try.func84, Try.ntmps84
  go_wp2_with fail
  go_ret
  exact ⟨rfl, rfl⟩
set_option maxRecDepth 100000 in
set_option maxHeartbeats 16000000 in
theorem inOrder1_in (fu : Nat) (hn : 1 ≤ fu) (w0 w1 : World) (Bn : Nat) (T : Nd) (v : Value) (Q : List Sp) (hrow : SpRow w0 v Q) (hql : Q.length ≤ 2000000) (hnd : ∀ s ∈ Q, NodeP w0 s) (hr : ∃ s, Q[0]? = some s ∧ s.t = T) (ht : Told Q) (hm : T.cnt ≤ 2000000)
    (hb1 : Below w0.heap.size w0 w1) (hB : RowAt w1 Bn 84 #[v]) :
    SeqT Fence.wide fu 118 #[.pointer (some ⟨Bn, 0, none⟩)] (encQ (Q := Q)) (KpQ w0.heap.size Bn) (fun xs => (∀ y ∈ xs, y.1.2 = false) → deadN T = none) (fun xs => ∃ pre x, xs = pre ++ [x] ∧ ((∀ y ∈ pre, y.1.2 = false) → x.1.2 = true → deadN T = some x.1.1.t)) w1 := by
  intro l J Jx W hW hJ hJx hY h0
  have HY := Lib.hid hY
  have HJ := Lib.hid hJ
  have HJx := Lib.hid hJx
  have HND := Lib.hid hnd
  have HT := Lib.hid ht
  have HROW := Lib.hid hrow
  have hbW : Below w0.heap.size w0 W := hb1.trans (hW.mono hb1.size)
  have hRW : RowAt W Bn 84 #[v] := hB.later hW
  have HW := Lib.hid hbW
  have HR := Lib.hid hRW
  have hBl := hRW.lt
  have hw0W := hbW.size
  obtain ⟨s0, hs0, hst0⟩ := hr
  have hq0 := (List.getElem?_eq_some_iff.1 hs0).1
  obtain ⟨av, cap, rfl, hcl, hcm, hcell⟩ := hrow.get
  obtain ⟨g, o, rfl, -⟩ := hcell 0 s0 hs0
  obtain ⟨W1, hW1⟩ : ∃ W1, Hid (W.alloc (.cells #[.int .i64 0, .bool false] 155) = W1) := ⟨_, Lib.hid rfl⟩
  have hE0 : Hid (OInv w0 W Bn T Q J [(0, false)] (.slice (some ⟨W.heap.size, 0, none⟩) 1 1) W1) := Lib.hid (by
    have R1 : RowAt W1 W.heap.size 155 #[.int .i64 0, .bool false] := by rw [← hW1.out]; exact RowAt.new W 155 _
    exact {
      own := ⟨rfl, .inr ⟨W.heap.size, 1, _, rfl, Nat.le_refl _, R1, Nat.le_refl _, by unfold maxLen; omega, rfl, rfl⟩⟩
      ok := fun x hx => by
        obtain rfl := List.mem_singleton.1 hx
        exact hq0
      ord := ⟨[], by rw [← hW1.out]; exact hJ.alloc _ h0, fun _ => by
        show _ = deadS [(tQ Q 0, false)]
        rw [tQ_at hs0, hst0, deadS, if_neg (by simp), deadS]
        cases deadN T <;> rfl⟩
      kb := by rw [← hW1.out]; exact Below.heap_alloc W _ Bn hBl
      bel := by rw [← hW1.out]; exact hbW.alloc hbW.size _
      size := by rw [← hW1.out]; simp
      few := by rw [cntI_one, tQ_at hs0, hst0]; exact hm })
  have HC : Hid (∀ U, Below w0.heap.size w0 U → ∀ (k : Nat) (s : Sp), Q[k]? = some s → SpC U g (o + k * 4) s) := Lib.hid (fun U hU k s hk => by
    obtain ⟨g', o', e, c⟩ := hcell k s hk
    cases e
    exact c.below hU)
  clear hY hJ hJx h0 hb1 hB hW hnd ht hrow hs0 hst0 hcell hbW hRW
  obtain ⟨qn, hqn⟩ : ∃ q, Hid (Q.length = q) := ⟨_, Lib.hid rfl⟩
  rw [hqn.out] at hql hq0 hcl HR HROW
  unfold maxLen at hcm
  refine callsIn_of_wp Try.func118 rfl trivial ?_ rfl
  simp only [Try.ntmps118, List.size_toArray, List.length_cons, List.length_nil, Nat.reduceAdd, Nat.reduceSub, Array.replicate_succ, Array.replicate_zero, List.push_toArray, List.append_toArray, List.nil_append, List.cons_append]
  refine wpIn_wide.2 ?_
  go_wp2_with fail
  rw [hW1.out]
  go_loopw [3] (fun u wr => ∃ S, Hid (OInv w0 W Bn T Q J S u wr)) (fun u wr => leastC (fun S => OInv w0 W Bn T Q J S u wr) (cntI Q))
  case atStart => exact ⟨_, hE0⟩
  case round =>
    clear hE0 hW1
    obtain ⟨S, hC, hL⟩ := leastC_spec (I := fun S => OInv w0 W Bn T Q J S u3 wr) (c := cntI Q) (by obtain ⟨S, h⟩ := hrel; exact ⟨S, h.out⟩)
    have HL := Lib.hid hL
    clear hrel hL
    rcases List.eq_nil_or_concat S with rfl | ⟨S0, z, rfl⟩
    · have ho := hC.own
      obtain ⟨ao, m', cap', hu⟩ := own_slice ho
      have hm0 : m' = 0 := by
        rcases ho.2 with ⟨e, -⟩ | ⟨g, cp, cur, e, -⟩
        · rw [hu] at e; cases e; rfl
        · rw [hu] at e; cases e; rfl
      subst hm0
      subst hu
      obtain ⟨pre, hp1, hp2⟩ := hC.ord
      have Hp := Lib.hid hp2
      clear hC ho hp2
      go_wp2_with fail
      go_end0
      exact ⟨⟨_, rfl⟩, .inl ⟨pre, fun h => by rw [Hp.out h]; rfl, hp1⟩⟩
    · obtain ⟨wo, hwo⟩ : ∃ wo, wo = wr := ⟨_, rfl⟩
      subst hwo
      rw [List.concat_eq_append] at hC HL
      have hlen : (S0 ++ [z]).length = S0.length + 1 := by simp
      have ho := hC.own
      rw [plI_app, hlen] at ho
      obtain ⟨m, hmS⟩ : ∃ m, Hid (S0.length = m) := ⟨_, Lib.hid rfl⟩
      rw [hmS.out] at ho
      obtain ⟨gg, cp, cur, hu, hg1, hg2, hg3, hg4, hg5, hg6⟩ : ∃ g cap cur, u3 = .slice (some ⟨g, 0, none⟩) (m + 1) cap ∧ W.heap.size ≤ g ∧ wo.heap[g]? = some (.cells cur 155 (0, 0)) ∧ m + 1 ≤ cap ∧ cap ≤ maxLen ∧ cur.size = cap * 2 ∧ cur.toList.take ((m + 1) * 2) = plI S0 ++ plI [z] := by
        rcases ho.2 with ⟨-, h0⟩ | h
        · omega
        · exact h
      subst hu
      have hcnt : cntI Q (S0 ++ [z]) ≤ 2000000 := hC.few
      have hcs2 := cntI_app Q S0 [z]
      rw [cntI_one] at hcs2
      have hsl := cntI_len Q S0
      rw [hmS.out] at hsl
      have cgj : ∀ j, j < 2 → wo.cell? ⟨gg, m * 2 + j, none⟩ = (plI [z])[j]? := fun j hj => by
        have h1 : (plI S0 ++ plI [z])[m * 2 + j]? = (plI [z])[j]? := by
          rw [List.getElem?_append_right (by rw [plI_len, hmS.out]; omega), plI_len, hmS.out, Nat.add_sub_cancel_left]
        rw [← hg6, List.getElem?_take_of_lt (by omega)] at h1
        simp [World.cell?, hg2]
        simpa using h1
      obtain ⟨i, d⟩ := z
      have cg0 : wo.cell? ⟨gg, m * 2, none⟩ = some (.int .i64 (i : Nat)) := cgj 0 (by omega)
      have cg1 : wo.cell? ⟨gg, m * 2 + 1, none⟩ = some (.bool d) := cgj 1 (by omega)
      clear cgj
      have hiq := hC.ok _ (List.mem_append.2 (.inr (List.mem_singleton.2 rfl)))
      have Hok := Lib.hid hC.ok
      dsimp only at hiq hcs2
      obtain ⟨s, hs⟩ : ∃ s, Hid (Q[i]? = some s) := ⟨_, Lib.hid (List.getElem?_eq_getElem hiq)⟩
      rw [tQ_at hs.out] at hcs2
      rw [hqn.out] at hiq
      obtain ⟨hko, hends, hrch⟩ := HT.out i s hs.out
      have hsn := HND.out s (List.mem_of_getElem? hs.out)
      have hmaxl := hg4
      unfold maxLen at hmaxl
      have OwnPop := Lib.hid (own_pop (m := m) (by omega) ho)
      obtain ⟨pre, hp1, hp2⟩ := hC.ord
      have HC2 := Lib.hid hC
      have Hp2 := Lib.hid hp2
      have Hko := Lib.hid hko
      have Hsn := Lib.hid hsn
      have hfit := hko.fits
      rw [hqn.out] at hfit
      clear ho hC hg5 hg6 hp2 hko hsn hends hrch
      obtain ⟨V, hV⟩ : ∃ V, Hid (wo.alloc (.cells #[.int .i64 (i : Nat), .bool d] 155) = V) := ⟨_, Lib.hid rfl⟩
      have RV : Hid (RowAt V wo.heap.size 155 #[.int .i64 (i : Nat), .bool d]) := by rw [← hV.out]; exact Lib.hid (RowAt.new wo 155 _)
      have hJV : J pre V := by rw [← hV.out]; exact HJ.out.alloc _ hp1
      have BV : Hid (Below w0.heap.size w0 V) := by rw [← hV.out]; exact Lib.hid (HC2.out.bel.alloc HC2.out.bel.size _)
      have KV : Hid (V.heap[Bn]? = W.heap[Bn]?) := by
        rw [← hV.out]
        exact Lib.hid ((Below.heap_alloc wo _ Bn (Nat.lt_of_lt_of_le hBl HC2.out.size)).trans HC2.out.kb)
      have OV : Hid (V.ownsRow W.heap.size 155 2 (.slice (some ⟨gg, 0, none⟩) m cp) m (plI S0)) := Lib.hid (by
        have h1 : ((plI S0 ++ plI [((i, d) : Ip)]).take (m * 2)) = plI S0 := by
          rw [List.take_append_of_le_length (by rw [plI_len, hmS.out]; omega), List.take_of_length_le (by rw [plI_len, hmS.out]; omega)]
        have h2 := OwnPop.out
        rw [h1] at h2
        refine own_same h2 fun g' hg' => ?_
        obtain rfl : gg = g' := Option.some.inj hg'
        rw [← hV.out]
        exact Below.heap_alloc wo _ gg (Array.getElem?_eq_some_iff.1 hg2).1)
      have hVs : V.heap.size = wo.heap.size + 1 := by rw [← hV.out]; simp
      have hWo := HC2.out.size
      obtain ⟨x, hx⟩ : ∃ x : El Q, Hid (x = ⟨(s, d), List.mem_of_getElem? hs.out⟩) := ⟨_, Lib.hid rfl⟩
      -- the facts that the yield's region reads
      have FR : Hid (∀ U, Below w0.heap.size w0 U → U.heap[Bn]? = W.heap[Bn]? → RowAt U wo.heap.size 155 #[.int .i64 (i : Nat), .bool d] → U.cell? ⟨Bn, 0, none⟩ = some (.slice (some ⟨g, o, none⟩) qn cap) ∧ U.cell? ⟨wo.heap.size, 0, none⟩ = some (.int .i64 (i : Nat)) ∧ U.cell? ⟨wo.heap.size, 1, none⟩ = some (.bool d) ∧ U.cell? ⟨g, o + i * 4, none⟩ = some (.pointer (some ⟨s.b, s.o, none⟩)) ∧ U.cell? ⟨g, o + i * 4 + 1, none⟩ = some (.int .i64 (s.first : Nat)) ∧ U.cell? ⟨s.b, s.o, none⟩ = some (.int .i64 s.t.hd.kind)) := Lib.hid (fun U h1 h2 h3 => by
        have c := HC.out U h1 i s hs.out
        exact ⟨(HR.out.same h2).cell rfl, h3.cell rfl, h3.cell rfl, c.c0, c.c1, (Hsn.out.below h1).1.c0⟩)
      have p1 : (m : Int) < (cp : Int) := by omega
      have p2 : (0 : Int) ≤ (m : Int) := by omega
      have p3 : (m : Int) < (m : Int) + 1 := by omega
      have pi1 : (i : Int) < (qn : Int) := by omega
      have pi0 : (0 : Int) ≤ (i : Int) := by omega
      go_upto_region 4 with fail
      rw [hV.out]
      refine (wpIn_wide (n := fu)).1 ?_
      refine wpIn_region_Z (S := fun U => U.cell? ⟨Bn, 0, none⟩ = some (.slice (some ⟨g, o, none⟩) qn cap) ∧ U.cell? ⟨wo.heap.size, 0, none⟩ = some (.int .i64 (i : Nat)) ∧ U.cell? ⟨wo.heap.size, 1, none⟩ = some (.bool d) ∧ U.cell? ⟨g, o + i * 4, none⟩ = some (.pointer (some ⟨s.b, s.o, none⟩))) (zs := [9, 10]) (by kernel_rfl) ?_
      simp only [List.size_toArray, List.length_cons, List.length_nil, Nat.reduceAdd, Array.replicate_succ, Array.replicate_zero, List.push_toArray, List.nil_append, List.cons_append]
      have hS : V.drew.cell? ⟨Bn, 0, none⟩ = some (.slice (some ⟨g, o, none⟩) qn cap) ∧ V.drew.cell? ⟨wo.heap.size, 0, none⟩ = some (.int .i64 (i : Nat)) ∧ V.drew.cell? ⟨wo.heap.size, 1, none⟩ = some (.bool d) ∧ V.drew.cell? ⟨g, o + i * 4, none⟩ = some (.pointer (some ⟨s.b, s.o, none⟩)) := by
        obtain ⟨e1, e2, e3, e4, -⟩ := FR.out V BV.out KV.out RV.out
        exact ⟨e1, e2, e3, e4⟩
      refine wpAnyZIn_takeF 12 (i := 0) (v := ?_) rfl (by kernel_rfl) (by kernel_rfl) (by kernel_rfl) (by kernel_rfl) (by kernel_rfl) (by kernel_rfl) (fun _ _ _ h => h) (Or.inl ⟨by rfl, ?_⟩) (fun _ => rfl) hS ?_
      rotate_left
      · intro w hSw
        obtain ⟨x1, x2, x3, x4⟩ := hSw
        go_simp
        try with_reducible rfl
      try simp only [Act.put, List.setIfInBounds_toArray, List.set_cons_zero, List.set_cons_succ]
      refine wpAnyZIn_takeF 12 (i := 1) (v := ?_) rfl (by kernel_rfl) (by kernel_rfl) (by kernel_rfl) (by kernel_rfl) (by kernel_rfl) (by kernel_rfl) (fun _ _ _ h => h) (Or.inl ⟨by rfl, ?_⟩) (fun _ => rfl) hS ?_
      rotate_left
      · intro w hSw
        obtain ⟨x1, x2, x3, x4⟩ := hSw
        go_simp
        try with_reducible rfl
      try simp only [Act.put, List.setIfInBounds_toArray, List.set_cons_zero, List.set_cons_succ]
      refine wpAnyZIn_takeF 12 (i := 2) (v := ?_) rfl (by kernel_rfl) (by kernel_rfl) (by kernel_rfl) (by kernel_rfl) (by kernel_rfl) (by kernel_rfl) (fun _ _ _ h => h) (Or.inl ⟨by rfl, ?_⟩) (fun _ => rfl) hS ?_
      rotate_left
      · intro w hSw
        obtain ⟨x1, x2, x3, x4⟩ := hSw
        go_simp
        try with_reducible rfl
      try simp only [Act.put, List.setIfInBounds_toArray, List.set_cons_zero, List.set_cons_succ]
      refine wpAnyZIn_takeF 12 (i := 3) (v := ?_) rfl (by kernel_rfl) (by kernel_rfl) (by kernel_rfl) (by kernel_rfl) (by kernel_rfl) (by kernel_rfl) (fun _ _ _ h => h) (Or.inl ⟨by rfl, ?_⟩) (fun _ => rfl) hS ?_
      rotate_left
      · intro w hSw
        obtain ⟨x1, x2, x3, x4⟩ := hSw
        go_simp
        try with_reducible rfl
      try simp only [Act.put, List.setIfInBounds_toArray, List.set_cons_zero, List.set_cons_succ]
      refine wpAnyZIn_takeF 12 (i := 4) (v := ?_) rfl (by kernel_rfl) (by kernel_rfl) (by kernel_rfl) (by kernel_rfl) (by kernel_rfl) (by kernel_rfl) (fun _ _ _ h => h) (Or.inl ⟨by rfl, ?_⟩) (fun _ => rfl) hS ?_
      rotate_left
      · intro w hSw
        obtain ⟨x1, x2, x3, x4⟩ := hSw
        go_simp
        try with_reducible rfl
      try simp only [Act.put, List.setIfInBounds_toArray, List.set_cons_zero, List.set_cons_succ]
      refine wpAnyZIn_takeF 12 (i := 5) (v := ?_) rfl (by kernel_rfl) (by kernel_rfl) (by kernel_rfl) (by kernel_rfl) (by kernel_rfl) (by kernel_rfl) (fun _ _ _ h => h) (Or.inl ⟨by rfl, ?_⟩) (fun _ => rfl) hS ?_
      rotate_left
      · intro w hSw
        obtain ⟨x1, x2, x3, x4⟩ := hSw
        go_simp
        try with_reducible rfl
      try simp only [Act.put, List.setIfInBounds_toArray, List.set_cons_zero, List.set_cons_succ]
      refine wpAnyZIn_takeF 12 (i := 6) (v := ?_) rfl (by kernel_rfl) (by kernel_rfl) (by kernel_rfl) (by kernel_rfl) (by kernel_rfl) (by kernel_rfl) (fun _ _ _ h => h) (Or.inl ⟨by rfl, ?_⟩) (fun _ => rfl) hS ?_
      rotate_left
      · intro w hSw
        obtain ⟨x1, x2, x3, x4⟩ := hSw
        go_simp
        try with_reducible rfl
      try simp only [Act.put, List.setIfInBounds_toArray, List.set_cons_zero, List.set_cons_succ]
      refine wpAnyZIn_takeF 12 (i := 7) (v := ?_) rfl (by kernel_rfl) (by kernel_rfl) (by kernel_rfl) (by kernel_rfl) (by kernel_rfl) (by kernel_rfl) (fun _ _ _ h => h) (Or.inl ⟨by rfl, ?_⟩) (fun _ => rfl) hS ?_
      rotate_left
      · intro w hSw
        obtain ⟨x1, x2, x3, x4⟩ := hSw
        go_simp
        try with_reducible rfl
      try simp only [Act.put, List.setIfInBounds_toArray, List.set_cons_zero, List.set_cons_succ]
      refine wpAnyZIn_takeF 12 (i := 8) (v := ?_) rfl (by kernel_rfl) (by kernel_rfl) (by kernel_rfl) (by kernel_rfl) (by kernel_rfl) (by kernel_rfl) (fun _ _ _ h => h) (Or.inl ⟨by rfl, ?_⟩) (fun _ => rfl) hS ?_
      rotate_left
      · intro w hSw
        obtain ⟨x1, x2, x3, x4⟩ := hSw
        go_simp
        try with_reducible rfl
      try simp only [Act.put, List.setIfInBounds_toArray, List.set_cons_zero, List.set_cons_succ]
      have hJd : J pre V.drew := HJ.out.later hJV (below_drew (Below.refl _ _))
      obtain ⟨fn, tmps, assign, body, hy, hR⟩ := HY.out pre x V.drew hJd
      have hR' := Lib.hid hR
      clear hR hS
      rw [hx.out] at hy
      dsimp only [encQ] at hy
      refine wpAnyZIn_one (i := 9) (by kernel_rfl) rfl (fun K hK => ?_)
      go_simp
      refine hR'.out.mono ?_
      rintro e W3 (⟨rfl, hJ3, hk3⟩ | ⟨rfl, hJ3⟩)
      · refine hK.out _ _ (fun h => absurd (by decide) h) ?_
        clear hK K
        refine wpAnyZIn_one (i := 10) (by kernel_rfl) rfl (fun K hK => ?_)
        go_simp
        refine hK.out _ _ (fun h => absurd (by decide) h) ?_
        clear hK K
        refine wpAnyZIn_done (by kernel_rfl) ?_ _
        have R3 : Hid (RowAt W3 wo.heap.size 155 #[.int .i64 (i : Nat), .bool d]) := Lib.hid (hk3.2.2.2 _ _ (show V.drew.heap[wo.heap.size]? = some (.cells #[.int .i64 (i : Nat), .bool d] 155 (0, 0)) from RV.out))
        have K3 : Hid (W3.heap[Bn]? = W.heap[Bn]?) := Lib.hid (hk3.2.2.1.trans KV.out)
        have B3 : Hid (Below w0.heap.size w0 W3) := Lib.hid ((below_drew BV.out).trans hk3.2.1)
        have hs3 : Hid (wo.heap.size + 1 ≤ W3.heap.size) := Lib.hid (by have h9 := hk3.1; have h8 : V.drew.heap.size = V.heap.size := rfl; omega)
        have O3 : Hid (W3.ownsRow W.heap.size 155 2 (.slice (some ⟨gg, 0, none⟩) m cp) m (plI S0)) := Lib.hid (own_same OV.out fun g' hg' => by
          rcases OV.out.2 with ⟨e, -⟩ | ⟨g9, cp9, cur9, e, -, h9, -⟩
          · cases e
          · cases e
            obtain rfl : gg = g' := Option.some.inj hg'
            exact (hk3.2.2.2 _ _ h9).trans h9.symm)
        have hgl : gg < wo.heap.size := (Array.getElem?_eq_some_iff.1 hg2).1
        have hx2 : Hid (x.1 = (s, d)) := Lib.hid (by rw [hx.out])
        have CK : Hid (∀ U, Below w0.heap.size w0 U → Calls Try.prog 114 #[.slice (some ⟨g, o, none⟩) qn cap, .int .i64 (i : Nat)] U fun e w' => (∃ v', e = .returned v' ∧ SpRow w' v' (kidsS Q s)) ∧ Below U.heap.size U w') := Lib.hid (fun U hU => kids_any _ Q i s U hs.out Hko.out (Hsn.out.below hU) (by rw [hqn.out]; exact hql) (HROW.out.below hU))
        have CS : Hid (∀ U, Below w0.heap.size w0 U → Calls Try.prog 117 #[.slice (some ⟨g, o, none⟩) qn cap, .int .i64 (i : Nat)] U fun e w' => e = .returned (.int .i64 (stopE ((kidsS Q s).map (·.ends)) : Nat)) ∧ Below U.heap.size U w') := Lib.hid (fun U hU => stop_any _ Q i s U hs.out Hko.out (Hsn.out.below hU) (by rw [hqn.out]; exact hql) (HROW.out.below hU))
        obtain ⟨n, hn2⟩ : ∃ n, Hid (s.t.kids.length = n) := ⟨_, Lib.hid rfl⟩
        rw [hn2.out] at hfit
        have Hkl : Hid ((kidsS Q s).length = n) := Lib.hid (by rw [Hko.out.len, hn2.out])
        have hsE : Hid ((kidsS Q s).map (·.ends) = s.t.kids.map endsN) := Lib.hid (by
          rw [← Hko.out.2, List.map_map]
          refine List.map_congr_left fun y hy => ?_
          unfold kidsS at hy
          obtain ⟨j, hj⟩ := List.getElem?_of_mem (List.mem_of_mem_drop (List.mem_of_mem_take hy))
          exact (HT.out j y hj).2.1)
        obtain ⟨st, hst⟩ : ∃ st, Hid (stopN s.t = st) := ⟨_, Lib.hid rfl⟩
        obtain ⟨f, hf⟩ : ∃ f, Hid (s.first = f) := ⟨_, Lib.hid rfl⟩
        rw [hf.out] at hfit FR
        obtain ⟨kd, hkd⟩ : ∃ k, Hid (s.t.hd.kind = k) := ⟨_, Lib.hid rfl⟩
        rw [hkd.out] at FR
        obtain ⟨e1, e2, e3, e4, e5, e6⟩ := FR.out W3 B3.out K3.out R3.out
        clear hk3 hy hx hR'
        go_wp2_with fail
        refine (CK.out W3 B3.out).mono ?_
        rintro e w4 ⟨⟨v4, rfl, hr4⟩, b4⟩
        obtain ⟨a4, c4, rfl, -⟩ := hr4.get
        rw [Hkl.out]
        have B4 := Lib.hid (B3.out.trans (b4.mono B3.out.size))
        have R4 := Lib.hid (R3.out.later b4)
        have K4 : Hid (w4.heap[Bn]? = W.heap[Bn]?) := Lib.hid ((b4.block Bn (by have := hs3.out; omega)).trans K3.out)
        have b34 := Lib.hid b4
        clear e1 e2 e3 e4 e5 e6 hr4 b4
        obtain ⟨e1, e2, e3, e4, e5, e6⟩ := FR.out w4 B4.out K4.out R4.out
        by_cases k5 : kd = 5
        · subst k5
          have hst2 : Hid (stopE ((kidsS Q s).map (·.ends)) = st) := Lib.hid (by rw [hsE.out, ← hst.out]; unfold stopN; rw [if_pos hkd.out])
          go_wp2_with fail
          refine (CS.out w4 B4.out).mono ?_
          rintro e w5 ⟨rfl, b5⟩
          rw [hst2.out]
          have b35 := Lib.hid (b34.out.trans (b5.mono b34.out.size))
          clear b5
          have B5 := Lib.hid (B3.out.trans (b35.out.mono B3.out.size))
          have R5 := Lib.hid (R3.out.later b35.out)
          have K5' : Hid (w5.heap[Bn]? = W.heap[Bn]?) := Lib.hid ((b35.out.block Bn (by have := hs3.out; omega)).trans K3.out)
          clear e1 e2 e3 e4 e5 e6
          obtain ⟨e1, e2, e3, e4, e5, e6⟩ := FR.out w5 B5.out K5'.out R5.out
          go_wp2_with fail
          refine (CK.out w5 B5.out).mono ?_
          rintro e w6 ⟨⟨v6, rfl, hr6⟩, b6⟩
          obtain ⟨a6, c6, rfl, -⟩ := hr6.get
          rw [Hkl.out]
          have b36 := Lib.hid (b35.out.trans (b6.mono b35.out.size))
          have B6 := Lib.hid (B5.out.trans (b6.mono B5.out.size))
          have R6 := Lib.hid (R5.out.later b6)
          have K6 : Hid (w6.heap[Bn]? = W.heap[Bn]?) := Lib.hid ((b6.block Bn (by have := hs3.out; have := b35.out.size; omega)).trans K5'.out)
          have O6 := Lib.hid (own_below O3.out b36.out)
          have J6 : J (pre ++ [x]) w6 := HJ.out.later hJ3 b36.out
          have hs6 : W.heap.size ≤ w6.heap.size := by have := b36.out.size; have := hs3.out; omega
          clear e1 e2 e3 e4 e5 e6 hr6 b6
          go_wp2_with fail
          go_loopw [3, 58] (fun u c w7 => ∃ j : Nat, c = .int .i64 j ∧ j ≤ n ∧ J (pre ++ [x]) w7 ∧ Hid (w7.ownsRow W.heap.size 155 2 u (m + j) (plI S0 ++ plI ((kidI f n st).reverse.take j))) ∧ Hid (∀ b, u.ownBlock = some b → b ≠ wo.heap.size) ∧ Hid (RowAt w7 wo.heap.size 155 #[.int .i64 (i : Nat), .bool d] ∧ w7.heap[Bn]? = W.heap[Bn]? ∧ Below w0.heap.size w0 w7 ∧ W.heap.size ≤ w7.heap.size)) (fun _ c _ => n - (intOf c).toNat)
          case atStart => exact ⟨0, rfl, by omega, J6, Lib.hid (by simpa [plI] using O6.out), Lib.hid (fun b e => by obtain rfl : gg = b := Option.some.inj e; omega), Lib.hid ⟨R6.out, K6.out, B6.out, hs6⟩⟩
          case round =>
            obtain ⟨j, rfl, hj, hJ7, hO7, hb7, hP7⟩ := hrel
            by_cases hlt : j < n
            · obtain ⟨k, hk⟩ : ∃ k : Nat, Hid (k = n - 1 - j) := ⟨_, Lib.hid rfl⟩
              have hkn : k < n := by have := hk.out; omega
              have pj : (n : Int) - 1 - (j : Int) = (k : Int) := by have := hk.out; omega
              have pj0 : (j : Int) < (n : Int) := by omega
              obtain ⟨e1, e2, e3, e4, e5, e6⟩ := FR.out wr hP7.out.2.2.1 hP7.out.2.1 hP7.out.1
              go_wp2_with fail
              refine (CK.out wr hP7.out.2.2.1).mono ?_
              rintro e w8 ⟨⟨v8, rfl, hr8⟩, b8⟩
              obtain ⟨a8, c8, rfl, -⟩ := hr8.get
              rw [Hkl.out]
              have B8 := Lib.hid (hP7.out.2.2.1.trans (b8.mono hP7.out.2.2.1.size))
              have R8 := Lib.hid (hP7.out.1.later b8)
              have hBw : Bn < wr.heap.size := by have := hP7.out.2.2.2; omega
              have K8 : Hid (w8.heap[Bn]? = W.heap[Bn]?) := Lib.hid ((b8.block Bn hBw).trans hP7.out.2.1)
              have O8 := Lib.hid (own_below hO7.out b8)
              have J8 : J (pre ++ [x]) w8 := HJ.out.later hJ7 b8
              have hs8 : W.heap.size ≤ w8.heap.size := by have := b8.size; have := hP7.out.2.2.2; omega
              clear e1 e2 e3 e4 e5 e6 hr8 b8
              obtain ⟨e1, e2, e3, e4, e5, e6⟩ := FR.out w8 B8.out K8.out R8.out
              obtain ⟨bb, hbb⟩ : ∃ bb, decide (st ≤ k) = bb := ⟨_, rfl⟩
              have hb1 : decide ((k : Int) ≥ (st : Int)) = bb := by rw [← hbb]; exact decide_eq_decide.2 (by omega)
              have hb2 : decide ((st : Int) ≤ (k : Int)) = bb := by rw [← hbb]; exact decide_eq_decide.2 (by omega)
              have Rb : Hid (RowAt (w8.alloc (.cells #[.int .i64 ((f : Int) + (k : Int)), .bool bb] 155)) w8.heap.size 155 #[.int .i64 ((f : Int) + (k : Int)), .bool bb]) := Lib.hid (RowAt.new w8 155 _)
              have OA : Hid ((w8.alloc (.cells #[.int .i64 ((f : Int) + (k : Int)), .bool bb] 155)).ownsRow W.heap.size 155 2 u3 (m + j) (plI S0 ++ plI ((kidI f n st).reverse.take j))) := Lib.hid (own_same O8.out fun g' hg' => Below.heap_alloc w8 _ g' (O8.out.lt g' hg').2)
              have Hnews : Hid (∀ (q : Nat) (u : Value), [Value.int .i64 ((f : Int) + (k : Int)), .bool bb][q]? = some u → (w8.alloc (.cells #[.int .i64 ((f : Int) + (k : Int)), .bool bb] 155)).cell? ⟨w8.heap.size, q, none⟩ = some u) := Lib.hid (fun q u hq => Rb.out.cell (by simpa using hq))
              have Hone : Hid (∀ u ∈ [Value.int .i64 ((f : Int) + (k : Int)), .bool bb], u.oneCell' = true) := Lib.hid (fun u hu => by
                simp only [List.mem_cons, List.not_mem_nil, or_false] at hu
                rcases hu with rfl | rfl <;> rfl)
              have Hks : Hid ((kidI f n st).reverse.take (j + 1) = (kidI f n st).reverse.take j ++ [(f + k, bb)]) := Lib.hid (by rw [kidI_rev hlt, ← hk.out, hbb])
              have hfk : f + k ≤ 2000000 := by omega
              
              go_wp2_with (at_builtin; refine wpList_append_el2 (W := w8.alloc (.cells #[.int .i64 ((f : Int) + (k : Int)), .bool bb] 155)) (base := W.heap.size) (n := m + j) rfl _ _ rfl Try.underlying156 infoPlace rfl (by decide) (by decide) u3 (plI S0 ++ plI ((kidI f n st).reverse.take j)) [.int .i64 ((f : Int) + (k : Int)), .bool bb] rfl OA.out w8.heap.size rfl rfl Hnews.out Hone.out (by omega) (by simp; omega) ?_; intro g9 c9 w9 hown9 hg9 hor9)
              have O9 : Hid (w9.ownsRow W.heap.size 155 2 (.slice (some ⟨g9, 0, none⟩) (m + j + 1) c9) (m + (j + 1)) (plI S0 ++ plI ((kidI f n st).reverse.take (j + 1)))) := Lib.hid (by
                rw [Hks.out, plI_app, ← List.append_assoc]; exact hown9)
              have hAs : (w8.alloc (.cells #[.int .i64 ((f : Int) + (k : Int)), .bool bb] 155)).heap.size = w8.heap.size + 1 := World.size_alloc _ _
              have hs9 := hg9.size
              rw [hAs] at hs9 hor9
              have keep : ∀ q, q < w8.heap.size → u3.ownBlock ≠ some q → w9.heap[q]? = w8.heap[q]? := fun q hq hne => (hg9.block q (by rw [hAs]; omega) (fun e => hne e.symm)).trans (Below.heap_alloc w8 _ q hq)
              have P9 : Hid (RowAt w9 wo.heap.size 155 #[.int .i64 (i : Nat), .bool d] ∧ w9.heap[Bn]? = W.heap[Bn]? ∧ Below w0.heap.size w0 w9 ∧ W.heap.size ≤ w9.heap.size) := Lib.hid (by
                refine ⟨R8.out.same (keep _ R8.out.lt (fun e => hb7.out _ e rfl)), (keep Bn (by omega) (fun e => ?_)).trans K8.out, (B8.out.alloc B8.out.size _).grown hg9 (by rw [hAs]; have := B8.out.size; omega) (fun q e => by have := (O8.out.lt q e).1; omega), by omega⟩
                rcases O8.out.2 with ⟨e0, -⟩ | ⟨g0, c0, cur0, e0, -, h0, -⟩
                · rw [e0] at e; cases e
                · rw [e0] at e
                  obtain rfl : g0 = Bn := Option.some.inj e
                  rw [K8.out.trans HR.out] at h0
                  cases h0)
              have J9 : J (pre ++ [x]) w9 := by
                refine HJ.out _ _ _ _ (HJ.out.alloc (.cells #[.int .i64 ((f : Int) + (k : Int)), .bool bb] 155) J8) hg9 fun r e => ⟨(O8.out.lt r e).1, ?_⟩
                rcases O8.out.2 with ⟨e0, -⟩ | ⟨g0, c0, cur0, e0, -, h0, -⟩
                · rw [e0] at e; cases e
                · rw [e0] at e
                  obtain rfl : g0 = r := Option.some.inj e
                  exact ⟨_, (Below.heap_alloc w8 _ g0 (Array.getElem?_eq_some_iff.1 h0).1).trans h0, .inr ⟨cur0, rfl⟩⟩
              have b9 : Hid (∀ q, (Value.slice (some ⟨g9, 0, none⟩) (m + j + 1) c9).ownBlock = some q → q ≠ wo.heap.size) := Lib.hid (fun q e => by
                obtain rfl : g9 = q := Option.some.inj e
                rcases hor9 with h | h
                · exact hb7.out _ h
                · have := R8.out.lt; omega)
              clear hown9 hg9 hor9 keep hAs hs9 e1 e2 e3 e4 e5 e6
              go_wp2_with fail
              exact ⟨⟨j + 1, by go_num, by omega, J9, O9, b9, P9⟩, by simp [intOf]; omega⟩
            · have hjn : j = n := by omega
              have Hjn := Lib.hid hjn
              clear hjn
              have hkl2 : Hid ((kidI f n st).reverse.take j = (kidI f n st).reverse) := Lib.hid (List.take_of_length_le (by rw [List.length_reverse, kidI_len, Hjn.out]; exact Nat.le_refl _))
              have hcI : cntI Q (kidI f n st).reverse = cntL s.t.kids := by rw [← hf.out, ← hn2.out]; exact cnt_kidI Hko.out st
              have hck := cnt_kids s.t
              have hS' : Hid (OInv w0 W Bn T Q J (S0 ++ (kidI f n st).reverse) u3 wr) := Lib.hid (by
                have hown := hO7.out
                rw [hkl2.out, ← plI_app] at hown
                exact {
                  own := by rw [show (S0 ++ (kidI f n st).reverse).length = m + j by rw [List.length_append, List.length_reverse, kidI_len, hmS.out, Hjn.out]]; exact hown
                  ok := fun y hy => by
                    rcases List.mem_append.1 hy with h | h
                    · exact Hok.out y (List.mem_append.2 (.inl h))
                    · obtain ⟨q, h1, rfl⟩ := kidI_mem (List.mem_reverse.1 h)
                      rw [hqn.out]
                      show f + q < qn
                      omega
                  ord := ⟨pre ++ [x], hJ7, fun h => by
                    have h1 : ∀ y ∈ pre, y.1.2 = false := fun y hy => h y (List.mem_append.2 (.inl hy))
                    have h2 : d = false := by
                      have := h x (List.mem_append.2 (.inr (List.mem_singleton.2 rfl)))
                      rw [hx2.out] at this
                      exact this
                    rw [Hp2.out h1, List.reverse_append, List.reverse_append, List.reverse_reverse]
                    have e9 : stk Q (kidI f n st ++ S0.reverse) = flags (decide (s.t.hd.kind = 5)) false s.t.kids ++ stk Q S0.reverse := by
                      rw [← stk_kids Hko.out, hst.out, hn2.out, hf.out]
                      unfold stk
                      rw [List.map_append]
                    rw [e9, ← deadS_step]
                    show deadS ((tQ Q i, d) :: stk Q S0.reverse) = _
                    rw [tQ_at hs.out, h2]⟩
                  kb := hP7.out.2.1
                  bel := hP7.out.2.2.1
                  size := hP7.out.2.2.2
                  few := by rw [cntI_app, hcI]; omega })
              have hfin := leastC_le (I := fun S => OInv w0 W Bn T Q J S u3 wr) (c := cntI Q) hS'.out
              rw [cntI_app, hcI] at hfin
              have hnj : ¬ ((j : Int) < (n : Int)) := by have := Hjn.out; omega
              have Hfin := Lib.hid hfin
              clear hfin hlt
              go_wp2_with fail
              exact ⟨⟨_, hS'⟩, by rw [← HL.out]; have := Hfin.out; omega⟩

        · have hst2 : Hid (n = st) := Lib.hid (by rw [← hst.out, ← hn2.out]; unfold stopN; rw [if_neg (by rw [hkd.out]; exact k5)])
          have f5 : (kd == 5) = false := by simpa using k5
          have K5 := Lib.hid k5
          clear k5
          obtain ⟨w5, hw5⟩ : ∃ w5, Hid (w5 = w4) := ⟨_, Lib.hid rfl⟩
          have b35 : Hid (Below W3.heap.size W3 w5) := by rw [hw5.out]; exact b34
          go_upto_region 8 with fail
          rw [← hw5.out, hst2.out]
          have B5 := Lib.hid (B3.out.trans (b35.out.mono B3.out.size))
          have R5 := Lib.hid (R3.out.later b35.out)
          have K5' : Hid (w5.heap[Bn]? = W.heap[Bn]?) := Lib.hid ((b35.out.block Bn (by have := hs3.out; omega)).trans K3.out)
          clear e1 e2 e3 e4 e5 e6
          obtain ⟨e1, e2, e3, e4, e5, e6⟩ := FR.out w5 B5.out K5'.out R5.out
          go_wp2_with fail
          refine (CK.out w5 B5.out).mono ?_
          rintro e w6 ⟨⟨v6, rfl, hr6⟩, b6⟩
          obtain ⟨a6, c6, rfl, -⟩ := hr6.get
          rw [Hkl.out]
          have b36 := Lib.hid (b35.out.trans (b6.mono b35.out.size))
          have B6 := Lib.hid (B5.out.trans (b6.mono B5.out.size))
          have R6 := Lib.hid (R5.out.later b6)
          have K6 : Hid (w6.heap[Bn]? = W.heap[Bn]?) := Lib.hid ((b6.block Bn (by have := hs3.out; have := b35.out.size; omega)).trans K5'.out)
          have O6 := Lib.hid (own_below O3.out b36.out)
          have J6 : J (pre ++ [x]) w6 := HJ.out.later hJ3 b36.out
          have hs6 : W.heap.size ≤ w6.heap.size := by have := b36.out.size; have := hs3.out; omega
          clear e1 e2 e3 e4 e5 e6 hr6 b6
          go_wp2_with fail
          go_loopw [3, 58] (fun u c w7 => ∃ j : Nat, c = .int .i64 j ∧ j ≤ n ∧ J (pre ++ [x]) w7 ∧ Hid (w7.ownsRow W.heap.size 155 2 u (m + j) (plI S0 ++ plI ((kidI f n st).reverse.take j))) ∧ Hid (∀ b, u.ownBlock = some b → b ≠ wo.heap.size) ∧ Hid (RowAt w7 wo.heap.size 155 #[.int .i64 (i : Nat), .bool d] ∧ w7.heap[Bn]? = W.heap[Bn]? ∧ Below w0.heap.size w0 w7 ∧ W.heap.size ≤ w7.heap.size)) (fun _ c _ => n - (intOf c).toNat)
          case atStart => exact ⟨0, rfl, by omega, J6, Lib.hid (by simpa [plI] using O6.out), Lib.hid (fun b e => by obtain rfl : gg = b := Option.some.inj e; omega), Lib.hid ⟨R6.out, K6.out, B6.out, hs6⟩⟩
          case round =>
            obtain ⟨j, rfl, hj, hJ7, hO7, hb7, hP7⟩ := hrel
            by_cases hlt : j < n
            · obtain ⟨k, hk⟩ : ∃ k : Nat, Hid (k = n - 1 - j) := ⟨_, Lib.hid rfl⟩
              have hkn : k < n := by have := hk.out; omega
              have pj : (n : Int) - 1 - (j : Int) = (k : Int) := by have := hk.out; omega
              have pj0 : (j : Int) < (n : Int) := by omega
              obtain ⟨e1, e2, e3, e4, e5, e6⟩ := FR.out wr hP7.out.2.2.1 hP7.out.2.1 hP7.out.1
              go_wp2_with fail
              refine (CK.out wr hP7.out.2.2.1).mono ?_
              rintro e w8 ⟨⟨v8, rfl, hr8⟩, b8⟩
              obtain ⟨a8, c8, rfl, -⟩ := hr8.get
              rw [Hkl.out]
              have B8 := Lib.hid (hP7.out.2.2.1.trans (b8.mono hP7.out.2.2.1.size))
              have R8 := Lib.hid (hP7.out.1.later b8)
              have hBw : Bn < wr.heap.size := by have := hP7.out.2.2.2; omega
              have K8 : Hid (w8.heap[Bn]? = W.heap[Bn]?) := Lib.hid ((b8.block Bn hBw).trans hP7.out.2.1)
              have O8 := Lib.hid (own_below hO7.out b8)
              have J8 : J (pre ++ [x]) w8 := HJ.out.later hJ7 b8
              have hs8 : W.heap.size ≤ w8.heap.size := by have := b8.size; have := hP7.out.2.2.2; omega
              clear e1 e2 e3 e4 e5 e6 hr8 b8
              obtain ⟨e1, e2, e3, e4, e5, e6⟩ := FR.out w8 B8.out K8.out R8.out
              obtain ⟨bb, hbb⟩ : ∃ bb, decide (st ≤ k) = bb := ⟨_, rfl⟩
              have hb1 : decide ((k : Int) ≥ (st : Int)) = bb := by rw [← hbb]; exact decide_eq_decide.2 (by omega)
              have hb2 : decide ((st : Int) ≤ (k : Int)) = bb := by rw [← hbb]; exact decide_eq_decide.2 (by omega)
              have Rb : Hid (RowAt (w8.alloc (.cells #[.int .i64 ((f : Int) + (k : Int)), .bool bb] 155)) w8.heap.size 155 #[.int .i64 ((f : Int) + (k : Int)), .bool bb]) := Lib.hid (RowAt.new w8 155 _)
              have OA : Hid ((w8.alloc (.cells #[.int .i64 ((f : Int) + (k : Int)), .bool bb] 155)).ownsRow W.heap.size 155 2 u3 (m + j) (plI S0 ++ plI ((kidI f n st).reverse.take j))) := Lib.hid (own_same O8.out fun g' hg' => Below.heap_alloc w8 _ g' (O8.out.lt g' hg').2)
              have Hnews : Hid (∀ (q : Nat) (u : Value), [Value.int .i64 ((f : Int) + (k : Int)), .bool bb][q]? = some u → (w8.alloc (.cells #[.int .i64 ((f : Int) + (k : Int)), .bool bb] 155)).cell? ⟨w8.heap.size, q, none⟩ = some u) := Lib.hid (fun q u hq => Rb.out.cell (by simpa using hq))
              have Hone : Hid (∀ u ∈ [Value.int .i64 ((f : Int) + (k : Int)), .bool bb], u.oneCell' = true) := Lib.hid (fun u hu => by
                simp only [List.mem_cons, List.not_mem_nil, or_false] at hu
                rcases hu with rfl | rfl <;> rfl)
              have Hks : Hid ((kidI f n st).reverse.take (j + 1) = (kidI f n st).reverse.take j ++ [(f + k, bb)]) := Lib.hid (by rw [kidI_rev hlt, ← hk.out, hbb])
              have hfk : f + k ≤ 2000000 := by omega
              
              go_wp2_with (at_builtin; refine wpList_append_el2 (W := w8.alloc (.cells #[.int .i64 ((f : Int) + (k : Int)), .bool bb] 155)) (base := W.heap.size) (n := m + j) rfl _ _ rfl Try.underlying156 infoPlace rfl (by decide) (by decide) u3 (plI S0 ++ plI ((kidI f n st).reverse.take j)) [.int .i64 ((f : Int) + (k : Int)), .bool bb] rfl OA.out w8.heap.size rfl rfl Hnews.out Hone.out (by omega) (by simp; omega) ?_; intro g9 c9 w9 hown9 hg9 hor9)
              have O9 : Hid (w9.ownsRow W.heap.size 155 2 (.slice (some ⟨g9, 0, none⟩) (m + j + 1) c9) (m + (j + 1)) (plI S0 ++ plI ((kidI f n st).reverse.take (j + 1)))) := Lib.hid (by
                rw [Hks.out, plI_app, ← List.append_assoc]; exact hown9)
              have hAs : (w8.alloc (.cells #[.int .i64 ((f : Int) + (k : Int)), .bool bb] 155)).heap.size = w8.heap.size + 1 := World.size_alloc _ _
              have hs9 := hg9.size
              rw [hAs] at hs9 hor9
              have keep : ∀ q, q < w8.heap.size → u3.ownBlock ≠ some q → w9.heap[q]? = w8.heap[q]? := fun q hq hne => (hg9.block q (by rw [hAs]; omega) (fun e => hne e.symm)).trans (Below.heap_alloc w8 _ q hq)
              have P9 : Hid (RowAt w9 wo.heap.size 155 #[.int .i64 (i : Nat), .bool d] ∧ w9.heap[Bn]? = W.heap[Bn]? ∧ Below w0.heap.size w0 w9 ∧ W.heap.size ≤ w9.heap.size) := Lib.hid (by
                refine ⟨R8.out.same (keep _ R8.out.lt (fun e => hb7.out _ e rfl)), (keep Bn (by omega) (fun e => ?_)).trans K8.out, (B8.out.alloc B8.out.size _).grown hg9 (by rw [hAs]; have := B8.out.size; omega) (fun q e => by have := (O8.out.lt q e).1; omega), by omega⟩
                rcases O8.out.2 with ⟨e0, -⟩ | ⟨g0, c0, cur0, e0, -, h0, -⟩
                · rw [e0] at e; cases e
                · rw [e0] at e
                  obtain rfl : g0 = Bn := Option.some.inj e
                  rw [K8.out.trans HR.out] at h0
                  cases h0)
              have J9 : J (pre ++ [x]) w9 := by
                refine HJ.out _ _ _ _ (HJ.out.alloc (.cells #[.int .i64 ((f : Int) + (k : Int)), .bool bb] 155) J8) hg9 fun r e => ⟨(O8.out.lt r e).1, ?_⟩
                rcases O8.out.2 with ⟨e0, -⟩ | ⟨g0, c0, cur0, e0, -, h0, -⟩
                · rw [e0] at e; cases e
                · rw [e0] at e
                  obtain rfl : g0 = r := Option.some.inj e
                  exact ⟨_, (Below.heap_alloc w8 _ g0 (Array.getElem?_eq_some_iff.1 h0).1).trans h0, .inr ⟨cur0, rfl⟩⟩
              have b9 : Hid (∀ q, (Value.slice (some ⟨g9, 0, none⟩) (m + j + 1) c9).ownBlock = some q → q ≠ wo.heap.size) := Lib.hid (fun q e => by
                obtain rfl : g9 = q := Option.some.inj e
                rcases hor9 with h | h
                · exact hb7.out _ h
                · have := R8.out.lt; omega)
              clear hown9 hg9 hor9 keep hAs hs9 e1 e2 e3 e4 e5 e6
              go_wp2_with fail
              exact ⟨⟨j + 1, by go_num, by omega, J9, O9, b9, P9⟩, by simp [intOf]; omega⟩
            · have hjn : j = n := by omega
              have Hjn := Lib.hid hjn
              clear hjn
              have hkl2 : Hid ((kidI f n st).reverse.take j = (kidI f n st).reverse) := Lib.hid (List.take_of_length_le (by rw [List.length_reverse, kidI_len, Hjn.out]; exact Nat.le_refl _))
              have hcI : cntI Q (kidI f n st).reverse = cntL s.t.kids := by rw [← hf.out, ← hn2.out]; exact cnt_kidI Hko.out st
              have hck := cnt_kids s.t
              have hS' : Hid (OInv w0 W Bn T Q J (S0 ++ (kidI f n st).reverse) u3 wr) := Lib.hid (by
                have hown := hO7.out
                rw [hkl2.out, ← plI_app] at hown
                exact {
                  own := by rw [show (S0 ++ (kidI f n st).reverse).length = m + j by rw [List.length_append, List.length_reverse, kidI_len, hmS.out, Hjn.out]]; exact hown
                  ok := fun y hy => by
                    rcases List.mem_append.1 hy with h | h
                    · exact Hok.out y (List.mem_append.2 (.inl h))
                    · obtain ⟨q, h1, rfl⟩ := kidI_mem (List.mem_reverse.1 h)
                      rw [hqn.out]
                      show f + q < qn
                      omega
                  ord := ⟨pre ++ [x], hJ7, fun h => by
                    have h1 : ∀ y ∈ pre, y.1.2 = false := fun y hy => h y (List.mem_append.2 (.inl hy))
                    have h2 : d = false := by
                      have := h x (List.mem_append.2 (.inr (List.mem_singleton.2 rfl)))
                      rw [hx2.out] at this
                      exact this
                    rw [Hp2.out h1, List.reverse_append, List.reverse_append, List.reverse_reverse]
                    have e9 : stk Q (kidI f n st ++ S0.reverse) = flags (decide (s.t.hd.kind = 5)) false s.t.kids ++ stk Q S0.reverse := by
                      rw [← stk_kids Hko.out, hst.out, hn2.out, hf.out]
                      unfold stk
                      rw [List.map_append]
                    rw [e9, ← deadS_step]
                    show deadS ((tQ Q i, d) :: stk Q S0.reverse) = _
                    rw [tQ_at hs.out, h2]⟩
                  kb := hP7.out.2.1
                  bel := hP7.out.2.2.1
                  size := hP7.out.2.2.2
                  few := by rw [cntI_app, hcI]; omega })
              have hfin := leastC_le (I := fun S => OInv w0 W Bn T Q J S u3 wr) (c := cntI Q) hS'.out
              rw [cntI_app, hcI] at hfin
              have hnj : ¬ ((j : Int) < (n : Int)) := by have := Hjn.out; omega
              have Hfin := Lib.hid hfin
              clear hfin hlt
              go_wp2_with fail
              exact ⟨⟨_, hS'⟩, by rw [← HL.out]; have := Hfin.out; omega⟩

      · refine hK.out _ _ (fun h => absurd (by decide) h) ?_
        clear hK K
        refine wpAnyZIn_one (i := 10) (by kernel_rfl) rfl (fun K hK => ?_)
        go_simp
        refine hK.out _ _ (fun h => absurd (by decide) h) ?_
        clear hK K
        refine wpAnyZIn_done (by kernel_rfl) ?_ _
        go_wp2_with fail
        (try simp only [Exit.inBlock, Exit.then])
        refine bodyPost_ret (results_none rfl _ _ _) rfl ?_
        refine ⟨⟨_, rfl⟩, .inr ⟨pre ++ [x], ⟨pre, x, rfl, fun h1 h2 => ?_⟩, hJ3⟩⟩
        rw [Hp2.out h1]
        rw [hx.out] at h2 ⊢
        subst h2
        rw [List.reverse_append]
        show deadS ((tQ Q i, true) :: stk Q S0.reverse) = _
        rw [deadS_dead, tQ_at hs.out]
end Go.Proofs.Ytbnbmjdjkadgoaa.F
