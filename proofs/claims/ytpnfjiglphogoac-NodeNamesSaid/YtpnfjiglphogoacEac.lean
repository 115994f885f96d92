/-
  For the laws of node: the iterator over the nodes of a tree hands over each node with its depth, in order. Condition: at most 2,000,000 nodes.
-/
import Derived.Test.YtpnfjiglphogoacRng
import Derived.Test.YtpnfjiglphogoacLast
import Derived.OwnWalkIn
import Derived.TacticsInMore
import Derived.LoopNIn
import Derived.LoopIn
namespace Go.Proofs.Ytpnfjiglphogoac
open Go.RowKit Go.Shelf
set_option linter.unusedSimpArgs false
set_option linter.unusedVariables false

attribute [local go_sem] Oper.semAt_some

theorem infoPlace : (Try.prog.info? 58).map (fun i => (i.zero, i.size, i.bytes)) = some (some (.agg #[.int .i64 0, .pointer none]), 2, 16) := by kernel_rfl
abbrev Px := Nat × Pt
def OkX (w0 : World) (Bn : Nat) (T : Nd) (kv : Value) (x : Px) : Prop := (x.2 = ⟨Bn, 0, T, kv⟩ ∨ HoldsR w0 x.2) ∧ x.2.t.cnt ≤ T.cnt
def encX {p : Px → Prop} (x : { x : Px // p x }) : Array Value := #[.int .i64 (x.1.1 : Nat), .pointer (some ⟨x.1.2.b, x.1.2.off, none⟩)]
def prX {p : Px → Prop} (x : { x : Px // p x }) : Nat × Nd := (x.1.1, x.1.2.t)
def pl (S : List Px) : List Value := S.flatMap fun x => [.int .i64 (x.1 : Nat), .pointer (some ⟨x.2.b, x.2.off, none⟩)]
theorem pl_len (S : List Px) : (pl S).length = S.length * 2 := by
  unfold pl
  induction S with
  | nil => rfl
  | cons x L ih => rw [List.flatMap_cons, List.length_append, ih, List.length_cons]; simp; omega
theorem pl_app (A B : List Px) : pl (A ++ B) = pl A ++ pl B := by unfold pl; rw [List.flatMap_append]
def cntX (S : List Px) : Nat := cntS (S.map (·.2))
theorem cntX_app (A B : List Px) : cntX (A ++ B) = cntX A + cntX B := by unfold cntX; rw [List.map_append, cntS_app]
theorem cntX_one (z : Px) : cntX [z] = z.2.t.cnt := by unfold cntX; exact cntS_one z.2
theorem cntX_len (S : List Px) : S.length ≤ cntX S := by unfold cntX; have := cntS_len (S.map (·.2)); simpa using this
/-- What is yet to come of a stack. -/
def flat (S : List Px) : List (Nat × Nd) := S.flatMap fun x => x.2.t.pre x.1
theorem flat_app (A B : List Px) : flat (A ++ B) = flat A ++ flat B := by unfold flat; rw [List.flatMap_append]
/-- The kids of a node, with their depth. -/
def kidX (d N b1 : Nat) (ps : List Pr) : List Px := ps.mapIdx fun i z => (d, ⟨N, b1 + i * 9, z.1, z.2⟩)
theorem kidX_len (d N b1 : Nat) (ps : List Pr) : (kidX d N b1 ps).length = ps.length := by unfold kidX; simp
theorem kidX_at {d N b1 : Nat} {ps : List Pr} {i : Nat} {p : Pr} (h : ps[i]? = some p) : (kidX d N b1 ps)[i]? = some (d, ⟨N, b1 + i * 9, p.1, p.2⟩) := by
  unfold kidX
  rw [List.getElem?_mapIdx, h]; rfl
theorem kidX_mem {d N b1 : Nat} {ps : List Pr} {x : Px} (h : x ∈ kidX d N b1 ps) : ∃ (i : Nat) (p : Pr), ps[i]? = some p ∧ x = (d, ⟨N, b1 + i * 9, p.1, p.2⟩) := by
  obtain ⟨i, hi⟩ := List.getElem?_of_mem h
  unfold kidX at hi
  rw [List.getElem?_mapIdx] at hi
  cases hz : ps[i]? with
  | none => rw [hz] at hi; cases hi
  | some y => rw [hz] at hi; exact ⟨i, y, hz, (Option.some.inj hi).symm⟩
theorem kidX_t (d N b1 : Nat) (ps : List Pr) : (kidX d N b1 ps).map (·.2.t) = ps.map (·.1) := by
  refine List.ext_getElem? fun k => ?_
  rw [List.getElem?_map, List.getElem?_map]
  cases hp : ps[k]? with
  | none => rw [List.getElem?_eq_none (by rw [kidX_len]; exact List.getElem?_eq_none_iff.1 hp)]; rfl
  | some q => rw [kidX_at hp]; rfl
theorem flat_kids (d : Nat) : ∀ (L : List Px), (∀ x ∈ L, x.1 = d) → flat L = preL d (L.map (·.2.t))
  | [], _ => by simp [flat, preL]
  | x :: L, h => by
    have e : x.1 = d := h x (by simp)
    rw [List.map_cons, preL, ← flat_kids d L (fun y hy => h y (by simp [hy]))]
    unfold flat
    rw [List.flatMap_cons, e]
theorem flat_kidX (d N b1 : Nat) (ps : List Pr) : flat (kidX d N b1 ps) = preL d (ps.map (·.1)) := by
  rw [flat_kids d _ (fun x hx => by obtain ⟨i, p, -, rfl⟩ := kidX_mem hx; rfl), kidX_t]
theorem kidX_cnt (d N b1 : Nat) (ps : List Pr) : cntX (kidX d N b1 ps).reverse = cntL (ps.map (·.1)) := by
  have h : ∀ L : List Px, cntX L.reverse = cntL (L.map (·.2.t)) := fun L => by
    induction L with
    | nil => rfl
    | cons x L ih => rw [List.reverse_cons, cntX_app, ih, cntX_one, List.map_cons, cntL]; omega
  rw [h, kidX_t]
/-- What a round keeps of the iterator. -/
def KpX (n0 Bn : Nat) (A B : World) : Prop := A.heap.size ≤ B.heap.size ∧ Below n0 A B ∧ B.heap[Bn]? = A.heap[Bn]? ∧ ∀ (b : Nat) (cs : Array Value), A.heap[b]? = some (Obj.cells cs 58 (0, 0)) → B.heap[b]? = some (Obj.cells cs 58 (0, 0))
theorem KpX.trans {n0 Bn : Nat} {A B C : World} (h : KpX n0 Bn A B) (k : KpX n0 Bn B C) : KpX n0 Bn A C := ⟨Nat.le_trans h.1 k.1, h.2.1.trans k.2.1, k.2.2.1.trans h.2.2.1, fun b cs hb => k.2.2.2 b cs (h.2.2.2 b cs hb)⟩
theorem KpX.refl (n0 Bn : Nat) (A : World) : KpX n0 Bn A A := ⟨Nat.le_refl _, Below.refl _ _, rfl, fun _ _ h => h⟩
theorem kpX_put {n0 Bn : Nat} {w : World} (hn : n0 ≤ w.heap.size) (hB : Bn < w.heap.size) (W : World) (l : Nat) (o o' : Obj) (hl : w.heap.size ≤ l) (h : W.heap[l]? = some o) (hc : o.isCells = false) : KpX n0 Bn W (W.putObj l o') := by
  refine ⟨by simp [World.putObj], (Below.refl n0 W).grown (grownBy_putObj' W l o') (by have := (Array.getElem?_eq_some_iff.1 h).1; omega) (fun k e => by cases e; omega), World.putObj_heap_other (by omega), fun b cs hb => (World.putObj_heap_other ?_).trans hb⟩
  rintro rfl
  rw [hb] at h; cases h; cases hc
/-- Between two rounds of the iterator. -/
structure EInv {α : Type} (w0 W : World) (Bn : Nat) (T : Nd) (kv : Value) (pr : α → Nat × Nd) (J : List α → World → Prop) (S : List Px) (u : Value) (wr : World) : Prop where
  own : wr.ownsRow W.heap.size 58 2 u S.length (pl S)
  ok : ∀ x ∈ S, OkX w0 Bn T kv x ∧ x.1 + x.2.t.ht ≤ T.ht + 1
  ord : ∃ pre, J pre wr ∧ pre.map pr ++ flat S.reverse = T.pre 1
  kb : wr.heap[Bn]? = W.heap[Bn]?
  bel : Below w0.heap.size w0 wr
  size : W.heap.size ≤ wr.heap.size
  few : cntX S ≤ 2000000
/-- A node's cells, wherever it lies. -/
theorem OkX.cells {w0 V : World} {Bn : Nat} {T : Nd} {kv : Value} {x : Px} (h : OkX w0 Bn T kv x) (hb : Below w0.heap.size w0 V) (hn : RowAt V Bn 24 (T.hd.vals kv)) : Cells V x.2.b x.2.off x.2.t.hd x.2.kv := by
  rcases h.1 with h | h
  · rw [h]; exact Cells.row hn
  · exact h.1.later hb
theorem OkX.kids {w0 : World} {Bn : Nat} {T : Nd} {kv : Value} {x : Px} (h : OkX w0 Bn T kv x) (hk : KidsAt w0 T.kids kv) : KidsAt w0 x.2.t.kids x.2.kv := by
  rcases h.1 with h | h
  · rw [h]; exact hk
  · exact h.2
theorem stack_grown {B n : Nat} {wr w2 : World} {o : Obj} {v : Value} {xs : List Value} (h : wr.ownsRow B 58 2 v n xs) (hg : (wr.alloc o).drew.grownBy w2 v.ownBlock) :
    (∀ (q : Nat) (t : TypeId) (cs : Array Value), wr.heap[q]? = some (Obj.cells cs t (0, 0)) → v.ownBlock ≠ some q → w2.heap[q]? = some (Obj.cells cs t (0, 0))) ∧ (∀ n0, n0 ≤ B → n0 ≤ wr.heap.size → Below n0 wr w2) ∧ wr.heap.size + 1 ≤ w2.heap.size := by
  have hs : (wr.alloc o).drew.heap.size = wr.heap.size + 1 := World.size_alloc wr o
  have hs2 := hg.size
  rw [hs] at hs2
  refine ⟨fun q t cs hq hne => ?_, fun n0 h1 h2 => ?_, hs2⟩
  · have hl := (Array.getElem?_eq_some_iff.1 hq).1
    exact (hg.block q (by rw [hs]; omega) (fun e => hne e.symm)).trans ((Below.heap_alloc wr o q hl).trans hq)
  · exact (below_drew ((Below.refl n0 wr).alloc h2 o)).grown hg (by rw [hs]; omega) (fun k e => Nat.le_trans h1 (h.lt k e).1)
theorem rev_take {d N b1 : Nat} {ps : List Pr} {L i : Nat} {p : Pr} (hL : ps.length = L) (hi : i < L) (hp : ps[L - 1 - i]? = some p) : (kidX d N b1 ps).reverse.take (i + 1) = (kidX d N b1 ps).reverse.take i ++ [(d, ⟨N, b1 + (L - 1 - i) * 9, p.1, p.2⟩)] := by
  subst hL
  rw [List.take_add_one]
  congr 1
  rw [List.getElem?_reverse (by rw [kidX_len]; omega), kidX_len, kidX_at hp]
  rfl
set_option maxRecDepth 100000 in
set_option maxHeartbeats 8000000 in
theorem each_any (T : Nd) (kv : Value) (w : World) (hk : KidsAt w T.kids kv) : Calls Try.prog 26 #[.agg #[.int .i64 T.hd.kind, .string (bs T.hd.text), .string (bs T.hd.type), .int .i64 T.hd.n, .int .i64 T.hd.fr, .int .i64 T.hd.to_, .int .i64 T.hd.at_, .int .i64 T.hd.tat, kv]] w fun e w' => e = .returned (.func (.func 35) #[] #[.pointer (some ⟨w.heap.size, 0, none⟩)]) ∧ w' = w.alloc (.cells (T.hd.vals kv) 24) := by
  obtain ⟨a, cap, rfl, -⟩ := hk.get
  obtain ⟨n, hn⟩ : ∃ n, Hid (T.kids.length = n) := ⟨_, Lib.hid rfl⟩
  rw [hn.out]
  clear hk
  go_enter Try.func26, Try.ntmps26
  go_wp2_with fail
  go_ret
  exact ⟨rfl, rfl⟩
set_option maxRecDepth 100000 in
set_option maxHeartbeats 8000000 in
theorem each1_in (F : Fence) (fu : Nat) (h7 : F.fn 35) (hro : F.round = none) (hn : 1 ≤ fu) (w0 w1 : World) (Bn : Nat) (T : Nd) (kv : Value) (hk : KidsAt w0 T.kids kv) (hm : T.cnt ≤ 2000000) (hb1 : Below w0.heap.size w0 w1) (hB : RowAt w1 Bn 24 (T.hd.vals kv)) :
    SeqT F fu 35 #[.pointer (some ⟨Bn, 0, none⟩)] (encX (p := OkX w0 Bn T kv)) (KpX w0.heap.size Bn) (fun xs => xs.map prX = T.pre 1) T.cnt w1 := by
  intro l J W hW hJ hY h0
  have HY := Lib.hid hY
  have HJ := Lib.hid hJ
  have HK := Lib.hid hk
  have hbW : Below w0.heap.size w0 W := hb1.trans (hW.mono hb1.size)
  have hRW : RowAt W Bn 24 (T.hd.vals kv) := hB.later hW
  have HW := Lib.hid hbW
  have HR := Lib.hid hRW
  have hBl := hRW.lt
  obtain ⟨W1, hW1⟩ : ∃ W1, Hid (W.alloc (.cells #[.int .i64 1, .pointer (some ⟨Bn, 0, none⟩)] 58) = W1) := ⟨_, Lib.hid rfl⟩
  have hE0 : Hid (EInv w0 W Bn T kv prX J [(1, ⟨Bn, 0, T, kv⟩)] (.slice (some ⟨W.heap.size, 0, none⟩) 1 1) W1) := Lib.hid (by
    have R1 : RowAt W1 W.heap.size 58 #[.int .i64 1, .pointer (some ⟨Bn, 0, none⟩)] := by rw [← hW1.out]; exact RowAt.new W 58 _
    exact {
      own := ⟨rfl, .inr ⟨W.heap.size, 1, _, rfl, Nat.le_refl _, R1, Nat.le_refl _, by unfold maxLen; omega, rfl, rfl⟩⟩
      ok := fun x hx => by
        obtain rfl := List.mem_singleton.1 hx
        exact ⟨⟨.inl rfl, Nat.le_refl _⟩, by show 1 + T.ht ≤ _; omega⟩
      ord := ⟨[], by rw [← hW1.out]; exact hJ.alloc _ h0, by simp [flat]⟩
      kb := by rw [← hW1.out]; exact Below.heap_alloc W _ Bn hBl
      bel := by rw [← hW1.out]; exact hbW.alloc hbW.size _
      size := by rw [← hW1.out]; simp
      few := by rw [cntX_one]; exact hm })
  clear hY hJ hk hbW hRW h0 hb1 hB hW
  refine callsIn_of_wp Try.func35 rfl h7 ?_ hro
  simp only [Try.ntmps35, List.size_toArray, List.length_cons, List.length_nil, Nat.reduceAdd, Nat.reduceSub, Array.replicate_succ, Array.replicate_zero, List.push_toArray, List.append_toArray, List.nil_append, List.cons_append]
  gi_wp2
  rw [hW1.out]
  gi_loopw [3] (fun u wr => ∃ S, Hid (EInv w0 W Bn T kv prX J S u wr)) (fun u wr => leastC (fun S => EInv w0 W Bn T kv prX J S u wr) cntX)
  case atStart => exact ⟨_, hE0⟩
  case round =>
    obtain ⟨S, hC, hL⟩ := leastC_spec (I := fun S => EInv w0 W Bn T kv prX J S u3 wr) (c := cntX) (by obtain ⟨S, h⟩ := hrel; exact ⟨S, h.out⟩)
    have HL := Lib.hid hL
    clear hrel hL
    rcases List.eq_nil_or_concat S with rfl | ⟨S0, z, rfl⟩
    · have ho := hC.own
      obtain ⟨ao, m', cap, hu⟩ := own_slice ho
      have hm0 : m' = 0 := by
        rcases ho.2 with ⟨e, -⟩ | ⟨g, cp, cur, e, -⟩
        · rw [hu] at e; cases e; rfl
        · rw [hu] at e; cases e; rfl
      subst hm0
      subst hu
      obtain ⟨pre, hp1, hp2⟩ := hC.ord
      have hp3 : pre.map prX = T.pre 1 := by rw [← hp2]; simp [flat]
      have Hp := Lib.hid hp3
      clear hC ho hp2 hp3
      gi_wp2
      go_end0
      exact ⟨⟨_, rfl⟩, pre, Hp.out, hp1⟩
    · obtain ⟨wo, hwo⟩ : ∃ wo, wo = wr := ⟨_, rfl⟩
      subst hwo
      rw [List.concat_eq_append] at hC HL
      have hlen : (S0 ++ [z]).length = S0.length + 1 := by simp
      have ho := hC.own
      rw [pl_app, hlen] at ho
      obtain ⟨m, hmS⟩ : ∃ m, Hid (S0.length = m) := ⟨_, Lib.hid rfl⟩
      rw [hmS.out] at ho
      obtain ⟨g, cap, cur, hu, hg1, hg2, hg3, hg4, hg5, hg6⟩ : ∃ g cap cur, u3 = .slice (some ⟨g, 0, none⟩) (m + 1) cap ∧ W.heap.size ≤ g ∧ wo.heap[g]? = some (.cells cur 58 (0, 0)) ∧ m + 1 ≤ cap ∧ cap ≤ maxLen ∧ cur.size = cap * 2 ∧ cur.toList.take ((m + 1) * 2) = pl S0 ++ pl [z] := by
        rcases ho.2 with ⟨-, h0⟩ | h
        · omega
        · exact h
      subst hu
      have hcnt : cntX (S0 ++ [z]) ≤ 2000000 := hC.few
      have hcs2 := cntX_app S0 [z]
      rw [cntX_one] at hcs2
      have hsl := cntX_len S0
      rw [hmS.out] at hsl
      have cgj : ∀ j, j < 2 → wo.cell? ⟨g, m * 2 + j, none⟩ = (pl [z])[j]? := fun j hj => by
        have h1 : (pl S0 ++ pl [z])[m * 2 + j]? = (pl [z])[j]? := by
          rw [List.getElem?_append_right (by rw [pl_len, hmS.out]; omega), pl_len, hmS.out, Nat.add_sub_cancel_left]
        rw [← hg6, List.getElem?_take_of_lt (by omega)] at h1
        simp [World.cell?, hg2]
        simpa using h1
      obtain ⟨d, b, o, t, kz⟩ := z
      have cg0 : wo.cell? ⟨g, m * 2, none⟩ = some (.int .i64 (d : Nat)) := cgj 0 (by omega)
      have cg1 : wo.cell? ⟨g, m * 2 + 1, none⟩ = some (.pointer (some ⟨b, o, none⟩)) := cgj 1 (by omega)
      clear cgj
      have Hok := Lib.hid hC.ok
      have hoz := (hC.ok _ (List.mem_append.2 (.inr (List.mem_singleton.2 rfl))))
      obtain ⟨ps, ak, ck, hps, hkv, hc1, hc2, hr⟩ := (hoz.1.kids HK.out).rows
      dsimp only at hps hkv hoz hcs2
      subst hkv
      have hht : t.ht = htL t.kids + 1 := ht_kids t
      have hTc := ht_cnt T
      have hd1 : d + t.ht ≤ T.ht + 1 := hoz.2
      have hmaxl := hg4
      unfold maxLen at hmaxl
      have OwnPop := Lib.hid (own_pop (m := m) (by omega) ho)
      obtain ⟨pre, hp1, hp2⟩ := hC.ord
      have HC := Lib.hid hC
      have Hps := Lib.hid hps
      have Hr := Lib.hid hr
      have Hoz := Lib.hid hoz
      have Hp2 := Lib.hid hp2
      have hg5' := Lib.hid hg5
      have hg6' := Lib.hid hg6
      clear ho hC hps hr hoz hg5 hg6 hp2
      obtain ⟨LX, hLX⟩ : ∃ L, Hid (ps.length = L) := ⟨_, Lib.hid rfl⟩
      rw [hLX.out] at hc1 Hoz
      obtain ⟨V, hV⟩ : ∃ V, Hid (wo.alloc (.cells #[.int .i64 (d : Nat), .pointer (some ⟨b, o, none⟩)] 58) = V) := ⟨_, Lib.hid rfl⟩
      have RV : Hid (RowAt V wo.heap.size 58 #[.int .i64 (d : Nat), .pointer (some ⟨b, o, none⟩)]) := by rw [← hV.out]; exact Lib.hid (RowAt.new wo 58 _)
      have hJV : J pre V := by rw [← hV.out]; exact HJ.out.alloc _ hp1
      have BV : Hid (Below w0.heap.size w0 V) := by rw [← hV.out]; exact Lib.hid (HC.out.bel.alloc HC.out.bel.size _)
      have KV : Hid (V.heap[Bn]? = W.heap[Bn]?) := by
        rw [← hV.out]
        exact Lib.hid ((Below.heap_alloc wo _ Bn (Nat.lt_of_lt_of_le hBl HC.out.size)).trans HC.out.kb)
      have OV : Hid (V.ownsRow W.heap.size 58 2 (.slice (some ⟨g, 0, none⟩) m cap) m (pl S0)) := Lib.hid (by
        have h1 : ((pl S0 ++ pl [((d, ⟨b, o, t, .slice ak ps.length ck⟩) : Px)]).take (m * 2)) = pl S0 := by
          rw [List.take_append_of_le_length (by rw [pl_len, hmS.out]; omega), List.take_of_length_le (by rw [pl_len, hmS.out]; omega)]
        have h2 := OwnPop.out
        rw [h1] at h2
        refine own_same h2 fun g' hg' => ?_
        obtain rfl : g = g' := Option.some.inj hg'
        rw [← hV.out]
        exact Below.heap_alloc wo _ g (Array.getElem?_eq_some_iff.1 hg2).1)
      have hflat : Hid (flat (S0 ++ [((d, ⟨b, o, t, .slice ak ps.length ck⟩) : Px)]).reverse = (d, t) :: (preL (d + 1) t.kids ++ flat S0.reverse)) := Lib.hid (by
        rw [List.reverse_append, flat_app]
        unfold flat
        simp [pre_kids])
      have hpl : pre.length < T.cnt := by
        have h1 := congrArg List.length Hp2.out
        rw [hflat.out, List.length_append, List.length_map, List.length_cons, pre_len] at h1
        omega
      obtain ⟨x, hx⟩ : ∃ x : { x : Px // OkX w0 Bn T kv x }, Hid (x = ⟨(d, ⟨b, o, t, .slice ak ps.length ck⟩), by rw [hLX.out]; exact Hoz.out.1⟩) := ⟨_, Lib.hid rfl⟩
      obtain ⟨fn, tmps, assign, body, hy, hR⟩ := HY.out pre x V hJV hpl
      have hR' := Lib.hid hR
      clear hR
      rw [hx.out] at hy
      dsimp only [encX] at hy
      have e0 := RV.out.cell (j := 0) (v := .int .i64 (d : Nat)) rfl
      have e1 := RV.out.cell (j := 1) (v := .pointer (some ⟨b, o, none⟩)) rfl
      have p1 : (m : Int) < (cap : Int) := by omega
      have p2 : (0 : Int) ≤ (m : Int) := by omega
      have p3 : (m : Int) < (m : Int) + 1 := by omega
      gi_wp2
      rw [hV.out, hy]
      refine ⟨fun _ => hn, ?_⟩
      refine hR'.out.mono ?_
      rintro e W3 ⟨rfl, hJ3, hk3⟩
      have R3 : Hid (RowAt W3 wo.heap.size 58 #[.int .i64 (d : Nat), .pointer (some ⟨b, o, none⟩)]) := Lib.hid (hk3.2.2.2 _ _ RV.out)
      have K3 : Hid (W3.heap[Bn]? = W.heap[Bn]?) := Lib.hid (hk3.2.2.1.trans KV.out)
      have B3 : Hid (Below w0.heap.size w0 W3) := Lib.hid (BV.out.trans hk3.2.1)
      have hVs : V.heap.size = wo.heap.size + 1 := by rw [← hV.out]; simp
      have hs3 : Hid (wo.heap.size + 1 ≤ W3.heap.size) := Lib.hid (by have := hk3.1; omega)
      have O3 : Hid (W3.ownsRow W.heap.size 58 2 (.slice (some ⟨g, 0, none⟩) m cap) m (pl S0)) := Lib.hid (own_same OV.out fun g' hg' => by
        obtain ⟨cs, hcs⟩ := own_type OV.out hg'
        exact (hk3.2.2.2 _ _ hcs).trans hcs.symm)
      have hgl : g < wo.heap.size := (Array.getElem?_eq_some_iff.1 hg2).1
      have hnode : Hid (∀ V : World, Below w0.heap.size w0 V → V.heap[Bn]? = W.heap[Bn]? → V.cell? ⟨b, o + 8, none⟩ = some (.slice ak LX ck)) := Lib.hid (fun V h1 h2 => (OkX.cells Hoz.out.1 h1 (HR.out.same h2)).c8)
      have e0 := R3.out.cell (j := 0) (v := .int .i64 (d : Nat)) rfl
      have e1 := R3.out.cell (j := 1) (v := .pointer (some ⟨b, o, none⟩)) rfl
      have e8 := hnode.out W3 B3.out K3.out
      obtain ⟨N, b1, hN⟩ : ∃ N b1, Hid (LX = 0 ∨ ak = some ⟨N, b1, none⟩) := by
        by_cases h0 : LX = 0
        · exact ⟨0, 0, Lib.hid (.inl h0)⟩
        · obtain ⟨b, off, e, -⟩ := Hr.out 0 _ (List.getElem?_eq_getElem (by rw [hLX.out]; omega))
          exact ⟨b, off, Lib.hid (.inr e)⟩
      have hLn : LX ≤ cntL t.kids := by
        have h1 := cntL_len t.kids
        have h2 : t.kids.length = LX := by rw [← Hps.out, List.length_map, hLX.out]
        omega
      have hcl : cntL t.kids + 1 = t.cnt := (cnt_kids _).symm
      have hc2' := hc2
      unfold maxLen at hc2'
      have hx2 : Hid (prX x = (d, t)) := Lib.hid (by rw [hx.out]; rfl)
      clear hk3 hy hx hR'
      gi_wp2
      gi_loopw [3, 36] (fun u c w4 => ∃ i : Nat, c = .int .i64 i ∧ i ≤ LX ∧ J (pre ++ [x]) w4 ∧ Hid (w4.ownsRow W.heap.size 58 2 u (m + i) (pl S0 ++ pl ((kidX (d + 1) N b1 ps).reverse.take i))) ∧ Hid (∀ j, u.ownBlock = some j → j ≠ wo.heap.size) ∧ Hid (RowAt w4 wo.heap.size 58 #[.int .i64 (d : Nat), .pointer (some ⟨b, o, none⟩)] ∧ w4.heap[Bn]? = W.heap[Bn]? ∧ Below w0.heap.size w0 w4 ∧ W.heap.size ≤ w4.heap.size)) (fun _ c _ => LX - (intOf c).toNat)
      case atStart => exact ⟨0, rfl, by omega, hJ3, Lib.hid (by simpa [pl] using O3.out), Lib.hid (fun j e => by obtain rfl : g = j := Option.some.inj e; omega), Lib.hid ⟨R3.out, K3.out, B3.out, by have := hs3.out; omega⟩⟩
      case round =>
        obtain ⟨i, rfl, hi, hJ4, hO4, hb4, hP4⟩ := hrel
        have hs4 := hP4.out.2.2.2
        clear e0 e1 e8
        have e0 := hP4.out.1.cell (j := 0) (v := .int .i64 (d : Nat)) rfl
        have e1 := hP4.out.1.cell (j := 1) (v := .pointer (some ⟨b, o, none⟩)) rfl
        have e8 := hnode.out wr hP4.out.2.2.1 hP4.out.2.1
        by_cases hlt : i < LX
        · obtain ⟨j, hj⟩ : ∃ j : Nat, j = LX - 1 - i := ⟨_, rfl⟩
          have pj : (LX : Int) - 1 - (i : Int) = (j : Int) := by omega
          have pj1 : (j : Int) < (LX : Int) := by omega
          have pj2 : (0 : Int) ≤ (j : Int) := by omega
          obtain ⟨p, hp⟩ : ∃ p, Hid (ps[j]? = some p) := ⟨_, Lib.hid (List.getElem?_eq_getElem (by rw [hLX.out]; omega))⟩
          obtain rfl : ak = some ⟨N, b1, none⟩ := hN.out.resolve_left (by omega)
          have p0 : (i : Int) < (LX : Int) := by omega
          have pi : (0 : Int) ≤ (i : Int) := by omega
          have hdm : d ≤ 3000000 := by omega
          have hw1 : IntKind.i64.wrap ((d : Int) + 1) = (d : Int) + 1 := by rw [Go.IntWalk.i64_left]; unfold wrap64; omega
          have hw2 : IntKind.i64.wrap ((LX - 1 - i : Nat) : Int) = (j : Int) := by rw [Go.IntWalk.i64_left]; unfold wrap64; omega
          have hq2 : LX - 1 - i < LX := by omega
          obtain ⟨i0, hi0, hz0, hz1, hz2⟩ := info_parts infoPlace
          gi_wp2
          refine wpIn_region_E (S := fun W => W.cell? ⟨wo.heap.size, 0, none⟩ = some (.int .i64 (d : Nat)) ∧ W.cell? ⟨wo.heap.size, 1, none⟩ = some (.pointer (some ⟨b, o, none⟩)) ∧ W.cell? ⟨b, o + 8, none⟩ = some (.slice (some ⟨N, b1, none⟩) LX ck)) (z := 16) (by kernel_rfl) ?_
          have hS : wr.drew.cell? ⟨wo.heap.size, 0, none⟩ = some (.int .i64 (d : Nat)) ∧ wr.drew.cell? ⟨wo.heap.size, 1, none⟩ = some (.pointer (some ⟨b, o, none⟩)) ∧ wr.drew.cell? ⟨b, o + 8, none⟩ = some (.slice (some ⟨N, b1, none⟩) LX ck) := ⟨e0, e1, e8⟩
          refine wpAnyEIn_take (i := 0) (v := ?_) rfl (by kernel_rfl) (by kernel_rfl) (by kernel_rfl) (by kernel_rfl) (by kernel_rfl) (fun _ _ _ h => h) (Or.inl ⟨by rfl, ?_⟩) (fun _ => rfl) hS ?_
          rotate_left
          · intro w hSw
            obtain ⟨x1, x2, x3⟩ := hSw
            go_simp
            try with_reducible rfl
          try simp only [Act.put, List.setIfInBounds_toArray, List.set_cons_zero, List.set_cons_succ]
          refine wpAnyEIn_take (i := 1) (v := ?_) rfl (by kernel_rfl) (by kernel_rfl) (by kernel_rfl) (by kernel_rfl) (by kernel_rfl) (fun _ _ _ h => h) (Or.inl ⟨by rfl, ?_⟩) (fun _ => rfl) hS ?_
          rotate_left
          · intro w hSw
            obtain ⟨x1, x2, x3⟩ := hSw
            go_simp
            try with_reducible rfl
          try simp only [Act.put, List.setIfInBounds_toArray, List.set_cons_zero, List.set_cons_succ]
          refine wpAnyEIn_take (i := 2) (v := ?_) rfl (by kernel_rfl) (by kernel_rfl) (by kernel_rfl) (by kernel_rfl) (by kernel_rfl) (fun _ _ _ h => h) (Or.inl ⟨by rfl, ?_⟩) (fun _ => rfl) hS ?_
          rotate_left
          · intro w hSw
            obtain ⟨x1, x2, x3⟩ := hSw
            go_simp
            try with_reducible rfl
          try simp only [Act.put, List.setIfInBounds_toArray, List.set_cons_zero, List.set_cons_succ]
          refine wpAnyEIn_take (i := 3) (v := ?_) rfl (by kernel_rfl) (by kernel_rfl) (by kernel_rfl) (by kernel_rfl) (by kernel_rfl) (fun _ _ _ h => h) (Or.inl ⟨by rfl, ?_⟩) (fun _ => rfl) hS ?_
          rotate_left
          · intro w hSw
            obtain ⟨x1, x2, x3⟩ := hSw
            go_simp
            try with_reducible rfl
          try simp only [Act.put, List.setIfInBounds_toArray, List.set_cons_zero, List.set_cons_succ]
          refine wpAnyEIn_take (i := 4) (v := ?_) rfl (by kernel_rfl) (by kernel_rfl) (by kernel_rfl) (by kernel_rfl) (by kernel_rfl) (fun _ _ _ h => h) (Or.inl ⟨by rfl, ?_⟩) (fun _ => rfl) hS ?_
          rotate_left
          · intro w hSw
            obtain ⟨x1, x2, x3⟩ := hSw
            go_simp
            try with_reducible rfl
          try simp only [Act.put, List.setIfInBounds_toArray, List.set_cons_zero, List.set_cons_succ]
          refine wpAnyEIn_take (i := 5) (v := ?_) rfl (by kernel_rfl) (by kernel_rfl) (by kernel_rfl) (by kernel_rfl) (by kernel_rfl) (fun _ _ _ h => h) (Or.inl ⟨by rfl, ?_⟩) (fun _ => rfl) hS ?_
          rotate_left
          · intro w hSw
            obtain ⟨x1, x2, x3⟩ := hSw
            go_simp
            try with_reducible rfl
          try simp only [Act.put, List.setIfInBounds_toArray, List.set_cons_zero, List.set_cons_succ]
          refine wpAnyEIn_take (i := 6) (v := ?_) rfl (by kernel_rfl) (by kernel_rfl) (by kernel_rfl) (by kernel_rfl) (by kernel_rfl) (fun _ _ _ h => h) (Or.inl ⟨by rfl, ?_⟩) (fun _ => rfl) hS ?_
          rotate_left
          · intro w hSw
            obtain ⟨x1, x2, x3⟩ := hSw
            go_simp
            try with_reducible rfl
          try simp only [Act.put, List.setIfInBounds_toArray, List.set_cons_zero, List.set_cons_succ]
          refine wpAnyEIn_take (i := 7) (v := ?_) rfl (by kernel_rfl) (by kernel_rfl) (by kernel_rfl) (by kernel_rfl) (by kernel_rfl) (fun _ _ _ h => h) (Or.inl ⟨by rfl, ?_⟩) (fun _ => rfl) hS ?_
          rotate_left
          · intro w hSw
            obtain ⟨x1, x2, x3⟩ := hSw
            go_simp
            try with_reducible rfl
          try simp only [Act.put, List.setIfInBounds_toArray, List.set_cons_zero, List.set_cons_succ]
          refine wpAnyEIn_take (i := 8) (v := ?_) rfl (by kernel_rfl) (by kernel_rfl) (by kernel_rfl) (by kernel_rfl) (by kernel_rfl) (fun _ _ _ h => h) (Or.inl ⟨by rfl, ?_⟩) (fun _ => rfl) hS ?_
          rotate_left
          · intro w hSw
            obtain ⟨x1, x2, x3⟩ := hSw
            go_simp
            try with_reducible rfl
          try simp only [Act.put, List.setIfInBounds_toArray, List.set_cons_zero, List.set_cons_succ]
          refine wpAnyEIn_take (i := 9) (v := ?_) rfl (by kernel_rfl) (by kernel_rfl) (by kernel_rfl) (by kernel_rfl) (by kernel_rfl) (fun _ _ _ h => h) (Or.inl ⟨by rfl, ?_⟩) (fun _ => rfl) hS ?_
          rotate_left
          · intro w hSw
            obtain ⟨x1, x2, x3⟩ := hSw
            go_simp
            try with_reducible rfl
          try simp only [Act.put, List.setIfInBounds_toArray, List.set_cons_zero, List.set_cons_succ]
          refine wpAnyEIn_take (i := 10) (v := ?_) rfl (by kernel_rfl) (by kernel_rfl) (by kernel_rfl) (by kernel_rfl) (by kernel_rfl) (fun _ _ _ h => h) (Or.inl ⟨by rfl, ?_⟩) (fun _ => rfl) hS ?_
          rotate_left
          · intro w hSw
            obtain ⟨x1, x2, x3⟩ := hSw
            go_simp
            try with_reducible rfl
          try simp only [Act.put, List.setIfInBounds_toArray, List.set_cons_zero, List.set_cons_succ]
          refine wpAnyEIn_take (i := 11) (v := ?_) rfl (by kernel_rfl) (by kernel_rfl) (by kernel_rfl) (by kernel_rfl) (by kernel_rfl) (fun _ _ _ h => h) (Or.inl ⟨by rfl, ?_⟩) (fun _ => rfl) hS ?_
          rotate_left
          · intro w hSw
            obtain ⟨x1, x2, x3⟩ := hSw
            go_simp
            try with_reducible rfl
          try simp only [Act.put, List.setIfInBounds_toArray, List.set_cons_zero, List.set_cons_succ]
          refine wpAnyEIn_take (i := 12) (v := ?_) rfl (by kernel_rfl) (by kernel_rfl) (by kernel_rfl) (by kernel_rfl) (by kernel_rfl) (fun _ _ _ h => h) (Or.inl ⟨by rfl, ?_⟩) (fun _ => rfl) hS ?_
          rotate_left
          · intro w hSw
            obtain ⟨x1, x2, x3⟩ := hSw
            go_simp
            try with_reducible rfl
          try simp only [Act.put, List.setIfInBounds_toArray, List.set_cons_zero, List.set_cons_succ]
          refine wpAnyEIn_take (i := 13) (v := ?_) rfl (by kernel_rfl) (by kernel_rfl) (by kernel_rfl) (by kernel_rfl) (by kernel_rfl) (fun _ _ _ h => h) (Or.inl ⟨by rfl, ?_⟩) (fun _ => rfl) hS ?_
          rotate_left
          · intro w hSw
            obtain ⟨x1, x2, x3⟩ := hSw
            go_simp
            try with_reducible rfl
          try simp only [Act.put, List.setIfInBounds_toArray, List.set_cons_zero, List.set_cons_succ]
          have hown := hO4.out
          have hL1 : (wr.alloc (.cells #[.int .i64 ((d : Int) + 1), .pointer (some ⟨N, b1 + (LX - 1 - i) * 9, none⟩)] 58)).heap.size = wr.heap.size + 1 := World.size_alloc _ _
          have A1 := hP4.out.1.alloc (.cells #[.int .i64 ((d : Int) + 1), .pointer (some ⟨N, b1 + (LX - 1 - i) * 9, none⟩)] 58)
          have A2 := hnode.out (wr.alloc (.cells #[.int .i64 ((d : Int) + 1), .pointer (some ⟨N, b1 + (LX - 1 - i) * 9, none⟩)] 58)) (hP4.out.2.2.1.alloc hP4.out.2.2.1.size _) ((Below.heap_alloc wr _ Bn (by omega)).trans hP4.out.2.1)
          refine wpAnyEIn_one (i := 14) (by kernel_rfl) rfl (fun K hK => ?_)
          go_simp
          refine hK.out _ _ (fun _ => ⟨A1.cell (j := 0) (v := .int .i64 (d : Nat)) rfl, A1.cell (j := 1) (v := .pointer (some ⟨b, o, none⟩)) rfl, A2⟩) ?_
          clear hK K
          refine wpAnyEIn_one (i := 15) (by kernel_rfl) rfl (fun K hK => ?_)
          refine stepIn_append_lies _ (by rfl) _ _ _ (by rfl) W.heap.size 58 i0 _ 2 16 Try.underlying59 hi0 hz0 hz1 hz2 rfl (by decide) _ (m + i) _ (by rfl) (hown.alloc _) ⟨wr.heap.size, 0, none⟩ 1 1 [.int .i64 ((d : Int) + 1), .pointer (some ⟨N, b1 + (LX - 1 - i) * 9, none⟩)] (by rfl) rfl (fun j u hj => ?_) ?_ (by omega) (by unfold maxLen; omega) (by omega) (by simp; omega) (wr.heap.size + 1) (by simp) ?_
          · exact World.news_of_block (World.alloc_heap_new wr (.cells #[.int .i64 ((d : Int) + 1), .pointer (some ⟨N, b1 + (LX - 1 - i) * 9, none⟩)] 58)) j u hj
          · intro u hu
            simp at hu
            rcases hu with rfl | rfl <;> rfl
          intro p5 cap' w2 hown' hgrow hor hplt
          obtain ⟨G1, G2, G3⟩ := stack_grown hown hgrow
          have P5 : Hid (RowAt w2 wo.heap.size 58 #[.int .i64 (d : Nat), .pointer (some ⟨b, o, none⟩)] ∧ w2.heap[Bn]? = W.heap[Bn]? ∧ Below w0.heap.size w0 w2 ∧ W.heap.size ≤ w2.heap.size) := Lib.hid (by
            refine ⟨G1 _ _ _ hP4.out.1 (fun e => hb4.out _ e rfl), ?_, hP4.out.2.2.1.trans (G2 _ (by have := HW.out.size; omega) (by have := hP4.out.2.2.1.size; omega)), by omega⟩
            have hB := hP4.out.2.1.trans HR.out
            exact (G1 _ _ _ hB (fun e => by
              obtain ⟨cs, hcs⟩ := own_type hown e
              rw [hB] at hcs; cases hcs)).trans HR.out.symm)
          have J5 : J (pre ++ [x]) w2 := by
            have j1 := HJ.out.alloc (.cells #[.int .i64 ((d : Int) + 1), .pointer (some ⟨N, b1 + (LX - 1 - i) * 9, none⟩)] 58) hJ4
            have j2 : J (pre ++ [x]) (wr.alloc (.cells #[.int .i64 ((d : Int) + 1), .pointer (some ⟨N, b1 + (LX - 1 - i) * 9, none⟩)] 58)).drew := HJ.out _ _ _ none j1 ⟨rfl, rfl, rfl, Nat.le_refl _, fun _ _ _ => rfl⟩ (fun r e => by cases e)
            refine HJ.out _ _ _ _ j2 hgrow fun r e => ⟨(hown.lt r e).1, ?_⟩
            obtain ⟨cs, hcs⟩ := own_type hown e
            exact ⟨_, (Below.heap_alloc wr _ r (Array.getElem?_eq_some_iff.1 hcs).1).trans hcs, .inr ⟨cs, rfl⟩⟩
          have O5 : Hid (w2.ownsRow W.heap.size 58 2 (.slice (some ⟨p5, 0, none⟩) (m + i + 1) cap') (m + (i + 1)) (pl S0 ++ pl ((kidX (d + 1) N b1 ps).reverse.take (i + 1)))) := Lib.hid (by
            rw [rev_take (d := d + 1) (N := N) (b1 := b1) hLX.out hlt (by rw [← hj]; exact hp.out), pl_app, ← List.append_assoc]
            exact hown')
          have b5 : Hid (∀ j, (Value.slice (some ⟨p5, 0, none⟩) (m + i + 1) cap').ownBlock = some j → j ≠ wo.heap.size) := Lib.hid (fun j e => by
            obtain rfl : p5 = j := Option.some.inj e
            rcases hor with h | h
            · exact hb4.out _ h
            · have := hP4.out.1.lt; omega)
          refine hK.out _ _ (fun _ => ⟨P5.out.1.cell (j := 0) (v := .int .i64 (d : Nat)) rfl, P5.out.1.cell (j := 1) (v := .pointer (some ⟨b, o, none⟩)) rfl, hnode.out w2 P5.out.2.2.1 P5.out.2.1⟩) ?_
          clear hK K
          refine wpAnyEIn_one (i := 16) (by kernel_rfl) rfl (fun K hK => ?_)
          go_simp
          refine hK.out _ _ (fun h => absurd rfl h) ?_
          clear hK K
          refine wpAnyEIn_done (by kernel_rfl) ?_ _
          clear hown' hgrow hor hplt G1 G2 G3 hown A1 A2 hL1 hw1 hw2
          gi_wp2
          exact ⟨⟨i + 1, by go_num, by omega, J5, O5, b5, P5⟩, by simp [intOf]; omega⟩
        · obtain rfl : i = LX := by omega
          have hkl : Hid ((kidX (d + 1) N b1 ps).reverse.take i = (kidX (d + 1) N b1 ps).reverse) := Lib.hid (List.take_of_length_le (by rw [List.length_reverse, kidX_len, hLX.out]; exact Nat.le_refl _))
          have hS' : Hid (EInv w0 W Bn T kv prX J (S0 ++ (kidX (d + 1) N b1 ps).reverse) u3 wr) := Lib.hid (by
            have hown := hO4.out
            rw [hkl.out, ← pl_app] at hown
            exact {
              own := by rw [List.length_append, List.length_reverse, kidX_len, hmS.out, hLX.out]; exact hown
              ok := fun y hy => by
                rcases List.mem_append.1 hy with h | h
                · exact Hok.out y (List.mem_append.2 (.inl h))
                · obtain ⟨j, p, h1, rfl⟩ := kidX_mem (List.mem_reverse.1 h)
                  have hj0 : i ≠ 0 := by
                    have := (List.getElem?_eq_some_iff.1 h1).1
                    rw [hLX.out] at this; omega
                  obtain ⟨b', off, e, h2, h3⟩ := Hr.out j p h1
                  rw [hN.out.resolve_left hj0] at e
                  cases e
                  have hh : p.1.ht ≤ htL t.kids := htL_mem (by rw [← Hps.out]; exact List.mem_map_of_mem (List.mem_of_getElem? h1))
                  have hc3 : p.1.cnt ≤ cntL t.kids := cntL_mem (by rw [← Hps.out]; exact List.mem_map_of_mem (List.mem_of_getElem? h1))
                  have hc4 : t.cnt ≤ T.cnt := Hoz.out.1.2
                  exact ⟨⟨.inr ⟨h2, h3⟩, by show p.1.cnt ≤ _; omega⟩, by show d + 1 + p.1.ht ≤ _; omega⟩
              ord := ⟨pre ++ [x], hJ4, by
                rw [← Hp2.out, hflat.out, List.map_append, List.map_singleton, hx2.out, List.reverse_append, List.reverse_reverse, flat_app, flat_kidX, Hps.out]
                simp⟩
              kb := hP4.out.2.1
              bel := hP4.out.2.2.1
              size := hs4
              few := by rw [cntX_app, kidX_cnt, Hps.out]; omega })
          gi_wp2
          refine ⟨⟨_, hS'⟩, ?_⟩
          have h1 := leastC_le (I := fun S => EInv w0 W Bn T kv prX J S u3 wr) (c := cntX) hS'.out
          rw [cntX_app, kidX_cnt, Hps.out] at h1
          rw [← HL.out]
          omega
end Go.Proofs.Ytpnfjiglphogoac
