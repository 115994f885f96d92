/-
  For the laws of node: Same. Condition: at most 2,000,000 nodes.
-/
import Derived.Test.YtpnfjiglphogoacWrp
import Derived.Deep.RegionHeldLaw
import Derived.Deep.AppendLies
namespace Go.Proofs.Ytpnfjiglphogoac
open Go.RowKit Go.Shelf
set_option linter.unusedSimpArgs false
set_option linter.unusedVariables false

/-- The least cost of a row with I. -/
noncomputable def leastC {α : Type} (I : List α → Prop) (c : List α → Nat) : Nat := least fun n => ∃ S, I S ∧ c S = n
theorem leastC_le {α : Type} {I : List α → Prop} {c : List α → Nat} {S : List α} (h : I S) : leastC I c ≤ c S := (least_spec (P := fun n => ∃ S, I S ∧ c S = n) ⟨S, h, rfl⟩).2
theorem leastC_spec {α : Type} {I : List α → Prop} {c : List α → Nat} (h : ∃ S, I S) : ∃ S, I S ∧ c S = leastC I c := by
  obtain ⟨S, h⟩ := h
  exact (least_spec (P := fun n => ∃ S, I S ∧ c S = n) ⟨S, h, rfl⟩).1
theorem infoPair : (Try.prog.info? 54).map (fun i => (i.zero, i.size, i.bytes)) = some (some (.agg #[.pointer none, .pointer none]), 2, 16) := by kernel_rfl
def HoldsR (W : World) (p : Pt) : Prop := Cells W p.b p.off p.t.hd p.kv ∧ KidsAt W p.t.kids p.kv
theorem HoldsR.below {W W' : World} {p : Pt} (h : HoldsR W p) (hb : Below W.heap.size W W') : HoldsR W' p := ⟨h.1.later hb, h.2.below hb⟩
abbrev Pq := Pt × Pt
def pv (S : List Pq) : List Value := S.flatMap fun z => [.pointer (some ⟨z.1.b, z.1.off, none⟩), .pointer (some ⟨z.2.b, z.2.off, none⟩)]
theorem pv_len (S : List Pq) : (pv S).length = S.length * 2 := by
  unfold pv
  induction S with
  | nil => rfl
  | cons x L ih => rw [List.flatMap_cons, List.length_append, ih, List.length_cons]; simp; omega
theorem pv_app (A B : List Pq) : pv (A ++ B) = pv A ++ pv B := by unfold pv; rw [List.flatMap_append]
def cntQ (S : List Pq) : Nat := cntS (S.map (·.1))
theorem cntQ_app (A B : List Pq) : cntQ (A ++ B) = cntQ A + cntQ B := by unfold cntQ; rw [List.map_append, cntS_app]
theorem cntQ_one (z : Pq) : cntQ [z] = z.1.t.cnt := by unfold cntQ; exact cntS_one z.1
theorem cntQ_len (S : List Pq) : S.length ≤ cntQ S := by unfold cntQ; have := cntS_len (S.map (·.1)); simpa using this
structure SInv (W1 : World) (Q : Prop) (S : List Pq) (u : Value) (wr : World) : Prop where
  own : wr.ownsRow W1.heap.size 54 2 u S.length (pv S)
  holds : ∀ z ∈ S, HoldsR W1 z.1 ∧ HoldsR W1 z.2
  below : Below W1.heap.size W1 wr
  rel : Q ↔ ∀ z ∈ S, z.1.t.map plainH = z.2.t.map plainH
  few : cntQ S ≤ 2000000
/-- The kids of two nodes, in pairs. -/
def kidQ (N o1 M o2 : Nat) (ps qs : List Pr) : List Pq := (ps.zip qs).mapIdx fun i z => (⟨N, o1 + i * 9, z.1.1, z.1.2⟩, ⟨M, o2 + i * 9, z.2.1, z.2.2⟩)
theorem kidQ_take {N o1 M o2 : Nat} {ps qs : List Pr} {i : Nat} {p q : Pr} (h : ps[i]? = some p) (k : qs[i]? = some q) : (kidQ N o1 M o2 ps qs).take (i + 1) = (kidQ N o1 M o2 ps qs).take i ++ [(⟨N, o1 + i * 9, p.1, p.2⟩, ⟨M, o2 + i * 9, q.1, q.2⟩)] := by
  rw [List.take_add_one]
  congr 1
  unfold kidQ
  rw [List.getElem?_mapIdx, (List.getElem?_zip_eq_some (z := (p, q))).2 ⟨h, k⟩]
  rfl
theorem kidQ_mem {N o1 M o2 : Nat} {ps qs : List Pr} {z : Pq} (h : z ∈ kidQ N o1 M o2 ps qs) : ∃ (i : Nat) (p q : Pr), ps[i]? = some p ∧ qs[i]? = some q ∧ z = (⟨N, o1 + i * 9, p.1, p.2⟩, ⟨M, o2 + i * 9, q.1, q.2⟩) := by
  obtain ⟨i, hi⟩ := List.getElem?_of_mem h
  unfold kidQ at hi
  rw [List.getElem?_mapIdx] at hi
  cases hz : (ps.zip qs)[i]? with
  | none => rw [hz] at hi; cases hi
  | some y =>
    rw [hz] at hi
    obtain ⟨h1, h2⟩ := List.getElem?_zip_eq_some.1 hz
    exact ⟨i, y.1, y.2, h1, h2, (Option.some.inj hi).symm⟩
theorem kidQ_len {N o1 M o2 : Nat} {ps qs : List Pr} (h : ps.length = qs.length) : (kidQ N o1 M o2 ps qs).length = ps.length := by
  unfold kidQ
  rw [List.length_mapIdx, List.length_zip, h, Nat.min_self]
theorem kidQ_fst {N o1 M o2 : Nat} {ps qs : List Pr} (h : ps.length = qs.length) : cntQ (kidQ N o1 M o2 ps qs) = cntL (ps.map (·.1)) := by
  unfold cntQ cntS
  congr 1
  rw [List.map_map]
  refine List.ext_getElem? fun k => ?_
  rw [List.getElem?_map, List.getElem?_map]
  unfold kidQ
  rw [List.getElem?_mapIdx]
  cases hp : ps[k]? with
  | none => rw [List.getElem?_eq_none (by rw [List.length_zip, ← h, Nat.min_self]; exact List.getElem?_eq_none_iff.1 hp)]; rfl
  | some p =>
    obtain ⟨q, hq⟩ : ∃ q, qs[k]? = some q := ⟨_, List.getElem?_eq_getElem (by have := (List.getElem?_eq_some_iff.1 hp).1; omega)⟩
    rw [(List.getElem?_zip_eq_some (z := (p, q))).2 ⟨hp, hq⟩]
    rfl
theorem pp_new (W : World) (a b : Option Addr) (t : TypeId) : ∀ j u, [Value.pointer a, Value.pointer b][j]? = some u → (W.alloc (.cells #[.pointer a, .pointer b] t)).cell? ((⟨W.heap.size, 0, none⟩ : Addr).add j) = some u := by
  intro j u hj
  rw [add_flat, Nat.zero_add, (RowAt.new W t _).cell (v := u)]
  simpa using hj
theorem pp_one (a b : Option Addr) : ∀ u ∈ [Value.pointer a, Value.pointer b], u.oneCell' = true := by
  intro u hu
  simp at hu
  rcases hu with rfl | rfl <;> rfl
set_option maxRecDepth 100000 in
set_option maxHeartbeats 8000000 in
theorem Same_any (Ta Tb : Nd) (va vb : Value) (w : World) (hm : Ta.cnt ≤ 2000000) (hka : KidsAt w Ta.kids va) (hkb : KidsAt w Tb.kids vb) :
    Calls Try.prog 19 #[.agg #[.int .i64 Ta.hd.kind, .string (bs Ta.hd.text), .string (bs Ta.hd.type), .int .i64 Ta.hd.n, .int .i64 Ta.hd.fr, .int .i64 Ta.hd.to_, .int .i64 Ta.hd.at_, .int .i64 Ta.hd.tat, va], .agg #[.int .i64 Tb.hd.kind, .string (bs Tb.hd.text), .string (bs Tb.hd.type), .int .i64 Tb.hd.n, .int .i64 Tb.hd.fr, .int .i64 Tb.hd.to_, .int .i64 Tb.hd.at_, .int .i64 Tb.hd.tat, vb]] w fun e w' => CmpIs plainH Ta Tb e ∧ Below w.heap.size w w' := by
  have HKA := Lib.hid hka
  have HKB := Lib.hid hkb
  obtain ⟨aa, capa, rfl, -⟩ := hka.get
  obtain ⟨ab, capb, rfl, -⟩ := hkb.get
  clear hka hkb
  obtain ⟨na, hna⟩ : ∃ n, Hid (Ta.kids.length = n) := ⟨_, Lib.hid rfl⟩
  obtain ⟨nb, hnb⟩ : ∃ n, Hid (Tb.kids.length = n) := ⟨_, Lib.hid rfl⟩
  rw [hna.out] at HKA
  rw [hnb.out] at HKB
  rw [hna.out, hnb.out]
  obtain ⟨Q, hQ⟩ : ∃ Q : Prop, Hid ((Ta.map plainH = Tb.map plainH) = Q) := ⟨_, Lib.hid rfl⟩
  show Calls _ _ _ _ fun e w' => CmpQ (Ta.map plainH = Tb.map plainH) e ∧ _
  rw [hQ.out]
  obtain ⟨W1, hW1⟩ : ∃ W1, Hid ((w.alloc (.cells #[.int .i64 Ta.hd.kind, .string (bs Ta.hd.text), .string (bs Ta.hd.type), .int .i64 Ta.hd.n, .int .i64 Ta.hd.fr, .int .i64 Ta.hd.to_, .int .i64 Ta.hd.at_, .int .i64 Ta.hd.tat, .slice aa na capa] 24)).alloc (.cells #[.int .i64 Tb.hd.kind, .string (bs Tb.hd.text), .string (bs Tb.hd.type), .int .i64 Tb.hd.n, .int .i64 Tb.hd.fr, .int .i64 Tb.hd.to_, .int .i64 Tb.hd.at_, .int .i64 Tb.hd.tat, .slice ab nb capb] 24) = W1) := ⟨_, Lib.hid rfl⟩
  have B1 : Hid (Below w.heap.size w W1) := by rw [← hW1.out]; exact Lib.hid (((Below.refl _ w).alloc (Nat.le_refl _) _).alloc (by simp) _)
  have hs1 : W1.heap.size = w.heap.size + 2 := by rw [← hW1.out]; simp
  obtain ⟨W2, hW2⟩ : ∃ W2, Hid (W1.alloc (.cells #[.pointer (some ⟨w.heap.size, 0, none⟩), .pointer (some ⟨w.heap.size + 1, 0, none⟩)] 54) = W2) := ⟨_, Lib.hid rfl⟩
  have hS0 : Hid (SInv W1 Q [(⟨w.heap.size, 0, Ta, .slice aa na capa⟩, ⟨w.heap.size + 1, 0, Tb, .slice ab nb capb⟩)] (.slice (some ⟨w.heap.size + 1 + 1, 0, none⟩) 1 1) W2) := Lib.hid (by
    have R1 : RowAt W1 w.heap.size 24 (Ta.hd.vals (.slice aa na capa)) := by
      rw [← hW1.out]
      exact (RowAt.new w 24 (Ta.hd.vals (.slice aa na capa))).alloc _
    have R2 : RowAt W1 (w.heap.size + 1) 24 (Tb.hd.vals (.slice ab nb capb)) := by
      rw [← hW1.out]
      have := RowAt.new (w.alloc (.cells #[.int .i64 Ta.hd.kind, .string (bs Ta.hd.text), .string (bs Ta.hd.type), .int .i64 Ta.hd.n, .int .i64 Ta.hd.fr, .int .i64 Ta.hd.to_, .int .i64 Ta.hd.at_, .int .i64 Ta.hd.tat, .slice aa na capa] 24)) 24 (Tb.hd.vals (.slice ab nb capb))
      rw [World.size_alloc] at this
      exact this
    have R3 : RowAt W2 (w.heap.size + 2) 54 #[.pointer (some ⟨w.heap.size, 0, none⟩), .pointer (some ⟨w.heap.size + 1, 0, none⟩)] := by
      rw [← hW2.out]
      have := RowAt.new W1 54 #[.pointer (some ⟨w.heap.size, 0, none⟩), .pointer (some ⟨w.heap.size + 1, 0, none⟩)]
      rw [hs1] at this
      exact this
    exact {
      own := ⟨rfl, .inr ⟨w.heap.size + 2, 1, _, rfl, by omega, R3, Nat.le_refl _, by unfold maxLen; omega, rfl, rfl⟩⟩
      holds := fun z hz => by
        obtain rfl := List.mem_singleton.1 hz
        exact ⟨⟨Cells.row R1, HKA.out.below B1.out⟩, ⟨Cells.row R2, HKB.out.below B1.out⟩⟩
      below := by rw [← hW2.out]; exact (Below.refl _ _).alloc (Nat.le_refl _) _
      rel := by
        rw [← hQ.out]
        constructor
        · intro h z hz
          obtain rfl := List.mem_singleton.1 hz
          exact h
        · intro h
          exact h _ (List.mem_singleton.2 rfl)
      few := by rw [cntQ_one]; exact hm })
  clear HKA HKB
  go_enter Try.func19, Try.ntmps19
  go_wp2_with fail
  rw [hW1.out, hW2.out]
  go_loopw [5] (fun u wr => ∃ S, Hid (SInv W1 Q S u wr)) (fun u wr => leastC (fun S => SInv W1 Q S u wr) cntQ)
  case atStart => exact ⟨_, hS0⟩
  case round =>
    obtain ⟨S, hC, hL⟩ := leastC_spec (I := fun S => SInv W1 Q S u5 wr) (c := cntQ) (by obtain ⟨S, h⟩ := hrel; exact ⟨S, h.out⟩)
    have HL := Lib.hid hL
    clear hrel hL
    rcases List.eq_nil_or_concat S with rfl | ⟨S0, z, rfl⟩
    · have HC := Lib.hid hC
      have ho := hC.own
      obtain ⟨ao, m', cap, hu⟩ := own_slice ho
      have hm0 : m' = 0 := by
        rcases ho.2 with ⟨e, -⟩ | ⟨g, cp, cur, e, -⟩
        · rw [hu] at e; cases e; rfl
        · rw [hu] at e; cases e; rfl
      subst hm0
      subst hu
      have hq : Hid Q := Lib.hid (hC.rel.2 (fun z hz => by cases hz))
      clear hC ho
      go_wp2_with fail
      go_ret
      exact ⟨CmpQ.yes rfl hq.out, B1.out.trans (HC.out.below.mono (by omega))⟩
    · obtain ⟨wo, hwo⟩ : ∃ wo, wo = wr := ⟨_, rfl⟩
      subst hwo
      rw [List.concat_eq_append] at hC HL
      have hlen : (S0 ++ [z]).length = S0.length + 1 := by simp
      have ho := hC.own
      rw [pv_app, hlen] at ho
      obtain ⟨m, hmS⟩ : ∃ m, Hid (S0.length = m) := ⟨_, Lib.hid rfl⟩
      rw [hmS.out] at ho
      obtain ⟨g, cap, cur, hu, hg1, hg2, hg3, hg4, hg5, hg6⟩ : ∃ g cap cur, u5 = .slice (some ⟨g, 0, none⟩) (m + 1) cap ∧ W1.heap.size ≤ g ∧ wo.heap[g]? = some (.cells cur 54 (0, 0)) ∧ m + 1 ≤ cap ∧ cap ≤ maxLen ∧ cur.size = cap * 2 ∧ cur.toList.take ((m + 1) * 2) = pv S0 ++ pv [z] := by
        rcases ho.2 with ⟨-, h0⟩ | h
        · omega
        · exact h
      subst hu
      have hcnt : cntQ (S0 ++ [z]) ≤ 2000000 := hC.few
      have hcs2 := cntQ_app S0 [z]
      rw [cntQ_one] at hcs2
      have hsl := cntQ_len S0
      rw [hmS.out] at hsl
      have cgj : ∀ j, j < 2 → wo.cell? ⟨g, m * 2 + j, none⟩ = (pv [z])[j]? := fun j hj => by
        have h1 : (pv S0 ++ pv [z])[m * 2 + j]? = (pv [z])[j]? := by
          rw [List.getElem?_append_right (by rw [pv_len, hmS.out]; omega), pv_len, hmS.out, Nat.add_sub_cancel_left]
        rw [← hg6, List.getElem?_take_of_lt (by omega)] at h1
        simp [World.cell?, hg2]
        simpa using h1
      obtain ⟨⟨bx, ox, tx, kx⟩, ⟨by_, oy, ty, ky⟩⟩ := z
      have cg0 : wo.cell? ⟨g, m * 2, none⟩ = some (.pointer (some ⟨bx, ox, none⟩)) := cgj 0 (by omega)
      have cg1 : wo.cell? ⟨g, m * 2 + 1, none⟩ = some (.pointer (some ⟨by_, oy, none⟩)) := cgj 1 (by omega)
      clear cgj
      have HH := Lib.hid hC.holds
      have hHz := hC.holds _ (List.mem_append.2 (.inr (List.mem_singleton.2 rfl)))
      obtain ⟨ps, ak, ck, hps, hkv, hc1, hc2, hr⟩ := hHz.1.2.rows
      obtain ⟨qs, bk, dk, hqs, hkw, hd1, hd2, hr2⟩ := hHz.2.2.rows
      dsimp only at hps hkv hqs hkw hHz hcs2
      subst hkv hkw
      have hmaxl := hg4
      unfold maxLen at hmaxl
      have OwnPop := Lib.hid (own_pop (m := m) (by omega) ho)
      have HC := Lib.hid hC
      have Hps := Lib.hid hps
      have Hqs := Lib.hid hqs
      have Hr := Lib.hid hr
      have Hr2 := Lib.hid hr2
      have Hz := Lib.hid hHz
      have hg5' := Lib.hid hg5
      have hg6' := Lib.hid hg6
      clear ho hC hps hqs hr hr2 hHz hg5 hg6
      obtain ⟨LX, hLX⟩ : ∃ L, Hid (ps.length = L) := ⟨_, Lib.hid rfl⟩
      obtain ⟨LY, hLY⟩ : ∃ L, Hid (qs.length = L) := ⟨_, Lib.hid rfl⟩
      rw [hLX.out] at hc1 Hz
      rw [hLY.out] at hd1 Hz
      obtain ⟨V, hV⟩ : ∃ V, Hid (wo.alloc (.cells #[.pointer (some ⟨bx, ox, none⟩), .pointer (some ⟨by_, oy, none⟩)] 54) = V) := ⟨_, Lib.hid rfl⟩
      have BV : Hid (Below W1.heap.size W1 V) := by rw [← hV.out]; exact Lib.hid (HC.out.below.alloc HC.out.below.size _)
      have RV : Hid (RowAt V wo.heap.size 54 #[.pointer (some ⟨bx, ox, none⟩), .pointer (some ⟨by_, oy, none⟩)]) := by rw [← hV.out]; exact Lib.hid (RowAt.new wo 54 _)
      have p1 : (m : Int) < (cap : Int) := by omega
      have p2 : (0 : Int) ≤ (m : Int) := by omega
      have p3 : (m : Int) < (m : Int) + 1 := by omega
      have e0 := RV.out.cell (j := 0) (v := .pointer (some ⟨bx, ox, none⟩)) rfl
      have e1 := RV.out.cell (j := 1) (v := .pointer (some ⟨by_, oy, none⟩)) rfl
      have CX : Hid (Cells V bx ox tx.hd (.slice ak LX ck)) := Lib.hid (Hz.out.1.1.later BV.out)
      have CY : Hid (Cells V by_ oy ty.hd (.slice bk LY dk)) := Lib.hid (Hz.out.2.1.later BV.out)
      go_wp2_with fail
      rw [hV.out]
      go_quiet (fail)
      obtain ⟨V2, hV2⟩ : ∃ V2, Hid (V.drewN nq = V2) := ⟨_, Lib.hid rfl⟩
      have BV2 : Hid (Below W1.heap.size W1 V2) := by rw [← hV2.out]; exact Lib.hid (below_draws BV.out nq)
      have RV2 : Hid (RowAt V2 wo.heap.size 54 #[.pointer (some ⟨bx, ox, none⟩), .pointer (some ⟨by_, oy, none⟩)]) := by rw [← hV2.out]; exact RV
      have OV2 : Hid (V2.ownsRow W1.heap.size 54 2 (.slice (some ⟨g, 0, none⟩) m cap) m (pv S0)) := Lib.hid (by
        have h1 : ((pv S0 ++ pv [((⟨bx, ox, tx, .slice ak ps.length ck⟩, ⟨by_, oy, ty, .slice bk qs.length dk⟩) : Pq)]).take (m * 2)) = pv S0 := by
          rw [List.take_append_of_le_length (by rw [pv_len, hmS.out]; omega), List.take_of_length_le (by rw [pv_len, hmS.out]; omega)]
        have h2 := OwnPop.out
        rw [h1] at h2
        refine own_same h2 fun g' hg' => ?_
        obtain rfl : g = g' := Option.some.inj hg'
        rw [← hV2.out, ← hV.out]
        exact Below.heap_alloc wo _ g (Array.getElem?_eq_some_iff.1 hg2).1)
      rw [hV2.out]
      clear e0 e1 CX CY cg0 cg1
      have CX : Hid (Cells V2 bx ox tx.hd (.slice ak LX ck)) := Lib.hid (Hz.out.1.1.later BV2.out)
      have CY : Hid (Cells V2 by_ oy ty.hd (.slice bk LY dk)) := Lib.hid (Hz.out.2.1.later BV2.out)
      have hrel : Hid (Q → tx.map plainH = ty.map plainH) := Lib.hid (fun h => HC.out.rel.1 h _ (List.mem_append.2 (.inr (List.mem_singleton.2 rfl))))
      have hrel2 : Hid ((∀ z ∈ S0, z.1.t.map plainH = z.2.t.map plainH) → tx.map plainH = ty.map plainH → Q) := Lib.hid (fun h1 h2 => HC.out.rel.2 (fun z hz => by
        rcases List.mem_append.1 hz with h | h
        · exact h1 z h
        · obtain rfl := List.mem_singleton.1 h
          exact h2))
      have hrel3 : Hid (Q → ∀ z ∈ S0, z.1.t.map plainH = z.2.t.map plainH) := Lib.hid (fun h z hz => HC.out.rel.1 h z (List.mem_append.2 (.inl hz)))
      have hH0 : Hid (∀ z ∈ S0, HoldsR W1 z.1 ∧ HoldsR W1 z.2) := Lib.hid (fun z hz => HH.out z (List.mem_append.2 (.inl hz)))
      have hH1 : Hid (∀ (k : Nat) (p : Pr), ps[k]? = some p → ∃ b off, ak = some ⟨b, off, none⟩ ∧ HoldsR W1 ⟨b, off + k * 9, p.1, p.2⟩) := Lib.hid (fun k p hk => by
        obtain ⟨b, off, e, h1, h2⟩ := Hr.out k p hk
        exact ⟨b, off, e, h1, h2⟩)
      have hH2 : Hid (∀ (k : Nat) (p : Pr), qs[k]? = some p → ∃ b off, bk = some ⟨b, off, none⟩ ∧ HoldsR W1 ⟨b, off + k * 9, p.1, p.2⟩) := Lib.hid (fun k p hk => by
        obtain ⟨b, off, e, h1, h2⟩ := Hr2.out k p hk
        exact ⟨b, off, e, h1, h2⟩)
      have hml : Hid (mapL plainH tx.kids = mapL plainH ty.kids → LX = LY) := Lib.hid (fun h => by
        have := mapL_len_eq h
        rw [← Hps.out, ← Hqs.out, List.length_map, List.length_map, hLX.out, hLY.out] at this
        exact this)
      have hcl : cntL tx.kids + 1 = tx.cnt := (cnt_kids _).symm
      have HX1 : Hid (Cells W1 bx ox tx.hd (.slice ak LX ck)) := Lib.hid Hz.out.1.1
      have HY1 : Hid (Cells W1 by_ oy ty.hd (.slice bk LY dk)) := Lib.hid Hz.out.2.1
      clear Hr Hr2 HH Hz
      have hsV := BV2.out.size
      obtain ⟨⟨k1, x1, y1, m1, f1, o1, a1, z1⟩, ks⟩ := tx
      obtain ⟨⟨k2, x2, y2, m2, f2, o2, a2, z2⟩, ks2⟩ := ty
      have hD := CX.out
      obtain ⟨d0, d1, d2, d3, d4, d5, d6, d7, d8⟩ := hD
      have hD := CY.out
      obtain ⟨q0, q1, q2, q3, q4, q5, q6, q7, q8⟩ := hD
      dsimp only [Nd.hd, Nd.kids] at d0 d1 d2 d3 d4 d5 d6 d7 d8 q0 q1 q2 q3 q4 q5 q6 q7 q8 hml Hps Hqs hcl
      by_cases c0 : k1 = k2
      rotate_left
      · have g0 : (k1 != k2) = true := by rw [bne_iff_ne]; exact c0
        have hne : Hid (¬ Q) := Lib.hid (fun h => c0 (congrArg Hd.kind (map_eq.1 (hrel.out h)).1))
        go_wp2_with fail
        go_quiet (fail)
        go_wp2_with fail
        go_ret
        exact ⟨CmpQ.no rfl hne.out, B1.out.trans ((below_draws BV2.out _).mono (by omega))⟩
      subst c0
      by_cases c1 : x1 = x2
      rotate_left
      · have g0 : (x1 == x2) = false := by rw [beq_eq_false_iff_ne]; exact c1
        have g1 : (x1 != x2) = true := by rw [bne_iff_ne]; exact c1
        have hne : Hid (¬ Q) := Lib.hid (fun h => c1 (congrArg Hd.text (map_eq.1 (hrel.out h)).1))
        go_wp2_with fail
        go_quiet (fail)
        go_wp2_with fail
        go_ret
        exact ⟨CmpQ.no rfl hne.out, B1.out.trans ((below_draws BV2.out _).mono (by omega))⟩
      subst c1
      by_cases c2 : y1 = y2
      rotate_left
      · have g0 : (y1 == y2) = false := by rw [beq_eq_false_iff_ne]; exact c2
        have g1 : (y1 != y2) = true := by rw [bne_iff_ne]; exact c2
        have hne : Hid (¬ Q) := Lib.hid (fun h => c2 (congrArg Hd.type (map_eq.1 (hrel.out h)).1))
        go_wp2_with fail
        go_quiet (fail)
        go_wp2_with fail
        go_ret
        exact ⟨CmpQ.no rfl hne.out, B1.out.trans ((below_draws BV2.out _).mono (by omega))⟩
      subst c2
      by_cases c3 : m1 = m2
      rotate_left
      · have g0 : (m1 != m2) = true := by rw [bne_iff_ne]; exact c3
        have hne : Hid (¬ Q) := Lib.hid (fun h => c3 (congrArg Hd.n (map_eq.1 (hrel.out h)).1))
        go_wp2_with fail
        go_quiet (fail)
        go_wp2_with fail
        go_ret
        exact ⟨CmpQ.no rfl hne.out, B1.out.trans ((below_draws BV2.out _).mono (by omega))⟩
      subst c3
      have hc1' := hc2
      have hd1' := hd2
      unfold maxLen at hc1' hd1'
      by_cases cl : LX = LY
      rotate_left
      · have g0 : ((LX : Int) != (LY : Int)) = true := by rw [bne_iff_ne]; omega
        have hne : Hid (¬ Q) := Lib.hid (fun h => cl (hml.out (map_eq.1 (hrel.out h)).2))
        go_wp2_with fail
        go_quiet (fail)
        go_wp2_with fail
        go_ret
        exact ⟨CmpQ.no rfl hne.out, B1.out.trans ((below_draws BV2.out _).mono (by omega))⟩
      subst cl
      go_wp2_with fail
      go_quiet (fail)
      obtain ⟨V3, hV3⟩ : ∃ V3, Hid (V2.drewN nq = V3) := ⟨_, Lib.hid rfl⟩
      have BV3 : Hid (Below W1.heap.size W1 V3) := by rw [← hV3.out]; exact Lib.hid (below_draws BV2.out nq)
      have OV3 : Hid (V3.ownsRow W1.heap.size 54 2 (.slice (some ⟨g, 0, none⟩) m cap) m (pv S0)) := by rw [← hV3.out]; exact OV2
      have hD : Cells V3 bx ox ⟨k1, x1, y1, m1, f1, o1, a1, z1⟩ (.slice ak LX ck) := by rw [← hV3.out]; exact CX.out.same fun _ _ => rfl
      have hE : Cells V3 by_ oy ⟨k1, x1, y1, m1, f2, o2, a2, z2⟩ (.slice bk LX dk) := by rw [← hV3.out]; exact CY.out.same fun _ _ => rfl
      have s8 := hD.c8
      rw [hV3.out]
      clear hD hE d0 d1 d2 d3 d4 d5 d6 d7 d8 q0 q1 q2 q3 q4 q5 q6 q7 q8
      obtain ⟨N, b1, hN⟩ : ∃ N b1, Hid (LX = 0 ∨ ak = some ⟨N, b1, none⟩) := by
        by_cases h0 : LX = 0
        · exact ⟨0, 0, Lib.hid (.inl h0)⟩
        · obtain ⟨b, off, e, -⟩ := hH1.out 0 _ (List.getElem?_eq_getElem (by rw [hLX.out]; omega))
          exact ⟨b, off, Lib.hid (.inr e)⟩
      obtain ⟨M, b2, hM⟩ : ∃ N b1, Hid (LX = 0 ∨ bk = some ⟨N, b1, none⟩) := by
        by_cases h0 : LX = 0
        · exact ⟨0, 0, Lib.hid (.inl h0)⟩
        · obtain ⟨b, off, e, -⟩ := hH2.out 0 _ (List.getElem?_eq_getElem (by rw [hLY.out]; omega))
          exact ⟨b, off, Lib.hid (.inr e)⟩
      have hLn : LX ≤ cntL ks := by
        have h1 := cntL_len ks
        have h2 : ks.length = LX := by rw [← Hps.out, List.length_map, hLX.out]
        omega
      have hpq : Hid (ps.length = qs.length) := Lib.hid (hLX.out.trans hLY.out.symm)
      go_wp2_with fail
      go_loopw [5, 90] (fun u c w4 => ∃ i : Nat, c = .int .i64 i ∧ i ≤ LX ∧ Hid (w4.ownsRow W1.heap.size 54 2 u (m + i) (pv S0 ++ pv ((kidQ N b1 M b2 ps qs).take i))) ∧ Hid (Below W1.heap.size W1 w4)) (fun _ c _ => LX - (intOf c).toNat)
      case atStart => exact ⟨0, rfl, by omega, Lib.hid (by simpa [pv] using OV3.out), BV3⟩
      case round =>
        obtain ⟨i, rfl, hi, hO4, hB4⟩ := hrel
        have hs4 := hB4.out.size
        by_cases hlt : i < LX
        · obtain ⟨p, hp⟩ : ∃ p, Hid (ps[i]? = some p) := ⟨_, Lib.hid (List.getElem?_eq_getElem (by rw [hLX.out]; exact hlt))⟩
          obtain ⟨q, hq⟩ : ∃ q, Hid (qs[i]? = some q) := ⟨_, Lib.hid (List.getElem?_eq_getElem (by rw [hLY.out]; exact hlt))⟩
          obtain rfl : ak = some ⟨N, b1, none⟩ := hN.out.resolve_left (by omega)
          obtain rfl : bk = some ⟨M, b2, none⟩ := hM.out.resolve_left (by omega)
          have x8 := (HX1.out.later hB4.out).c8
          have y8 := (HY1.out.later hB4.out).c8
          have p0 : (i : Int) < (LX : Int) := by omega
          have p1 : (0 : Int) ≤ (i : Int) := by omega
          have Hks := Lib.hid (kidQ_take (N := N) (o1 := b1) (M := M) (o2 := b2) hp.out hq.out)
          clear s8
          go_wp2_with fail
          obtain ⟨i0, hi0, hz0, hz1, hz2⟩ := info_parts infoPair
          have hown := hO4.out
          have hB := hB4.out
          go_region_held_law (fun W => W.cell? ⟨bx, ox + 8, none⟩ = some (.slice (some ⟨N, b1, none⟩) LX ck) ∧ W.cell? ⟨by_, oy + 8, none⟩ = some (.slice (some ⟨M, b2, none⟩) LX dk))
            (first | go_keep | exact ⟨(HX1.out.later HB2.out).c8, (HY1.out.later HB2.out).c8⟩)
            ((refine step_append_lies _ (by rfl) _ _ _ (by rfl) W1.heap.size 54 i0 _ 2 16 Try.underlying55 hi0 hz0 hz1 hz2 rfl (by decide) _ (m + i) _ (by rfl) (hown.alloc _) ⟨wr.heap.size, 0, none⟩ 1 1 [.pointer (some ⟨N, b1 + i * 9, none⟩), .pointer (some ⟨M, b2 + i * 9, none⟩)] (by rfl) rfl (fun j u hj => pp_new wr (some ⟨N, b1 + i * 9, none⟩) (some ⟨M, b2 + i * 9, none⟩) 54 j u hj) (pp_one _ _) (by omega) (by unfold maxLen; omega) (by omega) (by simp; omega) (wr.heap.size + 1) (by simp) ?_; intro g5 cap' w2 hown' hgrow _ _; have HB2 : Hid (Below W1.heap.size W1 w2) := by first | exact Lib.hid (Below.grown (hB.alloc hs4 _) hgrow (by simp; omega) (fun k hk => (hown.lt k hk).1)) | exact Lib.hid (Below.grown (below_drew (hB.alloc hs4 _)) hgrow (by simp; omega) (fun k hk => (hown.lt k hk).1)) | exact Lib.hid (Below.grown ((below_drew hB).alloc hs4 _) hgrow (by simp; omega) (fun k hk => (hown.lt k hk).1)) | exact Lib.hid (Below.grown (below_draws (hB.alloc hs4 _) _) hgrow (by simp; omega) (fun k hk => (hown.lt k hk).1)) | exact Lib.hid (Below.grown ((below_draws hB _).alloc hs4 _) hgrow (by simp; omega) (fun k hk => (hown.lt k hk).1)) | (trace_state; fail)))
          have O5 : Hid (w2.ownsRow W1.heap.size 54 2 (.slice (some ⟨g5, 0, none⟩) (m + i + 1) cap') (m + (i + 1)) (pv S0 ++ pv ((kidQ N b1 M b2 ps qs).take (i + 1)))) := Lib.hid (by
            rw [Hks.out, pv_app, ← List.append_assoc]; exact hown')
          clear hown' hgrow hown hB
          go_wp2_with fail
          exact ⟨⟨i + 1, by go_num, by omega, O5, HB2⟩, by simp [intOf]; omega⟩
        · obtain rfl : i = LX := by omega
          have hkl : Hid ((kidQ N b1 M b2 ps qs).take i = kidQ N b1 M b2 ps qs) := Lib.hid (List.take_of_length_le (by rw [kidQ_len hpq.out, hLX.out]; exact Nat.le_refl _))
          have hS' : Hid (SInv W1 Q (S0 ++ kidQ N b1 M b2 ps qs) u5 wr) := Lib.hid (by
            have hown := hO4.out
            rw [hkl.out, ← pv_app] at hown
            exact {
              own := by rw [List.length_append, kidQ_len hpq.out, hmS.out, hLX.out]; exact hown
              holds := fun z hz => by
                rcases List.mem_append.1 hz with h | h
                · exact hH0.out z h
                · obtain ⟨j, p, q, h1, h2, rfl⟩ := kidQ_mem h
                  have hj0 : i ≠ 0 := by
                    have := (List.getElem?_eq_some_iff.1 h1).1
                    rw [hLX.out] at this; omega
                  obtain ⟨b, off, e, h3⟩ := hH1.out j p h1
                  obtain ⟨b', off', e', h4⟩ := hH2.out j q h2
                  rw [hN.out.resolve_left hj0] at e
                  rw [hM.out.resolve_left hj0] at e'
                  cases e
                  cases e'
                  exact ⟨h3, h4⟩
              below := hB4.out
              rel := by
                have hkids : (∀ z ∈ kidQ N b1 M b2 ps qs, z.1.t.map plainH = z.2.t.map plainH) ↔ mapL plainH ks = mapL plainH ks2 := by
                  rw [mapL_get (by rw [← Hps.out, ← Hqs.out, List.length_map, List.length_map]; exact hpq.out)]
                  constructor
                  · intro h k x y hx hy
                    rw [← Hps.out, List.getElem?_map] at hx
                    rw [← Hqs.out, List.getElem?_map] at hy
                    cases h1 : ps[k]? with
                    | none => rw [h1] at hx; cases hx
                    | some p =>
                      cases h2 : qs[k]? with
                      | none => rw [h2] at hy; cases hy
                      | some q =>
                        rw [h1] at hx; rw [h2] at hy
                        cases hx; cases hy
                        have hmem : ((⟨N, b1 + k * 9, p.1, p.2⟩, ⟨M, b2 + k * 9, q.1, q.2⟩) : Pq) ∈ kidQ N b1 M b2 ps qs := by
                          have := kidQ_take (N := N) (o1 := b1) (M := M) (o2 := b2) h1 h2
                          exact List.mem_of_mem_take (i := k + 1) (by rw [this]; simp)
                        exact h _ hmem
                  · intro h z hz
                    obtain ⟨j, p, q, h1, h2, rfl⟩ := kidQ_mem hz
                    exact h j p.1 q.1 (by rw [← Hps.out, List.getElem?_map, h1]; rfl) (by rw [← Hqs.out, List.getElem?_map, h2]; rfl)
                constructor
                · intro h z hz
                  rcases List.mem_append.1 hz with h1 | h1
                  · exact hrel3.out h z h1
                  · exact hkids.2 (map_eq.1 (hrel.out h)).2 z h1
                · intro h
                  refine hrel2.out (fun z hz => h z (List.mem_append.2 (.inl hz))) (map_eq.2 ⟨rfl, hkids.1 fun z hz => h z (List.mem_append.2 (.inr hz))⟩)
              few := by rw [cntQ_app, kidQ_fst hpq.out, Hps.out]; omega })
          go_wp2_with fail
          refine ⟨⟨_, hS'⟩, ?_⟩
          have h1 := leastC_le (I := fun S => SInv W1 Q S u5 wr) (c := cntQ) hS'.out
          rw [cntQ_app, kidQ_fst hpq.out, Hps.out] at h1
          rw [← HL.out]
          omega
end Go.Proofs.Ytpnfjiglphogoac
