/-
  For the laws of node: the reference's Get. Condition: ways of at most 2,000,000 steps.
-/
import Derived.Test.YtpnfjiglphogoabGet
namespace Go.Proofs.Ytpnfjiglphogoab
open Go.RowKit Go.Shelf
set_option linter.unusedSimpArgs false
set_option linter.unusedVariables false

/-- Between two steps of the reference's Get. -/
structure GtS (w : World) (t : Nd) (way : List Int) (k : Nat) (x : Nd) (kv : Value) (wr : World) : Prop where
  box : RowAt wr w.heap.size 24 (x.hd.vals kv)
  res : RowAt wr (w.heap.size + 1) 24 #[.int .i64 0, .string ⟨#[]⟩, .string ⟨#[]⟩, .int .i64 0, .int .i64 0, .int .i64 0, .int .i64 0, .int .i64 0, .slice none 0 0]
  kids : KidsAt w x.kids kv
  way : getN t way = getN x (way.drop k)
  below : Below w.heap.size w wr
  size : w.heap.size + 2 ≤ wr.heap.size
set_option maxRecDepth 100000 in
set_option maxHeartbeats 8000000 in
theorem RefGet_any (t : Nd) (kv : Value) (way : List Int) (vw : Value) (w : World) (hk : KidsAt w t.kids kv) (hw : SlI w vw way) (hl : way.length ≤ 2000000) :
    Calls Try.prog 25 #[.agg #[.int .i64 t.hd.kind, .string (bs t.hd.text), .string (bs t.hd.type), .int .i64 t.hd.n, .int .i64 t.hd.fr, .int .i64 t.hd.to_, .int .i64 t.hd.at_, .int .i64 t.hd.tat, kv], vw] w fun e w' => GetIs t way e w' ∧ Below w.heap.size w w' := by
  have HK := Lib.hid hk
  obtain ⟨a0, cap0, rfl, -⟩ := hk.get
  obtain ⟨aw, capw, rfl, hc1, hc2, hx⟩ := hw
  have Hx := Lib.hid hx
  clear hk hx
  obtain ⟨n, hn⟩ : ∃ n, Hid (t.kids.length = n) := ⟨_, Lib.hid rfl⟩
  obtain ⟨L, hL⟩ : ∃ n, Hid (way.length = n) := ⟨_, Lib.hid rfl⟩
  rw [hn.out] at HK
  rw [hL.out] at hc1 hl
  rw [hn.out, hL.out]
  have hc2' := hc2
  unfold maxLen at hc2'
  obtain ⟨W1, hW1⟩ : ∃ W1, Hid ((w.alloc (.cells #[.int .i64 t.hd.kind, .string (bs t.hd.text), .string (bs t.hd.type), .int .i64 t.hd.n, .int .i64 t.hd.fr, .int .i64 t.hd.to_, .int .i64 t.hd.at_, .int .i64 t.hd.tat, .slice a0 n cap0] 24)).alloc (.cells #[.int .i64 0, .string ⟨#[]⟩, .string ⟨#[]⟩, .int .i64 0, .int .i64 0, .int .i64 0, .int .i64 0, .int .i64 0, .slice none 0 0] 24) = W1) := ⟨_, Lib.hid rfl⟩
  have B1 : Hid (Below w.heap.size w W1) := by rw [← hW1.out]; exact Lib.hid (((Below.refl _ w).alloc (Nat.le_refl _) _).alloc (by simp) _)
  have hs1 : W1.heap.size = w.heap.size + 2 := by rw [← hW1.out]; simp
  have R0 : Hid (RowAt W1 w.heap.size 24 (t.hd.vals (.slice a0 n cap0))) := by
    rw [← hW1.out]; exact Lib.hid ((RowAt.new w 24 (t.hd.vals (.slice a0 n cap0))).alloc _)
  have R1 : Hid (RowAt W1 (w.heap.size + 1) 24 #[.int .i64 0, .string ⟨#[]⟩, .string ⟨#[]⟩, .int .i64 0, .int .i64 0, .int .i64 0, .int .i64 0, .int .i64 0, .slice none 0 0]) := by
    rw [← hW1.out]
    have := RowAt.new (w.alloc (.cells #[.int .i64 t.hd.kind, .string (bs t.hd.text), .string (bs t.hd.type), .int .i64 t.hd.n, .int .i64 t.hd.fr, .int .i64 t.hd.to_, .int .i64 t.hd.at_, .int .i64 t.hd.tat, .slice a0 n cap0] 24)) 24 #[.int .i64 0, .string ⟨#[]⟩, .string ⟨#[]⟩, .int .i64 0, .int .i64 0, .int .i64 0, .int .i64 0, .int .i64 0, .slice none 0 0]
    rw [World.size_alloc] at this
    exact Lib.hid this
  obtain ⟨G, hG⟩ : ∃ G : Ending → World → Prop, Hid (GetIs t way = G) := ⟨_, Lib.hid rfl⟩
  rw [hG.out]
  go_enter Try.func25, Try.ntmps25
  go_wp2_with fail
  rw [hW1.out]
  go_loopw [6] (fun c wr => ∃ (k : Nat) (x : Nd) (kv' : Value), c = .int .i64 k ∧ k ≤ L ∧ Hid (GtS w t way k x kv' wr)) (fun c _ => L - (intOf c).toNat)
  case atStart => exact ⟨0, t, _, rfl, by omega, Lib.hid ⟨R0.out, R1.out, HK.out, rfl, B1.out, by omega⟩⟩
  case round =>
    obtain ⟨k, x, kv', rfl, hk, hS⟩ := hrel
    obtain ⟨ak, ck, rfl, hc, hck, hkx⟩ := hS.out.kids.get
    have Hkx := Lib.hid hkx
    clear hkx
    obtain ⟨M, hM⟩ : ∃ M, Hid (x.kids.length = M) := ⟨_, Lib.hid rfl⟩
    rw [hM.out] at hS hc
    have hck' := hck
    unfold maxLen at hck'
    obtain ⟨r0, r1, r2, r3, r4, r5, r6, r7, r8⟩ := (show Cells wr (w.heap.size + 1) 0 ⟨0, [], [], 0, 0, 0, 0, 0⟩ (.slice none 0 0) from Cells.row hS.out.res)
    simp only [Nat.zero_add] at r1 r2 r3 r4 r5 r6 r7 r8
    have z0 := hS.out.res.frozen 0
    have z1 := hS.out.res.frozen 1
    have z2 := hS.out.res.frozen 2
    have z3 := hS.out.res.frozen 3
    have z4 := hS.out.res.frozen 4
    have z5 := hS.out.res.frozen 5
    have z6 := hS.out.res.frozen 6
    have z7 := hS.out.res.frozen 7
    have z8 := hS.out.res.frozen 8
    obtain ⟨d0, d1, d2, d3, d4, d5, d6, d7, d8⟩ := Cells.row hS.out.box
    simp only [Nat.zero_add] at d1 d2 d3 d4 d5 d6 d7 d8
    have y0 := hS.out.box.frozen 0
    have y1 := hS.out.box.frozen 1
    have y2 := hS.out.box.frozen 2
    have y3 := hS.out.box.frozen 3
    have y4 := hS.out.box.frozen 4
    have y5 := hS.out.box.frozen 5
    have y6 := hS.out.box.frozen 6
    have y7 := hS.out.box.frozen 7
    have y8 := hS.out.box.frozen 8
    have hws := hS.out.size
    by_cases hlt : k < L
    · obtain ⟨i, hi⟩ : ∃ i, Hid (way[k]? = some i) := ⟨_, Lib.hid (List.getElem?_eq_getElem (by rw [hL.out]; exact hlt))⟩
      obtain ⟨bw, ow, rfl, cw0⟩ := Hx.out k i hi.out
      have cw : wr.cell? ⟨bw, ow + k, none⟩ = some (.int .i64 i) := (hS.out.below.cell (p := ⟨bw, ow + k, none⟩) (World.block_lt_of_cell? w _ cw0)).trans cw0
      clear cw0
      have hdr : Hid (way.drop k = i :: way.drop (k + 1)) := Lib.hid (by
        have h := hi.out
        obtain ⟨h1, h2⟩ := List.getElem?_eq_some_iff.1 h
        rw [List.drop_eq_getElem_cons h1, h2])
      have p0 : (k : Int) < (L : Int) := by omega
      have p1 : (0 : Int) ≤ (k : Int) := by omega
      by_cases hin : 0 ≤ i ∧ i < (M : Int)
      · obtain ⟨j, rfl⟩ := Int.eq_ofNat_of_zero_le hin.1
        have hjM : j < M := by omega
        obtain ⟨y, hy⟩ : ∃ y, Hid (x.kids[j]? = some y) := ⟨_, Lib.hid (List.getElem?_eq_getElem (by rw [hM.out]; exact hjM))⟩
        obtain ⟨bk, ok, kvy, rfl, cs, hky⟩ := Hkx.out j y hy.out
        obtain ⟨ay, cy, rfl, -⟩ := hky.get
        obtain ⟨yl, hyl⟩ : ∃ yl, Hid (y.kids.length = yl) := ⟨_, Lib.hid rfl⟩
        rw [hyl.out] at cs hky
        have HKy := Lib.hid hky
        obtain ⟨e0, e1, e2, e3, e4, e5, e6, e7, e8⟩ := cs.later hS.out.below
        have f1 : decide ((j : Int) < 0) = false := decide_eq_false (by omega)
        have f2 : decide ((M : Int) ≤ (j : Int)) = false := decide_eq_false (by omega)
        have f3 : (j : Int) < (M : Int) := by omega
        have f4 : (0 : Int) ≤ (j : Int) := by omega
        have hG2 : Hid (getN t way = getN y (way.drop (k + 1))) := Lib.hid (by rw [hS.out.way, hdr.out, getN_yes hy.out])
        clear cs hky hin
        go_wp2_with fail
        go_quiet (fail)
        go_wp2_with fail
        go_region
        go_wp2_with fail
        obtain ⟨RN, UN⟩ := nine (show RowAt (wr.drewN (nq + 1)) w.heap.size 24 _ from hS.out.box) y.hd (.slice ay yl cy)
        have hus := UN.size
        have hds : (wr.drewN (nq + 1)).heap.size = wr.heap.size := rfl
        refine ⟨⟨k + 1, y, .slice ay yl cy, by go_num, by omega, Lib.hid ⟨RN, (UN.other _ (by omega)).trans hS.out.res, HKy.out, hG2.out, (below_draws hS.out.below _).trans (UN.below _ (Nat.le_refl _)), by omega⟩⟩, by simp [intOf]; omega⟩
      · have Hfin : Hid (∀ V, G (.returned (.tuple #[nilH.agg (.slice none 0 0), .bool false])) V) := Lib.hid (fun V => by
          rw [← hG.out]
          exact .inl ⟨by rw [hS.out.way, hdr.out]; exact getN_no (by rw [hM.out]; exact hin), rfl⟩)
        have NN := Lib.hid (fun q => nine (show RowAt (wr.drewN q) (w.heap.size + 1) 24 _ from hS.out.res) nilH (.slice none 0 0))
        have Bq := Lib.hid (fun q => below_draws hS.out.below q)
        by_cases hneg : i < 0
        · have f1 : decide (i < 0) = true := decide_eq_true hneg
          clear hin hneg
          go_wp2_with fail
          go_quiet (fail)
          go_wp2_with fail
          refine bodyPost_ret (results_cell_row_tmp (P := Try.prog) rfl _ _ (w.heap.size + 1) 24 (nilH.vals (.slice none 0 0)) (0, 0) _ rfl (NN.out _).1 Try.underlying24 rfl rfl) rfl ?_
          exact ⟨Hfin.out _, (Bq.out _).trans ((NN.out _).2.below _ (by omega))⟩
        · have f1 : decide (i < 0) = false := decide_eq_false hneg
          have f2 : decide ((M : Int) ≤ i) = true := decide_eq_true (by omega)
          clear hin hneg
          go_wp2_with fail
          go_quiet (fail)
          go_wp2_with fail
          refine bodyPost_ret (results_cell_row_tmp (P := Try.prog) rfl _ _ (w.heap.size + 1) 24 (nilH.vals (.slice none 0 0)) (0, 0) _ rfl (NN.out _).1 Try.underlying24 rfl rfl) rfl ?_
          exact ⟨Hfin.out _, (Bq.out _).trans ((NN.out _).2.below _ (by omega))⟩
    · obtain rfl : k = L := by omega
      have NN := Lib.hid (nine hS.out.res x.hd (.slice ak M ck))
      have Hfin : Hid (∀ V, Below w.heap.size w V → G (.returned (.tuple #[x.hd.agg (.slice ak M ck), .bool true])) V) := Lib.hid (fun V hV => by
        rw [← hG.out]
        refine .inr ⟨x, _, ?_, rfl, ?_⟩
        · rw [hS.out.way, List.drop_of_length_le (by rw [hL.out]; exact Nat.le_refl _), getN]
        · have := hS.out.kids
          exact this.below hV)
      have hB2 := Lib.hid (hS.out.below.trans (NN.out.2.below w.heap.size (by omega)))
      go_wp2_with fail
      refine bodyPost_ret (results_cell_row_tmp (P := Try.prog) rfl _ _ (w.heap.size + 1) 24 (x.hd.vals (.slice ak M ck)) (0, 0) _ rfl NN.out.1 Try.underlying24 rfl rfl) rfl ?_
      exact ⟨Hfin.out _ hB2.out, hB2.out⟩
end Go.Proofs.Ytpnfjiglphogoab
