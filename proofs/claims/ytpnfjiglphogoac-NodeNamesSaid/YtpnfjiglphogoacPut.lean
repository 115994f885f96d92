/-
  For the laws of node: Put. Conditions: at most 2,000,000 nodes in each; ways of at most 2,000,000 steps.
-/
import Derived.Test.YtpnfjiglphogoacPua
import Derived.Deep.Cut
import Derived.Test.YtpnfjiglphogoacGet
namespace Go.Proofs.Ytpnfjiglphogoac
open Go.RowKit Go.Shelf
set_option linter.unusedSimpArgs false
set_option linter.unusedVariables false

/-- What Put answers. -/
def PutIs (t : Nd) (way : List Int) (x : Nd) (e : Ending) (w' : World) : Prop :=
  (getN t way = none ∧ e = .returned (.tuple #[nilH.agg (.slice none 0 0), .bool false])) ∨ (getN t way ≠ none ∧ ∃ kv, e = .returned (.tuple #[(putN t way x).hd.agg kv, .bool true]) ∧ KidsAt w' (putN t way x).kids kv)
set_option maxRecDepth 100000 in
set_option maxHeartbeats 8000000 in
theorem Put_any (t x : Nd) (kv kvx : Value) (way : List Int) (vw : Value) (w : World) (hm : t.cnt ≤ 2000000) (hmx : x.cnt ≤ 2000000) (hk : KidsAt w t.kids kv) (hkx : KidsAt w x.kids kvx) (hw : SlI w vw way) (hl : way.length ≤ 2000000) :
    Calls Try.prog 9 #[.agg #[.int .i64 t.hd.kind, .string (bs t.hd.text), .string (bs t.hd.type), .int .i64 t.hd.n, .int .i64 t.hd.fr, .int .i64 t.hd.to_, .int .i64 t.hd.at_, .int .i64 t.hd.tat, kv], vw, .agg #[.int .i64 x.hd.kind, .string (bs x.hd.text), .string (bs x.hd.type), .int .i64 x.hd.n, .int .i64 x.hd.fr, .int .i64 x.hd.to_, .int .i64 x.hd.at_, .int .i64 x.hd.tat, kvx]] w fun e w' => PutIs t way x e w' ∧ Below w.heap.size w w' := by
  have HK := Lib.hid hk
  have HX := Lib.hid hkx
  have HW := Lib.hid hw
  obtain ⟨a0, cap0, rfl, -⟩ := hk.get
  obtain ⟨a1, cap1, rfl, -⟩ := hkx.get
  obtain ⟨aw, capw, rfl, -⟩ := hw
  clear hk hkx
  obtain ⟨n, hn⟩ : ∃ n, Hid (t.kids.length = n) := ⟨_, Lib.hid rfl⟩
  obtain ⟨nx, hnx⟩ : ∃ n, Hid (x.kids.length = n) := ⟨_, Lib.hid rfl⟩
  obtain ⟨L, hL⟩ : ∃ n, Hid (way.length = n) := ⟨_, Lib.hid rfl⟩
  rw [hn.out] at HK
  rw [hnx.out] at HX
  rw [hL.out] at HW
  rw [hn.out, hL.out, hnx.out]
  obtain ⟨W1, hW1⟩ : ∃ W1, Hid (((w.alloc (.cells #[.int .i64 t.hd.kind, .string (bs t.hd.text), .string (bs t.hd.type), .int .i64 t.hd.n, .int .i64 t.hd.fr, .int .i64 t.hd.to_, .int .i64 t.hd.at_, .int .i64 t.hd.tat, .slice a0 n cap0] 24)).alloc (.cells #[.int .i64 x.hd.kind, .string (bs x.hd.text), .string (bs x.hd.type), .int .i64 x.hd.n, .int .i64 x.hd.fr, .int .i64 x.hd.to_, .int .i64 x.hd.at_, .int .i64 x.hd.tat, .slice a1 nx cap1] 24)).alloc (.cells #[.int .i64 0, .string ⟨#[]⟩, .string ⟨#[]⟩, .int .i64 0, .int .i64 0, .int .i64 0, .int .i64 0, .int .i64 0, .slice none 0 0] 24) = W1) := ⟨_, Lib.hid rfl⟩
  have B1 : Hid (Below w.heap.size w W1) := by rw [← hW1.out]; exact Lib.hid ((((Below.refl _ w).alloc (Nat.le_refl _) _).alloc (by simp) _).alloc (by simp; omega) _)
  have hs1 : W1.heap.size = w.heap.size + 3 := by rw [← hW1.out]; simp
  have R0 : Hid (RowAt W1 w.heap.size 24 #[.int .i64 t.hd.kind, .string (bs t.hd.text), .string (bs t.hd.type), .int .i64 t.hd.n, .int .i64 t.hd.fr, .int .i64 t.hd.to_, .int .i64 t.hd.at_, .int .i64 t.hd.tat, .slice a0 n cap0]) := by
    rw [← hW1.out]; exact Lib.hid (((RowAt.new w 24 #[.int .i64 t.hd.kind, .string (bs t.hd.text), .string (bs t.hd.type), .int .i64 t.hd.n, .int .i64 t.hd.fr, .int .i64 t.hd.to_, .int .i64 t.hd.at_, .int .i64 t.hd.tat, .slice a0 n cap0]).alloc _).alloc _)
  have R1 : Hid (RowAt W1 (w.heap.size + 1) 24 #[.int .i64 x.hd.kind, .string (bs x.hd.text), .string (bs x.hd.type), .int .i64 x.hd.n, .int .i64 x.hd.fr, .int .i64 x.hd.to_, .int .i64 x.hd.at_, .int .i64 x.hd.tat, .slice a1 nx cap1]) := by
    rw [← hW1.out]
    have := (RowAt.new (w.alloc (.cells #[.int .i64 t.hd.kind, .string (bs t.hd.text), .string (bs t.hd.type), .int .i64 t.hd.n, .int .i64 t.hd.fr, .int .i64 t.hd.to_, .int .i64 t.hd.at_, .int .i64 t.hd.tat, .slice a0 n cap0] 24)) 24 #[.int .i64 x.hd.kind, .string (bs x.hd.text), .string (bs x.hd.type), .int .i64 x.hd.n, .int .i64 x.hd.fr, .int .i64 x.hd.to_, .int .i64 x.hd.at_, .int .i64 x.hd.tat, .slice a1 nx cap1]).alloc (.cells #[.int .i64 0, .string ⟨#[]⟩, .string ⟨#[]⟩, .int .i64 0, .int .i64 0, .int .i64 0, .int .i64 0, .int .i64 0, .slice none 0 0] 24)
    rw [World.size_alloc] at this
    exact Lib.hid this
  have R2 : Hid (RowAt W1 (w.heap.size + 2) 24 #[.int .i64 0, .string ⟨#[]⟩, .string ⟨#[]⟩, .int .i64 0, .int .i64 0, .int .i64 0, .int .i64 0, .int .i64 0, .slice none 0 0]) := by
    rw [← hW1.out]
    have := RowAt.new ((w.alloc (.cells #[.int .i64 t.hd.kind, .string (bs t.hd.text), .string (bs t.hd.type), .int .i64 t.hd.n, .int .i64 t.hd.fr, .int .i64 t.hd.to_, .int .i64 t.hd.at_, .int .i64 t.hd.tat, .slice a0 n cap0] 24)).alloc (.cells #[.int .i64 x.hd.kind, .string (bs x.hd.text), .string (bs x.hd.type), .int .i64 x.hd.n, .int .i64 x.hd.fr, .int .i64 x.hd.to_, .int .i64 x.hd.at_, .int .i64 x.hd.tat, .slice a1 nx cap1] 24)) 24 #[.int .i64 0, .string ⟨#[]⟩, .string ⟨#[]⟩, .int .i64 0, .int .i64 0, .int .i64 0, .int .i64 0, .int .i64 0, .slice none 0 0]
    rw [World.size_alloc, World.size_alloc] at this
    exact Lib.hid this
  obtain ⟨d0, d1, d2, d3, d4, d5, d6, d7, d8⟩ := (show Cells W1 w.heap.size 0 t.hd (.slice a0 n cap0) from Cells.row R0.out)
  simp only [Nat.zero_add] at d1 d2 d3 d4 d5 d6 d7 d8
  have Copy := Lib.hid (copied_any t (.slice a0 n cap0) W1 hm (HK.out.below B1.out))
  obtain ⟨G, hG⟩ : ∃ G : Ending → World → Prop, Hid (PutIs t way x = G) := ⟨_, Lib.hid rfl⟩
  rw [hG.out]
  go_enter Try.func9, Try.ntmps9
  go_wp2_with fail
  rw [hW1.out]
  go_wp2_with fail
  refine Copy.out.mono ?_
  rintro e w2 ⟨kv2, F, rfl, hsep, hnd, hF, hb2⟩
  rw [mapL_id] at hsep
  obtain ⟨a2, c2, rfl, -⟩ := hsep.kids.get
  rw [hn.out] at hsep
  rw [hn.out]
  simp only [id]
  have HSep := Lib.hid hsep
  have HF := Lib.hid hF
  have Hnd := Lib.hid hnd
  have B2 := Lib.hid hb2
  have hs2 := hb2.size
  have S0 := Lib.hid (R0.out.later hb2)
  have S1 := Lib.hid (R1.out.later hb2)
  have S2 := Lib.hid (R2.out.later hb2)
  have NN := Lib.hid (nine S0.out t.hd (.slice a2 n c2))
  clear hsep hnd hF hb2 d0 d1 d2 d3 d4 d5 d6 d7 d8
  obtain ⟨r0, r1, r2, r3, r4, r5, r6, r7, r8⟩ := (show Cells w2 w.heap.size 0 t.hd (.slice a0 n cap0) from Cells.row S0.out)
  simp only [Nat.zero_add] at r1 r2 r3 r4 r5 r6 r7 r8
  have z0 := S0.out.frozen 0
  have z1 := S0.out.frozen 1
  have z2 := S0.out.frozen 2
  have z3 := S0.out.frozen 3
  have z4 := S0.out.frozen 4
  have z5 := S0.out.frozen 5
  have z6 := S0.out.frozen 6
  have z7 := S0.out.frozen 7
  have z8 := S0.out.frozen 8
  obtain ⟨W3, hW3⟩ : ∃ W3, Hid ((((((((((w2.setCell ⟨w.heap.size, 0, none⟩ (.int .i64 t.hd.kind)).setCell ⟨w.heap.size, 1, none⟩ (.string (bs t.hd.text))).setCell ⟨w.heap.size, 2, none⟩ (.string (bs t.hd.type))).setCell ⟨w.heap.size, 3, none⟩ (.int .i64 t.hd.n)).setCell ⟨w.heap.size, 4, none⟩ (.int .i64 t.hd.fr)).setCell ⟨w.heap.size, 5, none⟩ (.int .i64 t.hd.to_)).setCell ⟨w.heap.size, 6, none⟩ (.int .i64 t.hd.at_)).setCell ⟨w.heap.size, 7, none⟩ (.int .i64 t.hd.tat)).setCell ⟨w.heap.size, 8, none⟩ (.slice a2 n c2)) = W3) := ⟨_, Lib.hid rfl⟩
  rw [hW3.out] at NN
  have T0 := NN.out.1
  have U3 := Lib.hid NN.out.2
  have T1 : Hid (RowAt W3 (w.heap.size + 1) 24 #[.int .i64 x.hd.kind, .string (bs x.hd.text), .string (bs x.hd.type), .int .i64 x.hd.n, .int .i64 x.hd.fr, .int .i64 x.hd.to_, .int .i64 x.hd.at_, .int .i64 x.hd.tat, .slice a1 nx cap1]) := Lib.hid ((U3.out.other _ (by omega)).trans S1.out)
  have T2 : Hid (RowAt W3 (w.heap.size + 2) 24 #[.int .i64 0, .string ⟨#[]⟩, .string ⟨#[]⟩, .int .i64 0, .int .i64 0, .int .i64 0, .int .i64 0, .int .i64 0, .slice none 0 0]) := Lib.hid ((U3.out.other _ (by omega)).trans S2.out)
  have B3 : Hid (Below w.heap.size w W3) := Lib.hid (B1.out.trans ((B2.out.mono (by omega)).trans (U3.out.below _ (Nat.le_refl _))))
  have hs3 : W3.heap.size = w2.heap.size := U3.out.size
  have Sep3 : Hid (SepAt W3 t.kids (.slice a2 n c2) F) := Lib.hid (HSep.out.keep fun q hq => U3.out.other q (by have := HF.out q hq; omega))
  have HT0 := Lib.hid T0
  have Fol := Lib.hid (follow_any w.heap.size 0 t (.slice a2 n c2) way (.slice aw L capw) W3 (Cells.row T0) Sep3.out.kids (HW.out.below B3.out) hl)
  clear T0
  go_wp2_with fail
  rw [hW3.out]
  clear r0 r1 r2 r3 r4 r5 r6 r7 r8 z0 z1 z2 z3 z4 z5 z6 z7 z8
  refine Fol.out.mono ?_
  rintro e w4 ⟨hfo, rfl⟩
  rcases hfo with ⟨hno, rfl⟩ | ⟨b', o', y, kv', hx, hP, rfl⟩
  · have he : ∀ W : World, (binOp .eql 45 (.pointer none) (.pointer none)).run Try.prog W = .ok (.bool true) W := fun W => by simp [go_sem]
    have Hfin : Hid (∀ V, G (.returned (.tuple #[nilH.agg (.slice none 0 0), .bool false])) V) := Lib.hid (fun V => by rw [← hG.out]; exact .inl ⟨hno, rfl⟩)
    have NN2 := Lib.hid (nine T2.out nilH (.slice none 0 0))
    clear hno
    obtain ⟨r0, r1, r2, r3, r4, r5, r6, r7, r8⟩ := (show Cells w4 (w.heap.size + 2) 0 ⟨0, [], [], 0, 0, 0, 0, 0⟩ (.slice none 0 0) from Cells.row T2.out)
    simp only [Nat.zero_add] at r1 r2 r3 r4 r5 r6 r7 r8
    have z0 := (show RowAt w4 (w.heap.size + 2) 24 _ from T2.out).frozen 0
    have z1 := (show RowAt w4 (w.heap.size + 2) 24 _ from T2.out).frozen 1
    have z2 := (show RowAt w4 (w.heap.size + 2) 24 _ from T2.out).frozen 2
    have z3 := (show RowAt w4 (w.heap.size + 2) 24 _ from T2.out).frozen 3
    have z4 := (show RowAt w4 (w.heap.size + 2) 24 _ from T2.out).frozen 4
    have z5 := (show RowAt w4 (w.heap.size + 2) 24 _ from T2.out).frozen 5
    have z6 := (show RowAt w4 (w.heap.size + 2) 24 _ from T2.out).frozen 6
    have z7 := (show RowAt w4 (w.heap.size + 2) 24 _ from T2.out).frozen 7
    have z8 := (show RowAt w4 (w.heap.size + 2) 24 _ from T2.out).frozen 8
    go_wp2_with fail
    refine bodyPost_ret (results_cell_row_tmp (P := Try.prog) rfl _ _ (w.heap.size + 2) 24 (nilH.vals (.slice none 0 0)) (0, 0) _ rfl NN2.out.1 Try.underlying24 rfl rfl) rfl ?_
    exact ⟨Hfin.out _, B3.out.trans (NN2.out.2.below _ (by omega))⟩
  · have he : ∀ W : World, (binOp .eql 45 (.pointer (some ⟨b', o', none⟩)) (.pointer none)).run Try.prog W = .ok (.bool false) W := fun W => by simp [go_sem]
    have hmem := path_mem hP Sep3.out
    obtain ⟨d0, d1, d2, d3, d4, d5, d6, d7, d8⟩ := (show Cells w4 (w.heap.size + 1) 0 x.hd (.slice a1 nx cap1) from Cells.row T1.out)
    simp only [Nat.zero_add] at d1 d2 d3 d4 d5 d6 d7 d8
    have Copy2 := Lib.hid (copied_any x (.slice a1 nx cap1) w4 hmx (HX.out.below B3.out))
    have HP := Lib.hid hP
    have Hx := Lib.hid hx
    have Hmem := Lib.hid hmem
    clear hP hx hmem
    go_wp2_with fail
    refine Copy2.out.mono ?_
    rintro e w5 ⟨kv5, F5, rfl, hsep5, hnd5, hF5, hb5⟩
    rw [mapL_id] at hsep5
    obtain ⟨a5, c5, rfl, -⟩ := hsep5.kids.get
    rw [hnx.out] at hsep5
    rw [hnx.out]
    simp only [id]
    have HSep5 := Lib.hid hsep5
    have HF5 := Lib.hid hF5
    have B5 := Lib.hid hb5
    have hs5 := hb5.size
    have hpc : Cells w5 b' o' y.hd kv' := ((HP.out.fin (Cells.row HT0.out) Sep3.out.kids).1).later hb5
    have hty : Hid (∃ cs, w4.heap[b']? = some (Obj.cells cs 24 (0, 0))) := Lib.hid (by
      rcases Hmem.out with ⟨-, e, -⟩ | h
      · exact ⟨_, by rw [e]; exact HT0.out⟩
      · exact Sep3.out.typed b' h)
    have hbl : b' < w4.heap.size := by obtain ⟨cs, hcs⟩ := hty.out; exact (Array.getElem?_eq_some_iff.1 hcs).1
    have hblo : w.heap.size ≤ b' := by
      rcases Hmem.out with ⟨-, e, -⟩ | h
      · omega
      · have := HF.out b' h; omega
    have hbne2 : b' ≠ w.heap.size + 2 := by
      rcases Hmem.out with ⟨-, e, -⟩ | h
      · omega
      · have := HF.out b' h; omega
    have hzz : ∀ j, w5.frozen? ⟨b', j, none⟩ = false := fun j => by
      obtain ⟨cs, hcs⟩ := hty.out
      simp [World.frozen?, hb5.block b' hbl, hcs]
    have Hpc := Lib.hid hpc
    clear d0 d1 d2 d3 d4 d5 d6 d7 d8 hsep5 hnd5 hF5 hb5
    obtain ⟨d0, d1, d2, d3, d4, d5, d6, d7, d8⟩ := hpc
    have z0 := hzz o'
    have z1 := hzz (o' + 1)
    have z2 := hzz (o' + 2)
    have z3 := hzz (o' + 3)
    have z4 := hzz (o' + 4)
    have z5 := hzz (o' + 5)
    have z6 := hzz (o' + 6)
    have z7 := hzz (o' + 7)
    have z8 := hzz (o' + 8)
    clear hzz
    obtain ⟨N6, hN6⟩ : ∃ N6, Hid (nineAt w5 b' o' x.hd (.slice a5 nx c5) = N6) := ⟨_, Lib.hid rfl⟩
    have U6 : Hid (Upd w5 N6 b' o') := by rw [← hN6.out]; exact Lib.hid (nineAt_upd w5 b' o' x.hd _)
    have C6 : Hid (Cells N6 b' o' x.hd (.slice a5 nx c5)) := by rw [← hN6.out]; exact Lib.hid (nineAt_cells Hpc.out x.hd _)
    have key : Hid (∀ V : World, (∀ q, q ≠ w.heap.size + 2 → V.heap[q]? = N6.heap[q]?) → ∃ kv2, Cells V w.heap.size 0 (putN t way x).hd kv2 ∧ KidsAt V (putN t way x).kids kv2) := Lib.hid (fun V hV => by
      refine put_kids (W := w4) (V := V) (C6.out.same fun j _ => cell_same (hV b' hbne2) _) ?_ ?_ HP.out Sep3.out Hnd.out ?_ ?_
      · refine (HSep5.out.keep fun q hq => ?_).kids
        have h1 := HF5.out q hq
        exact (hV q (by omega)).trans (U6.out.other q (by omega))
      · intro cs hcs
        obtain ⟨cs', e1, e2, e3⟩ := U6.out.row cs ((B5.out.block b' hbl).trans hcs)
        exact ⟨cs', (hV b' hbne2).trans e1, e2, e3⟩
      · intro q hq hne
        obtain ⟨cs, hcs⟩ := Sep3.out.typed q hq
        have hql := (Array.getElem?_eq_some_iff.1 hcs).1
        have h1 := HF.out q hq
        exact (hV q (by omega)).trans ((U6.out.other q hne).trans (B5.out.block q hql))
      · intro hne
        rcases Hmem.out with ⟨e, -⟩ | h
        · exact absurd e hne
        · have h1 := HF.out b' h
          have : RowAt V w.heap.size 24 (t.hd.vals (.slice a2 n c2)) := (hV w.heap.size (by omega)).trans ((U6.out.other _ (by omega)).trans ((B5.out.block _ (by omega)).trans HT0.out))
          exact Cells.row this)
    obtain ⟨kv6, hc6, hk6⟩ := key.out N6 (fun _ _ => rfl)
    obtain ⟨a6, c6, rfl, -⟩ := hk6.get
    obtain ⟨px, hpx⟩ : ∃ px, Hid (putN t way x = px) := ⟨_, Lib.hid rfl⟩
    rw [hpx.out] at hc6
    obtain ⟨n6, hn6⟩ : ∃ n6, Hid (px.kids.length = n6) := ⟨_, Lib.hid rfl⟩
    rw [hn6.out] at hc6
    have Hc6 := Lib.hid hc6
    obtain ⟨e0, e1, e2, e3, e4, e5, e6, e7, e8⟩ := hc6
    simp only [Nat.zero_add] at e1 e2 e3 e4 e5 e6 e7 e8
    have V2 : Hid (RowAt N6 (w.heap.size + 2) 24 #[.int .i64 0, .string ⟨#[]⟩, .string ⟨#[]⟩, .int .i64 0, .int .i64 0, .int .i64 0, .int .i64 0, .int .i64 0, .slice none 0 0]) := Lib.hid ((U6.out.other _ (fun e => hbne2 e.symm)).trans ((B5.out.block _ (by omega)).trans T2.out))
    have NN6 := Lib.hid (nine V2.out px.hd (.slice a6 n6 c6))
    have hfin : Hid (∀ V, Upd N6 V (w.heap.size + 2) 0 → G (.returned (.tuple #[px.hd.agg (.slice a6 n6 c6), .bool true])) V ∧ Below w.heap.size w V) := Lib.hid (fun V U => by
      obtain ⟨kvV, hcV, hkV⟩ := key.out V (fun q hq => U.other q hq)
      have hkv : kvV = .slice a6 n6 c6 := by
        have h1 := hcV.c8
        have h2 := Hc6.out.c8
        rw [cell_same (U.other w.heap.size (by omega)) _] at h1
        rw [h1] at h2
        exact Option.some.inj h2
      subst hkv
      refine ⟨?_, (B3.out.trans ((B5.out.mono (by omega)).trans (U6.out.below _ hblo))).trans (U.below _ (by omega))⟩
      rw [← hG.out]
      exact .inr ⟨by rw [Hx.out]; simp, _, by rw [hpx.out], hkV⟩)
    clear hk6 key
    have hN6' := hN6.out
    unfold nineAt at hN6'
    go_upto_region 6 with fail
    clear d0 d1 d2 d3 d4 d5 d6 d7 d8 z0 z1 z2 z3 z4 z5 z6 z7 z8 hN6'
    obtain ⟨r0, r1, r2, r3, r4, r5, r6, r7, r8⟩ := (show Cells N6 (w.heap.size + 2) 0 ⟨0, [], [], 0, 0, 0, 0, 0⟩ (.slice none 0 0) from Cells.row V2.out)
    simp only [Nat.zero_add] at r1 r2 r3 r4 r5 r6 r7 r8
    have z0 := (show RowAt N6 (w.heap.size + 2) 24 _ from V2.out).frozen 0
    have z1 := (show RowAt N6 (w.heap.size + 2) 24 _ from V2.out).frozen 1
    have z2 := (show RowAt N6 (w.heap.size + 2) 24 _ from V2.out).frozen 2
    have z3 := (show RowAt N6 (w.heap.size + 2) 24 _ from V2.out).frozen 3
    have z4 := (show RowAt N6 (w.heap.size + 2) 24 _ from V2.out).frozen 4
    have z5 := (show RowAt N6 (w.heap.size + 2) 24 _ from V2.out).frozen 5
    have z6 := (show RowAt N6 (w.heap.size + 2) 24 _ from V2.out).frozen 6
    have z7 := (show RowAt N6 (w.heap.size + 2) 24 _ from V2.out).frozen 7
    have z8 := (show RowAt N6 (w.heap.size + 2) 24 _ from V2.out).frozen 8
    go_wp2_with fail
    refine bodyPost_ret (results_cell_row_tmp (P := Try.prog) rfl _ _ (w.heap.size + 2) 24 (px.hd.vals (.slice a6 n6 c6)) (0, 0) _ rfl NN6.out.1 Try.underlying24 rfl rfl) rfl ?_
    exact hfin.out _ NN6.out.2
end Go.Proofs.Ytpnfjiglphogoac
