/-
  For the laws of node: Get. Conditions: at most 2,000,000 nodes; ways of at most 2,000,000 steps.
-/
import Derived.Test.YtpnfjiglphogoacFol
namespace Go.Proofs.Ytpnfjiglphogoac
open Go.RowKit Go.Shelf
set_option linter.unusedSimpArgs false
set_option linter.unusedVariables false

theorem getN_cnt : ∀ (way : List Int) (t x : Nd), getN t way = some x → x.cnt ≤ t.cnt
  | [], t, x, h => by
    rw [getN] at h
    cases h
    exact Nat.le_refl _
  | i :: L, t, x, h => by
    rw [getN] at h
    split at h
    · split at h
      · cases h
      · rename_i y hy
        have h1 := getN_cnt L y x h
        have h2 := cntL_mem (List.mem_of_getElem? hy)
        have h3 := cnt_kids t
        omega
    · cases h
def nilH : Hd := ⟨0, [], [], 0, 0, 0, 0, 0⟩
/-- What Get answers. -/
def GetIs (t : Nd) (way : List Int) (e : Ending) (w' : World) : Prop :=
  (getN t way = none ∧ e = .returned (.tuple #[nilH.agg (.slice none 0 0), .bool false])) ∨ (∃ x kv, getN t way = some x ∧ e = .returned (.tuple #[x.hd.agg kv, .bool true]) ∧ KidsAt w' x.kids kv)
set_option maxRecDepth 100000 in
set_option maxHeartbeats 8000000 in
theorem Get_any (t : Nd) (kv : Value) (way : List Int) (vw : Value) (w : World) (hm : t.cnt ≤ 2000000) (hk : KidsAt w t.kids kv) (hw : SlI w vw way) (hl : way.length ≤ 2000000) :
    Calls Try.prog 8 #[.agg #[.int .i64 t.hd.kind, .string (bs t.hd.text), .string (bs t.hd.type), .int .i64 t.hd.n, .int .i64 t.hd.fr, .int .i64 t.hd.to_, .int .i64 t.hd.at_, .int .i64 t.hd.tat, kv], vw] w fun e w' => GetIs t way e w' ∧ Below w.heap.size w w' := by
  have HK := Lib.hid hk
  have HW := Lib.hid hw
  obtain ⟨a0, cap0, rfl, -⟩ := hk.get
  obtain ⟨aw, capw, rfl, -⟩ := hw
  clear hk
  obtain ⟨n, hn⟩ : ∃ n, Hid (t.kids.length = n) := ⟨_, Lib.hid rfl⟩
  obtain ⟨L, hL⟩ : ∃ n, Hid (way.length = n) := ⟨_, Lib.hid rfl⟩
  rw [hn.out] at HK
  rw [hL.out] at HW
  rw [hn.out, hL.out]
  obtain ⟨W1, hW1⟩ : ∃ W1, Hid ((w.alloc (.cells #[.int .i64 t.hd.kind, .string (bs t.hd.text), .string (bs t.hd.type), .int .i64 t.hd.n, .int .i64 t.hd.fr, .int .i64 t.hd.to_, .int .i64 t.hd.at_, .int .i64 t.hd.tat, .slice a0 n cap0] 24)).alloc (.cells #[.int .i64 0, .string ⟨#[]⟩, .string ⟨#[]⟩, .int .i64 0, .int .i64 0, .int .i64 0, .int .i64 0, .int .i64 0, .slice none 0 0] 24) = W1) := ⟨_, Lib.hid rfl⟩
  have B1 : Hid (Below w.heap.size w W1) := by rw [← hW1.out]; exact Lib.hid (((Below.refl _ w).alloc (Nat.le_refl _) _).alloc (by simp) _)
  have hs1 : W1.heap.size = w.heap.size + 2 := by rw [← hW1.out]; simp
  have R0 : Hid (RowAt W1 w.heap.size 24 (t.hd.vals (.slice a0 n cap0))) := by
    rw [← hW1.out]; exact Lib.hid ((RowAt.new w 24 (t.hd.vals (.slice a0 n cap0))).alloc _)
  have R1 : Hid (RowAt W1 (w.heap.size + 1) 24 #[.int .i64 0, .string ⟨#[]⟩, .string ⟨#[]⟩, .int .i64 0, .int .i64 0, .int .i64 0, .int .i64 0, .int .i64 0, .slice none 0 0]) := by
    rw [← hW1.out]
    have := RowAt.new (w.alloc (.cells #[.int .i64 t.hd.kind, .string (bs t.hd.text), .string (bs t.hd.type), .int .i64 t.hd.n, .int .i64 t.hd.fr, .int .i64 t.hd.to_, .int .i64 t.hd.at_, .int .i64 t.hd.tat, .slice a0 n cap0] 24)) 24 #[.int .i64 0, .string ⟨#[]⟩, .string ⟨#[]⟩, .int .i64 0, .int .i64 0, .int .i64 0, .int .i64 0, .int .i64 0, .slice none 0 0]
    rw [World.size_alloc] at this
    exact Lib.hid this
  have Fol := Lib.hid (follow_any w.heap.size 0 t (.slice a0 n cap0) way (.slice aw L capw) W1 (Cells.row R0.out) (HK.out.below B1.out) (HW.out.below B1.out) hl)
  obtain ⟨G, hG⟩ : ∃ G : Ending → World → Prop, Hid (GetIs t way = G) := ⟨_, Lib.hid rfl⟩
  rw [hG.out]
  go_enter Try.func8, Try.ntmps8
  go_wp2_with fail
  rw [hW1.out]
  refine Fol.out.mono ?_
  rintro e w2 ⟨hfo, rfl⟩
  rcases hfo with ⟨hno, rfl⟩ | ⟨b', o', x, kv', hx, hP, rfl⟩
  · have he : ∀ W : World, (binOp .eql 45 (.pointer none) (.pointer none)).run Try.prog W = .ok (.bool true) W := fun W => by simp [go_sem]
    have Hfin : Hid (∀ V, G (.returned (.tuple #[nilH.agg (.slice none 0 0), .bool false])) V) := Lib.hid (fun V => by rw [← hG.out]; exact .inl ⟨hno, rfl⟩)
    have NN := Lib.hid (nine R1.out nilH (.slice none 0 0))
    clear hno
    obtain ⟨r0, r1, r2, r3, r4, r5, r6, r7, r8⟩ := (show Cells w2 (w.heap.size + 1) 0 ⟨0, [], [], 0, 0, 0, 0, 0⟩ (.slice none 0 0) from Cells.row R1.out)
    simp only [Nat.zero_add] at r1 r2 r3 r4 r5 r6 r7 r8
    have z0 := (show RowAt w2 (w.heap.size + 1) 24 _ from R1.out).frozen 0
    have z1 := (show RowAt w2 (w.heap.size + 1) 24 _ from R1.out).frozen 1
    have z2 := (show RowAt w2 (w.heap.size + 1) 24 _ from R1.out).frozen 2
    have z3 := (show RowAt w2 (w.heap.size + 1) 24 _ from R1.out).frozen 3
    have z4 := (show RowAt w2 (w.heap.size + 1) 24 _ from R1.out).frozen 4
    have z5 := (show RowAt w2 (w.heap.size + 1) 24 _ from R1.out).frozen 5
    have z6 := (show RowAt w2 (w.heap.size + 1) 24 _ from R1.out).frozen 6
    have z7 := (show RowAt w2 (w.heap.size + 1) 24 _ from R1.out).frozen 7
    have z8 := (show RowAt w2 (w.heap.size + 1) 24 _ from R1.out).frozen 8
    go_wp2_with fail
    refine bodyPost_ret (results_cell_row_tmp (P := Try.prog) rfl _ _ (w.heap.size + 1) 24 (nilH.vals (.slice none 0 0)) (0, 0) _ rfl NN.out.1 Try.underlying24 rfl rfl) rfl ?_
    exact ⟨Hfin.out _, B1.out.trans (NN.out.2.below _ (by omega))⟩
  · have he : ∀ W : World, (binOp .eql 45 (.pointer (some ⟨b', o', none⟩)) (.pointer none)).run Try.prog W = .ok (.bool false) W := fun W => by simp [go_sem]
    have hend := hP.fin (Cells.row R0.out) (HK.out.below B1.out)
    obtain ⟨a1, c1, rfl, -⟩ := hend.2.get
    obtain ⟨xl, hxl⟩ : ∃ n, Hid (x.kids.length = n) := ⟨_, Lib.hid rfl⟩
    rw [hxl.out] at hend
    obtain ⟨d0, d1, d2, d3, d4, d5, d6, d7, d8⟩ := hend.1
    have Copy := Lib.hid (copied_any x (.slice a1 xl c1) w2 (Nat.le_trans (getN_cnt way t x hx) hm) hend.2)
    have hs0 : w.heap.size ≤ w2.heap.size := by omega
    have Hx := Lib.hid hx
    clear hP hend hx
    go_wp2_with fail
    refine Copy.out.mono ?_
    rintro e w3 ⟨kv2, F, rfl, hsep, hnd, hF, hb3⟩
    rw [mapL_id] at hsep
    obtain ⟨a2, c2, rfl, -⟩ := hsep.kids.get
    rw [hxl.out] at hsep
    rw [hxl.out]
    have R3 := Lib.hid (R1.out.later hb3)
    have NN := Lib.hid (nine R3.out x.hd (.slice a2 xl c2))
    have Hfin : Hid (∀ V, Upd w3 V (w.heap.size + 1) 0 → G (.returned (.tuple #[x.hd.agg (.slice a2 xl c2), .bool true])) V) := Lib.hid (fun V U => by
      rw [← hG.out]
      exact .inr ⟨x, _, Hx.out, rfl, (hsep.keep fun b hb => U.other b (by have := hF b hb; omega)).kids⟩)
    have B3 := Lib.hid (B1.out.trans (hb3.mono hs0))
    clear hsep hnd hF hb3 d0 d1 d2 d3 d4 d5 d6 d7 d8
    simp only [id]
    obtain ⟨r0, r1, r2, r3, r4, r5, r6, r7, r8⟩ := (show Cells w3 (w.heap.size + 1) 0 ⟨0, [], [], 0, 0, 0, 0, 0⟩ (.slice none 0 0) from Cells.row R3.out)
    simp only [Nat.zero_add] at r1 r2 r3 r4 r5 r6 r7 r8
    have z0 := (show RowAt w3 (w.heap.size + 1) 24 _ from R3.out).frozen 0
    have z1 := (show RowAt w3 (w.heap.size + 1) 24 _ from R3.out).frozen 1
    have z2 := (show RowAt w3 (w.heap.size + 1) 24 _ from R3.out).frozen 2
    have z3 := (show RowAt w3 (w.heap.size + 1) 24 _ from R3.out).frozen 3
    have z4 := (show RowAt w3 (w.heap.size + 1) 24 _ from R3.out).frozen 4
    have z5 := (show RowAt w3 (w.heap.size + 1) 24 _ from R3.out).frozen 5
    have z6 := (show RowAt w3 (w.heap.size + 1) 24 _ from R3.out).frozen 6
    have z7 := (show RowAt w3 (w.heap.size + 1) 24 _ from R3.out).frozen 7
    have z8 := (show RowAt w3 (w.heap.size + 1) 24 _ from R3.out).frozen 8
    go_wp2_with fail
    refine bodyPost_ret (results_cell_row_tmp (P := Try.prog) rfl _ _ (w.heap.size + 1) 24 (x.hd.vals (.slice a2 xl c2)) (0, 0) _ rfl NN.out.1 Try.underlying24 rfl rfl) rfl ?_
    exact ⟨Hfin.out _ NN.out.2, B3.out.trans (NN.out.2.below _ (by omega))⟩
end Go.Proofs.Ytpnfjiglphogoac
