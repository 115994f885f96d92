/-
  For the laws of node: At. Condition: at most 2,000,000 nodes.
-/
import Derived.Test.YtpnfjiglphogoacAtt
namespace Go.Proofs.Ytpnfjiglphogoac
open Go.RowKit Go.Shelf
set_option linter.unusedSimpArgs false
set_option linter.unusedVariables false

theorem boxed_below {W W' : World} {B : Nat} {t : TypeId} {v : Value} (h : Boxed W B t v) (hb : Below W.heap.size W W') : Boxed W' B t v := (hb.block B (Array.getElem?_eq_some_iff.1 h).1).trans h
theorem infoInt : (Try.prog.info? 3).map (fun i => (i.zero, i.size, i.bytes)) = some (some (.int .i64 0), 1, 8) := by kernel_rfl
def nv (L : List Nat) : List Value := L.map fun i => .int .i64 (i : Nat)
theorem nv_len (L : List Nat) : (nv L).length = L.length := List.length_map _
/-- A row of whole numbers of the call's own. -/
def WayIs (e : Ending) (w' : World) (L : List Nat) : Prop := ∃ v base, e = .returned v ∧ w'.ownsRow base 3 1 v L.length (nv L)
def slLen : Value → Nat | .slice _ n _ => n | _ => 0
def wayT (at_ : Int) (T : Nd) : List Nat := if inN at_ T then wayN at_ T else []
/-- Between two steps of At. -/
structure AtS (w : World) (at_ : Int) (T : Nd) (t : Nd) (kv : Value) (P : List Nat) (u : Value) (wr : World) : Prop where
  box : RowAt wr w.heap.size 24 (t.hd.vals kv)
  kids : KidsAt w t.kids kv
  own : wr.ownsRow (w.heap.size + 2) 3 1 u P.length (nv P)
  way : P ++ wayN at_ t = wayN at_ T
  below : Below w.heap.size w wr
  at1 : Boxed wr (w.heap.size + 1) 3 (.int .i64 at_)
  size : w.heap.size + 2 ≤ wr.heap.size
set_option maxRecDepth 100000 in
set_option maxHeartbeats 8000000 in
theorem At_any (T : Nd) (kv : Value) (at_ : Int) (w : World) (hm : T.cnt ≤ 2000000) (hk : KidsAt w T.kids kv) : Calls Try.prog 15 #[.agg #[.int .i64 T.hd.kind, .string (bs T.hd.text), .string (bs T.hd.type), .int .i64 T.hd.n, .int .i64 T.hd.fr, .int .i64 T.hd.to_, .int .i64 T.hd.at_, .int .i64 T.hd.tat, kv], .int .i64 at_] w fun e w' => WayIs e w' (wayT at_ T) ∧ Below w.heap.size w w' := by
  have HK := Lib.hid hk
  obtain ⟨a0, cap0, rfl, -⟩ := hk.get
  clear hk
  obtain ⟨n, hn⟩ : ∃ n, Hid (T.kids.length = n) := ⟨_, Lib.hid rfl⟩
  rw [hn.out] at HK
  rw [hn.out]
  obtain ⟨W1, hW1⟩ : ∃ W1, Hid ((w.alloc (.cells #[.int .i64 T.hd.kind, .string (bs T.hd.text), .string (bs T.hd.type), .int .i64 T.hd.n, .int .i64 T.hd.fr, .int .i64 T.hd.to_, .int .i64 T.hd.at_, .int .i64 T.hd.tat, .slice a0 n cap0] 24)).alloc (.cells #[.int .i64 at_] 3) = W1) := ⟨_, Lib.hid rfl⟩
  have B1 : Hid (Below w.heap.size w W1) := by rw [← hW1.out]; exact Lib.hid (((Below.refl _ w).alloc (Nat.le_refl _) _).alloc (by simp) _)
  have hs1 : W1.heap.size = w.heap.size + 2 := by rw [← hW1.out]; simp
  have R0 : Hid (RowAt W1 w.heap.size 24 (T.hd.vals (.slice a0 n cap0))) := by
    rw [← hW1.out]; exact Lib.hid ((RowAt.new w 24 (T.hd.vals (.slice a0 n cap0))).alloc _)
  have X1 : Hid (Boxed W1 (w.heap.size + 1) 3 (.int .i64 at_)) := by
    rw [← hW1.out]
    have := Boxed.new (w.alloc (.cells #[.int .i64 T.hd.kind, .string (bs T.hd.text), .string (bs T.hd.type), .int .i64 T.hd.n, .int .i64 T.hd.fr, .int .i64 T.hd.to_, .int .i64 T.hd.at_, .int .i64 T.hd.tat, .slice a0 n cap0] 24)) 3 (.int .i64 at_)
    rw [World.size_alloc] at this
    exact Lib.hid this
  obtain ⟨d0, d1, d2, d3, d4, d5, d6, d7, d8⟩ := Cells.row R0.out
  simp only [Nat.zero_add] at d1 d2 d3 d4 d5 d6 d7 d8
  have cX := X1.out.cell
  have Call := Lib.hid (contains_any T (.slice a0 n cap0) at_ W1 (HK.out.below B1.out))
  have hTc := ht_cnt T
  have hwl := wayN_len at_ T
  obtain ⟨LL, hLL⟩ : ∃ LL, Hid (wayT at_ T = LL) := ⟨_, Lib.hid rfl⟩
  rw [hLL.out]
  go_enter Try.func15, Try.ntmps15
  go_wp2_with fail
  rw [hW1.out]
  go_wp2_with fail
  refine Call.out.mono ?_
  rintro e w2 ⟨rfl, b2⟩
  have R2 := Lib.hid (R0.out.later b2)
  have X2 := Lib.hid (boxed_below X1.out b2)
  have B2 := Lib.hid (B1.out.trans (b2.mono B1.out.size))
  have hs2 := b2.size
  clear b2 d0 d1 d2 d3 d4 d5 d6 d7 d8 cX Call
  cases hin : inN at_ T with
  | false =>
    have hl0 : Hid (LL = []) := Lib.hid (by rw [← hLL.out]; unfold wayT; rw [hin]; rfl)
    clear hin
    go_wp2_with fail
    go_ret
    exact ⟨⟨_, 0, rfl, by rw [hl0.out]; exact World.ownsRow_nil _ _ _ _⟩, B2.out⟩
  | true =>
    have hl0 : Hid (LL = wayN at_ T) := Lib.hid (by rw [← hLL.out]; unfold wayT; rw [hin]; rfl)
    clear hin
    go_wp2_with fail
    go_loopw [5] (fun u wr => ∃ (t : Nd) (kv : Value) (P : List Nat), Hid (AtS w at_ T t kv P u wr)) (fun u _ => (wayN at_ T).length - slLen u)
    case atStart => exact ⟨T, _, [], Lib.hid ⟨R2.out, HK.out, World.ownsRow_nil _ _ _ _, rfl, B2.out, X2.out, by omega⟩⟩
    case round =>
      obtain ⟨t, kv, P, hS⟩ := hrel
      obtain ⟨ak, ck, rfl, hc, hck, hx⟩ := hS.out.kids.get
      have Hx := Lib.hid hx
      clear hx
      have hbox := hS.out.box
      have c8 : wr.cell? ⟨w.heap.size, 8, none⟩ = some (.slice ak t.kids.length ck) := hbox.cell (j := 8) rfl
      have cX := hS.out.at1.cell
      have hbs := hS.out.size
      have hPl : P.length + (wayN at_ t).length = (wayN at_ T).length := by rw [← hS.out.way, List.length_append]
      have Call := Lib.hid (Index_any t.kids (.slice ak t.kids.length ck) (w.heap.size + 1) at_ wr (hS.out.kids.below hS.out.below) cX)
      obtain ⟨L, hL⟩ : ∃ L, Hid (t.kids.length = L) := ⟨_, Lib.hid rfl⟩
      rw [hL.out] at c8 Call hS hc
      have hck' := hck
      unfold maxLen at hck'
      clear hbox
      go_wp2_with fail
      refine Call.out.mono ?_
      rintro e w3 ⟨rfl, b3⟩
      have B3 := Lib.hid b3
      have hs3 := b3.size
      clear b3 c8 cX Call
      cases hf : firstIn at_ t.kids with
      | none =>
        have hfin : Hid (P = wayN at_ T) := Lib.hid (by rw [← hS.out.way, wayN_none hf, List.append_nil])
        have hO : Hid (w3.ownsRow (w.heap.size + 2) 3 1 u5 (wayN at_ T).length (nv (wayN at_ T))) := Lib.hid (by
          rw [← hfin.out]
          exact own_below hS.out.own B3.out)
        have hBf := Lib.hid (hS.out.below.trans (B3.out.mono (by omega)))
        have hneg : decide (idxV none < 0) = true := rfl
        clear hf
        unfold idxV
        go_wp2_with fail
        go_ret
        exact ⟨⟨_, _, rfl, by rw [hl0.out]; exact hO.out⟩, hBf.out⟩
      | some i =>
        have hi : i < L := by
          rw [← hL.out]
          unfold firstIn at hf
          obtain ⟨h1, -⟩ := List.findIdx?_eq_some_iff_getElem.1 hf
          exact h1
        obtain ⟨x, hxi⟩ : ∃ x, Hid (t.kids[i]? = some x) := ⟨_, Lib.hid (List.getElem?_eq_getElem (by rw [hL.out]; exact hi))⟩
        have hway : Hid (wayN at_ t = i :: wayN at_ x) := Lib.hid (wayN_some hf hxi.out)
        have hPl2 : P.length < (wayN at_ T).length := by rw [hway.out, List.length_cons] at hPl; omega
        clear hf hPl
        obtain ⟨b, off, kv2, rfl, cs, hk2⟩ := Hx.out i x hxi.out
        obtain ⟨a2, c2, rfl, -⟩ := hk2.get
        have hK2 := Lib.hid hk2
        have hCs := Lib.hid cs
        have O3 := Lib.hid (own_below hS.out.own B3.out)
        have hbl := cs.lt
        have p0 : (i : Int) < (L : Int) := by omega
        have p1 : (0 : Int) ≤ (i : Int) := by omega
        have hneg : decide ((i : Int) < 0) = false := decide_eq_false (by omega)
        have Rb : Hid (RowAt (w3.alloc (.cells #[.int .i64 (i : Nat)] 3)) w3.heap.size 3 #[.int .i64 (i : Nat)]) := Lib.hid (RowAt.new w3 3 _)
        have OA := Lib.hid (O3.out.alloc (.cells #[.int .i64 (i : Nat)] 3))
        have Hnews : Hid (∀ (j : Nat) (u : Value), [Value.int .i64 (i : Nat)][j]? = some u → (w3.alloc (.cells #[.int .i64 (i : Nat)] 3)).cell? ⟨w3.heap.size, j, none⟩ = some u) := Lib.hid (fun j u hj => by
          have h0 : j = 0 := by have := (List.getElem?_eq_some_iff.1 hj).1; simp at this; omega
          subst h0
          obtain rfl := (Option.some.inj hj)
          exact Rb.out.cell rfl)
        have Hone : Hid (∀ u ∈ [Value.int .i64 (i : Nat)], u.oneCell' = true) := Lib.hid (fun u hu => by
          obtain rfl := List.mem_singleton.1 hu
          rfl)
        obtain ⟨xl, hxl⟩ : ∃ xl, Hid (x.kids.length = xl) := ⟨_, Lib.hid rfl⟩
        rw [hxl.out] at hCs hK2
        have H5 : Hid (∀ w5, (w3.alloc (.cells #[.int .i64 (i : Nat)] 3)).grownBy w5 u5.ownBlock → RowAt w5 w.heap.size 24 (t.hd.vals (.slice (some ⟨b, off, none⟩) L ck)) ∧ Cells w5 b (off + i * 9) x.hd (.slice a2 xl c2) ∧ Boxed w5 (w.heap.size + 1) 3 (.int .i64 at_) ∧ Below w.heap.size w w5 ∧ w3.heap.size + 1 ≤ w5.heap.size) := Lib.hid (fun w5 hg => by
          have hs := hg.size
          rw [World.size_alloc] at hs
          have blk : ∀ q, q < w.heap.size + 2 → w5.heap[q]? = w3.heap[q]? := fun q hq =>
            (hg.block q (by rw [World.size_alloc]; omega) (fun e => by have := (O3.out.lt q e.symm).1; omega)).trans (Below.heap_alloc w3 _ q (by omega))
          have bw : Below w.heap.size w w5 := (((hS.out.below.trans (B3.out.mono (by omega))).alloc (by omega) _).grown hg (by rw [World.size_alloc]; omega) (fun k e => by have := (O3.out.lt k e).1; omega))
          refine ⟨(blk _ (by omega)).trans (hS.out.box.later B3.out), hCs.out.later bw, (blk _ (by omega)).trans (boxed_below hS.out.at1 B3.out), bw, hs⟩)
        clear cs hk2
        unfold idxV
        go_wp2_with (at_builtin; refine wpList_append_el (W := w3.alloc (.cells #[.int .i64 (i : Nat)] 3)) (base := w.heap.size + 2) (n := P.length) rfl _ _ rfl Try.underlying25 infoInt rfl (by decide) (by decide) u5 (nv P) [.int .i64 (i : Nat)] rfl OA.out w3.heap.size rfl rfl Hnews.out Hone.out (by omega) (by simp; omega) ?_; intro v5 w5 hown5 hg5; have hW5 := Lib.hid (H5.out w5 hg5); have R5 := hW5.out.1; obtain ⟨d0, d1, d2, d3, d4, d5, d6, d7, d8⟩ := hW5.out.2.1; obtain ⟨r0, r1, r2, r3, r4, r5, r6, r7, r8⟩ := Cells.row R5; simp only [Nat.zero_add] at r1 r2 r3 r4 r5 r6 r7 r8; have z0 := R5.frozen 0; have z1 := R5.frozen 1; have z2 := R5.frozen 2; have z3 := R5.frozen 3; have z4 := R5.frozen 4; have z5 := R5.frozen 5; have z6 := R5.frozen 6; have z7 := R5.frozen 7; have z8 := R5.frozen 8; have Hown5 := Lib.hid hown5; clear hown5 hg5)
        obtain ⟨N9, hN9⟩ : ∃ N9, Hid (N9 = (((((((((w5.setCell ⟨w.heap.size, 0, none⟩ (.int .i64 x.hd.kind)).setCell ⟨w.heap.size, 1, none⟩ (.string (bs x.hd.text))).setCell ⟨w.heap.size, 2, none⟩ (.string (bs x.hd.type))).setCell ⟨w.heap.size, 3, none⟩ (.int .i64 x.hd.n)).setCell ⟨w.heap.size, 4, none⟩ (.int .i64 x.hd.fr)).setCell ⟨w.heap.size, 5, none⟩ (.int .i64 x.hd.to_)).setCell ⟨w.heap.size, 6, none⟩ (.int .i64 x.hd.at_)).setCell ⟨w.heap.size, 7, none⟩ (.int .i64 x.hd.tat)).setCell ⟨w.heap.size, 8, none⟩ (.slice a2 xl c2))) := ⟨_, Lib.hid rfl⟩
        rw [← hN9.out]
        obtain ⟨RN, UN⟩ := nine R5 x.hd (.slice a2 xl c2)
        rw [← hN9.out] at RN UN
        have O9 : N9.ownsRow (w.heap.size + 2) 3 1 v5 (P.length + 1) (nv P ++ [.int .i64 (i : Nat)]) := own_same Hown5.out fun q hq => UN.other q (by have := (Hown5.out.lt q hq).1; omega)
        refine ⟨⟨x, _, P ++ [i], Lib.hid ⟨RN, hK2.out, ?_, ?_, hW5.out.2.2.2.1.trans (UN.below _ (Nat.le_refl _)), (UN.other _ (by omega)).trans hW5.out.2.2.1, by have := UN.size; have := hW5.out.2.2.2.2; omega⟩⟩, ?_⟩
        · rw [List.length_append, List.length_singleton]
          unfold nv at O9 ⊢
          rw [List.map_append]
          exact O9
        · rw [List.append_assoc, ← hS.out.way, hway.out]
          rfl
        · obtain ⟨ao, m', cap5, hv5⟩ := own_slice Hown5.out
          obtain ⟨ao', m2, cap6, hv6⟩ := own_slice O3.out
          have e5 : slLen v5 = P.length + 1 := by
            rcases Hown5.out.2 with ⟨e, h⟩ | ⟨g, cp, cur, e, -⟩
            · omega
            · rw [e]; rfl
          have e6 : slLen u5 = P.length := by
            rcases O3.out.2 with ⟨e, h⟩ | ⟨g, cp, cur, e, -⟩
            · rw [e, h]; rfl
            · rw [e]; rfl
          rw [e5, e6]
          omega
end Go.Proofs.Ytpnfjiglphogoac
