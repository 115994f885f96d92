/-
  For the laws of node: the reference's At. Condition: at most 2,000,000 nodes.
-/
import Derived.Test.YtpnfjiglphogoabAtw
import Derived.Deep.Cut
import Derived.Deep.CutRange
namespace Go.Proofs.Ytpnfjiglphogoab
open Go.RowKit Go.Shelf
set_option linter.unusedSimpArgs false
set_option linter.unusedVariables false

/-- Between two steps of the reference's At. -/
structure RaS (w : World) (at_ : Int) (T : Nd) (t : Nd) (kv : Value) (P : List Nat) (u : Value) (wr : World) : Prop where
  box : RowAt wr w.heap.size 24 (t.hd.vals kv)
  kids : KidsAt w t.kids kv
  own : wr.ownsRow (w.heap.size + 1) 3 1 u P.length (nv P)
  way : P ++ wayN at_ t = wayN at_ T
  below : Below w.heap.size w wr
  size : w.heap.size + 1 ≤ wr.heap.size
/-- The first of the kids from i on that holds the offset. -/
def fromIn (at_ : Int) (ks : List Nd) (i : Nat) : Int := match (ks.drop i).findIdx? (inN at_) with | none => -1 | some k => ((i + k : Nat) : Int)
theorem fromIn_end {at_ : Int} {ks : List Nd} : fromIn at_ ks ks.length = -1 := by unfold fromIn; simp
theorem fromIn_step {at_ : Int} {ks : List Nd} {i : Nat} {x : Nd} (h : ks[i]? = some x) : fromIn at_ ks i = if inN at_ x then (i : Int) else fromIn at_ ks (i + 1) := by
  obtain ⟨hl, he⟩ := List.getElem?_eq_some_iff.1 h
  unfold fromIn
  rw [List.drop_eq_getElem_cons hl, he, List.findIdx?_cons]
  cases hq : inN at_ x with
  | true => simp
  | false =>
    simp only [Bool.false_eq_true, if_false]
    cases (ks.drop (i + 1)).findIdx? (inN at_) with
    | none => rfl
    | some k => simp; omega
theorem fromIn_zero {at_ : Int} {ks : List Nd} : fromIn at_ ks 0 = match firstIn at_ ks with | none => -1 | some k => (k : Int) := by
  unfold fromIn firstIn
  simp
set_option maxRecDepth 100000 in
set_option maxHeartbeats 16000000 in
theorem RefAt_any (T : Nd) (kv : Value) (at_ : Int) (w : World) (hm : T.cnt ≤ 2000000) (hk : KidsAt w T.kids kv) : Calls Try.prog 30 #[.agg #[.int .i64 T.hd.kind, .string (bs T.hd.text), .string (bs T.hd.type), .int .i64 T.hd.n, .int .i64 T.hd.fr, .int .i64 T.hd.to_, .int .i64 T.hd.at_, .int .i64 T.hd.tat, kv], .int .i64 at_] w fun e w' => WayIs e w' (wayT at_ T) ∧ Below w.heap.size w w' := by
  have HK := Lib.hid hk
  obtain ⟨a0, cap0, rfl, -⟩ := hk.get
  clear hk
  obtain ⟨n, hn⟩ : ∃ n, Hid (T.kids.length = n) := ⟨_, Lib.hid rfl⟩
  rw [hn.out] at HK
  rw [hn.out]
  obtain ⟨W1, hW1⟩ : ∃ W1, Hid (w.alloc (.cells #[.int .i64 T.hd.kind, .string (bs T.hd.text), .string (bs T.hd.type), .int .i64 T.hd.n, .int .i64 T.hd.fr, .int .i64 T.hd.to_, .int .i64 T.hd.at_, .int .i64 T.hd.tat, .slice a0 n cap0] 24) = W1) := ⟨_, Lib.hid rfl⟩
  have B1 : Hid (Below w.heap.size w W1) := by rw [← hW1.out]; exact Lib.hid ((Below.refl _ w).alloc (Nat.le_refl _) _)
  have hs1 : W1.heap.size = w.heap.size + 1 := by rw [← hW1.out]; simp
  have R0 : Hid (RowAt W1 w.heap.size 24 (T.hd.vals (.slice a0 n cap0))) := by
    rw [← hW1.out]; exact Lib.hid (RowAt.new w 24 (T.hd.vals (.slice a0 n cap0)))
  obtain ⟨d0, d1, d2, d3, d4, d5, d6, d7, d8⟩ := Cells.row R0.out
  simp only [Nat.zero_add] at d1 d2 d3 d4 d5 d6 d7 d8
  have hTc := ht_cnt T
  have hwl := wayN_len at_ T
  obtain ⟨LL, hLL⟩ : ∃ LL, Hid (wayT at_ T = LL) := ⟨_, Lib.hid rfl⟩
  rw [hLL.out]
  cases hin : inN at_ T with
  | false =>
    have hl0 : Hid (LL = []) := Lib.hid (by rw [← hLL.out]; unfold wayT; rw [hin]; rfl)
    unfold inN at hin
    by_cases h1 : at_ < T.hd.fr
    · have g1 : decide (at_ < T.hd.fr) = true := decide_eq_true h1
      clear hin
      go_enter Try.func30, Try.ntmps30
      go_wp2_with fail
      rw [hW1.out]
      go_wp2_with fail
      go_ret
      exact ⟨⟨_, 0, rfl, by rw [hl0.out]; exact World.ownsRow_nil _ _ _ _⟩, B1.out⟩
    · have g1 : decide (at_ < T.hd.fr) = false := decide_eq_false h1
      have g2 : decide (T.hd.to_ ≤ at_) = true := decide_eq_true (by
        rw [decide_eq_true (by omega : T.hd.fr ≤ at_), Bool.true_and] at hin
        have := of_decide_eq_false hin
        omega)
      clear hin
      go_enter Try.func30, Try.ntmps30
      go_wp2_with fail
      rw [hW1.out]
      go_wp2_with fail
      go_ret
      exact ⟨⟨_, 0, rfl, by rw [hl0.out]; exact World.ownsRow_nil _ _ _ _⟩, B1.out⟩
  | true =>
    have hl0 : Hid (LL = wayN at_ T) := Lib.hid (by rw [← hLL.out]; unfold wayT; rw [hin]; rfl)
    have hin2 := hin
    unfold inN at hin2
    rw [Bool.and_eq_true, decide_eq_true_eq, decide_eq_true_eq] at hin2
    have g1 : decide (at_ < T.hd.fr) = false := decide_eq_false (by omega)
    have g2 : decide (T.hd.to_ ≤ at_) = false := decide_eq_false (by omega)
    clear hin hin2
    go_enter Try.func30, Try.ntmps30
    go_upto_region 2 with fail
    rw [hW1.out]
    go_wp2_with fail
    go_loopw [5] (fun u wr => ∃ (t : Nd) (kv : Value) (P : List Nat), Hid (RaS w at_ T t kv P u wr)) (fun u _ => (wayN at_ T).length - slLen u)
    case atStart => exact ⟨T, _, [], Lib.hid ⟨R0.out, HK.out, World.ownsRow_nil _ _ _ _, rfl, B1.out, by omega⟩⟩
    case round =>
      obtain ⟨U, rfl⟩ : ∃ U, U = wr := ⟨wr, rfl⟩
      obtain ⟨t, kv, P, hS⟩ := hrel
      obtain ⟨ak, ck, rfl, hc, hck, hx⟩ := hS.out.kids.get
      have Hx := Lib.hid hx
      clear hx
      have hbox := hS.out.box
      have hbs := hS.out.size
      have hPl : P.length + (wayN at_ t).length = (wayN at_ T).length := by rw [← hS.out.way, List.length_append]
      obtain ⟨L, hL⟩ : ∃ L, Hid (t.kids.length = L) := ⟨_, Lib.hid rfl⟩
      rw [hL.out] at hS hc hbox
      have hck' := hck
      unfold maxLen at hck'
      have c8 : U.cell? ⟨w.heap.size, 8, none⟩ = some (.slice ak L ck) := hbox.cell (j := 8) rfl
      have Hbox := Lib.hid hbox
      have HPl := Lib.hid hPl
      clear hbox hPl
      go_wp2_with fail
      go_loopw [6, 7] (fun nx c wx => ∃ k : Nat, c = .int .i64 ((k : Int) - 1) ∧ k ≤ L ∧ nx = .int .i64 (fromIn at_ t.kids k) ∧ wx = U) (fun _ c _ => (intOf c + 1).toNat)
      case atStart => exact ⟨L, by go_num, by omega, by rw [← hL.out, fromIn_end], by trivial⟩
      case round =>
        obtain ⟨k, rfl, hk, rfl, hwx⟩ := hrel
        rw [hwx]
        clear hwx
        rcases k with _ | k
        · have e0 : (((0 : Nat) : Int) - 1) = -1 := rfl
          rw [e0, fromIn_zero]
          cases hf : firstIn at_ t.kids with
          | none =>
            have hfin : Hid (P = wayN at_ T) := Lib.hid (by rw [← hS.out.way, wayN_none hf, List.append_nil])
            have hO : Hid (U.ownsRow (w.heap.size + 1) 3 1 u5 (wayN at_ T).length (nv (wayN at_ T))) := Lib.hid (by
              rw [← hfin.out]
              exact hS.out.own)
            clear hf
            dsimp only
            go_wp2_with fail
            go_ret
            exact ⟨⟨_, _, rfl, by rw [hl0.out]; exact hO.out⟩, hS.out.below⟩
          | some i =>
            have hi : i < L := by
              rw [← hL.out]
              unfold firstIn at hf
              obtain ⟨h1, -⟩ := List.findIdx?_eq_some_iff_getElem.1 hf
              exact h1
            obtain ⟨x, hxi⟩ : ∃ x, Hid (t.kids[i]? = some x) := ⟨_, Lib.hid (List.getElem?_eq_getElem (by rw [hL.out]; exact hi))⟩
            have hway : Hid (wayN at_ t = i :: wayN at_ x) := Lib.hid (wayN_some hf hxi.out)
            have hPl2 : P.length < (wayN at_ T).length := by have h := HPl.out; rw [hway.out, List.length_cons] at h; omega
            clear hf
            obtain ⟨b, off, kv2, rfl, cs, hk2⟩ := Hx.out i x hxi.out
            obtain ⟨a2, c2, rfl, -⟩ := hk2.get
            have hK2 := Lib.hid hk2
            have hCs := Lib.hid cs
            have O3 := Lib.hid hS.out.own
            have hbl := cs.lt
            have p0 : (i : Int) < (L : Int) := by omega
            have p1 : (0 : Int) ≤ (i : Int) := by omega
            have hneg : decide ((i : Int) < 0) = false := decide_eq_false (by omega)
            have Rb : Hid (RowAt (U.alloc (.cells #[.int .i64 (i : Nat)] 3)) U.heap.size 3 #[.int .i64 (i : Nat)]) := Lib.hid (RowAt.new U 3 _)
            have OA := Lib.hid (O3.out.alloc (.cells #[.int .i64 (i : Nat)] 3))
            have Hnews : Hid (∀ (j : Nat) (u : Value), [Value.int .i64 (i : Nat)][j]? = some u → (U.alloc (.cells #[.int .i64 (i : Nat)] 3)).cell? ⟨U.heap.size, j, none⟩ = some u) := Lib.hid (fun j u hj => by
              have h0 : j = 0 := by have := (List.getElem?_eq_some_iff.1 hj).1; simp at this; omega
              subst h0
              obtain rfl := (Option.some.inj hj)
              exact Rb.out.cell rfl)
            have Hone : Hid (∀ u ∈ [Value.int .i64 (i : Nat)], u.oneCell' = true) := Lib.hid (fun u hu => by
              obtain rfl := List.mem_singleton.1 hu
              rfl)
            obtain ⟨xl, hxl⟩ : ∃ xl, Hid (x.kids.length = xl) := ⟨_, Lib.hid rfl⟩
            rw [hxl.out] at hCs hK2
            have H5 : Hid (∀ w5, (U.alloc (.cells #[.int .i64 (i : Nat)] 3)).grownBy w5 u5.ownBlock → RowAt w5 w.heap.size 24 (t.hd.vals (.slice (some ⟨b, off, none⟩) L ck)) ∧ Cells w5 b (off + i * 9) x.hd (.slice a2 xl c2) ∧ Below w.heap.size w w5 ∧ U.heap.size + 1 ≤ w5.heap.size) := Lib.hid (fun w5 hg => by
              have hs := hg.size
              rw [World.size_alloc] at hs
              have blk : ∀ q, q < w.heap.size + 1 → w5.heap[q]? = U.heap[q]? := fun q hq =>
                (hg.block q (by rw [World.size_alloc]; omega) (fun e => by have := (O3.out.lt q e.symm).1; omega)).trans (Below.heap_alloc U _ q (by omega))
              have bw : Below w.heap.size w w5 := ((hS.out.below.alloc (by omega) _).grown hg (by rw [World.size_alloc]; omega) (fun k e => by have := (O3.out.lt k e).1; omega))
              exact ⟨(blk _ (by omega)).trans hS.out.box, hCs.out.later bw, bw, hs⟩)
            clear cs hk2
            dsimp only
            go_wp2_with (at_builtin; refine wpList_append_el (W := U.alloc (.cells #[.int .i64 (i : Nat)] 3)) (base := w.heap.size + 1) (n := P.length) rfl _ _ rfl Try.underlying37 infoInt rfl (by decide) (by decide) u5 (nv P) [.int .i64 (i : Nat)] rfl OA.out U.heap.size rfl rfl Hnews.out Hone.out (by omega) (by simp; omega) ?_; intro v5 w5 hown5 hg5; have hW5 := Lib.hid (H5.out w5 hg5); have R5 := hW5.out.1; obtain ⟨d0, d1, d2, d3, d4, d5, d6, d7, d8⟩ := hW5.out.2.1; obtain ⟨r0, r1, r2, r3, r4, r5, r6, r7, r8⟩ := Cells.row R5; simp only [Nat.zero_add] at r1 r2 r3 r4 r5 r6 r7 r8; have z0 := R5.frozen 0; have z1 := R5.frozen 1; have z2 := R5.frozen 2; have z3 := R5.frozen 3; have z4 := R5.frozen 4; have z5 := R5.frozen 5; have z6 := R5.frozen 6; have z7 := R5.frozen 7; have z8 := R5.frozen 8; have Hown5 := Lib.hid hown5; clear hown5 hg5)
            obtain ⟨N9, hN9⟩ : ∃ N9, Hid (N9 = (((((((((w5.setCell ⟨w.heap.size, 0, none⟩ (.int .i64 x.hd.kind)).setCell ⟨w.heap.size, 1, none⟩ (.string (bs x.hd.text))).setCell ⟨w.heap.size, 2, none⟩ (.string (bs x.hd.type))).setCell ⟨w.heap.size, 3, none⟩ (.int .i64 x.hd.n)).setCell ⟨w.heap.size, 4, none⟩ (.int .i64 x.hd.fr)).setCell ⟨w.heap.size, 5, none⟩ (.int .i64 x.hd.to_)).setCell ⟨w.heap.size, 6, none⟩ (.int .i64 x.hd.at_)).setCell ⟨w.heap.size, 7, none⟩ (.int .i64 x.hd.tat)).setCell ⟨w.heap.size, 8, none⟩ (.slice a2 xl c2))) := ⟨_, Lib.hid rfl⟩
            rw [← hN9.out]
            obtain ⟨RN, UN⟩ := nine R5 x.hd (.slice a2 xl c2)
            rw [← hN9.out] at RN UN
            have O9 : N9.ownsRow (w.heap.size + 1) 3 1 v5 (P.length + 1) (nv P ++ [.int .i64 (i : Nat)]) := own_same Hown5.out fun q hq => UN.other q (by have := (Hown5.out.lt q hq).1; omega)
            refine ⟨⟨x, _, P ++ [i], Lib.hid ⟨RN, hK2.out, ?_, ?_, hW5.out.2.2.1.trans (UN.below _ (Nat.le_refl _)), by have := UN.size; have := hW5.out.2.2.2; omega⟩⟩, ?_⟩
            · rw [List.length_append, List.length_singleton]
              unfold nv at O9 ⊢
              rw [List.map_append]
              exact O9
            · rw [List.append_assoc, ← hS.out.way, hway.out]
              rfl
            · have e5 : slLen v5 = P.length + 1 := by
                rcases Hown5.out.2 with ⟨e, h⟩ | ⟨g, cp, cur, e, -⟩
                · omega
                · rw [e]; rfl
              have e6 : slLen u5 = P.length := by
                rcases O3.out.2 with ⟨e, h⟩ | ⟨g, cp, cur, e, -⟩
                · rw [e, h]; rfl
                · rw [e]; rfl
              rw [e5, e6]
              omega
        · have e1 : (((k + 1 : Nat) : Int) - 1) = (k : Int) := by omega
          rw [e1]
          obtain ⟨x, hxk⟩ : ∃ x, Hid (t.kids[k]? = some x) := ⟨_, Lib.hid (List.getElem?_eq_getElem (by rw [hL.out]; omega))⟩
          obtain ⟨b, off, kv2, rfl, cs, hk2⟩ := Hx.out k x hxk.out
          obtain ⟨d0, d1, d2, d3, d4, d5, d6, d7, d8⟩ := cs.later hS.out.below
          have p0 : (k : Int) < (L : Int) := by omega
          have p1 : (0 : Int) ≤ (k : Int) := by omega
          have p2 : decide ((k : Int) ≥ 0) = true := decide_eq_true (by omega)
          have hfs := Lib.hid (fromIn_step (at_ := at_) hxk.out)
          clear cs hk2 e1
          obtain ⟨nx, hnx⟩ : ∃ nx, Hid (fromIn at_ t.kids (k + 1) = nx) := ⟨_, Lib.hid rfl⟩
          rw [hnx.out]
          by_cases h1 : x.hd.fr ≤ at_
          · have g3 : decide (x.hd.fr ≤ at_) = true := decide_eq_true h1
            by_cases h2 : at_ < x.hd.to_
            · have g4 : decide (at_ < x.hd.to_) = true := decide_eq_true h2
              go_wp2_with fail
              exact ⟨⟨k, by go_num, by omega, by rw [hfs.out, if_pos (by unfold inN; rw [g3, g4]; rfl)], by trivial⟩, by simp [intOf]⟩
            · have g4 : decide (at_ < x.hd.to_) = false := decide_eq_false h2
              go_wp2_with fail
              exact ⟨⟨k, by go_num, by omega, by rw [hfs.out, if_neg (by unfold inN; rw [g3, g4]; simp), hnx.out], by trivial⟩, by simp [intOf]⟩
          · have g3 : decide (x.hd.fr ≤ at_) = false := decide_eq_false h1
            go_wp2_with fail
            exact ⟨⟨k, by go_num, by omega, by rw [hfs.out, if_neg (by unfold inN; rw [g3]; simp), hnx.out], by trivial⟩, by simp [intOf]⟩
end Go.Proofs.Ytpnfjiglphogoab
