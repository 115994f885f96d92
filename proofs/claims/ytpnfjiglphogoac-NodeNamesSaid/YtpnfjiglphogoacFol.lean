/-
  For the laws of node: follow: where a way leads. No condition.
-/
import Derived.Test.YtpnfjiglphogoacAtw
namespace Go.Proofs.Ytpnfjiglphogoac
open Go.RowKit Go.Shelf
set_option linter.unusedSimpArgs false
set_option linter.unusedVariables false

/-- A slice of whole numbers. -/
def SlI (w : World) (v : Value) (l : List Int) : Prop := ∃ (a : Option Addr) (cap : Nat), v = .slice a l.length cap ∧ l.length ≤ cap ∧ cap ≤ maxLen ∧ ∀ (k : Nat) (i : Int), l[k]? = some i → ∃ b off, a = some ⟨b, off, none⟩ ∧ w.cell? ⟨b, off + k, none⟩ = some (.int .i64 i)
theorem SlI.below {w w' : World} {v : Value} {l : List Int} (h : SlI w v l) (hb : Below w.heap.size w w') : SlI w' v l := by
  obtain ⟨a, cap, e, h1, h2, hx⟩ := h
  exact ⟨a, cap, e, h1, h2, fun k i hk => by
    obtain ⟨b, off, ea, hc⟩ := hx k i hk
    exact ⟨b, off, ea, (hb.cell (p := ⟨b, off + k, none⟩) (World.block_lt_of_cell? w _ hc)).trans hc⟩⟩
/-- The node that a way leads to. -/
def getN : Nd → List Int → Option Nd
  | t, [] => some t
  | t, i :: L => if 0 ≤ i ∧ i < t.kids.length then match t.kids[i.toNat]? with
      | none => none
      | some x => getN x L
    else none
theorem getN_no {t : Nd} {i : Int} {L : List Int} (h : ¬ (0 ≤ i ∧ i < t.kids.length)) : getN t (i :: L) = none := by rw [getN, if_neg h]
theorem getN_yes {t x : Nd} {k : Nat} {L : List Int} (h : t.kids[k]? = some x) : getN t ((k : Int) :: L) = getN x L := by
  have hk := (List.getElem?_eq_some_iff.1 h).1
  rw [getN, if_pos ⟨by omega, by omega⟩, Int.toNat_natCast, h]
/-- The way from the node at (b, o) leads to the node at (b', o'). -/
def PathTo (W : World) : Nat → Nat → Nd → Value → List Int → Nat → Nat → Nd → Value → Prop
  | b, o, t, kv, [], b', o', x, kv' => b' = b ∧ o' = o ∧ x = t ∧ kv' = kv
  | b, o, t, kv, i :: L, b', o', x, kv' => ∃ (N off n c k : Nat) (y : Nd) (kvy : Value), kv = .slice (some ⟨N, off, none⟩) n c ∧ i = (k : Int) ∧ t.kids[k]? = some y ∧ Cells W N (off + k * 9) y.hd kvy ∧ KidsAt W y.kids kvy ∧ PathTo W N (off + k * 9) y kvy L b' o' x kv'
theorem PathTo.snoc {W : World} {N off n c k : Nat} {y : Nd} {kvy : Value} : ∀ {P : List Int} {b o : Nat} {t : Nd} {kv : Value} {b' o' : Nat} {x : Nd} {kv' : Value}, PathTo W b o t kv P b' o' x kv' → kv' = .slice (some ⟨N, off, none⟩) n c → x.kids[k]? = some y → Cells W N (off + k * 9) y.hd kvy → KidsAt W y.kids kvy → PathTo W b o t kv (P ++ [(k : Int)]) N (off + k * 9) y kvy
  | [], b, o, t, kv, b', o', x, kv', ⟨e1, e2, e3, e4⟩, hv, h1, h2, h3 => by
    subst e1 e2 e3 e4
    exact ⟨N, off, n, c, k, y, kvy, hv, rfl, h1, h2, h3, rfl, rfl, rfl, rfl⟩
  | i :: L, b, o, t, kv, b', o', x, kv', ⟨N0, off0, n0, c0, k0, y0, kv0, e1, e2, e3, e4, e5, e6⟩, hv, h1, h2, h3 =>
    ⟨N0, off0, n0, c0, k0, y0, kv0, e1, e2, e3, e4, e5, e6.snoc hv h1 h2 h3⟩
theorem PathTo.fin {W : World} : ∀ {P : List Int} {b o : Nat} {t : Nd} {kv : Value} {b' o' : Nat} {x : Nd} {kv' : Value}, PathTo W b o t kv P b' o' x kv' → Cells W b o t.hd kv → KidsAt W t.kids kv → Cells W b' o' x.hd kv' ∧ KidsAt W x.kids kv'
  | [], b, o, t, kv, b', o', x, kv', ⟨e1, e2, e3, e4⟩, h1, h2 => by
    subst e1 e2 e3 e4
    exact ⟨h1, h2⟩
  | i :: L, b, o, t, kv, b', o', x, kv', ⟨N0, off0, n0, c0, k0, y0, kv0, e1, e2, e3, e4, e5, e6⟩, h1, h2 => e6.fin e4 e5
/-- What follow answers. -/
def FolIs (W : World) (b o : Nat) (t : Nd) (kv : Value) (way : List Int) (e : Ending) : Prop :=
  (getN t way = none ∧ e = .returned (.pointer none)) ∨ (∃ b' o' x kv', getN t way = some x ∧ PathTo W b o t kv way b' o' x kv' ∧ e = .returned (.pointer (some ⟨b', o', none⟩)))
set_option maxRecDepth 100000 in
set_option maxHeartbeats 8000000 in
theorem follow_any (b o : Nat) (t : Nd) (kv : Value) (way : List Int) (vw : Value) (w : World) (hc : Cells w b o t.hd kv) (hk : KidsAt w t.kids kv) (hw : SlI w vw way) (hl : way.length ≤ 2000000) :
    Calls Try.prog 24 #[.pointer (some ⟨b, o, none⟩), vw] w fun e w' => FolIs w b o t kv way e ∧ w' = w := by
  obtain ⟨a, cap, rfl, hc1, hc2, hx⟩ := hw
  have Hx := Lib.hid hx
  have HC := Lib.hid hc
  have HK := Lib.hid hk
  clear hx hc hk
  obtain ⟨R, hR⟩ : ∃ R : Ending → Prop, Hid (FolIs w b o t kv way = R) := ⟨_, Lib.hid rfl⟩
  rw [hR.out]
  obtain ⟨L, hL⟩ : ∃ L, Hid (way.length = L) := ⟨_, Lib.hid rfl⟩
  rw [hL.out] at hc1 hl
  rw [hL.out]
  have hc2' := hc2
  unfold maxLen at hc2'
  go_enter Try.func24, Try.ntmps24
  go_wp2_with fail
  go_loopw [0, 9] (fun p c wr => ∃ (k b' o' : Nat) (x : Nd) (kv' : Value), p = .pointer (some ⟨b', o', none⟩) ∧ c = .int .i64 k ∧ k ≤ L ∧ wr = w ∧ Hid (PathTo w b o t kv (way.take k) b' o' x kv') ∧ Hid (getN t way = getN x (way.drop k))) (fun _ c _ => L - (intOf c).toNat)
  case atStart => exact ⟨0, b, o, t, kv, rfl, rfl, by omega, by trivial, Lib.hid ⟨rfl, rfl, rfl, rfl⟩, Lib.hid rfl⟩
  case round =>
    obtain ⟨k, b', o', x, kv', rfl, rfl, hk, rfl, hP, hG⟩ := hrel
    have hend := hP.out.fin HC.out HK.out
    obtain ⟨ak, ck, rfl, hk1, hk2, hkx⟩ := hend.2.get
    have Hkx := Lib.hid hkx
    have d8 := hend.1.c8
    obtain ⟨M, hM⟩ : ∃ M, Hid (x.kids.length = M) := ⟨_, Lib.hid rfl⟩
    rw [hM.out] at d8 hk1
    have hk2' := hk2
    unfold maxLen at hk2'
    clear hend hkx
    by_cases hlt : k < L
    · obtain ⟨i, hi⟩ : ∃ i, Hid (way[k]? = some i) := ⟨_, Lib.hid (List.getElem?_eq_getElem (by rw [hL.out]; exact hlt))⟩
      obtain ⟨bw, ow, rfl, cw⟩ := Hx.out k i hi.out
      have hdr : Hid (way.drop k = i :: way.drop (k + 1)) := Lib.hid (by
        have h := hi.out
        obtain ⟨h1, h2⟩ := List.getElem?_eq_some_iff.1 h
        rw [List.drop_eq_getElem_cons h1, h2])
      have p0 : (k : Int) < (L : Int) := by omega
      have p1 : (0 : Int) ≤ (k : Int) := by omega
      by_cases hin : 0 ≤ i ∧ i < (M : Int)
      · obtain ⟨j, rfl⟩ := Int.eq_ofNat_of_zero_le hin.1
        have hjM : j < M := by omega
        obtain ⟨y, hy⟩ : ∃ y, Hid (x.kids[j]? = some y) := ⟨_, Lib.hid (List.getElem?_eq_getElem (by rw [hM.out]; exact hjM))⟩
        obtain ⟨bk, ok, kvy, rfl, cs, hky⟩ := Hkx.out j y hy.out
        have f1 : decide ((j : Int) < 0) = false := decide_eq_false (by omega)
        have f2 : decide ((M : Int) ≤ (j : Int)) = false := decide_eq_false (by omega)
        have f3 : (j : Int) < (M : Int) := by omega
        have f4 : (0 : Int) ≤ (j : Int) := by omega
        have hP2 : Hid (PathTo wr b o t kv (way.take (k + 1)) bk (ok + j * 9) y kvy) := Lib.hid (by
          rw [List.take_add_one, hi.out]
          exact hP.out.snoc rfl hy.out cs hky)
        have hG2 : Hid (getN t way = getN y (way.drop (k + 1))) := Lib.hid (by rw [hG.out, hdr.out, getN_yes hy.out])
        clear cs hky hin
        go_wp2_with fail
        exact ⟨⟨k + 1, bk, ok + j * 9, y, kvy, rfl, by go_num, by omega, by trivial, hP2, hG2⟩, by simp [intOf]; omega⟩
      · have hG2 : Hid (R (.returned (.pointer none))) := Lib.hid (by
          rw [← hR.out]
          exact .inl ⟨by rw [hG.out, hdr.out]; exact getN_no (by rw [hM.out]; exact hin), rfl⟩)
        by_cases hneg : i < 0
        · have f1 : decide (i < 0) = true := decide_eq_true hneg
          clear hin hneg
          go_wp2_with fail
          go_ret
          exact ⟨hG2.out, rfl⟩
        · have f1 : decide (i < 0) = false := decide_eq_false hneg
          have f2 : decide ((M : Int) ≤ i) = true := decide_eq_true (by omega)
          clear hin hneg
          go_wp2_with fail
          go_ret
          exact ⟨hG2.out, rfl⟩
    · obtain rfl : k = L := by omega
      have hg3 : getN t way = some x := by
        rw [hG.out, List.drop_of_length_le (by rw [hL.out]; exact Nat.le_refl _)]
        rfl
      have hp3 := hP.out
      rw [List.take_of_length_le (by rw [hL.out]; exact Nat.le_refl _)] at hp3
      have hf3 : FolIs wr b o t kv way (.returned (.pointer (some ⟨b', o', none⟩))) := Or.inr ⟨b', o', x, _, hg3, hp3, rfl⟩
      rw [hR.out] at hf3
      have hfin := Lib.hid hf3
      clear hg3 hp3 hf3
      go_wp2_with fail
      go_ret
      exact ⟨hfin.out, rfl⟩
end Go.Proofs.Ytpnfjiglphogoac
