/-
  For the laws of weave: the pieces of three rows of units, by the program. Condition: at most 2,000 units a row.
-/
import Derived.Test.YtfjmhnnjgjcmeaaDoorWe
import Derived.Test.YtfjmhnnjgjcmeaaDoorWo
import Derived.OwnWalkIn
import Derived.TacticsInMore
import Derived.LoopNIn
import Derived.LoopIn
import Derived.Sort.CutIn
import Derived.Sort.QuietIn
import Derived.WalkMore
import Derived.Deep.Cut
import Derived.Deep.CutRange
import Derived.ControlIn
namespace Go.Proofs.YtfjmhnnjgjcmeaaDoor
open Go.RowKit Go.Shelf
set_option linter.unusedSimpArgs false
set_option linter.unusedVariables false

attribute [local go_sem] Oper.semAt_some

theorem infoPc : (Tryd.prog.info? 55).map (fun i => (i.zero, i.size, i.bytes)) = some (some (.agg #[.bool false, .slice none 0 0, .slice none 0 0, .slice none 0 0]), 4, 80) := by kernel_rfl
theorem take_more {α : Type} {l : List α} {k : Nat} {x : α} (h : l[k]? = some x) : l.take (k + 1) = l.take k ++ [x] := by rw [List.take_add_one, h]; rfl
theorem pc_new (W : World) (c : Bool) (x y z : Value) : ∀ j u, ([.bool c, x, y, z] : List Value)[j]? = some u → (W.alloc (.cells #[.bool c, x, y, z] 55)).cell? ((⟨W.heap.size, 0, none⟩ : Addr).add j) = some u := by
  intro j u hj
  rw [add_flat, Nat.zero_add]
  exact (RowAt.new W 55 _).cell (by simpa using hj)
theorem pc_one (c : Bool) (a1 a2 a3 : Option Addr) (n1 n2 n3 c1 c2 c3 : Nat) : ∀ u ∈ ([.bool c, .slice a1 n1 c1, .slice a2 n2 c2, .slice a3 n3 c3] : List Value), u.oneCell' = true := by
  intro u hu
  simp at hu
  rcases hu with rfl | rfl | rfl | rfl <;> rfl
/-- Lengths of what is open. -/
def St.few (n : Nat) (s : St) : Prop := ∀ q, s.2 = some q → q.1.length ≤ n ∧ q.2.length ≤ n
theorem fin_len (s : St) : s.fin.length ≤ s.1.length + 1 := by unfold St.fin; cases s.2 <;> simp
theorem add_len (o a b : TL) (s : St) (c : L.Ck) : (s.add o a b c).1.length ≤ s.1.length + 2 := by
  unfold St.add
  have := fin_len s
  split
  · simp; omega
  · split <;> simp
theorem stOf_len (o a b : TL) (l : List L.Ck) : (stOf o a b l).1.length ≤ 2 * l.length := by
  have : ∀ (l : List L.Ck) (s : St), (l.foldl (St.add o a b) s).1.length ≤ s.1.length + 2 * l.length := by
    intro l
    induction l with
    | nil => intro s; simp
    | cons c l ih =>
      intro s
      have h1 := ih (s.add o a b c)
      have h2 := add_len o a b s c
      rw [List.foldl_cons, List.length_cons]
      omega
  have h := this l ([], none)
  simpa [stOf] using h

theorem own_len {W : World} {base e size n : Nat} {v : Value} {xs : List Value} (h : W.ownsRow base e size v n xs) : ∃ ar cp, v = .slice ar n cp := by
  rcases h.2 with ⟨rfl, rfl⟩ | ⟨g, cap, cur, rfl, _⟩
  · exact ⟨_, _, rfl⟩
  · exact ⟨_, _, rfl⟩
theorem none_fin {n1 m : Nat} {W : World} {P : List Pv} {s : St} (h0 : P.length = 0) (h : Setl n1 m W P s.fin) : s.2.isNone = true := by
  have := h.1
  unfold St.fin at this
  cases hs : s.2 with
  | none => rfl
  | some q => rw [hs] at this; simp at this; omega
theorem L.wpAnyZIn_lax {F : Fence} {n : Nat} {P : Program} {ops : Array Oper} {Q : Exit → Act → World → Prop} {md : Region.Mode} {S : World → Prop} {zs : List Nat} : ∀ {fuel : Nat} {listed : Array Bool} {a : Act} {w : World}, L.wpAnyZIn F n P md ops Q S zs fuel listed a w → L.wpAnyZIn F n P md ops Q (fun _ => True) [] fuel listed a w
  | 0, _, _, _, h => h
  | fuel + 1, _, _, _, h => ⟨h.1, fun i hi => wpOpIn_mono (fun a' w' h' => ⟨fun _ => trivial, L.wpAnyZIn_lax h'.2⟩) (h.2 i hi)⟩
theorem fin_none {s : St} (h : s.2 = none) : s.fin = s.1 := by unfold St.fin; rw [h]; simp
theorem some_getD {s : St} (h : s.2.isNone = false) : (s.1, some (s.2.getD ([], []))) = s := by
  cases s with
  | mk x y => cases y with
    | none => cases h
    | some q => rfl
theorem last_cell {n1 m np q cp : Nat} {W : World} {P : List Pv} {s : St} {ar : Option Addr} (h0 : P.length = np) (hq : np = q + 1) (h1 : W.ownsRow n1 55 4 (.slice ar np cp) np (pvv P)) (h : Setl n1 m W P s.fin) (hok : s.ok) : ∃ g, ar = some ⟨g, 0, none⟩ ∧ W.cell? ⟨g, q * 4, none⟩ = some (.bool s.2.isNone) := by
  obtain ⟨g, cap, e1, -, -, -, -, -, hc⟩ := own_cells h1 (by omega)
  cases e1
  refine ⟨g, rfl, ?_⟩
  obtain ⟨p, hp⟩ := get_lt (l := P) (k := q) (by omega)
  obtain ⟨x, hx⟩ := get_lt (l := s.fin) (k := q) (by rw [← h.1]; omega)
  obtain ⟨e2, -⟩ := h.2 q p x hp hx
  have hl : s.fin.getLast? = some x := by rw [List.getLast?_eq_getElem?, ← h.1, h0, hq]; exact hx
  have hx2 : x.clash = s.2.isNone := by
    unfold St.fin at hl
    cases hs : s.2 with
    | none => rw [hs] at hl; exact hok hs x (by simpa using hl)
    | some q => rw [hs] at hl; simp at hl; rw [← hl]; rfl
  refine hc (q * 4) _ ?_
  have := pvv_get hp 0 (by decide)
  rw [Nat.add_zero] at this
  rw [this, ← hx2, ← e2]
  rfl
set_option maxRecDepth 100000 in
set_option maxHeartbeats 16000000 in
theorem combined_any (w : World) (v1 v2 v3 : Value) (o a b : TL) (h1 : L.Vals w v1 (o.map .string)) (h2 : L.Vals w v2 (a.map .string)) (h3 : L.Vals w v3 (b.map .string)) (l1 : o.length ≤ 2000) (l2 : a.length ≤ 2000) (l3 : b.length ≤ 2000) (hs1 : ∀ s ∈ o, s.size ≤ maxLen) (hs2 : ∀ s ∈ a, s.size ≤ maxLen) (hs3 : ∀ s ∈ b, s.size ≤ maxLen) :
    Calls Tryd.prog 23 #[v1, v2, v3] w fun e w' => ∃ (v : Value) (n1 : Nat) (P : List Pv), e = .returned v ∧ w'.ownsRow n1 55 4 v P.length (pvv P) ∧ Setl n1 w'.heap.size w' P (combP o a b) ∧ Below w.heap.size w w' := by
  have CP := Lib.hid (L.Parts_any v1 v2 v3 o a b w h1 h2 h3 l1 l2 l3 hs1 hs2 hs3)
  have J1 := Lib.hid h1
  have J2 := Lib.hid h2
  have J3 := Lib.hid h3
  obtain ⟨a1, c1, rfl, -⟩ := h1
  obtain ⟨a2, c2, rfl, -⟩ := h2
  obtain ⟨a3, c3, rfl, -⟩ := h3
  simp only [List.length_map] at CP J1 J2 J3 ⊢
  have Hok := Lib.hid (chunksT_ok l1 l2 l3)
  have hcl := chunksT_len (o := o) (a := a) (b := b)
  obtain ⟨CK, hCK⟩ : ∃ CK, Hid (L.chunksT o a b = CK) := ⟨_, Lib.hid rfl⟩
  rw [hCK.out] at CP Hok hcl
  clear hs1 hs2 hs3
  obtain ⟨i0, hi0, hz0, hz1, hz2⟩ := info_parts infoPc
  obtain ⟨i1, hi1, hy0, hy1, hy2⟩ := info_parts infoStr
  go_enter Tryd.func23, Tryd.ntmps23
  go_wp2_with fail
  go_step3
  go_wp2_with fail
  go_step3
  go_wp2_with fail
  refine CP.out.mono ?_
  rintro e w1 ⟨v, rfl, hown, hb1⟩
  obtain ⟨ac, cc, rfl, hn, hc1, hc2, hx⟩ := cks_at hown
  have HX := Lib.hid hx
  have B1 := Lib.hid hb1
  have hs1 := hb1.size
  clear hx hown hb1
  unfold maxLen at hc2
  obtain ⟨n, hnn⟩ : ∃ n, Hid (CK.length = n) := ⟨_, Lib.hid rfl⟩
  rw [hnn.out] at hc1 hcl
  rw [hnn.out]
  go_wp2_with fail
  go_loopw [7, 20] (fun ov c wr => ∃ k : Nat, c = .int .i64 k ∧ k ≤ n ∧ Hid (CbI w1.heap.size (stOf o a b (CK.take k)) ov wr) ∧ Hid (Below w1.heap.size w1 wr) ∧ Hid ((stOf o a b (CK.take k)).few (4000 * k))) (fun _ c _ => n - (intOf c).toNat)
  case atStart => exact ⟨0, rfl, Nat.zero_le _, Lib.hid ⟨[], _, Nat.le_refl _, Nat.le_refl _, ⟨rfl, by simp⟩, World.ownsRow_nil _ _ _ _⟩, Lib.hid (Below.refl _ _), Lib.hid (fun q h => by cases h)⟩
  case round =>
    obtain ⟨k, rfl, hk, hI, hB, hF⟩ := hrel
    obtain ⟨wo, rfl⟩ : ∃ wo, wo = wr := ⟨wr, rfl⟩
    have hbs := hB.out.size
    obtain ⟨s, hs⟩ : ∃ s, Hid (stOf o a b (CK.take k) = s) := ⟨_, Lib.hid rfl⟩
    have hsok : Hid s.ok := Lib.hid (by rw [← hs.out]; exact stOf_ok _ _ _ _)
    have hslen : s.1.length ≤ 2 * k := by
      have := stOf_len o a b (CK.take k)
      rw [hs.out, List.length_take] at this
      omega
    rw [hs.out] at hI hF
    rcases Nat.lt_or_ge k n with hlt | hlt
    · obtain ⟨c, hc⟩ := get_lt (l := CK) (k := k) (by rw [hnn.out]; exact hlt)
      obtain ⟨g, rfl, e0, e1, e2, e3, e4, e5, e6⟩ := HX.out wo hB.out k c hc
      obtain ⟨⟨p1, p2⟩, ⟨p3, p4⟩, p5, p6⟩ := Hok.out c (List.mem_of_getElem? hc)
      have hst : Hid (stOf o a b (CK.take (k + 1)) = s.add o a b c) := Lib.hid (by rw [take_more hc, stOf_snoc, hs.out])
      clear hc
      have d1 : decide (k < n) = true := decide_eq_true hlt
      have d2 : (0 : Int) ≤ (k : Int) := by omega
      have d3 : (k : Int) < (n : Int) := by omega
      obtain ⟨sx, hsx, fx⟩ := vals_cut (n1 := w1.heap.size) J1.out hs1 c.p.o c.q.o p1 p2
      obtain ⟨sy, hsy, fy⟩ := vals_cut (n1 := w1.heap.size) J2.out hs1 c.p.a c.q.a p3 p4
      obtain ⟨sz, hsz, fz⟩ := vals_cut (n1 := w1.heap.size) J3.out hs1 c.p.b c.q.b p5 p6
      have HU : Hid (∀ U, Below w1.heap.size w1 U → Below w.heap.size w U) := Lib.hid (fun U hU => B1.out.trans (hU.mono hs1))
      have Fx : Hid (∀ m U, Below w1.heap.size w1 U → SetV w1.heap.size m U sx (L.slc o c.p.o c.q.o)) := Lib.hid (fun m U hU => fx m U (HU.out U hU))
      have Fy : Hid (∀ m U, Below w1.heap.size w1 U → SetV w1.heap.size m U sy (L.slc a c.p.a c.q.a)) := Lib.hid (fun m U hU => fy m U (HU.out U hU))
      have Fz : Hid (∀ m U, Below w1.heap.size w1 U → SetV w1.heap.size m U sz (L.slc b c.p.b c.q.b)) := Lib.hid (fun m U hU => fz m U (HU.out U hU))
      obtain ⟨sxa, sxc, rfl, -⟩ := Fx.out 0 w1 (Below.refl _ _)
      obtain ⟨sya, syc, rfl, -⟩ := Fy.out 0 w1 (Below.refl _ _)
      obtain ⟨sza, szc, rfl, -⟩ := Fz.out 0 w1 (Below.refl _ _)
      obtain ⟨nx, hnx⟩ : ∃ m, Hid ((L.slc o c.p.o c.q.o).length = m) := ⟨_, Lib.hid rfl⟩
      obtain ⟨ny, hny⟩ : ∃ m, Hid ((L.slc a c.p.a c.q.a).length = m) := ⟨_, Lib.hid rfl⟩
      obtain ⟨nz, hnz⟩ : ∃ m, Hid ((L.slc b c.p.b c.q.b).length = m) := ⟨_, Lib.hid rfl⟩
      rw [hnx.out] at hsx Fx
      rw [hny.out] at hsy Fy
      rw [hnz.out] at hsz Fz
      have hnx2 : nx ≤ 2000 := by rw [← hnx.out, slc_len p2]; omega
      have hny2 : ny ≤ 2000 := by rw [← hny.out, slc_len p4]; omega
      have hnz2 : nz ≤ 2000 := by rw [← hnz.out, slc_len p6]; omega
      clear fx fy fz
      obtain ⟨P, hP1, hP2⟩ := hI.out.close
      have hPl : P.length ≤ 2 * k + 1 := by have h := hP2.1; have h2 := fin_len s; omega
      have hbd : P.length ≤ 12001 := by omega
      go_upto_region 5 with fail
      obtain ⟨W2, hW2⟩ : ∃ W2, Hid (wo.alloc (.cells #[.int .i64 c.kind, .int .i64 (c.p.o : Nat), .int .i64 (c.q.o : Nat), .int .i64 (c.p.a : Nat), .int .i64 (c.q.a : Nat), .int .i64 (c.p.b : Nat), .int .i64 (c.q.b : Nat)] 71) = W2) := ⟨_, Lib.hid rfl⟩
      have R2 : RowAt W2 wo.heap.size 71 #[.int .i64 c.kind, .int .i64 (c.p.o : Nat), .int .i64 (c.q.o : Nat), .int .i64 (c.p.a : Nat), .int .i64 (c.q.a : Nat), .int .i64 (c.p.b : Nat), .int .i64 (c.q.b : Nat)] := by rw [← hW2.out]; exact RowAt.new wo 71 _
      obtain ⟨y0, y1, y2, y3, y4, y5, y6⟩ : W2.cell? ⟨wo.heap.size, 0, none⟩ = some (.int .i64 c.kind) ∧ W2.cell? ⟨wo.heap.size, 1, none⟩ = some (.int .i64 (c.p.o : Nat)) ∧ W2.cell? ⟨wo.heap.size, 2, none⟩ = some (.int .i64 (c.q.o : Nat)) ∧ W2.cell? ⟨wo.heap.size, 3, none⟩ = some (.int .i64 (c.p.a : Nat)) ∧ W2.cell? ⟨wo.heap.size, 4, none⟩ = some (.int .i64 (c.q.a : Nat)) ∧ W2.cell? ⟨wo.heap.size, 5, none⟩ = some (.int .i64 (c.p.b : Nat)) ∧ W2.cell? ⟨wo.heap.size, 6, none⟩ = some (.int .i64 (c.q.b : Nat)) := ⟨R2.cell rfl, R2.cell rfl, R2.cell rfl, R2.cell rfl, R2.cell rfl, R2.cell rfl, R2.cell rfl⟩
      have B2 : Hid (Below wo.heap.size wo W2) := Lib.hid (by rw [← hW2.out]; exact (Below.refl _ wo).alloc (Nat.le_refl _) _)
      have I2 : Hid (∀ q, CbI w1.heap.size s u7 (W2.drewN q)) := Lib.hid (fun q => hI.out.below (below_draws B2.out q))
      have Bw : Hid (∀ q, Below w1.heap.size w1 (W2.drewN q)) := Lib.hid (fun q => hB.out.trans ((below_draws B2.out q).mono hbs))
      rw [hW2.out]
      clear e0 e1 e2 e3 e4 e5 e6
      go_quiet (fail)
      obtain ⟨V, hV⟩ : ∃ V, Hid (W2.drewN nq = V) := ⟨_, Lib.hid rfl⟩
      have IV : Hid (CbI w1.heap.size s u7 V) := Lib.hid (by rw [← hV.out]; exact I2.out nq)
      have BV : Hid (Below w1.heap.size w1 V) := Lib.hid (by rw [← hV.out]; exact Bw.out nq)
      have yV : V.cell? ⟨wo.heap.size, 0, none⟩ = some (.int .i64 c.kind) := by rw [← hV.out]; exact y0
      have hVs := BV.out.size
      rw [hV.out]
      clear y0 y1 y2 y3 y4 y5 y6 I2 Bw hV R2 B2 hW2 hP1 hP2 hI
      obtain ⟨P2, hp1, hp2⟩ := IV.out.close
      have hPl2 : P2.length ≤ 2 * k + 1 := by have h := hp2.1; have h2 := fin_len s; omega
      have Hp1 := Lib.hid hp1
      have Hp2 := Lib.hid hp2
      clear hp1 hp2
      by_cases h4 : c.kind = 4
      · have f4 : (c.kind == 4) = true := by simpa using h4
        have hadd : Hid (s.add o a b c = (s.fin ++ [⟨true, L.slc o c.p.o c.q.o, L.slc a c.p.a c.q.a, L.slc b c.p.b c.q.b⟩], none)) := Lib.hid (by unfold St.add; rw [if_pos h4])
        clear h4
        have own2 := Lib.hid (Hp1.out.alloc (.cells #[.bool true, .slice sxa nx sxc, .slice sya ny syc, .slice sza nz szc] 55))
        go_wp2_with (at_builtin; refine wpList_append_own _ rfl _ _ 52 rfl w1.heap.size 55 i0 _ 4 80 Tryd.underlying52 hi0 hz0 hz1 hz2 rfl (by decide) _ P2.length _ rfl own2.out ⟨V.heap.size, 0, none⟩ 1 1 [.bool true, .slice sxa nx sxc, .slice sya ny syc, .slice sza nz szc] rfl rfl (pc_new V true _ _ _) (pc_one true sxa sya sza nx ny nz sxc syc szc) (by unfold maxLen; omega) (by omega) (by simp; omega) ?_; intro v' w2 hown' hgrow _)
        have hbA : Below V.heap.size V (V.alloc (.cells #[.bool true, .slice sxa nx sxc, .slice sya ny syc, .slice sza nz szc] 55)) := (Below.refl _ V).alloc (Nat.le_refl _) _
        have hkA := KpM.below (n1 := w1.heap.size) (m := V.heap.size) hVs hbA
        have hs2 := (Hp2.out.keep hkA).mono hbA.size
        have hnA : w1.heap.size ≤ (V.alloc (.cells #[.bool true, .slice sxa nx sxc, .slice sya ny syc, .slice sza nz szc] 55)).heap.size := Nat.le_trans hVs hbA.size
        have hbw2 : Below w1.heap.size w1 w2 := (BV.out.trans hkA.1).trans (kpm_grown own2.out hnA hgrow 0).1
        have hfin := CbI.clash (n := 0) (s := s) own2.out hs2 hnA hown' hgrow (fun m => Fx.out m w2 hbw2) (fun m => Fy.out m w2 hbw2) (fun m => Fz.out m w2 hbw2)
        have Hfin : Hid (CbI w1.heap.size (stOf o a b (CK.take (k + 1))) v' w2) := Lib.hid (by rw [hst.out, hadd.out]; exact hfin)
        have Hbw2 := Lib.hid hbw2
        have Hfew : Hid ((stOf o a b (CK.take (k + 1))).few (4000 * (k + 1))) := Lib.hid (by rw [hst.out, hadd.out]; intro q h; cases h)
        clear hfin hbw2 hown' hgrow hs2 hkA hbA
        go_wp2_with fail
        exact ⟨⟨k + 1, by go_num, by omega, Hfin, Hbw2, Hfew⟩, by simp [intOf]; omega⟩
      · have f4 : (c.kind == 4) = false := by simpa using h4
        have hadd : Hid (s.add o a b c = (s.1, some ((s.2.getD ([], [])).1 ++ L.slc o c.p.o c.q.o, (s.2.getD ([], [])).2 ++ yOf a b c))) := Lib.hid (by unfold St.add; rw [if_neg h4]; cases s.2 <;> rfl)
        clear h4
        obtain ⟨kb, hkb⟩ : ∃ kb, Hid ((c.kind == 2) = kb) := ⟨_, Lib.hid rfl⟩
        have f2 := hkb.out
        obtain ⟨ar, cp, rfl⟩ := own_len Hp1.out
        obtain ⟨np, hnp⟩ : ∃ m, Hid (P2.length = m) := ⟨_, Lib.hid rfl⟩
        rw [hnp.out] at hPl2 Hp1
        rw [hnp.out]
        rw [hnp.out] at IV
        have hlast : Hid (∀ q, np = q + 1 → ∃ g, ar = some ⟨g, 0, none⟩ ∧ V.cell? ⟨g, q * 4, none⟩ = some (.bool s.2.isNone)) := Lib.hid (by
          intro q hq
          exact last_cell hnp.out hq Hp1.out Hp2.out hsok.out)
        have hnone : Hid (np = 0 → s.2.isNone = true) := Lib.hid (fun h0 => none_fin (hnp.out.trans h0) Hp2.out)
        obtain ⟨tb, htb⟩ : ∃ tb, Hid (s.2.isNone = tb) := ⟨_, Lib.hid rfl⟩
        rw [htb.out] at hlast hnone
        cases kb with
        | true =>
          have hy : yOf a b c = L.slc b c.p.b c.q.b := by unfold yOf; rw [if_pos (by simpa using f2)]
          have Fv : Hid (∀ m U, Below w1.heap.size w1 U → SetV w1.heap.size m U (.slice sza nz szc) (yOf a b c)) := by rw [hy]; exact Fz
          have hnv : Hid (nz = (yOf a b c).length) := Lib.hid (by rw [hy]; exact hnz.out.symm)
          clear hy
          go_upto_region 12 with fail
          go_cut [73] from 64 to 73 (fun c wx => c = .bool tb ∧ V = wx)
          case first =>
            rcases Nat.eq_zero_or_pos np with h0 | h0
            · have ht : tb = true := hnone.out h0
              subst h0
              subst ht
              go_wp2_with fail
              go_meet
              exact ⟨rfl, rfl⟩
            · obtain ⟨q, rfl⟩ : ∃ q, np = q + 1 := ⟨np - 1, by omega⟩
              obtain ⟨g2, rfl, hcell⟩ := hlast.out q rfl
              have z1 : (((q + 1 : Nat) : Int) == 0) = false := by simpa using (show ¬ ((q + 1 : Nat) : Int) = 0 by omega)
              have z0 : (((q + 1 : Nat) : Int) - 1) = (q : Int) := by omega
              have z2 : IntKind.i64.wrap (q : Int) = (q : Int) := Go.IntWalk.i64_in (q : Int) (by omega)
              go_wp2_with fail
              go_meet
              exact ⟨rfl, rfl⟩
          case rest =>
          obtain ⟨rfl, rfl⟩ := hcut
          go_upto_if 73 with fail
          go_cut [7] from 74 to 77 (fun v wx => ∃ ar2 n2 cp2, v = .slice ar2 n2 cp2 ∧ Hid (CbI w1.heap.size (s.1, some (s.2.getD ([], []))) (.slice ar2 n2 cp2) wx) ∧ Hid (Below w1.heap.size w1 wx))
          case first =>
            cases tb with
            | true =>
              have own2 := Lib.hid (Hp1.out.alloc (.cells #[.bool false, .slice none 0 0, .slice none 0 0, .slice none 0 0] 55))
              go_wp2_with (at_builtin; refine wpList_append_own _ rfl _ _ 52 rfl w1.heap.size 55 i0 _ 4 80 Tryd.underlying52 hi0 hz0 hz1 hz2 rfl (by decide) _ np _ rfl own2.out ⟨V.heap.size, 0, none⟩ 1 1 [.bool false, .slice none 0 0, .slice none 0 0, .slice none 0 0] rfl rfl (pc_new V false _ _ _) (pc_one false none none none 0 0 0 0 0 0) (by unfold maxLen; omega) (by omega) (by simp; omega) ?_; intro v' w2 hown' hgrow _)
              have hbA : Below V.heap.size V (V.alloc (.cells #[.bool false, .slice none 0 0, .slice none 0 0, .slice none 0 0] 55)) := (Below.refl _ V).alloc (Nat.le_refl _) _
              have hkA := KpM.below (n1 := w1.heap.size) (m := V.heap.size) hVs hbA
              have hs2 := (Hp2.out.keep hkA).mono hbA.size
              have hnA : w1.heap.size ≤ (V.alloc (.cells #[.bool false, .slice none 0 0, .slice none 0 0, .slice none 0 0] 55)).heap.size := Nat.le_trans hVs hbA.size
              have hbw2 : Below w1.heap.size w1 w2 := (BV.out.trans hkA.1).trans (kpm_grown own2.out hnA hgrow 0).1
              have hs0 : s.2 = none := by simpa using htb.out
              rw [fin_none hs0] at hs2
              have own3 : (V.alloc (.cells #[.bool false, .slice none 0 0, .slice none 0 0, .slice none 0 0] 55)).ownsRow w1.heap.size 55 4 (.slice ar np cp) P2.length (pvv P2) := by rw [hnp.out]; exact own2.out
              have hown3 : w2.ownsRow w1.heap.size 55 4 v' (P2.length + 1) (pvv P2 ++ [.bool false, .slice none 0 0, .slice none 0 0, .slice none 0 0]) := by rw [hnp.out]; exact hown'
              have hfin := CbI.open_ (n := 0) own3 hs2 hnA hown3 hgrow
              rw [show ([], []) = s.2.getD ([], []) by rw [hs0]; rfl] at hfin
              obtain ⟨ar2, cp2, rfl⟩ := own_len hown'
              have Hfin := Lib.hid hfin
              have Hbw2 := Lib.hid hbw2
              clear hfin hbw2 hown' hgrow hs2 hkA hbA own3 hown3
              go_wp2_with fail
              go_meet
              exact ⟨_, _, _, rfl, Hfin, Hbw2⟩
            | false =>
              have Hfin : Hid (CbI w1.heap.size (s.1, some (s.2.getD ([], []))) (.slice ar np cp) V) := Lib.hid (by rw [some_getD htb.out]; exact IV.out)
              go_wp2_with fail
              go_meet
              exact ⟨_, _, _, rfl, Hfin, BV⟩
          case rest =>
          obtain ⟨ar2, n2, cp2, rfl, IW, BW⟩ := hcut
          have hqf : (s.2.getD ([], [])).1.length ≤ 4000 * k ∧ (s.2.getD ([], [])).2.length ≤ 4000 * k := by
            cases hq : s.2 with
            | none => simp
            | some q => exact hF.out q hq
          obtain ⟨q, hq⟩ : ∃ q, Hid (s.2.getD ([], []) = q) := ⟨_, Lib.hid rfl⟩
          rw [hq.out] at IW hqf hadd
          obtain ⟨g3, cp3, np3, P, m, vo, va, e3, hnp3, ho⟩ := Opn.of IW.out
          cases e3
          have hPl3 : np3 ≤ 2 * k := by rw [hnp3]; exact hslen
          clear Hp1 Hp2 hlast hnone hnp3 IW
          have z0 : (((np3 + 1 : Nat) : Int) - 1) = (np3 : Int) := by omega
          have z2 : IntKind.i64.wrap (np3 : Int) = (np3 : Int) := Go.IntWalk.i64_in (np3 : Int) (by omega)
          have z3 : (0 : Int) ≤ (np3 : Int) := by omega
          have z4 : (np3 : Int) < ((np3 + 1 : Nat) : Int) := by omega
          go_upto_region 15 with fail
          refine (wpIn_wide (n := 1)).1 ?_
          refine L.wpIn_region_Z (S := fun _ => True) (zs := []) (by kernel_rfl) ?_
          have hS : True := trivial
          obtain ⟨W3, hW3⟩ : ∃ W3, Hid (wc.drew = W3) := ⟨_, Lib.hid rfl⟩
          have hbd3 : Below wc.heap.size wc W3 := by rw [← hW3.out]; exact below_draws (Below.refl _ _) 1
          have HO := Lib.hid (ho.below hbd3)
          have BW3 : Hid (Below w1.heap.size w1 W3) := Lib.hid (BW.out.trans (hbd3.mono BW.out.size))
          rw [hW3.out]
          clear ho hbd3
          simp only [List.size_toArray, List.length_cons, List.length_nil, Nat.reduceAdd, Array.replicate_succ, Array.replicate_zero, List.push_toArray, List.nil_append, List.cons_append]
          refine L.wpAnyZIn_takeF 12 (i := 1) (oi := { dst := some 84, op := Op.move (Operand.tmp 14), type := 72, pos := "weave.go:58", after := #[{ on := 16, ground := Ground.gcOnly Departure.lateStores }], guard := none }) (v := ?_) rfl (by kernel_rfl) (by kernel_rfl) (by kernel_rfl) (by kernel_rfl) (by kernel_rfl) (by kernel_rfl) (fun _ _ _ h => h) (Or.inl ⟨by rfl, ?_⟩) (fun _ => rfl) hS ?_
          rotate_left
          · intro w hSw
            skip
            go_simp
            try with_reducible rfl
          try simp only [Act.put, List.setIfInBounds_toArray, List.set_cons_zero, List.set_cons_succ]
          clear hS
          refine L.wpAnyZIn_lax (S := fun U => U.cell? ⟨g3, np3 * 4 + 1, none⟩ = some vo ∧ U.cell? ⟨g3, np3 * 4 + 2, none⟩ = some va) (zs := [16, 17, 18, 19]) ?_
          have hS : W3.cell? ⟨g3, np3 * 4 + 1, none⟩ = some vo ∧ W3.cell? ⟨g3, np3 * 4 + 2, none⟩ = some va := ⟨HO.out.cells.1.1, HO.out.cells.2.1⟩
          refine L.wpAnyZIn_takeF 12 (i := 0) (oi := { dst := some 83, op := Op.move (Operand.tmp 14), type := 72, pos := "weave.go:58", after := #[], guard := none }) (v := ?_) rfl (by kernel_rfl) (by kernel_rfl) (by kernel_rfl) (by kernel_rfl) (by kernel_rfl) (by kernel_rfl) (fun _ _ _ h => h) (Or.inl ⟨by rfl, ?_⟩) (fun _ => rfl) hS ?_
          rotate_left
          · intro w hSw
            obtain ⟨x1, x2⟩ := hSw
            go_simp
            try with_reducible rfl
          try simp only [Act.put, List.setIfInBounds_toArray, List.set_cons_zero, List.set_cons_succ]
          refine L.wpAnyZIn_takeF 12 (i := 2) (oi := { dst := some 85, op := Op.move (Operand.tmp 14), type := 72, pos := "weave.go:58", after := #[], guard := none }) (v := ?_) rfl (by kernel_rfl) (by kernel_rfl) (by kernel_rfl) (by kernel_rfl) (by kernel_rfl) (by kernel_rfl) (fun _ _ _ h => h) (Or.inl ⟨by rfl, ?_⟩) (fun _ => rfl) hS ?_
          rotate_left
          · intro w hSw
            obtain ⟨x1, x2⟩ := hSw
            go_simp
            try with_reducible rfl
          try simp only [Act.put, List.setIfInBounds_toArray, List.set_cons_zero, List.set_cons_succ]
          refine L.wpAnyZIn_takeF 12 (i := 3) (oi := { dst := some 86, op := Op.nilCheck (Operand.tmp 85), type := 0, pos := "weave.go:58", after := #[{ on := 2, ground := Ground.data }], guard := none }) (v := ?_) rfl (by kernel_rfl) (by kernel_rfl) (by kernel_rfl) (by kernel_rfl) (by kernel_rfl) (by kernel_rfl) (fun _ _ _ h => h) (Or.inl ⟨by rfl, ?_⟩) (fun _ => rfl) hS ?_
          rotate_left
          · intro w hSw
            obtain ⟨x1, x2⟩ := hSw
            go_simp
            try with_reducible rfl
          try simp only [Act.put, List.setIfInBounds_toArray, List.set_cons_zero, List.set_cons_succ]
          refine L.wpAnyZIn_takeF 12 (i := 4) (oi := { dst := some 87, op := Op.fieldAddr 55 (Operand.tmp 86) 1, type := 0, pos := "weave.go:58", after := #[{ on := 3, ground := Ground.data }], guard := none }) (v := ?_) rfl (by kernel_rfl) (by kernel_rfl) (by kernel_rfl) (by kernel_rfl) (by kernel_rfl) (by kernel_rfl) (fun _ _ _ h => h) (Or.inl ⟨by rfl, ?_⟩) (fun _ => rfl) hS ?_
          rotate_left
          · intro w hSw
            obtain ⟨x1, x2⟩ := hSw
            go_simp
            try with_reducible rfl
          try simp only [Act.put, List.setIfInBounds_toArray, List.set_cons_zero, List.set_cons_succ]
          refine L.wpAnyZIn_takeF 12 (i := 5) (oi := { dst := some 88, op := Op.load 33 (Operand.tmp 87), type := 33, pos := "weave.go:58", after := #[{ on := 4, ground := Ground.data }], guard := none }) (v := ?_) rfl (by kernel_rfl) (by kernel_rfl) (by kernel_rfl) (by kernel_rfl) (by kernel_rfl) (by kernel_rfl) (fun _ _ _ h => h) (Or.inl ⟨by rfl, ?_⟩) (fun _ => rfl) hS ?_
          rotate_left
          · intro w hSw
            obtain ⟨x1, x2⟩ := hSw
            go_simp
            try with_reducible rfl
          try simp only [Act.put, List.setIfInBounds_toArray, List.set_cons_zero, List.set_cons_succ]
          refine L.wpAnyZIn_takeF 12 (i := 6) (oi := { dst := some 89, op := Op.move (Operand.tmp 10), type := 33, pos := "weave.go:58", after := #[], guard := none }) (v := ?_) rfl (by kernel_rfl) (by kernel_rfl) (by kernel_rfl) (by kernel_rfl) (by kernel_rfl) (by kernel_rfl) (fun _ _ _ h => h) (Or.inl ⟨by rfl, ?_⟩) (fun _ => rfl) hS ?_
          rotate_left
          · intro w hSw
            obtain ⟨x1, x2⟩ := hSw
            go_simp
            try with_reducible rfl
          try simp only [Act.put, List.setIfInBounds_toArray, List.set_cons_zero, List.set_cons_succ]
          refine L.wpAnyZIn_takeF 12 (i := 8) (oi := { dst := some 91, op := Op.move (Operand.tmp 14), type := 72, pos := "weave.go:58", after := #[], guard := none }) (v := ?_) rfl (by kernel_rfl) (by kernel_rfl) (by kernel_rfl) (by kernel_rfl) (by kernel_rfl) (by kernel_rfl) (fun _ _ _ h => h) (Or.inl ⟨by rfl, ?_⟩) (fun _ => rfl) hS ?_
          rotate_left
          · intro w hSw
            obtain ⟨x1, x2⟩ := hSw
            go_simp
            try with_reducible rfl
          try simp only [Act.put, List.setIfInBounds_toArray, List.set_cons_zero, List.set_cons_succ]
          refine L.wpAnyZIn_takeF 12 (i := 9) (oi := { dst := some 92, op := Op.nilCheck (Operand.tmp 91), type := 0, pos := "weave.go:58", after := #[{ on := 8, ground := Ground.data }], guard := none }) (v := ?_) rfl (by kernel_rfl) (by kernel_rfl) (by kernel_rfl) (by kernel_rfl) (by kernel_rfl) (by kernel_rfl) (fun _ _ _ h => h) (Or.inl ⟨by rfl, ?_⟩) (fun _ => rfl) hS ?_
          rotate_left
          · intro w hSw
            obtain ⟨x1, x2⟩ := hSw
            go_simp
            try with_reducible rfl
          try simp only [Act.put, List.setIfInBounds_toArray, List.set_cons_zero, List.set_cons_succ]
          refine L.wpAnyZIn_takeF 12 (i := 10) (oi := { dst := some 93, op := Op.fieldAddr 55 (Operand.tmp 92) 2, type := 0, pos := "weave.go:58", after := #[{ on := 9, ground := Ground.data }], guard := none }) (v := ?_) rfl (by kernel_rfl) (by kernel_rfl) (by kernel_rfl) (by kernel_rfl) (by kernel_rfl) (by kernel_rfl) (fun _ _ _ h => h) (Or.inl ⟨by rfl, ?_⟩) (fun _ => rfl) hS ?_
          rotate_left
          · intro w hSw
            obtain ⟨x1, x2⟩ := hSw
            go_simp
            try with_reducible rfl
          try simp only [Act.put, List.setIfInBounds_toArray, List.set_cons_zero, List.set_cons_succ]
          refine L.wpAnyZIn_takeF 12 (i := 11) (oi := { dst := some 94, op := Op.load 33 (Operand.tmp 93), type := 33, pos := "weave.go:58", after := #[{ on := 10, ground := Ground.data }], guard := none }) (v := ?_) rfl (by kernel_rfl) (by kernel_rfl) (by kernel_rfl) (by kernel_rfl) (by kernel_rfl) (by kernel_rfl) (fun _ _ _ h => h) (Or.inl ⟨by rfl, ?_⟩) (fun _ => rfl) hS ?_
          rotate_left
          · intro w hSw
            obtain ⟨x1, x2⟩ := hSw
            go_simp
            try with_reducible rfl
          try simp only [Act.put, List.setIfInBounds_toArray, List.set_cons_zero, List.set_cons_succ]
          refine L.wpAnyZIn_takeF 12 (i := 12) (oi := { dst := some 95, op := Op.move (Operand.tmp 11), type := 33, pos := "weave.go:58", after := #[], guard := none }) (v := ?_) rfl (by kernel_rfl) (by kernel_rfl) (by kernel_rfl) (by kernel_rfl) (by kernel_rfl) (by kernel_rfl) (fun _ _ _ h => h) (Or.inl ⟨by rfl, ?_⟩) (fun _ => rfl) hS ?_
          rotate_left
          · intro w hSw
            obtain ⟨x1, x2⟩ := hSw
            go_simp
            try with_reducible rfl
          try simp only [Act.put, List.setIfInBounds_toArray, List.set_cons_zero, List.set_cons_succ]
          have hl1 := hnx.out
          have hl2 := hnv.out
          refine L.wpAnyZIn_one (i := 7) (by kernel_rfl) rfl (fun K hK => ?_)
          refine stepIn_append_strs W3 rfl _ _ rfl m w1.heap.size m vo q.1.length _ rfl HO.out.o (.slice sxa nx sxc) _ rfl (Fx.out m W3 BW3.out) (by omega) HO.out.le2 ?_
          intro v1 W4 ho4 hg4 hv4
          obtain ⟨r1, j1, t1, rfl⟩ := own_slice ho4
          obtain ⟨h4, k4⟩ := HO.out.after_o ho4 hg4 hv4
          refine hK.out _ _ (fun _ => ⟨h4.cells.1.1, h4.cells.2.1⟩) ?_
          simp only [Act.put, List.setIfInBounds_toArray, List.set_cons_zero, List.set_cons_succ]
          clear hK K hS ho4 hg4 hv4
          have B4 : Below w1.heap.size w1 W4 := BW3.out.trans k4.1
          clear k4
          refine L.wpAnyZIn_one (i := 13) (by kernel_rfl) rfl (fun K hK => ?_)
          refine stepIn_append_strs W4 rfl _ _ rfl m w1.heap.size m va q.2.length _ rfl h4.a (.slice sza nz szc) _ rfl (Fv.out m W4 B4) (by omega) h4.le2 ?_
          intro v2 W5 ho5 hg5 hv5
          obtain ⟨r2, j2, t2, rfl⟩ := own_slice ho5
          obtain ⟨h5, k5⟩ := h4.after_a ho5 hg5 hv5
          have hS5 : W5.cell? ⟨g3, np3 * 4 + 1, none⟩ = some vo ∧ W5.cell? ⟨g3, np3 * 4 + 2, none⟩ = some va := ⟨h5.cells.1.1, h5.cells.2.1⟩
          refine hK.out _ _ (fun _ => hS5) ?_
          simp only [Act.put, List.setIfInBounds_toArray, List.set_cons_zero, List.set_cons_succ]
          clear hK K ho5 hg5 hv5
          have B5 : Below w1.heap.size w1 W5 := B4.trans k5.1
          obtain ⟨⟨y1, f1⟩, -⟩ := h5.cells
          obtain ⟨h6, k6⟩ := h5.store1 (.slice r1 j1 t1)
          have B6 : Below w1.heap.size w1 (W5.setCell ⟨g3, np3 * 4 + 1, none⟩ (.slice r1 j1 t1)) := B5.trans k6.1
          obtain ⟨W6, hW6⟩ : ∃ V, Hid (W5.setCell ⟨g3, np3 * 4 + 1, none⟩ (.slice r1 j1 t1) = V) := ⟨_, Lib.hid rfl⟩
          rw [hW6.out] at h6 B6
          have H6 := Lib.hid h6
          clear h4 k5 B4 h5 k6 h6 B5
          refine L.wpAnyZIn_one (i := 14) (by kernel_rfl) rfl (fun K hK => ?_)
          go_simp
          refine hK.out _ _ (fun _ => hS5) ?_
          clear hK K
          refine L.wpAnyZIn_one (i := 15) (by kernel_rfl) rfl (fun K hK => ?_)
          go_simp
          refine hK.out _ _ (fun _ => hS5) ?_
          clear hK K hS5
          refine L.wpAnyZIn_one (i := 16) (by kernel_rfl) rfl (fun K hK => ?_)
          go_simp
          rw [hW6.out]
          refine hK.out _ _ (fun h => absurd (by decide) h) ?_
          clear hK K y1 f1 hW6
          obtain ⟨-, y2, f2'⟩ := H6.out.cells
          obtain ⟨h7, k7⟩ := H6.out.store2 (.slice r2 j2 t2)
          have B7 := B6.trans k7.1
          obtain ⟨W7, hW7⟩ : ∃ V, Hid (W6.setCell ⟨g3, np3 * 4 + 2, none⟩ (.slice r2 j2 t2) = V) := ⟨_, Lib.hid rfl⟩
          rw [hW7.out] at h7 B7
          have H7 := Lib.hid h7
          have Hb7 := Lib.hid B7
          clear h7 k7 B7
          refine L.wpAnyZIn_one (i := 17) (by kernel_rfl) rfl (fun K hK => ?_)
          go_simp
          refine hK.out _ _ (fun h => absurd (by decide) h) ?_
          clear hK K
          refine L.wpAnyZIn_one (i := 18) (by kernel_rfl) rfl (fun K hK => ?_)
          go_simp
          refine hK.out _ _ (fun h => absurd (by decide) h) ?_
          clear hK K
          refine L.wpAnyZIn_one (i := 19) (by kernel_rfl) rfl (fun K hK => ?_)
          go_simp
          rw [hW7.out]
          refine hK.out _ _ (fun h => absurd (by decide) h) ?_
          clear hK K y2 f2' hW7
          refine L.wpAnyZIn_done (by kernel_rfl) ?_ _
          have Hfin : Hid (CbI w1.heap.size (stOf o a b (CK.take (k + 1))) (.slice (some ⟨g3, 0, none⟩) (np3 + 1) cp2) W7) := Lib.hid (by rw [hst.out, hadd.out]; exact H7.out.to)
          have Hfew : Hid ((stOf o a b (CK.take (k + 1))).few (4000 * (k + 1))) := Lib.hid (by
            rw [hst.out, hadd.out]
            intro q' h
            cases h
            simp only [List.length_append]
            omega)
          clear H7 HO H6 hl1 hl2
          go_wp2_with fail
          exact ⟨⟨k + 1, by go_num, by omega, Hfin, Hb7, Hfew⟩, by simp [intOf]; omega⟩
        | false =>
          have hy : yOf a b c = L.slc a c.p.a c.q.a := by unfold yOf; rw [if_neg (by simpa using f2)]
          have Fv : Hid (∀ m U, Below w1.heap.size w1 U → SetV w1.heap.size m U (.slice sya ny syc) (yOf a b c)) := by rw [hy]; exact Fy
          have hnv : Hid (ny = (yOf a b c).length) := Lib.hid (by rw [hy]; exact hny.out.symm)
          clear hy
          go_upto_region 12 with fail
          go_cut [73] from 64 to 73 (fun c wx => c = .bool tb ∧ V = wx)
          case first =>
            rcases Nat.eq_zero_or_pos np with h0 | h0
            · have ht : tb = true := hnone.out h0
              subst h0
              subst ht
              go_wp2_with fail
              go_meet
              exact ⟨rfl, rfl⟩
            · obtain ⟨q, rfl⟩ : ∃ q, np = q + 1 := ⟨np - 1, by omega⟩
              obtain ⟨g2, rfl, hcell⟩ := hlast.out q rfl
              have z1 : (((q + 1 : Nat) : Int) == 0) = false := by simpa using (show ¬ ((q + 1 : Nat) : Int) = 0 by omega)
              have z0 : (((q + 1 : Nat) : Int) - 1) = (q : Int) := by omega
              have z2 : IntKind.i64.wrap (q : Int) = (q : Int) := Go.IntWalk.i64_in (q : Int) (by omega)
              go_wp2_with fail
              go_meet
              exact ⟨rfl, rfl⟩
          case rest =>
          obtain ⟨rfl, rfl⟩ := hcut
          go_upto_if 73 with fail
          go_cut [7] from 74 to 77 (fun v wx => ∃ ar2 n2 cp2, v = .slice ar2 n2 cp2 ∧ Hid (CbI w1.heap.size (s.1, some (s.2.getD ([], []))) (.slice ar2 n2 cp2) wx) ∧ Hid (Below w1.heap.size w1 wx))
          case first =>
            cases tb with
            | true =>
              have own2 := Lib.hid (Hp1.out.alloc (.cells #[.bool false, .slice none 0 0, .slice none 0 0, .slice none 0 0] 55))
              go_wp2_with (at_builtin; refine wpList_append_own _ rfl _ _ 52 rfl w1.heap.size 55 i0 _ 4 80 Tryd.underlying52 hi0 hz0 hz1 hz2 rfl (by decide) _ np _ rfl own2.out ⟨V.heap.size, 0, none⟩ 1 1 [.bool false, .slice none 0 0, .slice none 0 0, .slice none 0 0] rfl rfl (pc_new V false _ _ _) (pc_one false none none none 0 0 0 0 0 0) (by unfold maxLen; omega) (by omega) (by simp; omega) ?_; intro v' w2 hown' hgrow _)
              have hbA : Below V.heap.size V (V.alloc (.cells #[.bool false, .slice none 0 0, .slice none 0 0, .slice none 0 0] 55)) := (Below.refl _ V).alloc (Nat.le_refl _) _
              have hkA := KpM.below (n1 := w1.heap.size) (m := V.heap.size) hVs hbA
              have hs2 := (Hp2.out.keep hkA).mono hbA.size
              have hnA : w1.heap.size ≤ (V.alloc (.cells #[.bool false, .slice none 0 0, .slice none 0 0, .slice none 0 0] 55)).heap.size := Nat.le_trans hVs hbA.size
              have hbw2 : Below w1.heap.size w1 w2 := (BV.out.trans hkA.1).trans (kpm_grown own2.out hnA hgrow 0).1
              have hs0 : s.2 = none := by simpa using htb.out
              rw [fin_none hs0] at hs2
              have own3 : (V.alloc (.cells #[.bool false, .slice none 0 0, .slice none 0 0, .slice none 0 0] 55)).ownsRow w1.heap.size 55 4 (.slice ar np cp) P2.length (pvv P2) := by rw [hnp.out]; exact own2.out
              have hown3 : w2.ownsRow w1.heap.size 55 4 v' (P2.length + 1) (pvv P2 ++ [.bool false, .slice none 0 0, .slice none 0 0, .slice none 0 0]) := by rw [hnp.out]; exact hown'
              have hfin := CbI.open_ (n := 0) own3 hs2 hnA hown3 hgrow
              rw [show ([], []) = s.2.getD ([], []) by rw [hs0]; rfl] at hfin
              obtain ⟨ar2, cp2, rfl⟩ := own_len hown'
              have Hfin := Lib.hid hfin
              have Hbw2 := Lib.hid hbw2
              clear hfin hbw2 hown' hgrow hs2 hkA hbA own3 hown3
              go_wp2_with fail
              go_meet
              exact ⟨_, _, _, rfl, Hfin, Hbw2⟩
            | false =>
              have Hfin : Hid (CbI w1.heap.size (s.1, some (s.2.getD ([], []))) (.slice ar np cp) V) := Lib.hid (by rw [some_getD htb.out]; exact IV.out)
              go_wp2_with fail
              go_meet
              exact ⟨_, _, _, rfl, Hfin, BV⟩
          case rest =>
          obtain ⟨ar2, n2, cp2, rfl, IW, BW⟩ := hcut
          have hqf : (s.2.getD ([], [])).1.length ≤ 4000 * k ∧ (s.2.getD ([], [])).2.length ≤ 4000 * k := by
            cases hq : s.2 with
            | none => simp
            | some q => exact hF.out q hq
          obtain ⟨q, hq⟩ : ∃ q, Hid (s.2.getD ([], []) = q) := ⟨_, Lib.hid rfl⟩
          rw [hq.out] at IW hqf hadd
          obtain ⟨g3, cp3, np3, P, m, vo, va, e3, hnp3, ho⟩ := Opn.of IW.out
          cases e3
          have hPl3 : np3 ≤ 2 * k := by rw [hnp3]; exact hslen
          clear Hp1 Hp2 hlast hnone hnp3 IW
          have z0 : (((np3 + 1 : Nat) : Int) - 1) = (np3 : Int) := by omega
          have z2 : IntKind.i64.wrap (np3 : Int) = (np3 : Int) := Go.IntWalk.i64_in (np3 : Int) (by omega)
          have z3 : (0 : Int) ≤ (np3 : Int) := by omega
          have z4 : (np3 : Int) < ((np3 + 1 : Nat) : Int) := by omega
          go_upto_region 15 with fail
          refine (wpIn_wide (n := 1)).1 ?_
          refine L.wpIn_region_Z (S := fun _ => True) (zs := []) (by kernel_rfl) ?_
          have hS : True := trivial
          obtain ⟨W3, hW3⟩ : ∃ W3, Hid (wc.drew = W3) := ⟨_, Lib.hid rfl⟩
          have hbd3 : Below wc.heap.size wc W3 := by rw [← hW3.out]; exact below_draws (Below.refl _ _) 1
          have HO := Lib.hid (ho.below hbd3)
          have BW3 : Hid (Below w1.heap.size w1 W3) := Lib.hid (BW.out.trans (hbd3.mono BW.out.size))
          rw [hW3.out]
          clear ho hbd3
          simp only [List.size_toArray, List.length_cons, List.length_nil, Nat.reduceAdd, Array.replicate_succ, Array.replicate_zero, List.push_toArray, List.nil_append, List.cons_append]
          refine L.wpAnyZIn_takeF 12 (i := 1) (oi := { dst := some 84, op := Op.move (Operand.tmp 14), type := 72, pos := "weave.go:58", after := #[{ on := 16, ground := Ground.gcOnly Departure.lateStores }], guard := none }) (v := ?_) rfl (by kernel_rfl) (by kernel_rfl) (by kernel_rfl) (by kernel_rfl) (by kernel_rfl) (by kernel_rfl) (fun _ _ _ h => h) (Or.inl ⟨by rfl, ?_⟩) (fun _ => rfl) hS ?_
          rotate_left
          · intro w hSw
            skip
            go_simp
            try with_reducible rfl
          try simp only [Act.put, List.setIfInBounds_toArray, List.set_cons_zero, List.set_cons_succ]
          clear hS
          refine L.wpAnyZIn_lax (S := fun U => U.cell? ⟨g3, np3 * 4 + 1, none⟩ = some vo ∧ U.cell? ⟨g3, np3 * 4 + 2, none⟩ = some va) (zs := [16, 17, 18, 19]) ?_
          have hS : W3.cell? ⟨g3, np3 * 4 + 1, none⟩ = some vo ∧ W3.cell? ⟨g3, np3 * 4 + 2, none⟩ = some va := ⟨HO.out.cells.1.1, HO.out.cells.2.1⟩
          refine L.wpAnyZIn_takeF 12 (i := 0) (oi := { dst := some 83, op := Op.move (Operand.tmp 14), type := 72, pos := "weave.go:58", after := #[], guard := none }) (v := ?_) rfl (by kernel_rfl) (by kernel_rfl) (by kernel_rfl) (by kernel_rfl) (by kernel_rfl) (by kernel_rfl) (fun _ _ _ h => h) (Or.inl ⟨by rfl, ?_⟩) (fun _ => rfl) hS ?_
          rotate_left
          · intro w hSw
            obtain ⟨x1, x2⟩ := hSw
            go_simp
            try with_reducible rfl
          try simp only [Act.put, List.setIfInBounds_toArray, List.set_cons_zero, List.set_cons_succ]
          refine L.wpAnyZIn_takeF 12 (i := 2) (oi := { dst := some 85, op := Op.move (Operand.tmp 14), type := 72, pos := "weave.go:58", after := #[], guard := none }) (v := ?_) rfl (by kernel_rfl) (by kernel_rfl) (by kernel_rfl) (by kernel_rfl) (by kernel_rfl) (by kernel_rfl) (fun _ _ _ h => h) (Or.inl ⟨by rfl, ?_⟩) (fun _ => rfl) hS ?_
          rotate_left
          · intro w hSw
            obtain ⟨x1, x2⟩ := hSw
            go_simp
            try with_reducible rfl
          try simp only [Act.put, List.setIfInBounds_toArray, List.set_cons_zero, List.set_cons_succ]
          refine L.wpAnyZIn_takeF 12 (i := 3) (oi := { dst := some 86, op := Op.nilCheck (Operand.tmp 85), type := 0, pos := "weave.go:58", after := #[{ on := 2, ground := Ground.data }], guard := none }) (v := ?_) rfl (by kernel_rfl) (by kernel_rfl) (by kernel_rfl) (by kernel_rfl) (by kernel_rfl) (by kernel_rfl) (fun _ _ _ h => h) (Or.inl ⟨by rfl, ?_⟩) (fun _ => rfl) hS ?_
          rotate_left
          · intro w hSw
            obtain ⟨x1, x2⟩ := hSw
            go_simp
            try with_reducible rfl
          try simp only [Act.put, List.setIfInBounds_toArray, List.set_cons_zero, List.set_cons_succ]
          refine L.wpAnyZIn_takeF 12 (i := 4) (oi := { dst := some 87, op := Op.fieldAddr 55 (Operand.tmp 86) 1, type := 0, pos := "weave.go:58", after := #[{ on := 3, ground := Ground.data }], guard := none }) (v := ?_) rfl (by kernel_rfl) (by kernel_rfl) (by kernel_rfl) (by kernel_rfl) (by kernel_rfl) (by kernel_rfl) (fun _ _ _ h => h) (Or.inl ⟨by rfl, ?_⟩) (fun _ => rfl) hS ?_
          rotate_left
          · intro w hSw
            obtain ⟨x1, x2⟩ := hSw
            go_simp
            try with_reducible rfl
          try simp only [Act.put, List.setIfInBounds_toArray, List.set_cons_zero, List.set_cons_succ]
          refine L.wpAnyZIn_takeF 12 (i := 5) (oi := { dst := some 88, op := Op.load 33 (Operand.tmp 87), type := 33, pos := "weave.go:58", after := #[{ on := 4, ground := Ground.data }], guard := none }) (v := ?_) rfl (by kernel_rfl) (by kernel_rfl) (by kernel_rfl) (by kernel_rfl) (by kernel_rfl) (by kernel_rfl) (fun _ _ _ h => h) (Or.inl ⟨by rfl, ?_⟩) (fun _ => rfl) hS ?_
          rotate_left
          · intro w hSw
            obtain ⟨x1, x2⟩ := hSw
            go_simp
            try with_reducible rfl
          try simp only [Act.put, List.setIfInBounds_toArray, List.set_cons_zero, List.set_cons_succ]
          refine L.wpAnyZIn_takeF 12 (i := 6) (oi := { dst := some 89, op := Op.move (Operand.tmp 10), type := 33, pos := "weave.go:58", after := #[], guard := none }) (v := ?_) rfl (by kernel_rfl) (by kernel_rfl) (by kernel_rfl) (by kernel_rfl) (by kernel_rfl) (by kernel_rfl) (fun _ _ _ h => h) (Or.inl ⟨by rfl, ?_⟩) (fun _ => rfl) hS ?_
          rotate_left
          · intro w hSw
            obtain ⟨x1, x2⟩ := hSw
            go_simp
            try with_reducible rfl
          try simp only [Act.put, List.setIfInBounds_toArray, List.set_cons_zero, List.set_cons_succ]
          refine L.wpAnyZIn_takeF 12 (i := 8) (oi := { dst := some 91, op := Op.move (Operand.tmp 14), type := 72, pos := "weave.go:58", after := #[], guard := none }) (v := ?_) rfl (by kernel_rfl) (by kernel_rfl) (by kernel_rfl) (by kernel_rfl) (by kernel_rfl) (by kernel_rfl) (fun _ _ _ h => h) (Or.inl ⟨by rfl, ?_⟩) (fun _ => rfl) hS ?_
          rotate_left
          · intro w hSw
            obtain ⟨x1, x2⟩ := hSw
            go_simp
            try with_reducible rfl
          try simp only [Act.put, List.setIfInBounds_toArray, List.set_cons_zero, List.set_cons_succ]
          refine L.wpAnyZIn_takeF 12 (i := 9) (oi := { dst := some 92, op := Op.nilCheck (Operand.tmp 91), type := 0, pos := "weave.go:58", after := #[{ on := 8, ground := Ground.data }], guard := none }) (v := ?_) rfl (by kernel_rfl) (by kernel_rfl) (by kernel_rfl) (by kernel_rfl) (by kernel_rfl) (by kernel_rfl) (fun _ _ _ h => h) (Or.inl ⟨by rfl, ?_⟩) (fun _ => rfl) hS ?_
          rotate_left
          · intro w hSw
            obtain ⟨x1, x2⟩ := hSw
            go_simp
            try with_reducible rfl
          try simp only [Act.put, List.setIfInBounds_toArray, List.set_cons_zero, List.set_cons_succ]
          refine L.wpAnyZIn_takeF 12 (i := 10) (oi := { dst := some 93, op := Op.fieldAddr 55 (Operand.tmp 92) 2, type := 0, pos := "weave.go:58", after := #[{ on := 9, ground := Ground.data }], guard := none }) (v := ?_) rfl (by kernel_rfl) (by kernel_rfl) (by kernel_rfl) (by kernel_rfl) (by kernel_rfl) (by kernel_rfl) (fun _ _ _ h => h) (Or.inl ⟨by rfl, ?_⟩) (fun _ => rfl) hS ?_
          rotate_left
          · intro w hSw
            obtain ⟨x1, x2⟩ := hSw
            go_simp
            try with_reducible rfl
          try simp only [Act.put, List.setIfInBounds_toArray, List.set_cons_zero, List.set_cons_succ]
          refine L.wpAnyZIn_takeF 12 (i := 11) (oi := { dst := some 94, op := Op.load 33 (Operand.tmp 93), type := 33, pos := "weave.go:58", after := #[{ on := 10, ground := Ground.data }], guard := none }) (v := ?_) rfl (by kernel_rfl) (by kernel_rfl) (by kernel_rfl) (by kernel_rfl) (by kernel_rfl) (by kernel_rfl) (fun _ _ _ h => h) (Or.inl ⟨by rfl, ?_⟩) (fun _ => rfl) hS ?_
          rotate_left
          · intro w hSw
            obtain ⟨x1, x2⟩ := hSw
            go_simp
            try with_reducible rfl
          try simp only [Act.put, List.setIfInBounds_toArray, List.set_cons_zero, List.set_cons_succ]
          refine L.wpAnyZIn_takeF 12 (i := 12) (oi := { dst := some 95, op := Op.move (Operand.tmp 11), type := 33, pos := "weave.go:58", after := #[], guard := none }) (v := ?_) rfl (by kernel_rfl) (by kernel_rfl) (by kernel_rfl) (by kernel_rfl) (by kernel_rfl) (by kernel_rfl) (fun _ _ _ h => h) (Or.inl ⟨by rfl, ?_⟩) (fun _ => rfl) hS ?_
          rotate_left
          · intro w hSw
            obtain ⟨x1, x2⟩ := hSw
            go_simp
            try with_reducible rfl
          try simp only [Act.put, List.setIfInBounds_toArray, List.set_cons_zero, List.set_cons_succ]
          have hl1 := hnx.out
          have hl2 := hnv.out
          refine L.wpAnyZIn_one (i := 7) (by kernel_rfl) rfl (fun K hK => ?_)
          refine stepIn_append_strs W3 rfl _ _ rfl m w1.heap.size m vo q.1.length _ rfl HO.out.o (.slice sxa nx sxc) _ rfl (Fx.out m W3 BW3.out) (by omega) HO.out.le2 ?_
          intro v1 W4 ho4 hg4 hv4
          obtain ⟨r1, j1, t1, rfl⟩ := own_slice ho4
          obtain ⟨h4, k4⟩ := HO.out.after_o ho4 hg4 hv4
          refine hK.out _ _ (fun _ => ⟨h4.cells.1.1, h4.cells.2.1⟩) ?_
          simp only [Act.put, List.setIfInBounds_toArray, List.set_cons_zero, List.set_cons_succ]
          clear hK K hS ho4 hg4 hv4
          have B4 : Below w1.heap.size w1 W4 := BW3.out.trans k4.1
          clear k4
          refine L.wpAnyZIn_one (i := 13) (by kernel_rfl) rfl (fun K hK => ?_)
          refine stepIn_append_strs W4 rfl _ _ rfl m w1.heap.size m va q.2.length _ rfl h4.a (.slice sya ny syc) _ rfl (Fv.out m W4 B4) (by omega) h4.le2 ?_
          intro v2 W5 ho5 hg5 hv5
          obtain ⟨r2, j2, t2, rfl⟩ := own_slice ho5
          obtain ⟨h5, k5⟩ := h4.after_a ho5 hg5 hv5
          have hS5 : W5.cell? ⟨g3, np3 * 4 + 1, none⟩ = some vo ∧ W5.cell? ⟨g3, np3 * 4 + 2, none⟩ = some va := ⟨h5.cells.1.1, h5.cells.2.1⟩
          refine hK.out _ _ (fun _ => hS5) ?_
          simp only [Act.put, List.setIfInBounds_toArray, List.set_cons_zero, List.set_cons_succ]
          clear hK K ho5 hg5 hv5
          have B5 : Below w1.heap.size w1 W5 := B4.trans k5.1
          obtain ⟨⟨y1, f1⟩, -⟩ := h5.cells
          obtain ⟨h6, k6⟩ := h5.store1 (.slice r1 j1 t1)
          have B6 : Below w1.heap.size w1 (W5.setCell ⟨g3, np3 * 4 + 1, none⟩ (.slice r1 j1 t1)) := B5.trans k6.1
          obtain ⟨W6, hW6⟩ : ∃ V, Hid (W5.setCell ⟨g3, np3 * 4 + 1, none⟩ (.slice r1 j1 t1) = V) := ⟨_, Lib.hid rfl⟩
          rw [hW6.out] at h6 B6
          have H6 := Lib.hid h6
          clear h4 k5 B4 h5 k6 h6 B5
          refine L.wpAnyZIn_one (i := 14) (by kernel_rfl) rfl (fun K hK => ?_)
          go_simp
          refine hK.out _ _ (fun _ => hS5) ?_
          clear hK K
          refine L.wpAnyZIn_one (i := 15) (by kernel_rfl) rfl (fun K hK => ?_)
          go_simp
          refine hK.out _ _ (fun _ => hS5) ?_
          clear hK K hS5
          refine L.wpAnyZIn_one (i := 16) (by kernel_rfl) rfl (fun K hK => ?_)
          go_simp
          rw [hW6.out]
          refine hK.out _ _ (fun h => absurd (by decide) h) ?_
          clear hK K y1 f1 hW6
          obtain ⟨-, y2, f2'⟩ := H6.out.cells
          obtain ⟨h7, k7⟩ := H6.out.store2 (.slice r2 j2 t2)
          have B7 := B6.trans k7.1
          obtain ⟨W7, hW7⟩ : ∃ V, Hid (W6.setCell ⟨g3, np3 * 4 + 2, none⟩ (.slice r2 j2 t2) = V) := ⟨_, Lib.hid rfl⟩
          rw [hW7.out] at h7 B7
          have H7 := Lib.hid h7
          have Hb7 := Lib.hid B7
          clear h7 k7 B7
          refine L.wpAnyZIn_one (i := 17) (by kernel_rfl) rfl (fun K hK => ?_)
          go_simp
          refine hK.out _ _ (fun h => absurd (by decide) h) ?_
          clear hK K
          refine L.wpAnyZIn_one (i := 18) (by kernel_rfl) rfl (fun K hK => ?_)
          go_simp
          refine hK.out _ _ (fun h => absurd (by decide) h) ?_
          clear hK K
          refine L.wpAnyZIn_one (i := 19) (by kernel_rfl) rfl (fun K hK => ?_)
          go_simp
          rw [hW7.out]
          refine hK.out _ _ (fun h => absurd (by decide) h) ?_
          clear hK K y2 f2' hW7
          refine L.wpAnyZIn_done (by kernel_rfl) ?_ _
          have Hfin : Hid (CbI w1.heap.size (stOf o a b (CK.take (k + 1))) (.slice (some ⟨g3, 0, none⟩) (np3 + 1) cp2) W7) := Lib.hid (by rw [hst.out, hadd.out]; exact H7.out.to)
          have Hfew : Hid ((stOf o a b (CK.take (k + 1))).few (4000 * (k + 1))) := Lib.hid (by
            rw [hst.out, hadd.out]
            intro q' h
            cases h
            simp only [List.length_append]
            omega)
          clear H7 HO H6 hl1 hl2
          go_wp2_with fail
          exact ⟨⟨k + 1, by go_num, by omega, Hfin, Hb7, Hfew⟩, by simp [intOf]; omega⟩
    · have hkn : k = n := by omega
      subst hkn
      have d1 : decide (k < k) = false := decide_eq_false (Nat.lt_irrefl _)
      obtain ⟨P, hP1, hP2⟩ := hI.out.close
      have Hend : Hid (Setl w1.heap.size wo.heap.size wo P (combP o a b)) := Lib.hid (by
        rw [← hs.out, ← hnn.out, List.take_length] at hP2
        unfold combP
        rw [hCK.out]
        exact hP2)
      have HB : Hid (Below w.heap.size w wo) := Lib.hid (B1.out.trans (hB.out.mono hs1))
      have Hown := Lib.hid hP1
      clear hP1 hP2
      go_wp2_with fail
      simp only [Exit.noGoto]
      go_ret
      exact ⟨_, _, P, rfl, Hown.out, Hend.out, HB.out⟩
end Go.Proofs.YtfjmhnnjgjcmeaaDoor
