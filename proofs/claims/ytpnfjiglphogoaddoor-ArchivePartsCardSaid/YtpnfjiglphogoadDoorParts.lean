/-
  For the laws of archive: ArchiveParts returns true. Condition: the listed variables hold what the program's text lays.
-/
import Derived.Test.YtpnfjiglphogoadDoorBack
namespace Go.Proofs.YtpnfjiglphogoadDoor
open Go.RowKit Go.Shelf
set_option linter.unusedSimpArgs false
set_option linter.unusedVariables false

theorem wpList_append_fls {w : World} {ops : Array Oper} {rest : List Oper} {o : Oper} {a : Act} {Q : Exit → Act → World → Prop} (hgd : o.guard = none) (s x : Operand)
    (ho : o.op = .call { callee := .builtin .append, args := #[s, x], argTypes := #[22, 22] }) (base : Nat)
    (v vx : Value) (n : Nat) (xs : List Value) (L : List Fl) (hs : a.eval s = v) (hown : w.ownsRow base 34 2 v n xs) (hx : a.eval x = vx) (hst : Fls w vx L)
    (hn : n + L.length ≤ 1000000) (hbase : base ≤ w.heap.size)
    (h : ∀ v' w', w'.ownsRow base 34 2 v' (n + L.length) (xs ++ fv L) → Below base w w' → wpList Tryd.prog ops Q rest (a.put o.dst v') w') : wpList Tryd.prog ops Q (o :: rest) a w := by
  obtain ⟨i0, hi, hz0, hz1, hz2⟩ := info_parts infoFl
  have hrow : ∀ {w' : World}, w.grownBy w' v.ownBlock → Below base w w' := fun hg =>
    (Below.refl base w).grown hg hbase fun k e => (hown.lt k e).1
  obtain ⟨ad, cap, rfl, hc, hm, hv⟩ := hst
  cases ad with
  | none =>
    have hy : L = [] := by
      cases L with
      | nil => rfl
      | cons y L =>
        obtain ⟨b, off, e, _⟩ := hv 0 y rfl
        cases e
    subst hy
    refine wpList_plain hgd fun K hK => ?_
    have hrun : (Builtin.append_ #[22, 22] o.type #[v, .slice none 0 cap]).run Tryd.prog w = .ok v w := by
      rcases hown.2 with ⟨rfl, rfl⟩ | ⟨g, cp, cur, rfl, _, _, hnc, _⟩
      · simp [Builtin.append_, run_underlying Tryd.underlying22, sizeOf, typeInfo, hi, Builtin.lenOf, Builtin.firstCells]
      · simp [Builtin.append_, run_underlying Tryd.underlying22, sizeOf, typeInfo, hi, Builtin.lenOf, Builtin.firstCells, hnc, storeCells]
    have hx' : a.eval x = .slice none 0 cap := hx
    unfold Oper.wp
    simp [execOp, ho, resolve, invoke, builtin, hs, hx', hrun, Result.andThen]
    exact hK _ _ (h v w (by simpa [fv] using hown) (Below.refl _ _))
  | some p =>
    refine wpList_append_own w hgd s x 22 ho base 34 i0 (.agg #[.string ⟨#[]⟩, .string ⟨#[]⟩]) 2 32 Tryd.underlying22 hi hz0 hz1 hz2 rfl (by decide) v n xs hs hown p L.length cap (fv L) hx (fv_len L) ?_ ?_ (by unfold maxLen; omega) (by omega) hbase ?_
    · intro j u hj
      have hjl := (List.getElem?_eq_some_iff.1 hj).1
      rw [fv_len] at hjl
      obtain ⟨y, hy⟩ : ∃ y, L[j / 2]? = some y := ⟨_, List.getElem?_eq_getElem (by omega)⟩
      obtain ⟨b, off, e, _, c0, c1⟩ := hv (j / 2) y hy
      cases e
      obtain ⟨g0, g1⟩ := fv_get hy
      rw [add_flat]
      rcases Nat.mod_two_eq_zero_or_one j with hj2 | hj2
      · have ej : j / 2 * 2 = j := by omega
        rw [ej] at c0 g0
        rw [hj] at g0
        rw [c0, g0]
      · have ej : j / 2 * 2 + 1 = j := by omega
        rw [Nat.add_assoc, ej] at c1
        rw [ej, hj] at g1
        rw [c1, g1]
    · intro u hu
      obtain ⟨f, _, hf⟩ := List.mem_flatMap.1 hu
      simp only [rowF, List.mem_cons, List.not_mem_nil, or_false] at hf
      rcases hf with rfl | rfl <;> rfl
    · intro v' w' h1 h2 _
      exact h v' w' h1 (hrow h2)
theorem mask_i64 (a : Int) (c : Nat) (hc : c < 4611686018427387904) : ∃ m : Nat, bits .and .i64 a (c : Int) = (m : Int) ∧ m ≤ c := by
  have h2 : (BitVec.ofInt 64 (c : Int)).toNat = c := by
    rw [BitVec.ofInt_natCast, BitVec.toNat_ofNat]; exact Nat.mod_eq_of_lt (by omega)
  refine ⟨(BitVec.ofInt 64 a &&& BitVec.ofInt 64 (c : Int)).toNat, ?_, ?_⟩
  · show IntKind.i64.wrap ((BitVec.ofInt 64 a &&& BitVec.ofInt 64 (c : Int)).toNat : Int) = _
    refine IntWalk.i64_in _ ?_
    rw [BitVec.toNat_and, h2]
    have := Nat.and_le_right (n := (BitVec.ofInt 64 a).toNat) (m := c)
    omega
  · rw [BitVec.toNat_and, h2]
    exact Nat.and_le_right

theorem fv_append (A B : List Fl) : fv (A ++ B) = fv A ++ fv B := by unfold fv; rw [List.flatMap_append]
theorem showL_two {A B : List Fl} (h1 : (showL A).length ≤ 3600) (h2 : (showL B).length ≤ 3600) : (showL (A ++ B)).length ≤ 7200 := by
  rw [showL_app, List.length_append]; omega
set_option maxRecDepth 100000 in
set_option maxHeartbeats 16000000 in
theorem archiveParts_any (u v : Value) (A B : List Fl) (cut : Int) (w : World) (hu : Fls w u A) (hv : Fls w v B) (hW : AW w) : Calls Tryd.prog 5 #[u, v, .int .i64 cut] w fun e w' => e = .returned (.bool true) ∧ Below w.heap.size w w' := by
  have HW := Lib.hid hW
  have HU := Lib.hid hu
  have HV := Lib.hid hv
  obtain ⟨a, cap, rfl, hc, hcm, hat⟩ := hu
  obtain ⟨a2, cap2, rfl, hc2, hcm2, hat2⟩ := hv
  unfold maxLen at hcm hcm2
  have Hat : Hid (∀ (wr : World), Below w.heap.size w wr → ∀ k (p : Fl), A[k]? = some p → ∃ b off, a = some ⟨b, off, none⟩ ∧ b < w.heap.size ∧ wr.cell? ⟨b, off + k * 2, none⟩ = some (.string (bs p.path))) := Lib.hid fun wr hb k p hp => by
    obtain ⟨b, off, e, hbl, l0, -⟩ := hat k p hp
    exact ⟨b, off, e, hbl, (hb.cell (p := ⟨b, off + k * 2, none⟩) hbl).trans l0⟩
  have Hat2 : Hid (∀ (wr : World), Below w.heap.size w wr → ∀ k (p : Fl), B[k]? = some p → ∃ b off, a2 = some ⟨b, off, none⟩ ∧ b < w.heap.size ∧ wr.cell? ⟨b, off + k * 2, none⟩ = some (.string (bs p.path))) := Lib.hid fun wr hb k p hp => by
    obtain ⟨b, off, e, hbl, l0, -⟩ := hat2 k p hp
    exact ⟨b, off, e, hbl, (hb.cell (p := ⟨b, off + k * 2, none⟩) hbl).trans l0⟩
  clear hW hat hat2
  obtain ⟨fA, hfA⟩ : ∃ x, Hid (fewF A = x) := ⟨_, Lib.hid rfl⟩
  obtain ⟨fB, hfB⟩ : ∃ x, Hid (fewF B = x) := ⟨_, Lib.hid rfl⟩
  by_cases hf : fA = true ∧ fB = true
  · obtain ⟨rfl, rfl⟩ := hf
    obtain ⟨hl, hok⟩ := few_ok hfA.out
    obtain ⟨hl2, hok2⟩ := few_ok hfB.out
    have Hok := Lib.hid hok
    have Hok2 := Lib.hid hok2
    have hsm := showL_small hl hok
    have hsm2 := showL_small hl2 hok2
    have hsm3 := showL_two hsm hsm2
    clear hok hok2
    obtain ⟨S, hS⟩ : ∃ S, Hid (showL (A ++ B) = S) := ⟨_, Lib.hid rfl⟩
    obtain ⟨S1, hS1⟩ : ∃ S, Hid (showL A = S) := ⟨_, Lib.hid rfl⟩
    obtain ⟨S2, hS2⟩ : ∃ S, Hid (showL B = S) := ⟨_, Lib.hid rfl⟩
    have hcat : Hid (bs S1 ++ bs S2 = bs S) := Lib.hid (by rw [bs_app, ← hS.out, ← hS1.out, ← hS2.out, showL_app])
    rw [hS.out] at hsm3
    rw [hS1.out] at hsm
    rw [hS2.out] at hsm2
    obtain ⟨m, hm, hmc⟩ := mask_i64 cut 65535 (by decide)
    have hm' : bits .and .i64 cut 65535 = (m : Int) := hm
    clear hm
    go_enter Tryd.func5, Tryd.ntmps5
    go_wp2_with fail
    refine (awake_any _ HW.out).mono ?_
    rintro e w1 ⟨rfl, b1⟩
    have B1 := Lib.hid b1
    have U1 := Lib.hid (HU.out.below b1)
    have hs1 := b1.size
    clear b1
    go_wp2_with fail
    refine (few_any _ A _ U1.out).mono ?_
    rw [hfA.out]
    rintro e w2 ⟨rfl, b2⟩
    have B2 := Lib.hid (B1.out.trans (b2.mono hs1))
    have V2 := Lib.hid (HV.out.below B2.out)
    have hs2 := B2.out.size
    clear b2
    go_wp2_with fail
    refine (few_any _ B _ V2.out).mono ?_
    rw [hfB.out]
    rintro e w3 ⟨rfl, b3⟩
    have B3 := Lib.hid (B2.out.trans (b3.mono hs2))
    have hs3 := B3.out.size
    clear b3
    go_wp2_with fail
    go_loopw [10, 11] (fun c p wr => ∃ k : Nat, c = .int .i64 k ∧ k ≤ A.length + B.length ∧ Hid (Below w.heap.size w wr) ∧ Hid (okL ((A ++ B).take k))) (fun c _ _ => A.length + B.length - (intOf c).toNat)
    case atStart => exact ⟨0, rfl, by omega, B3, Lib.hid (fun f hf => by simp at hf)⟩
    case round =>
      obtain ⟨k, rfl, hk, hB, hok⟩ := hrel
      have hbs := hB.out.size
      by_cases hlt : k < A.length + B.length
      · by_cases hlA : k < A.length
        · obtain ⟨p, hp⟩ : ∃ p, A[k]? = some p := ⟨_, List.getElem?_eq_getElem hlA⟩
          obtain ⟨b, off, rfl, hbl, c0⟩ := Hat.out wr hB.out k p hp
          have hpl : p.path.length ≤ 60 := (Hok.out p (List.mem_of_getElem? hp)).1
          have Hp : Hid ((A ++ B)[k]? = some p) := Lib.hid (by rw [List.getElem?_append_left hlA]; exact hp)
          clear hp
          cases hq : pathOk p.path with
          | true =>
            have Hq := Lib.hid hq
            clear hq
            go_wp2_with fail
            refine (RefPath_any (bs p.path) _ (by rw [bs_size]; unfold maxLen; omega)).mono ?_
            rw [tl_bs, Hq.out]
            rintro e w5 ⟨rfl, rfl⟩
            go_wp2_with fail
            exact ⟨⟨k + 1, by go_num, by omega, hB, Lib.hid (all_take Hp.out Hq.out hok.out)⟩, by simp [intOf]; omega⟩
          | false =>
            have Hq := Lib.hid hq
            clear hq
            go_wp2_with fail
            refine (RefPath_any (bs p.path) _ (by rw [bs_size]; unfold maxLen; omega)).mono ?_
            rw [tl_bs, Hq.out]
            rintro e w5 ⟨rfl, rfl⟩
            go_wp2_with fail
            go_ret
            exact ⟨rfl, hB.out⟩
        · obtain ⟨j, rfl⟩ : ∃ j, k = A.length + j := ⟨k - A.length, by omega⟩
          have hlB : j < B.length := by omega
          obtain ⟨p, hp⟩ : ∃ p, B[j]? = some p := ⟨_, List.getElem?_eq_getElem hlB⟩
          obtain ⟨b, off, rfl, hbl, c0⟩ := Hat2.out wr hB.out j p hp
          have hpl : p.path.length ≤ 60 := (Hok2.out p (List.mem_of_getElem? hp)).1
          have Hp : Hid ((A ++ B)[A.length + j]? = some p) := Lib.hid (by rw [List.getElem?_append_right (by omega), Nat.add_sub_cancel_left]; exact hp)
          have c0' : wr.cell? ⟨b, off + (A.length + j - A.length) * 2, none⟩ = some (.string (bs p.path)) := by rw [Nat.add_sub_cancel_left]; exact c0
          clear hp
          cases hq : pathOk p.path with
          | true =>
            have Hq := Lib.hid hq
            clear hq
            go_wp2_with fail
            refine (RefPath_any (bs p.path) _ (by rw [bs_size]; unfold maxLen; omega)).mono ?_
            rw [tl_bs, Hq.out]
            rintro e w5 ⟨rfl, rfl⟩
            go_wp2_with fail
            exact ⟨⟨A.length + j + 1, by go_num, by omega, hB, Lib.hid (all_take Hp.out Hq.out hok.out)⟩, by simp [intOf]; omega⟩
          | false =>
            have Hq := Lib.hid hq
            clear hq
            go_wp2_with fail
            refine (RefPath_any (bs p.path) _ (by rw [bs_size]; unfold maxLen; omega)).mono ?_
            rw [tl_bs, Hq.out]
            rintro e w5 ⟨rfl, rfl⟩
            go_wp2_with fail
            go_ret
            exact ⟨rfl, hB.out⟩
      · obtain rfl : k = A.length + B.length := by omega
        have hokL := hok.out
        rw [List.take_of_length_le (by rw [List.length_append]; omega)] at hokL
        have HokL := Lib.hid hokL
        clear hok hokL
        have hw6 := Whole8_any S (by omega)
        have Hw6 := Lib.hid hw6
        clear hw6
        have U5 := Lib.hid (HU.out.below hB.out)
        go_wp2_with fail
        refine (Show_any _ A (by omega) (small_okS Hok.out) _ (HW.out.below hB.out) U5.out).mono ?_
        rw [hS1.out]
        rintro e w6 ⟨rfl, b6⟩
        have B6 := Lib.hid (hB.out.trans (b6.mono hbs))
        have V6 := Lib.hid (HV.out.below B6.out)
        have hs6 := B6.out.size
        clear b6
        go_wp2_with fail
        refine (Show_any _ B (by omega) (small_okS Hok2.out) _ (HW.out.below B6.out) V6.out).mono ?_
        rw [hS2.out]
        rintro e w7 ⟨rfl, b7⟩
        have B7 := Lib.hid (B6.out.trans (b7.mono hs6))
        have hs7 := B7.out.size
        clear b7
        go_wp2_with fail
        rw [hcat.out]
        refine (Hw6.out _ (HW.out.below B7.out)).mono ?_
        rintro e w8 ⟨he, b8⟩
        obtain ⟨v8, rfl, p8⟩ := he.shown hS.out.symm (by omega) HokL.out
        have B8 := Lib.hid (B7.out.trans (b8.mono hs7))
        have P8 := Lib.hid p8
        have U8 := Lib.hid (HU.out.below B8.out)
        have hs8 := B8.out.size
        clear b8 he p8
        go_wp2_with (at_builtin; first
          | (refine wpList_append_fls rfl _ _ rfl w8.heap.size _ _ 0 [] A rfl (World.ownsRow_nil _ _ _ _) rfl U8.out (by omega) (Nat.le_refl _) ?_; intro v9 w9 hown9 hb9; have O9 : Hid (w9.ownsRow w8.heap.size 34 2 v9 A.length (fv A)) := Lib.hid (by simpa using hown9); have B9 := Lib.hid (B8.out.trans (hb9.mono hs8)); have V9 := Lib.hid (HV.out.below B9.out); have hs89 := hb9.size; have hb89 := Lib.hid hb9; clear hown9 hb9)
          | (refine wpList_append_fls rfl _ _ rfl w8.heap.size _ _ _ _ B rfl O9.out rfl V9.out (by omega) hs89 ?_; intro v10 w10 hown10 hb10))
        have F10 : Hid (Fls w10 v10 (A ++ B)) := Lib.hid (own_fls (base := w8.heap.size) (n := (A ++ B).length) (by rw [List.length_append, fv_append]; exact hown10))
        have B10 : Hid (Below w.heap.size w w10) := Lib.hid (B9.out.trans (hb10.mono hs8))
        have P10 := Lib.hid (P8.out.below (hb89.out.trans hb10))
        have hs10 := B10.out.size
        clear hown10 hb10
        by_cases hz : S.length = 0
        · go_wp2_with fail
          refine (Same_eq _ _ (A ++ B) _ P10.out F10.out).mono ?_
          rintro e w11 ⟨rfl, b11⟩
          have B11 := Lib.hid (B10.out.trans (b11.mono hs10))
          clear b11
          go_wp2_with fail
          go_ret
          exact ⟨rfl, B11.out⟩
        · have hmod : m % S.length < S.length := Nat.mod_lt _ (by omega)
          obtain ⟨T, hT⟩ : ∃ T, Hid (S.take (m % S.length) = T) := ⟨_, Lib.hid rfl⟩
          have hext : Hid ((bs S).extract 0 (m % S.length) = bs T) := Lib.hid (by rw [ext_bs, tl_bs, ← hT.out]; simp)
          have hTl : T.length < S.length := by rw [← hT.out, List.length_take]; omega
          have hw12 := Whole8_any T (by omega)
          have Hw12 := Lib.hid hw12
          clear hw12
          go_wp2_with fail
          refine (Same_eq _ _ (A ++ B) _ P10.out F10.out).mono ?_
          rintro e w11 ⟨rfl, b11⟩
          have B11 := Lib.hid (B10.out.trans (b11.mono hs10))
          have F11 := Lib.hid (F10.out.below b11)
          have hs11 := B11.out.size
          clear b11
          go_wp2_with fail
          rw [hext.out]
          refine (Hw12.out _ (HW.out.below B11.out)).mono ?_
          rintro e w12 ⟨he, b12⟩
          have B12 := Lib.hid (B11.out.trans (b12.mono hs11))
          have F12 := Lib.hid (F11.out.below b12)
          have hs12 := B12.out.size
          clear b12
          rcases he with ⟨L', v', ho, hsh, rfl, hL'⟩ | ⟨-, rfl⟩
          · have hne : Hid (decide (L' = A ++ B) = false) := Lib.hid (decide_eq_false fun e => by
              rw [e, hS.out] at hsh
              rw [hsh] at hTl
              omega)
            have Hl' := Lib.hid hL'
            clear hL' hsh ho
            go_wp2_with fail
            refine (RefSame_any _ _ L' (A ++ B) _ Hl'.out F12.out).mono ?_
            rw [hne.out]
            rintro e w13 ⟨rfl, b13⟩
            have B13 := Lib.hid (B12.out.trans (b13.mono hs12))
            clear b13
            go_wp2_with fail
            go_ret
            exact ⟨rfl, B13.out⟩
          · go_wp2_with fail
            go_ret
            exact ⟨rfl, B12.out⟩
  · by_cases hfa : fA = true
    · subst hfa
      have hfb : fB = false := by
        cases fB with
        | false => rfl
        | true => exact absurd ⟨rfl, rfl⟩ hf
      subst hfb
      clear hf
      go_enter Tryd.func5, Tryd.ntmps5
      go_wp2_with fail
      refine (awake_any _ HW.out).mono ?_
      rintro e w1 ⟨rfl, b1⟩
      have B1 := Lib.hid b1
      have U1 := Lib.hid (HU.out.below b1)
      have hs1 := b1.size
      clear b1
      go_wp2_with fail
      refine (few_any _ A _ U1.out).mono ?_
      rw [hfA.out]
      rintro e w2 ⟨rfl, b2⟩
      have B2 := Lib.hid (B1.out.trans (b2.mono hs1))
      have V2 := Lib.hid (HV.out.below B2.out)
      have hs2 := B2.out.size
      clear b2
      go_wp2_with fail
      refine (few_any _ B _ V2.out).mono ?_
      rw [hfB.out]
      rintro e w3 ⟨rfl, b3⟩
      have B3 := Lib.hid (B2.out.trans (b3.mono hs2))
      clear b3
      go_wp2_with fail
      go_ret
      exact ⟨rfl, B3.out⟩
    · have hfa2 : fA = false := by simpa using hfa
      subst hfa2
      clear hf hfa
      go_enter Tryd.func5, Tryd.ntmps5
      go_wp2_with fail
      refine (awake_any _ HW.out).mono ?_
      rintro e w1 ⟨rfl, b1⟩
      have B1 := Lib.hid b1
      have U1 := Lib.hid (HU.out.below b1)
      have hs1 := b1.size
      clear b1
      go_wp2_with fail
      refine (few_any _ A _ U1.out).mono ?_
      rw [hfA.out]
      rintro e w2 ⟨rfl, b2⟩
      have B2 := Lib.hid (B1.out.trans (b2.mono hs1))
      have V2 := Lib.hid (HV.out.below B2.out)
      have hs2 := B2.out.size
      clear b2
      go_wp2_with fail
      refine (few_any _ B _ V2.out).mono ?_
      rintro e w3 ⟨rfl, b3⟩
      have B3 := Lib.hid (B2.out.trans (b3.mono hs2))
      clear b3
      go_wp2_with fail
      go_ret
      exact ⟨rfl, B3.out⟩
end Go.Proofs.YtpnfjiglphogoadDoor
