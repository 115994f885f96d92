/-
  For the law LcsTurned: it returns true for any two rows of numbers and any number. No condition but what can be read.
-/
import Derived.Test.YthligkdncddmpaaAwake
namespace Go.Proofs.Ythligkdncddmpaa
open Go.RowKit

/-- A row of the call's own, with what another slice holds behind it. -/
theorem wpList_append_vals {w : World} {ops : Array Oper} {rest : List Oper} {o : Oper} {a : Act} {Q : Exit → Act → World → Prop} (hgd : o.guard = none) (s x : Operand) (t e : TypeId)
    (ho : o.op = .call { callee := .builtin .append, args := #[s, x], argTypes := #[t, t] }) (base : Nat) (i0 : TypeInfo) (z : Value) (bytes : Nat)
    (ht : Try.prog.underlying t = some (.slice e)) (hi : Try.prog.info? e = some i0) (hz0 : i0.zero = some z) (hz1 : i0.size = 1) (hz2 : i0.bytes = bytes) (hzs : z.cells.size = 1)
    (v vx : Value) (n : Nat) (xs ys : List Value) (hs : a.eval s = v) (hown : w.ownsRow base e 1 v n xs) (hx : a.eval x = vx) (hst : Vals w vx ys) (h1 : ∀ u ∈ ys, u.oneCell' = true)
    (hn : n + ys.length ≤ 1000000) (hby : bytes ≤ 100000) (hbase : base ≤ w.heap.size)
    (h : ∀ v' w', w'.ownsRow base e 1 v' (n + ys.length) (xs ++ ys) → w.grownBy w' v.ownBlock → wpList Try.prog ops Q rest (a.put o.dst v') w') : wpList Try.prog ops Q (o :: rest) a w := by
  have hbb : (n + ys.length) * bytes ≤ 140737488355328 := Nat.le_trans (Nat.mul_le_mul hn hby) (by decide)
  obtain ⟨ad, cap, rfl, hc, hm, hv⟩ := hst
  cases ad with
  | none =>
    have hy : ys = [] := by
      rcases hv with h | ⟨b, off, e, _⟩
      · exact h
      · cases e
    subst hy
    refine wpList_plain hgd fun K hK => ?_
    have hrun : (Builtin.append_ #[t, t] o.type #[v, .slice none 0 cap]).run Try.prog w = .ok v w := by
      rcases hown.2 with ⟨rfl, rfl⟩ | ⟨g, cp, cur, rfl, _, _, hnc, _⟩
      · simp [Builtin.append_, run_underlying ht, sizeOf, typeInfo, hi, Builtin.lenOf, Builtin.firstCells]
      · simp [Builtin.append_, run_underlying ht, sizeOf, typeInfo, hi, Builtin.lenOf, Builtin.firstCells, hnc, storeCells]
    have hx' : a.eval x = .slice none 0 cap := hx
    unfold Oper.wp
    simp [execOp, ho, resolve, invoke, builtin, hs, hx', hrun, Result.andThen]
    exact hK _ _ (h v w (by simpa using hown) (World.grownBy.refl w _))
  | some p =>
    refine wpList_append_own w hgd s x t ho base e i0 z 1 bytes ht hi hz0 hz1 hz2 hzs (by decide) v n xs hs hown p ys.length cap ys hx (by simp) ?_ h1 (by unfold maxLen; omega) hbb hbase ?_
    · intro j u hj
      rcases hv with h | ⟨b, off, e, hb, hcell⟩
      · subst h; simp at hj
      · cases e
        have e2 : (⟨b, off, none⟩ : Addr).add j = ⟨b, off + j, none⟩ := by
          by_cases h0 : j = 0 <;> simp [Addr.add, h0]
        rw [e2]
        exact hcell j u hj
    · intro v' w' h1 h2 _
      exact h v' w' h1 h2
theorem ints_vals {W : World} {v : Value} {xs : List Int} : Ints W .i64 v xs ↔ Vals W v (xs.map (Value.int .i64)) := by
  constructor
  · rintro ⟨a, cap, rfl, hc, hm, h⟩
    refine ⟨a, cap, by simp, by simpa using hc, hm, ?_⟩
    rcases h with rfl | ⟨b, off, e, hb, hx⟩
    · left; rfl
    · right
      refine ⟨b, off, e, hb, fun j x hj => ?_⟩
      rw [List.getElem?_map] at hj
      cases hy : xs[j]? with
      | none => rw [hy] at hj; simp at hj
      | some y => rw [hy] at hj; simp at hj; subst hj; exact hx j y hy
  · rintro ⟨a, cap, rfl, hc, hm, h⟩
    refine ⟨a, cap, by simp, by simpa using hc, hm, ?_⟩
    rcases h with h | ⟨b, off, e, hb, hx⟩
    · left; simpa using h
    · right
      exact ⟨b, off, e, hb, fun j x hj => hx j _ (by rw [List.getElem?_map, hj]; rfl)⟩
theorem own_ints {W : World} {base n : Nat} {v : Value} {xs : List Int} (h : W.ownsRow base 3 1 v n (xs.map (Value.int .i64))) : Ints W .i64 v xs := ints_vals.2 (own_vals h)
theorem info3 : ∃ i0, Try.prog.info? 3 = some i0 ∧ i0.zero = some (.int .i64 0) ∧ i0.size = 1 ∧ i0.bytes = 8 := ⟨_, rfl, by kernel_rfl, by kernel_rfl, by kernel_rfl⟩
theorem int_cells : ∀ (xs : List Int), ∀ u ∈ xs.map (Value.int .i64), u.oneCell' = true := by
  intro xs u hu
  obtain ⟨x, _, rfl⟩ := List.mem_map.1 hu
  rfl
/-- The empty row that a literal makes. -/
theorem own_empty (W : World) (base : Nat) (hb : base ≤ W.heap.size) : (W.alloc (.cells #[] 3)).ownsRow base 3 1 (.slice (some ⟨W.heap.size, 0, none⟩) 0 0) 0 [] :=
  ⟨rfl, .inr ⟨W.heap.size, 0, #[], rfl, hb, RowAt.new W 3 #[], Nat.le_refl _, Nat.zero_le _, rfl, rfl⟩⟩

/-- A row turned round, from the place k on. -/
def Rev (W : World) (base : Nat) (v : Value) (k : Int) (A : List Int) : Prop := W.ownsRow base 3 1 v (A.length - (k + 1).toNat) ((A.drop (k + 1).toNat).reverse.map (Value.int .i64))
theorem Rev.start (W : World) (base : Nat) (A : List Int) : Rev W base (.slice none 0 0) ((A.length : Int) - 1) A := by
  unfold Rev
  rw [show ((A.length : Int) - 1 + 1).toNat = A.length by omega, Nat.sub_self, List.drop_of_length_le (Nat.le_refl _)]
  exact World.ownsRow_nil _ _ _ _
theorem Rev.done {W : World} {base : Nat} {v : Value} {A : List Int} (h : Rev W base v (-1) A) : Ints W .i64 v A.reverse := by
  unfold Rev at h
  exact own_ints h
theorem Rev.next {W : World} {base q : Nat} {v : Value} {A : List Int} {x : Int} (hx : A[q]? = some x) (h : W.ownsRow base 3 1 v (A.length - ((q : Int) + 1).toNat + 1) (((A.drop ((q : Int) + 1).toNat).reverse.map (Value.int .i64)) ++ [.int .i64 x])) : Rev W base v ((q : Int) - 1) A := by
  have hq := (List.getElem?_eq_some_iff.1 hx).1
  unfold Rev
  rw [show ((q : Int) - 1 + 1).toNat = q by omega, drop_get hx]
  rw [show ((q : Int) + 1).toNat = q + 1 by omega] at h
  rw [show A.length - q = A.length - (q + 1) + 1 by omega]
  simpa using h
theorem percent_self (A : List Int) (h : A.length ≤ 2000) : percentOf A A = 100 := by
  unfold percentOf
  split
  · rfl
  · rw [lenOf_small h h, lc_self]
    refine Int.ediv_eq_of_eq_mul_left (by omega) (by omega)

set_option maxRecDepth 100000 in
set_option maxHeartbeats 8000000 in
theorem LcsTurned_any (v1 v2 : Value) (A B : List Int) (x : Int) (w : World) (h1 : Ints w .i64 v1 A) (h2 : Ints w .i64 v2 B) :
    Calls Try.prog 6 #[v1, v2, .int .i64 x] w fun e w' => e = .returned (.bool true) ∧ Below w.heap.size w w' := by
  obtain ⟨aA, cA, rfl, hcA, hmA, atA⟩ := h1.at
  obtain ⟨aB, cB, rfl, hcB, hmB, atB⟩ := h2.at
  have AtA := Lib.hid atA; clear atA
  have AtB := Lib.hid atB; clear atB
  have HA := Lib.hid h1; clear h1
  have HB := Lib.hid h2; clear h2
  clear hcA hmA hcB hmB
  by_cases hs : 200 < A.length ∨ 200 < B.length
  · by_cases h3 : 200 < A.length
    all_goals
      first
      | have hd1 : decide ((200 : Int) < (A.length : Int)) = true := by simp; omega
      | (have hd1 : decide ((200 : Int) < (A.length : Int)) = false := by simp; omega
         have hd2 : decide ((200 : Int) < (B.length : Int)) = true := by simp; omega)
      clear hs h3
      go_enter Try.func6, Try.ntmps6
      go_wp2_with fail
      refine (awake_any _).mono ?_
      rintro e w1 ⟨rfl, b1⟩
      go_wp2_with fail
      go_ret
      exact ⟨rfl, b1⟩
  · have hlA : A.length ≤ 200 := by omega
    have hlB : B.length ≤ 200 := by omega
    have hd1 : decide ((200 : Int) < (A.length : Int)) = false := by simp; omega
    have hd2 : decide ((200 : Int) < (B.length : Int)) = false := by simp; omega
    obtain ⟨i0, hi0, hz0, hz1, hz2⟩ := info3
    clear hs
    go_enter Try.func6, Try.ntmps6
    go_wp2_with fail
    refine (awake_any _).mono ?_
    rintro e w1 ⟨rfl, b1⟩
    go_wp2_with fail
    go_loopw [8, 10] (fun p i wr => ∃ k : Int, -1 ≤ k ∧ k < A.length ∧ i = .int .i64 k ∧ Rev wr w.heap.size p k A ∧ Below w.heap.size w wr) (fun _ i _ => (intOf i + 1).toNat)
    case atStart => exact ⟨_, by omega, by omega, rfl, Rev.start _ _ _, b1⟩
    case round =>
      clear b1
      obtain ⟨k, hk1, hk2, rfl, hR, hB⟩ := hrel
      by_cases hk : 0 ≤ k
      · obtain ⟨q, rfl⟩ := Int.eq_ofNat_of_zero_le hk
        obtain ⟨y, hy⟩ : ∃ y, Hid (A[q]? = some y) := ⟨A[q]'(by omega), Lib.hid (List.getElem?_eq_getElem (by omega))⟩
        obtain ⟨bA, oA, rfl, lA, eA⟩ := AtA.out q y hy.out
        have ca : wr.cell? ⟨bA, oA + q, none⟩ = some (.int .i64 y) := (hB.cell (p := ⟨bA, oA + q, none⟩) lA).trans eA
        have hown : wr.ownsRow w.heap.size 3 1 _ _ _ := hR
        have hlen : A.length - ((q : Int) + 1).toNat + 1 ≤ 200 := by omega
        have hbs := hB.size
        clear eA hR
        go_wp2_with (at_builtin; refine wpList_append_own _ rfl _ _ 22 rfl w.heap.size 3 i0 (.int .i64 0) 1 8 Try.underlying22 hi0 hz0 hz1 hz2 rfl (by decide) _ _ _ rfl (hown.alloc _) ⟨wr.heap.size, 0, none⟩ 1 1 [.int .i64 y] rfl rfl (cell_one_new _ _ _) (by simp [Value.oneCell']) (by unfold maxLen; omega) (by omega) (by simp; omega) ?_; intro v' w2 hown' hgrow _)
        refine ⟨⟨(q : Int) - 1, by omega, by omega, rfl, Rev.next hy.out hown', (hB.alloc hbs _).grown hgrow (by simp; omega) (fun k hk => (hown.lt k hk).1)⟩, by simp [intOf]⟩
      · obtain rfl : k = -1 := by omega
        have IA := Lib.hid (Rev.done hR)
        clear hR hk hk1 hk2
        obtain ⟨w2, rfl⟩ : ∃ w2 : World, w2 = wr := ⟨_, rfl⟩
        have HB2 := Lib.hid hB
        have hbs2 := hB.size
        clear hB
        go_wp2_with fail
        go_loopw [9, 11] (fun p i wr => ∃ k : Int, -1 ≤ k ∧ k < B.length ∧ i = .int .i64 k ∧ Rev wr w2.heap.size p k B ∧ Below w2.heap.size w2 wr) (fun _ i _ => (intOf i + 1).toNat)
        case atStart => exact ⟨_, by omega, by omega, rfl, Rev.start _ _ _, Below.refl _ _⟩
        case round =>
          obtain ⟨k, hk1, hk2, rfl, hR, hB⟩ := hrel
          by_cases hk : 0 ≤ k
          · obtain ⟨q, rfl⟩ := Int.eq_ofNat_of_zero_le hk
            obtain ⟨y, hy⟩ : ∃ y, Hid (B[q]? = some y) := ⟨B[q]'(by omega), Lib.hid (List.getElem?_eq_getElem (by omega))⟩
            obtain ⟨bB, oB, rfl, lB, eB⟩ := AtB.out q y hy.out
            have cb : wr.cell? ⟨bB, oB + q, none⟩ = some (.int .i64 y) := ((HB2.out.trans (hB.mono hbs2)).cell (p := ⟨bB, oB + q, none⟩) lB).trans eB
            have hown : wr.ownsRow w2.heap.size 3 1 _ _ _ := hR
            have hlen : B.length - ((q : Int) + 1).toNat + 1 ≤ 200 := by omega
            have hbs := hB.size
            clear eB hR
            go_wp2_with (at_builtin; refine wpList_append_own _ rfl _ _ 22 rfl w2.heap.size 3 i0 (.int .i64 0) 1 8 Try.underlying22 hi0 hz0 hz1 hz2 rfl (by decide) _ _ _ rfl (hown.alloc _) ⟨wr.heap.size, 0, none⟩ 1 1 [.int .i64 y] rfl rfl (cell_one_new _ _ _) (by simp [Value.oneCell']) (by unfold maxLen; omega) (by omega) (by simp; omega) ?_; intro v' w3 hown' hgrow _)
            refine ⟨⟨(q : Int) - 1, by omega, by omega, rfl, Rev.next hy.out hown', (hB.alloc hbs _).grown hgrow (by simp; omega) (fun k hk => (hown.lt k hk).1)⟩, by simp [intOf]⟩
          · obtain rfl : k = -1 := by omega
            have IB := Lib.hid (Rev.done hR)
            have IA2 := Lib.hid (IA.out.below hB)
            have HBw : Below w.heap.size w wr := HB2.out.trans (hB.mono hbs2)
            have HA3 := Lib.hid (HA.out.below HBw)
            have HB3 := Lib.hid (HB.out.below HBw)
            clear hR hk hk1 hk2 hB HB2 hbs2 IA
            obtain ⟨w3, rfl⟩ : ∃ w3 : World, w3 = wr := ⟨_, rfl⟩
            go_wp2_with fail
            refine (Length_any _ _ A B _ HA3.out HB3.out (by omega) (by omega)).mono ?_
            rw [lenOf_small (by omega) (by omega)]
            rintro e w4 ⟨rfl, b4⟩
            have JA := Lib.hid (HA3.out.below b4)
            have JB := Lib.hid (HB3.out.below b4)
            have RA := Lib.hid (IA2.out.below b4)
            have RB := Lib.hid (IB.out.below b4)
            have hB4 : Below w.heap.size w w4 := HBw.trans (b4.mono HBw.size)
            clear b4 HA3 HB3 IA2 IB HBw
            have hs4 := hB4.size
            have hE1 := own_empty w4 w4.heap.size (Nat.le_refl _)
            have bE1 : Below w4.heap.size w4 (w4.alloc (.cells #[] 3)) := (Below.refl _ _).alloc (Nat.le_refl _) _
            have VA := Lib.hid (ints_vals.1 (JA.out.below bE1))
            have icA := int_cells A
            have icB := int_cells B
            have HicA := Lib.hid icA; clear icA
            have HicB := Lib.hid icB; clear icB
            have HE1 := Lib.hid hE1; clear hE1
            have VA' : Hid (Vals (w4.alloc (.cells #[] 3)) (.slice aA A.length cA) (A.map (Value.int .i64))) := VA
            have hl1 : 0 + (A.map (Value.int .i64)).length ≤ 1000000 := by rw [List.length_map]; omega
            have hl2 : 0 + (B.map (Value.int .i64)).length ≤ 1000000 := by rw [List.length_map]; omega
            have hl3 : 0 + (A.map (Value.int .i64)).length + 1 ≤ 1000 := by rw [List.length_map]; omega
            have hl4 : 0 + (B.map (Value.int .i64)).length + 1 ≤ 1000 := by rw [List.length_map]; omega
            clear VA
            go_wp2_with (first
              | (at_builtin
                 refine wpList_append_vals rfl (.tmp 57) (.tmp 58) 22 3 rfl w4.heap.size i0 (.int .i64 0) 8 Try.underlying22 hi0 hz0 hz1 hz2 rfl _ _ 0 [] (A.map (Value.int .i64)) rfl HE1.out rfl VA'.out HicA.out hl1 (by decide) (by simp) ?_
                 intro v5 w5 hown5 hgrow5
                 have b5 : Below w4.heap.size w4 w5 := bE1.grown hgrow5 (by simp) (by intro k hk; have := (HE1.out.lt k hk).1; omega)
                 have s5 := b5.size
                 clear hgrow5)
              | (at_builtin
                 refine wpList_append_own _ rfl (.tmp 59) (.tmp 61) 22 rfl w4.heap.size 3 i0 (.int .i64 0) 1 8 Try.underlying22 hi0 hz0 hz1 hz2 rfl (by decide) _ _ _ rfl (hown5.alloc _) ⟨w5.heap.size, 0, none⟩ 1 1 [.int .i64 x] rfl rfl (cell_one_new _ _ _) (by simp [Value.oneCell']) (by unfold maxLen; omega) (by omega) (by simp; omega) ?_
                 intro v6 w6 hown6 hgrow6 _
                 have b6 : Below w4.heap.size w4 w6 := (b5.alloc s5 _).grown hgrow6 (by simp; omega) (fun k hk => (hown5.lt k hk).1)
                 have s6 := b6.size
                 have hE2 := own_empty w6 w6.heap.size (Nat.le_refl _)
                 have bE2 : Below w6.heap.size w6 (w6.alloc (.cells #[] 3)) := (Below.refl _ _).alloc (Nat.le_refl _) _
                 have VB : Vals (w6.alloc (.cells #[] 3)) (.slice aB B.length cB) (B.map (Value.int .i64)) := ints_vals.1 ((JB.out.below b6).below bE2)
                 have HVB := Lib.hid VB
                 have HE2 := Lib.hid hE2
                 have I1 := own_ints (xs := A ++ [x]) (by simpa using hown6)
                 have HI1 := Lib.hid I1
                 clear hgrow6 hown5 VB hE2 I1)
              | (at_builtin
                 refine wpList_append_vals rfl (.tmp 63) (.tmp 64) 22 3 rfl w6.heap.size i0 (.int .i64 0) 8 Try.underlying22 hi0 hz0 hz1 hz2 rfl _ _ 0 [] (B.map (Value.int .i64)) rfl HE2.out rfl HVB.out HicB.out hl2 (by decide) (by simp) ?_
                 intro v7 w7 hown7 hgrow7
                 have b7 : Below w6.heap.size w6 w7 := bE2.grown hgrow7 (by simp) (by intro k hk; have := (HE2.out.lt k hk).1; omega)
                 have s7 := b7.size
                 clear hgrow7)
              | (at_builtin
                 refine wpList_append_own _ rfl (.tmp 65) (.tmp 67) 22 rfl w6.heap.size 3 i0 (.int .i64 0) 1 8 Try.underlying22 hi0 hz0 hz1 hz2 rfl (by decide) _ _ _ rfl (hown7.alloc _) ⟨w7.heap.size, 0, none⟩ 1 1 [.int .i64 x] rfl rfl (cell_one_new _ _ _) (by simp [Value.oneCell']) (by unfold maxLen; omega) (by omega) (by simp; omega) ?_
                 intro v8 w8 hown8 hgrow8 _
                 have b8 : Below w6.heap.size w6 w8 := (b7.alloc s7 _).grown hgrow8 (by simp; omega) (fun k hk => (hown7.lt k hk).1)
                 have s8 := b8.size
                 have I2 := own_ints (xs := B ++ [x]) (by simpa using hown8)
                 have HI2 := Lib.hid I2
                 have HI1' := Lib.hid (HI1.out.below b8)
                 clear hgrow8 hown7 I2))
            have B48 : Below w4.heap.size w4 w8 := b6.trans (b8.mono s6)
            have HB8 := Lib.hid (hB4.trans (B48.mono hs4))
            have KA := Lib.hid (JA.out.below B48)
            have KB := Lib.hid (JB.out.below B48)
            have RA8 := Lib.hid (RA.out.below B48)
            have RB8 := Lib.hid (RB.out.below B48)
            have hlc : lc A B ≤ A.length := lc_le_left A B
            clear B48 b8 s8 b6 s6 b5 s5 b7 s7 bE1 bE2 HE1 HE2 HVB VA' hown8 hown6 HI1 JA JB RA RB hB4 hs4 hl1 hl2 hl3 hl4
            refine (Length_any _ _ B A _ KB.out KA.out (by omega) (by omega)).mono ?_
            rw [lenOf_small (by omega) (by omega), lc_comm B A]
            rintro e w9 ⟨rfl, b9⟩
            have RA9 := Lib.hid (RA8.out.below b9)
            have RB9 := Lib.hid (RB8.out.below b9)
            go_wp2_with fail
            refine (Length_any _ _ A.reverse B.reverse _ RA9.out RB9.out (by simp; omega) (by simp; omega)).mono ?_
            rw [lenOf_small (by simp; omega) (by simp; omega), lc_rev]
            rintro e wA ⟨rfl, bA⟩
            have b8A := b9.trans (bA.mono b9.size)
            have KAA := Lib.hid (KA.out.below b8A)
            clear b9 bA RA8 RB8 RA9 RB9
            go_wp2_with fail
            refine (Length_any _ _ A A _ KAA.out KAA.out (by omega) (by omega)).mono ?_
            rw [lenOf_small (by omega) (by omega), lc_self]
            rintro e wB ⟨rfl, bB⟩
            have b8B := b8A.trans (bB.mono b8A.size)
            have M1 := Lib.hid (HI1'.out.below b8B)
            have M2 := Lib.hid (HI2.out.below b8B)
            clear b8A bB KAA
            go_wp2_with fail
            refine (Length_any _ _ (A ++ [x]) (B ++ [x]) _ M1.out M2.out (by simp; omega) (by simp; omega)).mono ?_
            rw [lenOf_small (by simp; omega) (by simp; omega), lc_snoc_same, Int.natCast_add]
            rintro e wC ⟨rfl, bC⟩
            have b8C := b8B.trans (bC.mono b8B.size)
            have KAC := Lib.hid (KA.out.below b8C)
            clear b8B bC M1 M2
            go_wp2_with fail
            refine (Percent_any _ _ A A _ KAC.out KAC.out (by omega) (by omega)).mono ?_
            rw [percent_self A (by omega)]
            rintro e wD ⟨rfl, bD⟩
            have hfin := HB8.out.trans ((b8C.trans (bD.mono b8C.size)).mono HB8.out.size)
            clear bD b8C KAC HB8
            go_wp2_with fail
            go_ret
            exact ⟨rfl, hfin⟩
end Go.Proofs.Ythligkdncddmpaa
