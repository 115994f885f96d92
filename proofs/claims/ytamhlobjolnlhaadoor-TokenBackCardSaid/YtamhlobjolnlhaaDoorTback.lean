/-
  For the law TokenBack. Condition: the library's own variables and the table are as they are laid.
-/
import Derived.Test.YtamhlobjolnlhaaDoorWake4
import Derived.Test.YtamhlobjolnlhaaDoorSpelt
import Derived.Deep.RegionHeld3
namespace Go.Proofs.YtamhlobjolnlhaaDoor
open Go.RowKit Go.Shelf

theorem short_yes {L : List (List UInt8)} (h : shortL L = true) : L.length ≤ 60 ∧ ∀ x ∈ L, x.length ≤ 60 := by
  unfold shortL at h
  simpa using h
set_option maxRecDepth 100000 in
set_option maxHeartbeats 8000000 in
theorem tokenBack_any (v : Value) (L : List (List UInt8)) (w : World) (h1 : Strs w v L) (hW : TokW w) : Calls Tryd.prog 9 #[v] w fun e w' => e = .returned (.bool true) ∧ Below w.heap.size w w' := by
  have HW := Lib.hid hW; clear hW
  have hW4 := HW.out.lex.size
  have HS := Lib.hid h1
  obtain ⟨a, cap, rfl, hc, hm, hat⟩ := h1
  have Hat := Lib.hid hat
  unfold maxLen at hm
  clear hat
  go_enter Tryd.func9, Tryd.ntmps9
  go_wp2_with fail
  refine (wake4_any _ HW.out).mono ?_
  rintro e w1 ⟨rfl, b1⟩
  have HW1 := Lib.hid (HW.out.below b1 hW4)
  have HS1 := Lib.hid (HS.out.below b1)
  go_wp2_with fail
  obtain ⟨sm, hsm⟩ : ∃ sm, Hid (shortL L = sm) := ⟨_, Lib.hid rfl⟩
  refine (short_any _ L _ HS1.out).mono ?_
  rw [hsm.out]
  rintro e w2 ⟨rfl, rfl⟩
  cases sm with
  | false =>
    go_wp2_with fail
    go_ret
    exact ⟨rfl, b1⟩
  | true =>
  obtain ⟨hl60, hx60⟩ := short_yes hsm.out
  have Hx60 := Lib.hid hx60
  clear hx60
  go_wp2_with fail
  refine (Spell_any _ L _ HS1.out HW1.out (by omega) (fun x hx => by have := Hx60.out x hx; omega)).mono ?_
  rintro e w3 ⟨hr, b3⟩
  have B3 := b1.trans (b3.mono b1.size)
  have HW3 := Lib.hid (HW.out.below B3 hW4)
  clear b1 b3 HW1 HS1
  rcases hr with ⟨hex, rfl⟩ | ⟨hall, rfl⟩
  · have Hex := Lib.hid hex
    clear hex
    go_wp2_with fail
    go_loopw [7] (fun c wr => ∃ k : Nat, c = .int .i64 k ∧ k ≤ L.length ∧ Hid (Below w.heap.size w wr) ∧ Hid (∀ j x, j < k → L[j]? = some x → kindOf x ≠ 0)) (fun c _ => L.length - (intOf c).toNat)
    case atStart => exact ⟨0, rfl, by omega, Lib.hid B3, Lib.hid (fun j x h => by omega)⟩
    case round =>
      obtain ⟨k, rfl, hk, hB, hno⟩ := hrel
      by_cases hlt : k < L.length
      · obtain ⟨x, hx⟩ : ∃ x, L[k]? = some x := ⟨_, List.getElem?_eq_getElem hlt⟩
        have hxs := Hx60.out x (List.mem_of_getElem? hx)
        obtain ⟨b, off, rfl, hbl, hli⟩ := Hat.out k x hx
        have c0 : wr.cell? ⟨b, off + k, none⟩ = some (.string (bs x)) := (hB.out.cell (p := ⟨b, off + k, none⟩) hbl).trans hli
        obtain ⟨kd, hkd⟩ : ∃ kd, Hid (kindOf x = kd) := ⟨_, Lib.hid rfl⟩
        have Hk := Lib.hid hx
        clear hli hx
        go_wp2_with fail
        refine (Kind_any (bs x) _ (HW.out.lex.below hB.out hW4) (by rw [bs_size]; omega)).mono ?_
        rw [tl_bs, hkd.out]
        rintro e w4 ⟨rfl, b4⟩
        have hB4 := Lib.hid (hB.out.trans (b4.mono hB.out.size))
        clear b4 c0
        by_cases h0 : kd = 0
        · subst h0
          go_wp2_with fail
          go_ret
          exact ⟨rfl, hB4.out⟩
        · have d0 : (kd == 0) = false := by simpa using h0
          have hnx : Hid (∀ j y, j < k + 1 → L[j]? = some y → kindOf y ≠ 0) := Lib.hid (fun j y hj hy => by
            rcases Nat.lt_or_ge j k with h | h
            · exact hno.out j y h hy
            · obtain rfl : j = k := by omega
              rw [Hk.out] at hy
              cases hy
              rw [hkd.out]
              exact h0)
          clear h0 hno
          go_wp2_with fail
          exact ⟨⟨k + 1, by go_num, by omega, hB4, hnx⟩, by simp [intOf]; omega⟩
      · obtain rfl : k = L.length := by omega
        exfalso
        obtain ⟨x, hx, h0⟩ := Hex.out
        obtain ⟨i, hi⟩ := List.mem_iff_getElem?.1 hx
        exact hno.out i x ((List.getElem?_eq_some_iff.1 hi).1) hi h0
  · have Hall := Lib.hid hall
    clear hall
    obtain ⟨S, hS⟩ : ∃ S, Hid (spellTo L L.length = S) := ⟨_, Lib.hid rfl⟩
    have hle := spell_le (L := L) (fun x hx => by have := Hx60.out x hx; omega) L.length
    obtain ⟨T, hT, hTl0, hTt, hTk⟩ := spelt Hall.out
    have hTl1 : T.length ≤ L.length + 1 := by omega
    have hTl2 : L.length + 1 ≤ T.length := by omega
    have hTl := Lib.hid hTl0
    clear hTl0
    rw [hS.out] at hT hle ⊢
    have HT := Lib.hid hT
    have HTt := Lib.hid hTt
    have HTk := Lib.hid hTk
    have hSs : (bs S).size = S.length := bs_size _
    clear hT hTt hTk
    go_wp2_with fail
    go_loopw [7] (fun c wr => ∃ k : Nat, c = .int .i64 k ∧ k ≤ L.length ∧ Hid (Below w.heap.size w wr)) (fun c _ => L.length - (intOf c).toNat)
    case atStart => exact ⟨0, rfl, by omega, Lib.hid B3⟩
    case round =>
      obtain ⟨k, rfl, hk, hB⟩ := hrel
      by_cases hlt : k < L.length
      · obtain ⟨x, hx⟩ : ∃ x, L[k]? = some x := ⟨_, List.getElem?_eq_getElem hlt⟩
        have hxs := Hx60.out x (List.mem_of_getElem? hx)
        obtain ⟨b, off, rfl, hbl, hli⟩ := Hat.out k x hx
        have c0 : wr.cell? ⟨b, off + k, none⟩ = some (.string (bs x)) := (hB.out.cell (p := ⟨b, off + k, none⟩) hbl).trans hli
        have hkd := Hall.out x (List.mem_of_getElem? hx)
        have d0 : (kindOf x == 0) = false := by simpa using hkd
        clear hli hx hkd
        go_wp2_with fail
        refine (Kind_any (bs x) _ (HW.out.lex.below hB.out hW4) (by rw [bs_size]; omega)).mono ?_
        rw [tl_bs]
        rintro e w4 ⟨rfl, b4⟩
        have hB4 := Lib.hid (hB.out.trans (b4.mono hB.out.size))
        clear b4 c0
        go_wp2_with fail
        exact ⟨⟨k + 1, by go_num, by omega, hB4⟩, by simp [intOf]; omega⟩
      · obtain rfl : k = L.length := by omega
        clear B3 HW3
        go_wp2_with fail
        refine (RefLex_any (bs S) _ (by rw [bs_size]; omega)).mono ?_
        unfold LexGives
        rw [tl_bs, HT.out]
        simp only
        rintro e w5 ⟨⟨v5, rfl, t5⟩, b5⟩
        have B5 := hB.out.trans (b5.mono hB.out.size)
        have T5 := Lib.hid t5
        obtain ⟨a5, cap5, rfl, hc5, hm5, hat5⟩ := t5
        clear b5 hB hat5
        have hd5 : ((T.length : Int) != (L.length : Int) + 1) = false := by rw [hTl.out]; simp
        go_wp2_with fail
        refine (Texts_any _ T _ T5.out (by omega)).mono ?_
        rw [HTt.out]
        rintro e w6 ⟨⟨v6, rfl, ho6⟩, b6⟩
        have B6 := B5.trans (b6.mono B5.size)
        have S6 := Lib.hid (own_strs ho6)
        have T6 := Lib.hid (T5.out.below b6)
        clear b6 ho6 B5 T5
        go_wp2_with fail
        refine (SameStrs_any _ _ L _ S6.out (HS.out.below B6)).mono ?_
        rintro e w7 ⟨rfl, b7⟩
        have B7 := Lib.hid (B6.trans (b7.mono B6.size))
        obtain ⟨a7, cap7, e7, hc7, hm7, hat7⟩ := T6.out.below b7
        cases e7
        have Hat7 := Lib.hid hat7
        clear b7 B6 T6 S6 hat7
        unfold maxLen at hm7
        go_wp2_with fail
        go_loopw [11] (fun c wr => ∃ k : Nat, c = .int .i64 k ∧ k ≤ L.length ∧ Hid (Below w7.heap.size w7 wr)) (fun c _ => L.length - (intOf c).toNat)
        case atStart => exact ⟨0, rfl, by omega, Lib.hid (Below.refl _ _)⟩
        case round =>
          obtain ⟨k, rfl, hk, hB⟩ := hrel
          by_cases hlt : k < L.length
          · obtain ⟨x, hx⟩ : ∃ x, L[k]? = some x := ⟨_, List.getElem?_eq_getElem hlt⟩
            obtain ⟨t, ht⟩ : ∃ t, T[k]? = some t := ⟨_, List.getElem?_eq_getElem (by omega)⟩
            have hxs := Hx60.out x (List.mem_of_getElem? hx)
            have hBw := B7.out.trans (hB.out.mono B7.out.size)
            obtain ⟨b, off, rfl, hbl, hli⟩ := Hat.out k x hx
            have c9 : wr.cell? ⟨b, off + k, none⟩ = some (.string (bs x)) := (hBw.cell (p := ⟨b, off + k, none⟩) hbl).trans hli
            obtain ⟨b', off', rfl, hbl', hli'⟩ := Hat7.out k t ht
            obtain ⟨c0, c1, c2, c3⟩ := hli'.below hB.out hbl'
            obtain ⟨hkk, hlead⟩ := HTk.out k t x ht hx
            rw [hkk] at c0
            clear hli hli' hx ht hkk
            obtain ⟨kd, hkd⟩ : ∃ kd, Hid (kindOf x = kd) := ⟨_, Lib.hid rfl⟩
            rw [hkd.out] at c0
            have hwr := hB.out.size
            have HL : Hid (LexW wr.drew) := Lib.hid ((HW.out.lex.below (below_draws hBw 1) hW4))
            have Hs0 := Lib.hid (And.intro c0 (And.intro c3 c9))
            have Hs1 : Hid (wr.drew.cell? ⟨b', off' + k * 4, none⟩ = some (.int .i64 kd) ∧ wr.drew.cell? ⟨b', off' + k * 4 + 3, none⟩ = some (.string (bs t.lead)) ∧ wr.drew.cell? ⟨b, off + k, none⟩ = some (.string (bs x))) := Lib.hid ⟨c0, c3, c9⟩
            have hBd : Hid (Below w7.heap.size w7 wr.drew) := Lib.hid (below_draws hB.out 1)
            have hb1 : b < wr.drew.heap.size := by have := hBw.size; show b < wr.heap.size; omega
            have hb2 : b' < wr.drew.heap.size := by show b' < wr.heap.size; omega
            clear c0 c1 c2 c3 c9 hBw hbl hbl'
            generalize t.lead = ld at *
            have hk0 : (0 : Int) ≤ (k : Int) := by omega
            have hk1 : (k : Int) < (T.length : Int) := by omega
            have hk2 : (k : Int) < (L.length : Int) := by omega
            have hk3 : (k : Int).toNat = k := by omega
            rcases hlead with rfl | rfl
            all_goals
              first | rw [show bs [] = (⟨#[]⟩ : ByteArray) from rfl] at Hs0 Hs1 | rw [show bs [32] = (⟨#[32]⟩ : ByteArray) from rfl] at Hs0 Hs1
              go_wp2_with fail
            · skip
              refine wp_region_held_drew (S := fun W => W.cell? ⟨b', off' + k * 4, none⟩ = some (.int .i64 kd) ∧ W.cell? ⟨b', off' + k * 4 + 3, none⟩ = some (.string ⟨#[]⟩) ∧ W.cell? ⟨b, off + k, none⟩ = some (.string (bs x))) (by kernel_rfl) (Hs1.out) (fun hHeld => ?_)
              refine wpAnyH_take (i := 0) (oi := { dst := some 75, op := Op.move (Operand.tmp 8), type := 23, pos := "law.go:79", after := #[], guard := none }) (v := ?v0) rfl (by kernel_rfl) (by kernel_rfl) (by kernel_rfl) (fun _ _ _ h => h) (Or.inl ⟨by rfl, ?y0⟩) (by assumption) ?_
              case y0 => (intro w hSw; (try dsimp only at hSw); go_simp <;> with_reducible rfl)
              try simp only [Act.put, List.setIfInBounds_toArray, List.set_cons_zero, List.set_cons_succ]
              refine wpAnyH_take (i := 1) (oi := { dst := some 76, op := Op.move (Operand.tmp 11), type := 3, pos := "law.go:79", after := #[], guard := none }) (v := ?v1) rfl (by kernel_rfl) (by kernel_rfl) (by kernel_rfl) (fun _ _ _ h => h) (Or.inl ⟨by rfl, ?y1⟩) (by assumption) ?_
              case y1 => (intro w hSw; (try dsimp only at hSw); go_simp <;> with_reducible rfl)
              try simp only [Act.put, List.setIfInBounds_toArray, List.set_cons_zero, List.set_cons_succ]
              refine wpAnyH_take (i := 2) (oi := { dst := some 77, op := Op.indexAddr 23 (Operand.tmp 75) (Operand.tmp 76), type := 0, pos := "law.go:79", after := #[{ on := 0, ground := Ground.data }, { on := 1, ground := Ground.data }], guard := none }) (v := ?v2) rfl (by kernel_rfl) (by kernel_rfl) (by kernel_rfl) (fun _ _ _ h => h) (Or.inl ⟨by rfl, ?y2⟩) (by assumption) ?_
              case y2 => (intro w hSw; (try dsimp only at hSw); go_simp <;> with_reducible rfl)
              try simp only [Act.put, List.setIfInBounds_toArray, List.set_cons_zero, List.set_cons_succ]
              refine wpAnyH_take (i := 3) (oi := { dst := some 78, op := Op.fieldAddr 30 (Operand.tmp 77) 3, type := 0, pos := "law.go:79", after := #[{ on := 2, ground := Ground.data }], guard := none }) (v := ?v3) rfl (by kernel_rfl) (by kernel_rfl) (by kernel_rfl) (fun _ _ _ h => h) (Or.inl ⟨by rfl, ?y3⟩) (by assumption) ?_
              case y3 => (intro w hSw; (try dsimp only at hSw); go_simp <;> with_reducible rfl)
              try simp only [Act.put, List.setIfInBounds_toArray, List.set_cons_zero, List.set_cons_succ]
              refine wpAnyH_take (i := 4) (oi := { dst := some 79, op := Op.load 9 (Operand.tmp 78), type := 9, pos := "law.go:79", after := #[{ on := 3, ground := Ground.data }], guard := none }) (v := ?v4) rfl (by kernel_rfl) (by kernel_rfl) (by kernel_rfl) (fun _ _ _ h => h) (Or.inl ⟨by rfl, ?y4⟩) (by assumption) ?_
              case y4 => (intro w hSw; (try dsimp only at hSw); go_simp <;> with_reducible rfl)
              try simp only [Act.put, List.setIfInBounds_toArray, List.set_cons_zero, List.set_cons_succ]
              refine wpAnyH_take (i := 5) (oi := { dst := some 80, op := Op.binOp BinOp.neq 9 (Operand.tmp 79) (Operand.const (Value.string { data := #[] })) 9, type := 4, pos := "law.go:79", after := #[{ on := 4, ground := Ground.data }], guard := none }) (v := ?v5) rfl (by kernel_rfl) (by kernel_rfl) (by kernel_rfl) (fun _ _ _ h => h) (Or.inl ⟨by rfl, ?y5⟩) (by assumption) ?_
              case y5 => (intro w hSw; (try dsimp only at hSw); go_simp <;> with_reducible rfl)
              try simp only [Act.put, List.setIfInBounds_toArray, List.set_cons_zero, List.set_cons_succ]
              refine wpAnyH_take (i := 6) (oi := { dst := some 81, op := Op.move (Operand.tmp 80), type := 4, pos := "law.go:79", after := #[{ on := 5, ground := Ground.data }], guard := none }) (v := ?v6) rfl (by kernel_rfl) (by kernel_rfl) (by kernel_rfl) (fun _ _ _ h => h) (Or.inl ⟨by rfl, ?y6⟩) (by assumption) ?_
              case y6 => (intro w hSw; (try dsimp only at hSw); go_simp <;> with_reducible rfl)
              try simp only [Act.put, List.setIfInBounds_toArray, List.set_cons_zero, List.set_cons_succ]
              refine wpAnyH_take (i := 7) (oi := { dst := some 82, op := Op.move (Operand.tmp 8), type := 23, pos := "law.go:79", after := #[{ on := 6, ground := Ground.guard }], guard := some (6, true) }) (v := undef) rfl (by kernel_rfl) (by kernel_rfl) (by kernel_rfl) (fun _ _ _ h => h) (Or.inr ⟨by rfl, rfl⟩) (by assumption) ?_
              try simp only [Act.put, List.setIfInBounds_toArray, List.set_cons_zero, List.set_cons_succ]
              refine wpAnyH_take (i := 8) (oi := { dst := some 83, op := Op.move (Operand.tmp 11), type := 3, pos := "law.go:79", after := #[{ on := 6, ground := Ground.guard }], guard := some (6, true) }) (v := undef) rfl (by kernel_rfl) (by kernel_rfl) (by kernel_rfl) (fun _ _ _ h => h) (Or.inr ⟨by rfl, rfl⟩) (by assumption) ?_
              try simp only [Act.put, List.setIfInBounds_toArray, List.set_cons_zero, List.set_cons_succ]
              refine wpAnyH_take (i := 9) (oi := { dst := some 84, op := Op.indexAddr 23 (Operand.tmp 82) (Operand.tmp 83), type := 0, pos := "law.go:79", after := #[{ on := 7, ground := Ground.data }, { on := 8, ground := Ground.data }, { on := 6, ground := Ground.guard }], guard := some (6, true) }) (v := undef) rfl (by kernel_rfl) (by kernel_rfl) (by kernel_rfl) (fun _ _ _ h => h) (Or.inr ⟨by rfl, rfl⟩) (by assumption) ?_
              try simp only [Act.put, List.setIfInBounds_toArray, List.set_cons_zero, List.set_cons_succ]
              refine wpAnyH_take (i := 10) (oi := { dst := some 85, op := Op.fieldAddr 30 (Operand.tmp 84) 3, type := 0, pos := "law.go:79", after := #[{ on := 9, ground := Ground.data }, { on := 6, ground := Ground.guard }], guard := some (6, true) }) (v := undef) rfl (by kernel_rfl) (by kernel_rfl) (by kernel_rfl) (fun _ _ _ h => h) (Or.inr ⟨by rfl, rfl⟩) (by assumption) ?_
              try simp only [Act.put, List.setIfInBounds_toArray, List.set_cons_zero, List.set_cons_succ]
              refine wpAnyH_take (i := 11) (oi := { dst := some 86, op := Op.load 9 (Operand.tmp 85), type := 9, pos := "law.go:79", after := #[{ on := 10, ground := Ground.data }, { on := 6, ground := Ground.guard }], guard := some (6, true) }) (v := undef) rfl (by kernel_rfl) (by kernel_rfl) (by kernel_rfl) (fun _ _ _ h => h) (Or.inr ⟨by rfl, rfl⟩) (by assumption) ?_
              try simp only [Act.put, List.setIfInBounds_toArray, List.set_cons_zero, List.set_cons_succ]
              refine wpAnyH_take (i := 12) (oi := { dst := some 87, op := Op.binOp BinOp.neq 9 (Operand.tmp 86) (Operand.const (Value.string { data := #[32] })) 9, type := 4, pos := "law.go:79", after := #[{ on := 11, ground := Ground.data }, { on := 6, ground := Ground.guard }], guard := some (6, true) }) (v := undef) rfl (by kernel_rfl) (by kernel_rfl) (by kernel_rfl) (fun _ _ _ h => h) (Or.inr ⟨by rfl, rfl⟩) (by assumption) ?_
              try simp only [Act.put, List.setIfInBounds_toArray, List.set_cons_zero, List.set_cons_succ]
              refine wpAnyH_take (i := 13) (oi := { dst := some 88, op := Op.pick (Operand.tmp 81) (Operand.tmp 87) (Operand.const (Value.bool false)), type := 4, pos := "law.go:79", after := #[{ on := 6, ground := Ground.data }, { on := 12, ground := Ground.data }], guard := none }) (v := ?v13) rfl (by kernel_rfl) (by kernel_rfl) (by kernel_rfl) (fun _ _ _ h => h) (Or.inl ⟨by rfl, ?y13⟩) (by assumption) ?_
              case y13 => (intro w hSw; (try dsimp only at hSw); go_simp <;> with_reducible rfl)
              try simp only [Act.put, List.setIfInBounds_toArray, List.set_cons_zero, List.set_cons_succ]
              refine wpAnyH_take (i := 14) (oi := { dst := some 89, op := Op.move (Operand.tmp 88), type := 4, pos := "law.go:79", after := #[{ on := 13, ground := Ground.data }, { on := 6, ground := Ground.chain }], guard := none }) (v := ?v14) rfl (by kernel_rfl) (by kernel_rfl) (by kernel_rfl) (fun _ _ _ h => h) (Or.inl ⟨by rfl, ?y14⟩) (by assumption) ?_
              case y14 => (intro w hSw; (try dsimp only at hSw); go_simp <;> with_reducible rfl)
              try simp only [Act.put, List.setIfInBounds_toArray, List.set_cons_zero, List.set_cons_succ]
              refine wpAnyH_take (i := 15) (oi := { dst := some 90, op := Op.move (Operand.tmp 8), type := 23, pos := "law.go:79", after := #[{ on := 14, ground := Ground.guard }], guard := some (14, false) }) (v := ?v15) rfl (by kernel_rfl) (by kernel_rfl) (by kernel_rfl) (fun _ _ _ h => h) (Or.inl ⟨by rfl, ?y15⟩) (by assumption) ?_
              case y15 => (intro w hSw; (try dsimp only at hSw); go_simp <;> with_reducible rfl)
              try simp only [Act.put, List.setIfInBounds_toArray, List.set_cons_zero, List.set_cons_succ]
              refine wpAnyH_take (i := 16) (oi := { dst := some 91, op := Op.move (Operand.tmp 11), type := 3, pos := "law.go:79", after := #[{ on := 14, ground := Ground.guard }], guard := some (14, false) }) (v := ?v16) rfl (by kernel_rfl) (by kernel_rfl) (by kernel_rfl) (fun _ _ _ h => h) (Or.inl ⟨by rfl, ?y16⟩) (by assumption) ?_
              case y16 => (intro w hSw; (try dsimp only at hSw); go_simp <;> with_reducible rfl)
              try simp only [Act.put, List.setIfInBounds_toArray, List.set_cons_zero, List.set_cons_succ]
              refine wpAnyH_take (i := 17) (oi := { dst := some 92, op := Op.indexAddr 23 (Operand.tmp 90) (Operand.tmp 91), type := 0, pos := "law.go:79", after := #[{ on := 15, ground := Ground.data }, { on := 16, ground := Ground.data }, { on := 14, ground := Ground.guard }], guard := some (14, false) }) (v := ?v17) rfl (by kernel_rfl) (by kernel_rfl) (by kernel_rfl) (fun _ _ _ h => h) (Or.inl ⟨by rfl, ?y17⟩) (by assumption) ?_
              case y17 => (intro w hSw; (try dsimp only at hSw); go_simp <;> with_reducible rfl)
              try simp only [Act.put, List.setIfInBounds_toArray, List.set_cons_zero, List.set_cons_succ]
              refine wpAnyH_take (i := 18) (oi := { dst := some 93, op := Op.fieldAddr 30 (Operand.tmp 92) 0, type := 0, pos := "law.go:79", after := #[{ on := 17, ground := Ground.data }, { on := 14, ground := Ground.guard }], guard := some (14, false) }) (v := ?v18) rfl (by kernel_rfl) (by kernel_rfl) (by kernel_rfl) (fun _ _ _ h => h) (Or.inl ⟨by rfl, ?y18⟩) (by assumption) ?_
              case y18 => (intro w hSw; (try dsimp only at hSw); go_simp <;> with_reducible rfl)
              try simp only [Act.put, List.setIfInBounds_toArray, List.set_cons_zero, List.set_cons_succ]
              refine wpAnyH_take (i := 19) (oi := { dst := some 94, op := Op.load 3 (Operand.tmp 93), type := 3, pos := "law.go:79", after := #[{ on := 18, ground := Ground.data }, { on := 14, ground := Ground.guard }], guard := some (14, false) }) (v := ?v19) rfl (by kernel_rfl) (by kernel_rfl) (by kernel_rfl) (fun _ _ _ h => h) (Or.inl ⟨by rfl, ?y19⟩) (by assumption) ?_
              case y19 => (intro w hSw; (try dsimp only at hSw); go_simp <;> with_reducible rfl)
              try simp only [Act.put, List.setIfInBounds_toArray, List.set_cons_zero, List.set_cons_succ]
              refine wpAnyH_take (i := 20) (oi := { dst := some 95, op := Op.move (Operand.tmp 0), type := 35, pos := "law.go:79", after := #[{ on := 14, ground := Ground.guard }], guard := some (14, false) }) (v := ?v20) rfl (by kernel_rfl) (by kernel_rfl) (by kernel_rfl) (fun _ _ _ h => h) (Or.inl ⟨by rfl, ?y20⟩) (by assumption) ?_
              case y20 => (intro w hSw; (try dsimp only at hSw); go_simp <;> with_reducible rfl)
              try simp only [Act.put, List.setIfInBounds_toArray, List.set_cons_zero, List.set_cons_succ]
              refine wpAnyH_take (i := 21) (oi := { dst := some 96, op := Op.move (Operand.tmp 11), type := 3, pos := "law.go:79", after := #[{ on := 14, ground := Ground.guard }], guard := some (14, false) }) (v := ?v21) rfl (by kernel_rfl) (by kernel_rfl) (by kernel_rfl) (fun _ _ _ h => h) (Or.inl ⟨by rfl, ?y21⟩) (by assumption) ?_
              case y21 => (intro w hSw; (try dsimp only at hSw); go_simp <;> with_reducible rfl)
              try simp only [Act.put, List.setIfInBounds_toArray, List.set_cons_zero, List.set_cons_succ]
              refine wpAnyH_take (i := 22) (oi := { dst := some 97, op := Op.indexAddr 35 (Operand.tmp 95) (Operand.tmp 96), type := 0, pos := "law.go:79", after := #[{ on := 20, ground := Ground.data }, { on := 21, ground := Ground.data }, { on := 14, ground := Ground.guard }], guard := some (14, false) }) (v := ?v22) rfl (by kernel_rfl) (by kernel_rfl) (by kernel_rfl) (fun _ _ _ h => h) (Or.inl ⟨by rfl, ?y22⟩) (by assumption) ?_
              case y22 => (intro w hSw; (try dsimp only at hSw); go_simp <;> with_reducible rfl)
              try simp only [Act.put, List.setIfInBounds_toArray, List.set_cons_zero, List.set_cons_succ]
              refine wpAnyH_take (i := 23) (oi := { dst := some 98, op := Op.load 9 (Operand.tmp 97), type := 9, pos := "law.go:79", after := #[{ on := 22, ground := Ground.data }, { on := 14, ground := Ground.guard }], guard := some (14, false) }) (v := ?v23) rfl (by kernel_rfl) (by kernel_rfl) (by kernel_rfl) (fun _ _ _ h => h) (Or.inl ⟨by rfl, ?y23⟩) (by assumption) ?_
              case y23 => (intro w hSw; (try dsimp only at hSw); go_simp <;> with_reducible rfl)
              try simp only [Act.put, List.setIfInBounds_toArray, List.set_cons_zero, List.set_cons_succ]
              refine wpAnyH_ready (rs := [24]) (by kernel_rfl) (by simp) ?_
              refine AllReadyH.cons (o := { dst := some 99, op := Op.call { callee := Callee.value (Operand.func 22), args := #[Operand.tmp 98], argTypes := #[9] }, type := 3, pos := "law.go:79", after := #[{ on := 23, ground := Ground.data }, { on := 14, ground := Ground.chain }, { on := 14, ground := Ground.guard }], guard := some (14, false) }) rfl (fun K hK => ?_) AllReadyH.nil
              go_simp
              go_at_call 22
              refine (Kind_any (bs x) _ HL.out (by rw [bs_size]; omega)).mono ?_
              rw [tl_bs, hkd.out]
              rintro e w8 ⟨rfl, b8⟩
              have Hs8 := Lib.hid (And.intro ((b8.cell (p := ⟨b', off' + k * 4, none⟩) hb2).trans Hs1.out.1) (And.intro ((b8.cell (p := ⟨b', off' + k * 4 + 3, none⟩) hb2).trans Hs1.out.2.1) ((b8.cell (p := ⟨b, off + k, none⟩) hb1).trans Hs1.out.2.2)))
              have HB8 := Lib.hid (hBd.out.trans (b8.mono hBd.out.size))
              clear b8
              try go_wp2_with fail
              refine hK.out _ _ Hs8.out (fun hHeld => ?_)
              clear hK K
              try simp only [Act.put, List.setIfInBounds_toArray, List.set_cons_zero, List.set_cons_succ]
              refine wpAnyH_take (i := 25) (oi := { dst := some 100, op := Op.binOp BinOp.neq 3 (Operand.tmp 94) (Operand.tmp 99) 3, type := 4, pos := "law.go:79", after := #[{ on := 19, ground := Ground.data }, { on := 24, ground := Ground.data }, { on := 14, ground := Ground.guard }], guard := some (14, false) }) (v := ?v25) rfl (by kernel_rfl) (by kernel_rfl) (by kernel_rfl) (fun _ _ _ h => h) (Or.inl ⟨by rfl, ?y25⟩) (by assumption) ?_
              case y25 => (intro w hSw; (try dsimp only at hSw); go_simp <;> with_reducible rfl)
              try simp only [Act.put, List.setIfInBounds_toArray, List.set_cons_zero, List.set_cons_succ]
              refine wpAnyH_take (i := 26) (oi := { dst := some 101, op := Op.pick (Operand.tmp 89) (Operand.const (Value.bool true)) (Operand.tmp 100), type := 4, pos := "law.go:79", after := #[{ on := 14, ground := Ground.data }, { on := 25, ground := Ground.data }], guard := none }) (v := ?v26) rfl (by kernel_rfl) (by kernel_rfl) (by kernel_rfl) (fun _ _ _ h => h) (Or.inl ⟨by rfl, ?y26⟩) (by assumption) ?_
              case y26 => (intro w hSw; (try dsimp only at hSw); go_simp <;> with_reducible rfl)
              try simp only [Act.put, List.setIfInBounds_toArray, List.set_cons_zero, List.set_cons_succ]
              refine wpAnyH_done (by kernel_rfl) ?_ _
              go_wp2_with fail
              exact ⟨⟨k + 1, by go_num, by omega, HB8⟩, by simp [intOf]; omega⟩
            · (go_region_held3 (fun W => W.cell? ⟨b', off' + k * 4, none⟩ = some (.int .i64 kd) ∧ W.cell? ⟨b', off' + k * 4 + 3, none⟩ = some (.string ⟨#[32]⟩) ∧ W.cell? ⟨b, off + k, none⟩ = some (.string (bs x)))
                (first | exact Hs0.out | (with_reducible exact Hs1.out) | (with_reducible exact Hs8.out))
                (first | (go_at_call 22; ((with_reducible refine (Kind_any (bs x) _ HL.out (by rw [bs_size]; omega)).mono ?_); rw [tl_bs, hkd.out]; rintro e w8 ⟨rfl, b8⟩; have Hs8 := Lib.hid (And.intro ((b8.cell (p := ⟨b', off' + k * 4, none⟩) hb2).trans Hs1.out.1) (And.intro ((b8.cell (p := ⟨b', off' + k * 4 + 3, none⟩) hb2).trans Hs1.out.2.1) ((b8.cell (p := ⟨b, off + k, none⟩) hb1).trans Hs1.out.2.2))); have HB8 := Lib.hid (hBd.out.trans (b8.mono hBd.out.size)); clear b8))))
              all_goals
                go_wp2_with fail
                exact ⟨⟨k + 1, by go_num, by omega, HB8⟩, by simp [intOf]; omega⟩
          · obtain rfl : k = L.length := by omega
            go_wp2_with fail
            go_ret
            exact ⟨rfl, B7.out.trans (hB.out.mono B7.out.size)⟩
end Go.Proofs.YtamhlobjolnlhaaDoor
