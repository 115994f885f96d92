/-
  For the laws of archive: ArchiveTells returns true. Condition: the listed variables hold what the program's text lays.
-/
import Derived.Test.YtpnfjiglphogoadDoorBack
import Derived.Test.YtpnfjiglphogoadDoorRefr
namespace Go.Proofs.YtpnfjiglphogoadDoor
open Go.RowKit Go.Shelf
set_option linter.unusedSimpArgs false
set_option linter.unusedVariables false

theorem fls_none (W : World) : Fls W (.slice none 0 0) [] := ⟨none, 0, rfl, Nat.le_refl _, Nat.zero_le _, by simp⟩
def WholeK (s : By) (c : Int) (L : List Fl) : Prop := (c = 0 ∧ okL L ∧ s = showL L) ∨ (c = 350 ∧ L = [] ∧ ∀ L', okL L' → s ≠ showL L')
theorem WholeIs.shape {s : By} {e : Ending} {w' : World} (h : WholeIs s e w') : ∃ v c L, e = .returned (.tuple #[v, .int .i64 c]) ∧ Fls w' v L ∧ WholeK s c L := by
  rcases h with ⟨L, v, h1, h2, h3, h4⟩ | ⟨h1, h2⟩
  · exact ⟨v, 0, L, h3, h4, .inl ⟨rfl, h1, h2⟩⟩
  · exact ⟨_, 350, [], h2, fls_none _, .inr ⟨rfl, rfl, h1⟩⟩
theorem WholeK.one {s : By} {c c' : Int} {L L' : List Fl} (hs : s.length ≤ 1000000) (h : WholeK s c L) (h' : WholeK s c' L') : c' = c ∧ L' = L := by
  rcases h with ⟨rfl, h1, h2⟩ | ⟨rfl, rfl, h2⟩ <;> rcases h' with ⟨rfl, g1, g2⟩ | ⟨rfl, rfl, g2⟩
  · exact ⟨rfl, (show_inj (by rw [← h2]; exact hs) h1 g1 (h2.symm.trans g2)).symm⟩
  · exact absurd h2 (g2 L h1)
  · exact absurd g2 (h2 L' g1)
  · exact ⟨rfl, rfl⟩
def ReadK (s : By) (n c : Int) (L : List Fl) (r : By) : Prop := (c = 0 ∧ (L.length : Int) = n ∧ okL L ∧ s = showL L ++ r) ∨ (c = 350 ∧ L = [] ∧ r = [] ∧ (n < 0 ∨ ∀ L r, okL L → (L.length : Int) = n → s ≠ showL L ++ r))
theorem ReadIs.shape {s : By} {n : Int} {e : Ending} {w' : World} (h : ReadIs s n e w') : ∃ v c L r, e = .returned (.tuple #[v, .string (bs r), .int .i64 c]) ∧ Fls w' v L ∧ ReadK s n c L r := by
  rcases h with ⟨L, r, v, h0, h1, h2, h3, h4, h5⟩ | ⟨h1, h2⟩
  · exact ⟨v, 0, L, r, h4, h5, .inl ⟨rfl, h1, h2, h3⟩⟩
  · exact ⟨_, 350, [], [], h2, fls_none _, .inr ⟨rfl, rfl, rfl, h1⟩⟩
theorem ReadK.one {s : By} {n c c' : Int} {L L' : List Fl} {r r' : By} (hs : s.length ≤ 1000000) (h : ReadK s n c L r) (h' : ReadK s n c' L' r') : c' = c ∧ L' = L ∧ r' = r := by
  rcases h with ⟨rfl, h0, h1, h2⟩ | ⟨rfl, rfl, rfl, h2⟩ <;> rcases h' with ⟨rfl, g0, g1, g2⟩ | ⟨rfl, rfl, rfl, g2⟩
  · have := show_pre (by rw [← h2]; exact hs) h1 g1 (by omega) (h2.symm.trans g2)
    exact ⟨rfl, this.1.symm, this.2.symm⟩
  · rcases g2 with g2 | g2
    · omega
    · exact absurd h2 (g2 L r h1 h0)
  · rcases h2 with h2 | h2
    · omega
    · exact absurd g2 (h2 L' r' g1 g0)
  · exact ⟨rfl, rfl, rfl⟩
/-- Within the last region: the first file's cells, the listed variables, what lies below. -/
def HQ (w : World) (b n : Nat) (p : Fl) (W : World) : Prop := HR w b n p W ∧ AW W
theorem HQ.all {w W : World} {b n : Nat} {p : Fl} (h : HQ w b n p W) : W.cell? ⟨b, n, none⟩ = some (.string (bs p.path)) ∧ W.cell? ⟨b, n + 1, none⟩ = some (.string (bs p.text)) ∧ HQ w b n p W := ⟨h.1.1, h.1.2.1, h⟩
theorem HQ.later {w W W' : World} {b n : Nat} {p : Fl} (h : HQ w b n p W) (hb : Below W.heap.size W W') : HQ w b n p W' := ⟨h.1.later hb, h.2.below hb⟩
theorem HQ.drew {w W : World} {b n : Nat} {p : Fl} (h : HQ w b n p W) : HQ w b n p W.drew := h.later (below_drew (Below.refl _ _))
set_option maxRecDepth 100000 in
set_option maxHeartbeats 16000000 in
theorem archiveTells_any (v : Value) (L : List Fl) (s : ByteArray) (many : Int) (w : World) (hv : Fls w v L) (hW : AW w) : Calls Tryd.prog 3 #[v, .string s, .int .i64 many] w fun e w' => e = .returned (.bool true) ∧ Below w.heap.size w w' := by
  have HW := Lib.hid hW
  have HV := Lib.hid hv
  obtain ⟨a, cap, rfl, hc, hcm, hat⟩ := hv
  unfold maxLen at hcm
  have Hat := Lib.hid hat
  clear hW hat
  obtain ⟨fA, hfA⟩ : ∃ x, Hid (fewF L = x) := ⟨_, Lib.hid rfl⟩
  by_cases hgo : fA = true ∧ s.size ≤ 500 ∧ many ≤ 20
  · obtain ⟨rfl, hs, hmany⟩ := hgo
    obtain ⟨hl, hok⟩ := few_ok hfA.out
    have Hok := Lib.hid hok
    have hsm := showL_small hl hok
    clear hok
    have f1 : decide ((s.size : Int) > 500) = false := decide_eq_false (by omega)
    have f2 : decide (many > 20) = false := decide_eq_false (by omega)
    have htl := tl_length s
    obtain ⟨S, hS⟩ : ∃ S, Hid (showL L = S) := ⟨_, Lib.hid rfl⟩
    have X8 : Hid (∀ W, AW W → Calls Tryd.prog 8 #[.string s] W fun e w' => WholeIs (tl s) e w' ∧ Below W.heap.size W w') := Lib.hid fun W hW => by
      have := Whole8_any (tl s) (by omega) W hW; rwa [bs_tl] at this
    have X9 : Hid (∀ W, Calls Tryd.prog 9 #[.string s] W fun e w' => WholeIs (tl s) e w' ∧ Below W.heap.size W w') := Lib.hid fun W => by
      have := RefWhole9_any (tl s) (by omega) W; rwa [bs_tl] at this
    have X10 : Hid (∀ W, AW W → Calls Tryd.prog 10 #[.string s, .int .i64 many] W fun e w' => ReadIs (tl s) many e w' ∧ Below W.heap.size W w') := Lib.hid fun W hW => by
      have := Read_any (tl s) (by omega) many W hW; rwa [bs_tl] at this
    have X11 : Hid (∀ W, Calls Tryd.prog 11 #[.string s, .int .i64 many] W fun e w' => ReadIs (tl s) many e w' ∧ Below W.heap.size W w') := Lib.hid fun W => by
      have := RefRead_any (tl s) (by omega) many W; rwa [bs_tl] at this
    go_enter Tryd.func3, Tryd.ntmps3
    go_wp2_with fail
    refine (awake_any _ HW.out).mono ?_
    rintro e w1 ⟨rfl, b1⟩
    have B1 := Lib.hid b1
    have V1 := Lib.hid (HV.out.below b1)
    have hs1 := b1.size
    clear b1
    go_wp2_with fail
    refine (few_any _ L _ V1.out).mono ?_
    rw [hfA.out]
    rintro e w2 ⟨rfl, b2⟩
    have B2 := Lib.hid (B1.out.trans (b2.mono hs1))
    have hs2 := B2.out.size
    clear b2
    go_wp2_with fail
    refine (X8.out _ (HW.out.below B2.out)).mono ?_
    rintro e w3 ⟨he, b3⟩
    obtain ⟨v3, c3, L3, rfl, p3, k3⟩ := he.shape
    have B3 := Lib.hid (B2.out.trans (b3.mono hs2))
    have P3 := Lib.hid p3
    have K3 := Lib.hid k3
    have hs3 := B3.out.size
    clear b3 he p3 k3
    go_wp2_with fail
    refine (X9.out _).mono ?_
    rintro e w4 ⟨he, b4⟩
    obtain ⟨v4, c4, L4, rfl, p4, k4⟩ := he.shape
    obtain ⟨rfl, rfl⟩ := K3.out.one (by omega) k4
    have B4 := Lib.hid (B3.out.trans (b4.mono hs3))
    have P4 := Lib.hid (P3.out.below b4)
    have Q4 := Lib.hid p4
    have hs4 := B4.out.size
    clear b4 he p4 k4
    go_wp2_with fail
    refine (X10.out _ (HW.out.below B4.out)).mono ?_
    rintro e w5 ⟨he, b5⟩
    obtain ⟨v5, c5, L5, r5, rfl, p5, k5⟩ := he.shape
    have B5 := Lib.hid (B4.out.trans (b5.mono hs4))
    have P5 := Lib.hid (P4.out.below b5)
    have Q5 := Lib.hid (Q4.out.below b5)
    have U5 := Lib.hid p5
    have K5 := Lib.hid k5
    have hs5 := B5.out.size
    clear b5 he p5 k5
    go_wp2_with fail
    refine (X11.out _).mono ?_
    rintro e w6 ⟨he, b6⟩
    obtain ⟨v6, c6, L6, r6, rfl, p6, k6⟩ := he.shape
    obtain ⟨rfl, rfl, rfl⟩ := K5.out.one (by omega) k6
    have B6 := Lib.hid (B5.out.trans (b6.mono hs5))
    have P6 := Lib.hid (P5.out.below b6)
    have Q6 := Lib.hid (Q5.out.below b6)
    have U6 := Lib.hid (U5.out.below b6)
    have T6 := Lib.hid p6
    have hs6 := B6.out.size
    clear b6 he p6 k6
    go_wp2_with fail
    refine (Same_eq _ _ _ _ P6.out Q6.out).mono ?_
    rintro e w7 ⟨rfl, b7⟩
    have B7 := Lib.hid (B6.out.trans (b7.mono hs6))
    have U7 := Lib.hid (U6.out.below b7)
    have T7 := Lib.hid (T6.out.below b7)
    have hs7 := B7.out.size
    clear b7
    go_wp2_with fail
    refine (Same_eq _ _ _ _ U7.out T7.out).mono ?_
    rintro e w8 ⟨rfl, b8⟩
    have B8 := Lib.hid (B7.out.trans (b8.mono hs7))
    have V8 := Lib.hid (HV.out.below B8.out)
    have hs8 := B8.out.size
    clear b8
    go_wp2_with fail
    refine (Show_any _ L (by omega) (small_okS Hok.out) _ (HW.out.below B8.out) V8.out).mono ?_
    rw [hS.out]
    rintro e w9 ⟨rfl, b9⟩
    have B9 := Lib.hid (B8.out.trans (b9.mono hs8))
    have V9 := Lib.hid (V8.out.below b9)
    have hs9 := B9.out.size
    clear b9
    go_wp2_with fail
    refine (RefShow_any _ L (by omega) (small_okS Hok.out) _ V9.out).mono ?_
    rw [hS.out]
    rintro e w10 ⟨rfl, b10⟩
    have B10 := Lib.hid (B9.out.trans (b10.mono hs9))
    clear b10
    by_cases hl0 : L.length = 0
    · have g0 : ((L.length : Int) == 0) = true := by rw [beq_iff_eq]; omega
      go_wp2_with fail
      go_quiet (fail)
      go_wp2_with fail
      go_ret
      exact ⟨rfl, below_draws B10.out _⟩
    · have g0 : ((L.length : Int) == 0) = false := by rw [beq_eq_false_iff_ne]; omega
      obtain ⟨p, hp⟩ : ∃ p, L[0]? = some p := ⟨_, List.getElem?_eq_getElem (by omega)⟩
      obtain ⟨b, off, rfl, hbl, l0, l1⟩ := Hat.out 0 p hp
      rw [Nat.zero_mul, Nat.add_zero] at l0 l1
      have hs0 : HQ w b off p w10 := ⟨⟨(B10.out.cell (p := ⟨b, off, none⟩) hbl).trans l0, (B10.out.cell (p := ⟨b, off + 1, none⟩) hbl).trans l1, B10.out⟩, HW.out.below B10.out⟩
      have hpo := Hok.out p (List.mem_of_getElem? hp)
      have hpa : p.path.length ≤ 100000 := by omega
      have hpt : p.text.length ≤ 100000 := by omega
      obtain ⟨H, hH⟩ : ∃ H, Hid (headL p = H) := ⟨_, Lib.hid rfl⟩
      have Q1 : Hid (∀ W, Calls Tryd.prog 16 #[.agg #[.string (bs p.path), .string (bs p.text)]] W fun e w'' => e = .returned (.string (bs H)) ∧ Below W.heap.size W w'') := Lib.hid fun W => RefHead_p p H hpa hpt hH.out W
      have Q2 : Hid (∀ W, AW W → Calls Tryd.prog 15 #[.agg #[.string (bs p.path), .string (bs p.text)]] W fun e w'' => e = .returned (.string (bs H)) ∧ Below W.heap.size W w'') := Lib.hid fun W hW => by
        have := Head_any p hpa hpt W hW; rwa [hH.out] at this
      clear l0 l1 hp hpo
      have g5 : (0 : Int) < (L.length : Int) := by omega
      have g6 : 0 < L.length := by omega
      obtain ⟨d0, d1, -⟩ := hs0.all
      go_wp2_with fail
      go_region_held3 (fun W => W.cell? ⟨b, off, none⟩ = some (.string (bs p.path)) ∧ W.cell? ⟨b, off + 1, none⟩ = some (.string (bs p.text)) ∧ HQ w b off p W)
        (first | exact HQ.all (by assumption) | exact HQ.all (HQ.drew (by assumption)) | exact HQ.all (HQ.drew (And.right (And.right (by assumption)))))
        (first
          | (go_at_call 16; refine (Q1.out _).mono ?_; rintro e w' ⟨rfl, hb⟩; have hs' := HQ.later (And.right (And.right (by assumption))) hb)
          | (go_at_call 15; refine (Q2.out _ (And.right (And.right (And.right (by assumption))))).mono ?_; rintro e w' ⟨rfl, hb⟩; have hs' := HQ.later (And.right (And.right (by assumption))) hb))
      all_goals
        have hend := And.right (And.right (by assumption : _ ∧ _ ∧ HQ w b off p _))
        have Hend := Lib.hid hend
        clear hend
        go_wp2_with fail
        go_ret
        exact ⟨by simp, Hend.out.1.2.2⟩
  · obtain ⟨t1, ht1⟩ : ∃ t, decide ((s.size : Int) > 500) = t := ⟨_, rfl⟩
    obtain ⟨t2, ht2⟩ : ∃ t, decide (many > 20) = t := ⟨_, rfl⟩
    have hno : fA = false ∨ (fA = true ∧ t1 = true) ∨ (fA = true ∧ t1 = false ∧ t2 = true) := by
      cases fA with
      | false => exact .inl rfl
      | true =>
        cases t1 with
        | true => exact .inr (.inl ⟨rfl, rfl⟩)
        | false =>
          cases t2 with
          | true => exact .inr (.inr ⟨rfl, rfl, rfl⟩)
          | false =>
            have e1 := of_decide_eq_false ht1
            have e2 := of_decide_eq_false ht2
            exact absurd ⟨rfl, by omega, by omega⟩ hgo
    clear hgo
    rcases hno with rfl | ⟨rfl, rfl⟩ | ⟨rfl, rfl, rfl⟩
    all_goals
      go_enter Tryd.func3, Tryd.ntmps3
      go_wp2_with fail
      refine (awake_any _ HW.out).mono ?_
      rintro e w1 ⟨rfl, b1⟩
      have B1 := Lib.hid b1
      have V1 := Lib.hid (HV.out.below b1)
      have hs1 := b1.size
      clear b1
      go_wp2_with fail
      refine (few_any _ L _ V1.out).mono ?_
      rw [hfA.out]
      rintro e w2 ⟨rfl, b2⟩
      have B2 := Lib.hid (B1.out.trans (b2.mono hs1))
      clear b2
      go_wp2_with fail
      go_ret
      exact ⟨rfl, B2.out⟩
end Go.Proofs.YtpnfjiglphogoadDoor
