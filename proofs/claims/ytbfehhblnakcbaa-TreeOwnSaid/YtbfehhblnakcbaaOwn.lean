/-
  For the laws of tree: TreeOwn, by the program. Condition: files as handed in.
-/
import Derived.Laws.OwnMore
import Derived.Test.YtbfehhblnakcbaaGetsw
import Derived.Test.YtbfehhblnakcbaaWake
namespace Go.Proofs.Ytbfehhblnakcbaa
open Go.RowKit Go.Shelf

theorem lt_ext : ∀ {A B : List By}, A.Pairwise (· < ·) → B.Pairwise (· < ·) → (∀ q, q ∈ A ↔ q ∈ B) → A = B
  | [], [], _, _, _ => rfl
  | [], b :: B, _, _, h => absurd ((h b).2 List.mem_cons_self) (by simp)
  | a :: A, [], _, _, h => absurd ((h a).1 List.mem_cons_self) (by simp)
  | a :: A, b :: B, ha, hb, h => by
    obtain ⟨a1, a2⟩ := List.pairwise_cons.1 ha
    obtain ⟨b1, b2⟩ := List.pairwise_cons.1 hb
    have hab : a = b := by
      rcases List.mem_cons.1 ((h a).1 List.mem_cons_self) with e | m1
      · exact e
      · rcases List.mem_cons.1 ((h b).2 List.mem_cons_self) with e | m2
        · exact e.symm
        · exact absurd (List.lt_trans (b1 a m1) (a1 b m2)) (List.lt_irrefl _)
    subst hab
    congr 1
    refine lt_ext a2 b2 fun q => ⟨fun m => ?_, fun m => ?_⟩
    · rcases List.mem_cons.1 ((h q).1 (List.mem_cons_of_mem _ m)) with rfl | h1
      · exact absurd (a1 _ m) (List.lt_irrefl _)
      · exact h1
    · rcases List.mem_cons.1 ((h q).2 (List.mem_cons_of_mem _ m)) with rfl | h1
      · exact absurd (b1 _ m) (List.lt_irrefl _)
      · exact h1
theorem paths_same {A B : List Fl} (h : ∀ f, f ∈ A ↔ f ∈ B) : pathsOf (ps A) = pathsOf (ps B) := by
  refine lt_ext (pathsOf_lt _) (pathsOf_lt _) fun q => ?_
  rw [pathsOf_mem, pathsOf_mem, ps, ps, List.mem_map, List.mem_map]
  exact ⟨fun ⟨f, h1, h2⟩ => ⟨f, (h f).1 h1, h2⟩, fun ⟨f, h1, h2⟩ => ⟨f, (h f).2 h1, h2⟩⟩
theorem sort_small {L : List Fl} (hL : ∀ f ∈ L, f.path.length ≤ maxLen) : ∀ f ∈ sortF L, f.path.length ≤ maxLen := by
  intro f hf
  obtain ⟨q, hq, rfl⟩ := List.mem_map.1 hf
  rw [pathsOf_mem] at hq
  obtain ⟨g, hg, rfl⟩ := List.mem_map.1 hq
  exact hL g hg
theorem own_form {w : World} {base e size n : Nat} {v : Value} {xs : List Value} (h : w.ownsRow base e size v n xs) :
    ∃ ad cap, v = .slice ad n cap ∧ n ≤ cap ∧ cap ≤ maxLen ∧ (n = 0 ∨ ∃ g, ad = some ⟨g, 0, none⟩ ∧ base ≤ g ∧ ∃ cur, w.heap[g]? = some (.cells cur e (0, 0)) ∧ cur.size = cap * size) := by
  rcases h.2 with ⟨rfl, rfl⟩ | ⟨g, cap, cur, rfl, hb, hg, h1, h2, h3, h4⟩
  · exact ⟨none, 0, rfl, Nat.le_refl _, Nat.zero_le _, .inl rfl⟩
  · exact ⟨_, cap, rfl, h1, h2, .inr ⟨g, rfl, hb, cur, hg, h3⟩⟩
/-- A row of cells that may be written: its block, and how many cells it has. -/
def Mine (w : World) (g n : Nat) : Prop := ∃ cur, w.heap[g]? = some (.cells cur 43 (0, 0)) ∧ cur.size = n
theorem Mine.set {w : World} {g n : Nat} (h : Mine w g n) (j : Nat) (u : Value) : Mine (w.setCell ⟨g, j, none⟩ u) g n := by
  obtain ⟨cur, h1, h2⟩ := h
  exact ⟨_, heap_setCell_same w g j cur 43 u h1, by simpa using h2⟩
theorem Mine.frozen {w : World} {g n : Nat} (h : Mine w g n) (j : Nat) : w.frozen? ⟨g, j, none⟩ = false := by
  obtain ⟨cur, h1, h2⟩ := h
  exact frozen_of_row w g j cur 43 h1
theorem Mine.cell {w : World} {g n : Nat} (h : Mine w g n) {j : Nat} (hj : j < n) : ∃ u, w.cell? ⟨g, j, none⟩ = some u := by
  obtain ⟨cur, h1, h2⟩ := h
  exact ⟨cur[j], by simp [World.cell?, h1, h2 ▸ hj]⟩
set_option maxRecDepth 100000 in
set_option maxHeartbeats 8000000 in
theorem Own_any (u v : Value) (A B : List Fl) (w : World) (h1 : Fls w u A) (h2 : Fls w v B) : Calls Try.prog 6 #[u, v] w fun e w' => e = .returned (.bool true) ∧ Below w.heap.size w w' := by
  have H1 := Lib.hid h1
  have G1 := Lib.hid h2
  obtain ⟨a, cap, rfl, -, -, -⟩ := h1
  obtain ⟨a2, cap2, rfl, -, -, -⟩ := h2
  go_enter Try.func6, Try.ntmps6
  go_wp2_with fail
  refine (wake_any w).mono ?_
  rintro e w1 ⟨rfl, b1⟩
  have B1 := Lib.hid b1
  have H2 := Lib.hid (H1.out.below b1)
  have G2 := Lib.hid (G1.out.below b1)
  clear b1
  go_wp2_with fail
  refine (few_any _ A w1 H2.out).mono ?_
  rintro e w2 ⟨rfl, b2⟩
  have B2 := Lib.hid (B1.out.trans (b2.mono B1.out.size))
  have H3 := Lib.hid (H2.out.below b2)
  have G3 := Lib.hid (G2.out.below b2)
  clear b2
  go_wp2_with fail
  refine (few_any _ B w2 G3.out).mono ?_
  rintro e w3 ⟨rfl, b3⟩
  have B3 := Lib.hid (B2.out.trans (b3.mono B2.out.size))
  have H4 := Lib.hid (H3.out.below b3)
  have G4 := Lib.hid (G3.out.below b3)
  clear b3
  cases hfa : fewF A with
  | false =>
    clear hfa
    cases hfb : fewF B <;>
    · clear hfb
      go_wp2_with fail
      go_ret
      exact ⟨rfl, B3.out⟩
  | true =>
  cases hfb : fewF B with
  | false =>
    clear hfa hfb
    go_wp2_with fail
    go_ret
    exact ⟨rfl, B3.out⟩
  | true =>
    obtain ⟨hA, hbA⟩ := few_bd hfa
    obtain ⟨hB, hbB⟩ := few_bd hfb
    have HbA := Lib.hid hbA
    have HbB := Lib.hid hbB
    clear hfa hbA hfb hbB
    have HAm : Hid (∀ f ∈ A, f.path.length ≤ maxLen) := Lib.hid (fun f hf => by have := (HbA.out f hf).1; unfold maxLen; omega)
    obtain ⟨S, hS⟩ : ∃ S, Hid (sortF A = S) := ⟨_, Lib.hid rfl⟩
    have hSl : S.length ≤ 60 := by rw [← hS.out]; exact Nat.le_trans (sort_len _) (by omega)
    have HSm : Hid (∀ f ∈ S, f.path.length ≤ maxLen) := Lib.hid (by rw [← hS.out]; exact sort_small HAm.out)
    go_wp2_with (at_builtin; refine wpList_append_fls rfl _ _ rfl w3.heap.size (.slice none 0 0) _ 0 [] A rfl (World.ownsRow_nil _ _ _ _) rfl H4.out (by omega) (Nat.le_refl _) ?_)
    intro v4 w4 h4 b4
    have B4 := Lib.hid (B3.out.trans (b4.mono B3.out.size))
    have H5 := Lib.hid (H4.out.below b4)
    have G5 := Lib.hid (G4.out.below b4)
    have W5 := Lib.hid (own_fls h4)
    clear h4 b4
    go_wp2_with fail
    refine (Sort_own _ A w4 H5.out (by omega) HAm.out).mono ?_
    rw [hS.out]
    rintro e w5 ⟨s0, rfl, hs, b5⟩
    have B5 := Lib.hid (B4.out.trans (b5.mono B4.out.size))
    have H6 := Lib.hid (H5.out.below b5)
    have G6 := Lib.hid (G5.out.below b5)
    have W6 := Lib.hid (W5.out.below b5)
    have C5a := Lib.hid b5
    have hb45 := b5.size
    obtain ⟨ad, sc, rfl, hsc, hscm, hform⟩ := own_form hs
    have S6 := Lib.hid (own_fls hs)
    have Hform := Lib.hid hform
    clear b5 hs hform
    go_wp2_with fail
    refine (Sort_any _ S w5 S6.out (by omega) HSm.out).mono ?_
    rw [show sortF S = S by rw [← hS.out]; exact sort_sort _]
    rintro e w6 ⟨s1, rfl, hs1, b6⟩
    have B6 := Lib.hid (B5.out.trans (b6.mono B5.out.size))
    have H7 := Lib.hid (H6.out.below b6)
    have G7 := Lib.hid (G6.out.below b6)
    have W7 := Lib.hid (W6.out.below b6)
    have S7 := Lib.hid (S6.out.below b6)
    have T7 := Lib.hid hs1
    have C6 := Lib.hid b6
    have hb56 := b6.size
    clear b6 hs1
    go_wp2_with fail
    refine (Same_eq _ _ S w6 T7.out S7.out).mono ?_
    rintro e w7 ⟨rfl, b7⟩
    have B7 := Lib.hid (B6.out.trans (b7.mono B6.out.size))
    have H8 := Lib.hid (H7.out.below b7)
    have G8 := Lib.hid (G7.out.below b7)
    have W8 := Lib.hid (W7.out.below b7)
    have C7 := Lib.hid (C6.out.trans (b7.mono C6.out.size))
    have hb67 := b7.size
    clear b7
    have C5 := Lib.hid (C5a.out.trans (C7.out.mono C5a.out.size))
    have HM : Hid (S.length = 0 ∨ ∃ g, ad = some ⟨g, 0, none⟩ ∧ w4.heap.size ≤ g ∧ Mine w7 g (sc * 2)) := Lib.hid (by
      rcases Hform.out with h | ⟨g, h1, h2, cur, h3, h4⟩
      · exact .inl h
      · exact .inr ⟨g, h1, h2, cur, (C7.out.block _ (Array.getElem?_eq_some_iff.1 h3).1).trans h3, h4⟩)
    unfold maxLen at hscm
    go_wp2_with fail
    go_loopw [11] (fun c wr => ∃ k : Nat, c = .int .i64 k ∧ k ≤ S.length ∧ Hid (Below w4.heap.size w7 wr) ∧ Hid (S.length = 0 ∨ ∃ g, ad = some ⟨g, 0, none⟩ ∧ w4.heap.size ≤ g ∧ Mine wr g (sc * 2))) (fun c _ => S.length - (intOf c).toNat)
    case atStart => exact ⟨0, rfl, by omega, Lib.hid (Below.refl _ _), HM⟩
    case round =>
      obtain ⟨k, rfl, hk, hD, hM⟩ := hrel
      have hbs := hD.out.size
      by_cases hlt : k < S.length
      · obtain ⟨g, rfl, hg, hmine⟩ : ∃ g, ad = some ⟨g, 0, none⟩ ∧ w4.heap.size ≤ g ∧ Mine wr g (sc * 2) := by
          rcases hM.out with h | h
          · omega
          · exact h
        have p0 : (0 : Int) ≤ (k : Int) := by omega
        have p1 : (k : Int) < (S.length : Int) := by omega
        obtain ⟨u0, hu0⟩ := hmine.cell (j := k * 2 + 1) (by omega)
        have hfz := hmine.frozen (k * 2 + 1)
        have HMine := Lib.hid (fun z => hmine.set (k * 2 + 1) z)
        clear hmine hM
        go_wp2_with fail
        exact ⟨⟨k + 1, by go_num, by omega, Lib.hid (hD.out.setCell hg _), Lib.hid (.inr ⟨g, rfl, hg, HMine.out _⟩)⟩, by simp [intOf]; omega⟩
      · obtain rfl : k = S.length := by omega
        have b8 := hD.out
        clear hM hk
        have B8 := Lib.hid (B7.out.trans (b8.mono (by have := B4.out.size; omega)))
        have H9 := Lib.hid (H5.out.below (C5.out.trans (b8.mono (Nat.le_refl _))))
        have G9 := Lib.hid (G5.out.below (C5.out.trans (b8.mono (Nat.le_refl _))))
        have W9 := Lib.hid (W5.out.below (C5.out.trans (b8.mono (Nat.le_refl _))))
        clear b8 hD
        go_wp2_with fail
        refine (Put_own _ A ⟨#[120]⟩ ⟨#[121]⟩ wr H9.out (by omega) HAm.out (by unfold maxLen; decide)).mono ?_
        obtain ⟨P, hP⟩ : ∃ P, Hid (putF A (tl ⟨#[120]⟩) (tl ⟨#[121]⟩) = P) := ⟨_, Lib.hid rfl⟩
        rw [hP.out]
        have hPl : P.length ≤ 61 := by rw [← hP.out]; exact Nat.le_trans (put_len _ _ _) (by omega)
        rintro e w9 ⟨p0, rfl, hp9, b9⟩
        have B9 := Lib.hid (B8.out.trans (b9.mono B8.out.size))
        obtain ⟨pd, pc, rfl, hpc, hpcm, hform⟩ := own_form hp9
        unfold maxLen at hpcm
        have hb89 := b9.size
        have HP : Hid (P.length = 0 ∨ ∃ g, pd = some ⟨g, 0, none⟩ ∧ wr.heap.size ≤ g ∧ Mine w9 g (pc * 2)) := Lib.hid hform
        have D9 := Lib.hid b9
        have hwr := B8.out.size
        clear b9 hp9 hform
        go_wp2_with fail
        obtain ⟨Wo, hWo⟩ : ∃ Wo : World, Hid (Wo = wr) := ⟨_, Lib.hid rfl⟩
        have D9o : Hid (Below Wo.heap.size Wo w9) := Lib.hid (by rw [hWo.out]; exact D9.out)
        have B8o : Hid (Below w.heap.size w Wo) := Lib.hid (by rw [hWo.out]; exact B8.out)
        have H9o := Lib.hid (by rw [← hWo.out] at H9; exact H9.out)
        have G9o := Lib.hid (by rw [← hWo.out] at G9; exact G9.out)
        have W9o := Lib.hid (by rw [← hWo.out] at W9; exact W9.out)
        clear D9 B8 H9 G9 W9
        go_loopw [13] (fun c wi => ∃ k : Nat, c = .int .i64 k ∧ k ≤ P.length ∧ Hid (Below Wo.heap.size w9 wi) ∧ Hid (P.length = 0 ∨ ∃ g, pd = some ⟨g, 0, none⟩ ∧ Wo.heap.size ≤ g ∧ Mine wi g (pc * 2))) (fun c _ => P.length - (intOf c).toNat)
        case atStart => exact ⟨0, rfl, by omega, Lib.hid (Below.refl _ _), by rw [hWo.out]; exact HP⟩
        case round =>
          obtain ⟨k, rfl, hk, hD, hM⟩ := hrel
          have hbs2 := hD.out.size
          by_cases hlt2 : k < P.length
          · obtain ⟨g, rfl, hg, hmine⟩ : ∃ g, pd = some ⟨g, 0, none⟩ ∧ Wo.heap.size ≤ g ∧ Mine wr g (pc * 2) := by
              rcases hM.out with h | h
              · omega
              · exact h
            have p0 : (0 : Int) ≤ (k : Int) := by omega
            have p1 : (k : Int) < (P.length : Int) := by omega
            obtain ⟨u0, hu0⟩ := hmine.cell (j := k * 2 + 1) (by omega)
            have hfz := hmine.frozen (k * 2 + 1)
            have HMine := Lib.hid (fun z => hmine.set (k * 2 + 1) z)
            clear hmine hM
            go_wp2_with fail
            exact ⟨⟨k + 1, by go_num, by omega, Lib.hid (hD.out.setCell hg _), Lib.hid (.inr ⟨g, rfl, hg, HMine.out _⟩)⟩, by simp [intOf]; omega⟩
          · clear hM
            have e0 := D9o.out.trans hD.out
            obtain ⟨W0, hW0⟩ : ∃ W0 : World, Hid (wr = W0) := ⟨_, Lib.hid rfl⟩
            rw [hW0.out] at e0
            rw [hW0.out]
            have I0 := Lib.hid (B8o.out.trans (e0.mono B8o.out.size))
            have H0 := Lib.hid (H9o.out.below e0)
            have G0 := Lib.hid (G9o.out.below e0)
            have W0s := Lib.hid (W9o.out.below e0)
            clear e0
            go_wp2_with fail
            refine (Same_eq _ _ A W0 H0.out W0s.out).mono ?_
            rintro e x1 ⟨rfl, b1⟩
            have I1 := Lib.hid (I0.out.trans (b1.mono I0.out.size))
            have Ha1 := Lib.hid (H0.out.below b1)
            have Ga1 := Lib.hid (G0.out.below b1)
            clear b1
            go_wp2_with fail
            have r := RowAt.new x1 22 #[.slice a A.length cap, .slice a2 B.length cap2]
            have c := (Below.refl x1.heap.size x1).alloc (Nat.le_refl _) (.cells #[.slice a A.length cap, .slice a2 B.length cap2] 22)
            have Ib := Lib.hid (I1.out.trans (c.mono I1.out.size))
            have Hb := Lib.hid (Ha1.out.below c)
            have Gb := Lib.hid (Ga1.out.below c)
            refine (Paths_any _ [A, B] _ (fss_two r Hb.out Gb.out) (by simp; omega)).mono ?_
            rintro e x2 ⟨v2, rfl, h, b⟩
            have I2 := Lib.hid (Ib.out.trans (b.mono Ib.out.size))
            have Ha2 := Lib.hid (Hb.out.below b)
            have Ga2 := Lib.hid (Gb.out.below b)
            have V2 := Lib.hid h
            clear r c Ib Hb Gb b h
            go_wp2_with fail
            have r := RowAt.new x2 22 #[.slice a2 B.length cap2, .slice a A.length cap]
            have c := (Below.refl x2.heap.size x2).alloc (Nat.le_refl _) (.cells #[.slice a2 B.length cap2, .slice a A.length cap] 22)
            have Ib := Lib.hid (I2.out.trans (c.mono I2.out.size))
            have Hb := Lib.hid (Ha2.out.below c)
            have Gb := Lib.hid (Ga2.out.below c)
            have V2b := Lib.hid (V2.out.below c)
            refine (Paths_any _ [B, A] _ (fss_two r Gb.out Hb.out) (by simp; omega)).mono ?_
            rintro e x3 ⟨v3, rfl, h, b⟩
            have I3 := Lib.hid (Ib.out.trans (b.mono Ib.out.size))
            have Ha3 := Lib.hid (Hb.out.below b)
            have Ga3 := Lib.hid (Gb.out.below b)
            have V3 := Lib.hid h
            have V2c := Lib.hid (V2b.out.below b)
            clear r c Ib Hb Gb b h
            go_wp2_with fail
            refine (SameS_eq _ _ _ x3 V2c.out (by rw [paths_same (A := [A, B].flatten) (B := [B, A].flatten) (by simp [or_comm])]; exact V3.out)).mono ?_
            rintro e x4 ⟨rfl, b⟩
            have I4 := Lib.hid (I3.out.trans (b.mono I3.out.size))
            have Ha4 := Lib.hid (Ha3.out.below b)
            have Ga4 := Lib.hid (Ga3.out.below b)
            clear b
            go_wp2_with fail
            have r := RowAt.new x4 22 #[.slice a A.length cap, .slice a A.length cap]
            have c := (Below.refl x4.heap.size x4).alloc (Nat.le_refl _) (.cells #[.slice a A.length cap, .slice a A.length cap] 22)
            have Ib := Lib.hid (I4.out.trans (c.mono I4.out.size))
            have Hb := Lib.hid (Ha4.out.below c)
            have Gb := Lib.hid (Ga4.out.below c)
            refine (Paths_any _ [A, A] _ (fss_two r Hb.out Hb.out) (by simp; omega)).mono ?_
            rintro e x5 ⟨v5, rfl, h, b⟩
            have I5 := Lib.hid (Ib.out.trans (b.mono Ib.out.size))
            have Ha5 := Lib.hid (Hb.out.below b)
            have Ga5 := Lib.hid (Gb.out.below b)
            have V5 := Lib.hid h
            clear r c Ib Hb Gb b h
            go_wp2_with fail
            have r := RowAt.new x5 22 #[.slice a A.length cap]
            have c := (Below.refl x5.heap.size x5).alloc (Nat.le_refl _) (.cells #[.slice a A.length cap] 22)
            have Ib := Lib.hid (I5.out.trans (c.mono I5.out.size))
            have Hb := Lib.hid (Ha5.out.below c)
            have Gb := Lib.hid (Ga5.out.below c)
            have V5b := Lib.hid (V5.out.below c)
            refine (Paths_any _ [A] _ (fss_one r Hb.out) (by simp; omega)).mono ?_
            rintro e x6 ⟨v6, rfl, h, b⟩
            have I6 := Lib.hid (Ib.out.trans (b.mono Ib.out.size))
            have Ha6 := Lib.hid (Hb.out.below b)
            have Ga6 := Lib.hid (Gb.out.below b)
            have V6 := Lib.hid h
            have V5c := Lib.hid (V5b.out.below b)
            clear r c Ib Hb Gb b h
            go_wp2_with fail
            refine (SameS_eq _ _ _ x6 V5c.out (by rw [paths_same (A := [A, A].flatten) (B := [A].flatten) (by simp)]; exact V6.out)).mono ?_
            rintro e x7 ⟨rfl, b⟩
            have I7 := Lib.hid (I6.out.trans (b.mono I6.out.size))
            have Ha7 := Lib.hid (Ha6.out.below b)
            have Ga7 := Lib.hid (Ga6.out.below b)
            clear b
            go_wp2_with fail
            refine (Paths_any _ [] x7 ⟨none, 0, rfl, Nat.le_refl _, Nat.zero_le _, by simp⟩ (by simp)).mono ?_
            rintro e x8 ⟨v8, rfl, h, b⟩
            have I8 := I7.out.trans (b.mono I7.out.size)
            obtain ⟨ad8, c8, rfl, -⟩ := h
            rw [show (pathsOf (ps ([] : List (List Fl)).flatten)).length = 0 from by simp [ps, paths_nil]]
            clear b
            go_wp2_with fail
            go_ret
            exact ⟨rfl, I8⟩
end Go.Proofs.Ytbfehhblnakcbaa
