/-
  For the laws of span: the edits of two rows as one, by the reference, by the program. Condition: at most 60 edits each.
-/
import Derived.Test.YtpekbakidhfliaaBoth
namespace Go.Proofs.Ytpekbakidhfliaa
open Go.RowKit Go.Shelf
set_option linter.unusedSimpArgs false

def refbA (a b Y : List Ed) : List Ed := if chkB far none a = true ∧ chkB far none b = true ∧ chkB far none Y = true then Y else []
def refbB (a b Y : List Ed) : Bool := chkB far none a && chkB far none b && chkB far none Y
def RefBothR (a b : List Ed) (w : World) (e : Ending) (w' : World) : Prop := ∃ u Y, SrtOf (a ++ without a b) Y ∧ e = .returned (.tuple #[u, .int .i64 (code (refbB a b Y))]) ∧ Eds w' u (refbA a b Y) ∧ Below w.heap.size w w'
theorem refb_no {a b : List Ed} {w w' : World} (h : chkB far none a = false ∨ chkB far none b = false) (hb : Below w.heap.size w w') : RefBothR a b w (.returned (.tuple #[.slice none 0 0, .int .i64 20])) w' := by
  obtain ⟨Y, hY⟩ := srt_any (a ++ without a b)
  refine ⟨.slice none 0 0, Y, hY, ?_, ?_, hb⟩
  · rcases h with h | h <;> simp [refbB, h, code]
  · rcases h with h | h <;> simp [refbA, h] <;> exact eds_none _
theorem without_take {a b : List Ed} {k : Nat} {x : Ed} (h : b[k]? = some x) : without a (b.take (k + 1)) = without a (b.take k) ++ (if a.contains x then [] else [x]) := by
  unfold without
  rw [List.take_add_one, h, List.filter_append]
  by_cases c : x ∈ a <;> simp [c]
theorem without_len (a b : List Ed) : (without a b).length ≤ b.length := List.length_filter_le _ _
/-- Whether x is among the first k. -/
def amg (a : List Ed) (k : Nat) (x : Ed) : Bool := (a.take k).contains x
theorem amg_start (a : List Ed) (x : Ed) : amg a 0 x = false := by simp [amg]
theorem amg_step {a : List Ed} {k : Nat} {x y : Ed} (h : a[k]? = some y) : amg a (k + 1) x = (amg a k x || decide (y = x)) := by
  unfold amg
  rw [List.take_add_one, h]
  rw [Bool.eq_iff_iff]
  simp
  constructor <;> (rintro (h | h); exact .inl h; exact .inr h.symm)
theorem amg_all (a : List Ed) (x : Ed) : amg a a.length x = a.contains x := by simp [amg]
set_option maxRecDepth 100000 in
set_option maxHeartbeats 8000000 in
theorem RefBoth_any (u v : Value) (A B : List Ed) (w : World) (h1 : Eds w u A) (h2 : Eds w v B) (hA : A.length ≤ 60) (hB : B.length ≤ 60) : Calls Try.prog 18 #[u, v] w (RefBothR A B w) := by
  have H1 := Lib.hid h1
  have H2 := Lib.hid h2
  obtain ⟨a, capa, rfl, hca, hma, hata⟩ := h1
  obtain ⟨b, capb, rfl, hcb, hmb, hatb⟩ := h2
  have HatA := Lib.hid hata
  have HatB := Lib.hid hatb
  unfold maxLen at hma hmb
  clear hata hatb
  cases hok : chkB far none A with
  | false =>
    have hok := Lib.hid hok
    go_enter Try.func18, Try.ntmps18
    go_wp2_with fail
    refine (May_any far _ A w H1.out).mono ?_
    rw [hok.out]
    rintro e w1 ⟨rfl, b1⟩
    have B1 := Lib.hid b1
    clear b1
    go_wp2_with fail
    refine (May_any far _ B w1 (H2.out.below B1.out)).mono ?_
    rintro e w2 ⟨rfl, b2⟩
    have B2 := Lib.hid (B1.out.trans (b2.mono B1.out.size))
    clear b2
    go_wp2_with fail
    go_ret2
    exact refb_no (.inl hok.out) B2.out
  | true =>
    have hok := Lib.hid hok
    cases hok2 : chkB far none B with
    | false =>
      have hok2 := Lib.hid hok2
      go_enter Try.func18, Try.ntmps18
      go_wp2_with fail
      refine (May_any far _ A w H1.out).mono ?_
      rw [hok.out]
      rintro e w1 ⟨rfl, b1⟩
      have B1 := Lib.hid b1
      clear b1
      go_wp2_with fail
      refine (May_any far _ B w1 (H2.out.below B1.out)).mono ?_
      rw [hok2.out]
      rintro e w2 ⟨rfl, b2⟩
      have B2 := Lib.hid (B1.out.trans (b2.mono B1.out.size))
      clear b2
      go_wp2_with fail
      go_ret2
      exact refb_no (.inr hok2.out) B2.out
    | true =>
      have hok2 := Lib.hid hok2
      go_enter Try.func18, Try.ntmps18
      go_wp2_with fail
      refine (May_any far _ A w H1.out).mono ?_
      rw [hok.out]
      rintro e w1 ⟨rfl, b1⟩
      have B1 := Lib.hid b1
      clear b1
      go_wp2_with fail
      refine (May_any far _ B w1 (H2.out.below B1.out)).mono ?_
      rw [hok2.out]
      rintro e w2 ⟨rfl, b2⟩
      have B2 := Lib.hid (B1.out.trans (b2.mono B1.out.size))
      have hA2 := Lib.hid (H1.out.below B2.out)
      clear b2
      go_wp2_with (at_builtin; refine wpList_append_eds rfl _ _ rfl w2.heap.size _ _ 0 [] A rfl (World.ownsRow_nil _ _ _ _) rfl hA2.out (by omega) (Nat.le_refl _) ?_; intro v3 w3 hown3 hb3; have Hown3 := Lib.hid hown3; have Hb3 := Lib.hid hb3; clear hown3 hb3)
      go_loopw [8, 9] (fun o c wr => ∃ (i : Nat), c = .int .i64 i ∧ i ≤ B.length ∧ Hid (wr.ownsRow w2.heap.size 39 3 o (A ++ without A (B.take i)).length (ev (A ++ without A (B.take i)))) ∧ Hid (Below w2.heap.size w2 wr)) (fun _ c _ => B.length - (intOf c).toNat)
      case atStart => exact ⟨0, rfl, by omega, Lib.hid (by have h := Hown3.out; simpa [without] using h), Hb3⟩
      case round =>
        obtain ⟨i, rfl, hi, hown, hW⟩ := hrel
        have hbs := hW.out.size
        have hWW := Lib.hid (B2.out.trans (hW.out.mono B2.out.size))
        have hlenW : (A ++ without A (B.take i)).length ≤ 120 := by
          have := without_len A (B.take i)
          rw [List.length_take] at this
          rw [List.length_append]; omega
        have HlenW := Lib.hid hlenW
        clear hlenW
        by_cases hlt : i < B.length
        · obtain ⟨x, hx⟩ : ∃ x, B[i]? = some x := ⟨_, List.getElem?_eq_getElem hlt⟩
          obtain ⟨b', off, rfl, hbl, hl0, hl1, hl2⟩ := HatB.out i x hx
          have c0 : wr.cell? ⟨b', off + i * 3, none⟩ = some (.int .i64 x.fr) := (hWW.out.cell (p := ⟨b', off + i * 3, none⟩) hbl).trans hl0
          have c1 : wr.cell? ⟨b', off + i * 3 + 1, none⟩ = some (.int .i64 x.to) := (hWW.out.cell (p := ⟨b', off + i * 3 + 1, none⟩) hbl).trans hl1
          have c2 : wr.cell? ⟨b', off + i * 3 + 2, none⟩ = some (.string (bs x.tx)) := (hWW.out.cell (p := ⟨b', off + i * 3 + 2, none⟩) hbl).trans hl2
          have Hnx := Lib.hid (without_take (a := A) hx)
          have C0 := Lib.hid c0
          have C1 := Lib.hid c1
          have C2 := Lib.hid c2
          have q0 : (0 : Int) ≤ (i : Int) := by omega
          have q1 : (i : Int) < (B.length : Int) := by omega
          obtain ⟨V, hV⟩ : ∃ V, Hid (wr = V) := ⟨_, Lib.hid rfl⟩
          clear hl0 hl1 hl2 hx c0 c1 c2
          go_wp2_with fail
          go_loopw [10, 11] (fun t c wx => ∃ (k : Nat), c = .int .i64 k ∧ k ≤ A.length ∧ t = .bool (amg A k x) ∧ ∃ q, Hid (wx = V.drewN q)) (fun _ c _ => A.length - (intOf c).toNat)
          case atStart => exact ⟨0, rfl, by omega, by rw [amg_start], 0, Lib.hid hV.out⟩
          case round =>
            obtain ⟨k, rfl, hk, rfl, q, hq⟩ := hrel
            by_cases hlt2 : k < A.length
            · obtain ⟨y, hy⟩ : ∃ x, A[k]? = some x := ⟨_, List.getElem?_eq_getElem hlt2⟩
              have hstep := amg_step (x := x) hy
              obtain ⟨t, ht⟩ : ∃ t, amg A k x = t := ⟨_, rfl⟩
              obtain ⟨r, hr⟩ : ∃ r, Hid (amg A (k + 1) x = r) := ⟨_, Lib.hid rfl⟩
              rw [hr.out, ht] at hstep
              rw [ht]
              have p0 : (0 : Int) ≤ (k : Int) := by omega
              have p1 : (k : Int) < (A.length : Int) := by omega
              cases t with
              | true =>
                obtain rfl : r = true := by rw [hstep]; rfl
                clear hstep ht hy
                go_wp2_with fail
                go_quiet (fail)
                go_wp2_with fail
                exact ⟨⟨k + 1, by go_num, by omega, by rw [hr.out], q + nq, Lib.hid (by rw [hq.out]; exact World.drewN_drewN _ q nq)⟩, by simp [intOf]; omega⟩
              | false =>
                obtain ⟨b2, off2, rfl, hb2, m0, m1, m2⟩ := HatA.out k y hy
                have g0 : wr.cell? ⟨b2, off2 + k * 3, none⟩ = some (.int .i64 y.fr) := by rw [hq.out, ← hV.out]; exact (hWW.out.cell (p := ⟨b2, off2 + k * 3, none⟩) hb2).trans m0
                have g1 : wr.cell? ⟨b2, off2 + k * 3 + 1, none⟩ = some (.int .i64 y.to) := by rw [hq.out, ← hV.out]; exact (hWW.out.cell (p := ⟨b2, off2 + k * 3 + 1, none⟩) hb2).trans m1
                have g2 : wr.cell? ⟨b2, off2 + k * 3 + 2, none⟩ = some (.string (bs y.tx)) := by rw [hq.out, ← hV.out]; exact (hWW.out.cell (p := ⟨b2, off2 + k * 3 + 2, none⟩) hb2).trans m2
                have c0 : wr.cell? ⟨b', off + i * 3, none⟩ = some (.int .i64 x.fr) := by rw [hq.out, ← hV.out]; exact C0.out
                have c1 : wr.cell? ⟨b', off + i * 3 + 1, none⟩ = some (.int .i64 x.to) := by rw [hq.out, ← hV.out]; exact C1.out
                have c2 : wr.cell? ⟨b', off + i * 3 + 2, none⟩ = some (.string (bs x.tx)) := by rw [hq.out, ← hV.out]; exact C2.out
                rw [Bool.false_or] at hstep
                clear ht hy m0 m1 m2
                by_cases e : y = x
                · obtain rfl : r = true := by rw [hstep]; exact decide_eq_true e
                  subst e
                  clear hstep
                  go_wp2_with fail
                  go_quiet (fail)
                  go_wp2_with fail
                  exact ⟨⟨k + 1, by go_num, by omega, by rw [hr.out], q + nq, Lib.hid (by rw [hq.out]; exact World.drewN_drewN _ q nq)⟩, by simp [intOf]; omega⟩
                · obtain rfl : r = false := by rw [hstep]; exact decide_eq_false e
                  clear hstep
                  obtain ⟨xf, xt, xx⟩ := x
                  obtain ⟨yf, yt, yx⟩ := y
                  dsimp only at c0 c1 c2 g0 g1 g2
                  by_cases e1 : yf = xf
                  · subst e1
                    by_cases e2 : yt = xt
                    · subst e2
                      have e3 : ¬ yx = xx := fun h => e (by rw [h])
                      clear e
                      go_wp2_with fail
                      go_quiet (fail)
                      go_wp2_with fail
                      exact ⟨⟨k + 1, by go_num, by omega, by rw [hr.out], q + nq, Lib.hid (by rw [hq.out]; exact World.drewN_drewN _ q nq)⟩, by simp [intOf]; omega⟩
                    · clear e
                      go_wp2_with fail
                      go_quiet (fail)
                      go_wp2_with fail
                      exact ⟨⟨k + 1, by go_num, by omega, by rw [hr.out], q + nq, Lib.hid (by rw [hq.out]; exact World.drewN_drewN _ q nq)⟩, by simp [intOf]; omega⟩
                  · clear e
                    go_wp2_with fail
                    go_quiet (fail)
                    go_wp2_with fail
                    exact ⟨⟨k + 1, by go_num, by omega, by rw [hr.out], q + nq, Lib.hid (by rw [hq.out]; exact World.drewN_drewN _ q nq)⟩, by simp [intOf]; omega⟩
            · obtain rfl : k = A.length := by omega
              rw [amg_all]
              have HB6 : Hid (Below w2.heap.size w2 wr) := Lib.hid (by rw [hq.out, ← hV.out]; exact below_draws hW.out q)
              have Hown6 : Hid (wr.ownsRow w2.heap.size 39 3 u8 (A ++ without A (B.take i)).length (ev (A ++ without A (B.take i)))) := Lib.hid (by rw [hq.out, ← hV.out]; exact hown.out)
              have hs6 := HB6.out.size
              have hnx := Hnx.out
              cases ht : A.contains x with
              | true =>
                rw [ht, if_pos rfl, List.append_nil] at hnx
                have Hfin : Hid (wr.ownsRow w2.heap.size 39 3 u8 (A ++ without A (B.take (i + 1))).length (ev (A ++ without A (B.take (i + 1))))) := Lib.hid (by rw [hnx]; exact Hown6.out)
                clear ht hnx
                go_wp2_with fail
                exact ⟨⟨i + 1, by go_num, by omega, Hfin, HB6⟩, by simp [intOf]; omega⟩
              | false =>
                rw [ht, if_neg (by simp)] at hnx
                have HNX := Lib.hid hnx
                have c0 : wr.cell? ⟨b', off + i * 3, none⟩ = some (.int .i64 x.fr) := by rw [hq.out, ← hV.out]; exact C0.out
                have c1 : wr.cell? ⟨b', off + i * 3 + 1, none⟩ = some (.int .i64 x.to) := by rw [hq.out, ← hV.out]; exact C1.out
                have c2 : wr.cell? ⟨b', off + i * 3 + 2, none⟩ = some (.string (bs x.tx)) := by rw [hq.out, ← hV.out]; exact C2.out
                clear ht hnx
                go_wp2_with (at_builtin; refine wpList_append_eds rfl _ _ rfl w2.heap.size _ _ _ _ [x] rfl (Hown6.out.alloc _) rfl (eds_row1 (RowAt.new _ 39 _)) (by have := HlenW.out; simp at this ⊢; omega) (by simp; omega) ?_; intro v5 w5 hown5 hb5; have Hb5 := Lib.hid ((HB6.out.alloc hs6 _).trans hb5); have Hown7 := Lib.hid hown5; clear hown5 hb5)
                have Hfin : Hid (w5.ownsRow w2.heap.size 39 3 v5 (A ++ without A (B.take (i + 1))).length (ev (A ++ without A (B.take (i + 1))))) := Lib.hid (by
                  rw [HNX.out, ← List.append_assoc, ev_append, List.length_append]
                  exact Hown7.out)
                exact ⟨⟨i + 1, by go_num, by omega, Hfin, Hb5⟩, by simp [intOf]; omega⟩
        · obtain rfl : i = B.length := by omega
          rw [List.take_length] at hown HlenW
          have HF := Lib.hid (own_eds hown.out)
          clear hown
          go_wp2_with fail
          refine (RefSort_any _ _ wr HF.out (by have := HlenW.out; omega)).mono ?_
          rintro e w5 ⟨⟨v5, Y, rfl, hY, ho5⟩, b5⟩
          have HY := Lib.hid hY
          have hYl := srt_len hY
          have HE := Lib.hid (own_eds (by rw [← hYl] at ho5; exact ho5))
          have B5 := Lib.hid (hWW.out.trans (b5.mono hWW.out.size))
          clear hY hYl ho5 b5
          cases hok3 : chkB far none Y with
          | true =>
            have hok3 := Lib.hid hok3
            go_wp2_with fail
            refine (May_any far _ _ w5 HE.out).mono ?_
            rw [hok3.out]
            rintro e w6 ⟨rfl, b6⟩
            have HBG := Lib.hid (B5.out.trans (b6.mono B5.out.size))
            have HFG := Lib.hid (HE.out.below b6)
            clear b6
            go_wp2_with fail
            go_ret2
            exact ⟨v5, Y, HY.out, by simp [refbB, hok.out, hok2.out, hok3.out, code], by unfold refbA; rw [if_pos ⟨hok.out, hok2.out, hok3.out⟩]; exact HFG.out, HBG.out⟩
          | false =>
            have hok3 := Lib.hid hok3
            go_wp2_with fail
            refine (May_any far _ _ w5 HE.out).mono ?_
            rw [hok3.out]
            rintro e w6 ⟨rfl, b6⟩
            have HBG := Lib.hid (B5.out.trans (b6.mono B5.out.size))
            clear b6
            go_wp2_with fail
            go_ret2
            exact ⟨.slice none 0 0, Y, HY.out, by simp [refbB, hok.out, hok2.out, hok3.out, code], by unfold refbA; rw [if_neg (by rw [hok3.out]; simp)]; exact eds_none _, HBG.out⟩
end Go.Proofs.Ytpekbakidhfliaa
