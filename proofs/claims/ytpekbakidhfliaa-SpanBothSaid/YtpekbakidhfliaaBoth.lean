/-
  For the laws of span: the edits of two rows as one, by the program. Condition: at most 60 edits each.
-/
import Derived.StillTailTactics
import Derived.Deep.CutBlock
import Derived.Test.YtpekbakidhfliaaBothm
import Derived.Test.YtpekbakidhfliaaRefsw
namespace Go.Proofs.Ytpekbakidhfliaa
open Go.RowKit Go.Shelf
set_option linter.unusedSimpArgs false

theorem ess_two' {W : World} {b : Nat} {t : TypeId} {u v : Value} {A B : List Ed} (h : RowAt W b t #[u, v]) (hA : Eds W u A) (hB : Eds W v B) : Ess W (.slice (some ⟨b, 0, none⟩) 2 2) [A, B] := ess_two h hA hB
def bothA (a b M : List Ed) : List Ed := if chkB far none a = true ∧ chkB far none b = true ∧ chkB far none (dd none M) = true then dd none M else []
def bothB (a b M : List Ed) : Bool := chkB far none a && chkB far none b && chkB far none (dd none M)
def BothR (a b : List Ed) (w : World) (e : Ending) (w' : World) : Prop := ∃ u M, SrtOf (a ++ b) M ∧ e = .returned (.tuple #[u, .int .i64 (code (bothB a b M))]) ∧ Eds w' u (bothA a b M) ∧ Below w.heap.size w w'
theorem srt_any (L : List Ed) : ∃ M, SrtOf L M := by
  refine ⟨_, (List.range L.length).mergeSort (fun x y => !sl L y x), List.mergeSort_perm _ _, ?_, rfl⟩
  refine (List.pairwise_mergeSort (le := fun x y => !sl L y x) ?_ ?_ _).imp ?_
  · intro a b c h1 h2
    simp only [Bool.not_eq_true'] at h1 h2 ⊢
    exact (Go.Sort.SWO.ntrans (swo_s L)) c b a h2 h1
  · intro a b
    cases h : sl L b a with
    | false => simp
    | true => simp [sl_asym h]
  · intro a b h
    simpa using h
theorem eds_none (W : World) : Eds W (.slice none 0 0) [] := ⟨none, 0, rfl, Nat.le_refl _, Nat.zero_le _, by simp⟩
theorem both_no {a b : List Ed} {w w' : World} (h : chkB far none a = false ∨ chkB far none b = false) (hb : Below w.heap.size w w') : BothR a b w (.returned (.tuple #[.slice none 0 0, .int .i64 20])) w' := by
  obtain ⟨M, hM⟩ := srt_any (a ++ b)
  refine ⟨.slice none 0 0, M, hM, ?_, ?_, hb⟩
  · rcases h with h | h <;> simp [bothB, h, code]
  · rcases h with h | h <;> simp [bothA, h] <;> exact eds_none _
set_option maxRecDepth 100000 in
set_option maxHeartbeats 8000000 in
theorem Both_any (u v : Value) (A B : List Ed) (w : World) (h1 : Eds w u A) (h2 : Eds w v B) (hA : A.length ≤ 60) (hB : B.length ≤ 60) : Calls Try.prog 17 #[u, v] w (BothR A B w) := by
  have H1 := Lib.hid h1
  have H2 := Lib.hid h2
  obtain ⟨a, capa, rfl, -⟩ := h1
  obtain ⟨b, capb, rfl, -⟩ := h2
  cases hok : chkB far none A with
  | false =>
    have hok := Lib.hid hok
    go_enter Try.func17, Try.ntmps17
    go_wp2_with fail
    refine (valid_any _ A w H1.out).mono ?_
    rw [hok.out]
    rintro e w1 ⟨rfl, b1⟩
    have B1 := Lib.hid b1
    clear b1
    go_wp2_with fail
    go_ret2
    exact both_no (.inl hok.out) B1.out
  | true =>
    have hok := Lib.hid hok
    cases hok2 : chkB far none B with
    | false =>
      have hok2 := Lib.hid hok2
      go_enter Try.func17, Try.ntmps17
      go_wp2_with fail
      refine (valid_any _ A w H1.out).mono ?_
      rw [hok.out]
      rintro e w1 ⟨rfl, b1⟩
      have B1 := Lib.hid b1
      clear b1
      go_wp2_with fail
      refine (valid_any _ B w1 (H2.out.below (B1.out.mono (Nat.le_refl _)))).mono ?_
      rw [hok2.out]
      rintro e w2 ⟨rfl, b2⟩
      have B2 := Lib.hid (B1.out.trans (b2.mono B1.out.size))
      clear b2
      go_wp2_with fail
      go_ret2
      exact both_no (.inr hok2.out) B2.out
    | true =>
      have hok2 := Lib.hid hok2
      go_enter Try.func17, Try.ntmps17
      go_wp2_with fail
      refine (valid_any _ A w H1.out).mono ?_
      rw [hok.out]
      rintro e w1 ⟨rfl, b1⟩
      have B1 := Lib.hid b1
      clear b1
      go_wp2_with fail
      refine (valid_any _ B w1 (H2.out.below B1.out)).mono ?_
      rw [hok2.out]
      rintro e w2 ⟨rfl, b2⟩
      have B2 := Lib.hid (B1.out.trans (b2.mono B1.out.size))
      clear b2
      go_wp2_with fail
      have b3 := (Below.refl w2.heap.size w2).alloc (Nat.le_refl _) (.cells #[.slice a A.length capa, .slice b B.length capb] 22)
      have hss := ess_two (RowAt.new w2 22 #[.slice a A.length capa, .slice b B.length capb]) ((H1.out.below B2.out).below b3) ((H2.out.below B2.out).below b3)
      refine (Concat_any _ [A, B] _ hss (by simp; omega)).mono ?_
      rintro e w3 ⟨u3, rfl, hu, hb⟩
      have Hu : Hid (Eds w3 u3 (A ++ B)) := Lib.hid (by simpa using hu)
      have B3 : Hid (Below w.heap.size w w3) := Lib.hid ((B2.out.trans (b3.mono B2.out.size)).trans (hb.mono (by have := B2.out.size; simp; omega)))
      clear hu hb b3 hss
      go_wp2_with fail
      have hAB : (A ++ B).length ≤ 160 := by rw [List.length_append]; omega
      refine (Sort_any _ (A ++ B) w3 Hu.out hAB).mono ?_
      rintro e w4 ⟨u4, M, rfl, hM, ho4, hb4⟩
      have HM := Lib.hid hM
      have B4 := Lib.hid (B3.out.trans (hb4.mono B3.out.size))
      have hMl := srt_len hM
      have HE := Lib.hid (own_eds (by rw [← hMl] at ho4; exact ho4))
      have hM120 : M.length ≤ 120 := by rw [hMl, List.length_append]; omega
      obtain ⟨p, capM, hpv, hcM, hmM, hatM⟩ := HE.out
      have HatM := Lib.hid hatM
      subst hpv
      unfold maxLen at hmM
      clear hatM hM ho4 hb4 hAB hMl
      go_wp2_with fail
      go_loopw [6, 24] (fun o c wr => ∃ (k : Nat) (T : List Ed), c = .int .i64 k ∧ k ≤ M.length ∧ Hid (DdI M k T) ∧ Hid (wr.ownsRow w4.heap.size 39 3 o T.length (ev T)) ∧ Hid (Below w4.heap.size w4 wr)) (fun _ c _ => M.length - (intOf c).toNat)
      case atStart => exact ⟨0, [], rfl, by omega, Lib.hid (ddI_start M), Lib.hid (World.ownsRow_nil _ _ _ _), Lib.hid (Below.refl _ _)⟩
      case round =>
        obtain ⟨k, T, rfl, hk, hD, hown, hB⟩ := hrel
        have hbs := hB.out.size
        by_cases hlt : k < M.length
        · obtain ⟨x, hx⟩ : ∃ x, M[k]? = some x := ⟨_, List.getElem?_eq_getElem hlt⟩
          obtain ⟨b', off, rfl, hbl, hl0, hl1, hl2⟩ := HatM.out k x hx
          have Hx := Lib.hid hx
          have c0 : wr.cell? ⟨b', off + k * 3, none⟩ = some (.int .i64 x.fr) := (hB.out.cell (p := ⟨b', off + k * 3, none⟩) hbl).trans hl0
          have c1 : wr.cell? ⟨b', off + k * 3 + 1, none⟩ = some (.int .i64 x.to) := (hB.out.cell (p := ⟨b', off + k * 3 + 1, none⟩) hbl).trans hl1
          have c2 : wr.cell? ⟨b', off + k * 3 + 2, none⟩ = some (.string (bs x.tx)) := (hB.out.cell (p := ⟨b', off + k * 3 + 2, none⟩) hbl).trans hl2
          have hT120 : T.length ≤ 120 := Nat.le_trans (ddI_len hD.out) hM120
          have hb5 := hB.out.alloc hbs (.cells #[.int .i64 x.fr, .int .i64 x.to, .string (bs x.tx)] 39)
          have hET : Eds (wr.alloc (.cells #[.int .i64 x.fr, .int .i64 x.to, .string (bs x.tx)] 39)) u6 T := (own_eds hown.out).below ((Below.refl _ _).alloc (Nat.le_refl _) _)
          have HET := Lib.hid hET
          have Hown5 := Lib.hid (hown.out.alloc (.cells #[.int .i64 x.fr, .int .i64 x.to, .string (bs x.tx)] 39))
          have HB5 := Lib.hid hb5
          obtain ⟨pT, capT, rfl, hcT, hmT, -⟩ := hET
          unfold maxLen at hmT
          have hrow := ed_new wr x.fr x.to (bs x.tx)
          have d0 := hrow.cell (j := 0) (v := .int .i64 x.fr) rfl
          have d1 := hrow.cell (j := 1) (v := .int .i64 x.to) rfl
          have d2 := hrow.cell (j := 2) (v := .string (bs x.tx)) rfl
          have Hrow := Lib.hid hrow
          clear hl0 hl1 hl2 hx hb5 hrow hown
          go_upto_region 8 with fail
          obtain ⟨V, hV⟩ : ∃ V, Hid (wr.alloc (.cells #[.int .i64 x.fr, .int .i64 x.to, .string (bs x.tx)] 39) = V) := ⟨_, Lib.hid rfl⟩
          obtain ⟨r, hr⟩ : ∃ r, Hid (decide (T.getLast? ≠ some x) = r) := ⟨_, Lib.hid rfl⟩
          go_cut [40] from 30 to 40 (fun c wc => c = .bool r ∧ ∃ q, Hid (wc = V.drewN q))
          case first =>
            rcases Nat.eq_zero_or_pos T.length with h0 | h0
            · have hT0 : T = [] := List.eq_nil_of_length_eq_zero h0
              have hr2 := hr.out
              subst hT0
              obtain rfl : true = r := by rw [← hr2]; simp
              rw [hV.out] at d0 d1 d2 ⊢
              clear hr2 h0
              go_wp2_with fail
              go_quiet (fail)
              go_wp2_with fail
              go_meet
              case rel => exact ⟨rfl, nq, Lib.hid rfl⟩
            · obtain ⟨y, hy⟩ : ∃ y, T[T.length - 1]? = some y := ⟨_, List.getElem?_eq_getElem (by omega)⟩
              have hrl : decide (T.getLast? ≠ some x) = r := hr.out
              rw [List.getLast?_eq_getElem?, hy] at hrl
              obtain ⟨_, capT', hv, -, -, hatT⟩ := HET.out
              obtain ⟨b2, off2, rfl, hlT, hm0, hm1, hm2⟩ := hatT (T.length - 1) y hy
              cases hv
              have p0 : IntKind.i64.wrap ((T.length : Int) - 1) = ((T.length - 1 : Nat) : Int) := by rw [Go.IntWalk.i64_left, Go.IntWalk.wrap64_in _ (by omega)]; omega
              have p1 : (0 : Int) ≤ ((T.length - 1 : Nat) : Int) := by omega
              have p2 : ((T.length - 1 : Nat) : Int) < (T.length : Int) := by omega
              have f4 : ((T.length : Int) == 0) = false := beq_eq_false_iff_ne.2 (by omega)
              rw [hV.out] at d0 d1 d2 hm0 hm1 hm2 ⊢
              clear hatT hy
              by_cases e : x = y
              · subst e
                obtain rfl : false = r := by rw [← hrl]; simp
                clear hrl h0
                go_wp2_with fail
                go_quiet (fail)
                go_wp2_with fail
                go_meet
                case rel => exact ⟨rfl, nq, Lib.hid rfl⟩
              · obtain rfl : true = r := by
                  rw [← hrl]
                  have : ¬ y = x := fun h => e h.symm
                  simp [this]
                obtain ⟨xf, xt, xx⟩ := x
                obtain ⟨yf, yt, yx⟩ := y
                dsimp only at c0 c1 c2 d0 d1 d2 hm0 hm1 hm2
                clear hrl h0
                by_cases e1 : xf = yf
                · subst e1
                  by_cases e2 : xt = yt
                  · subst e2
                    have e3 : ¬ xx = yx := fun h => e (by rw [h])
                    clear e
                    go_wp2_with fail
                    go_quiet (fail)
                    go_wp2_with fail
                    go_meet
                    case rel => exact ⟨rfl, nq, Lib.hid rfl⟩
                  · clear e
                    go_wp2_with fail
                    go_quiet (fail)
                    go_wp2_with fail
                    go_meet
                    case rel => exact ⟨rfl, nq, Lib.hid rfl⟩
                · clear e
                  go_wp2_with fail
                  go_quiet (fail)
                  go_wp2_with fail
                  go_meet
                  case rel => exact ⟨rfl, nq, Lib.hid rfl⟩
          case rest =>
            obtain ⟨rfl, q, hq⟩ := hcut
            have HB6 : Hid (Below w4.heap.size w4 wc) := Lib.hid (by rw [hq.out, ← hV.out]; exact below_draws HB5.out q)
            have Hown6 : Hid (wc.ownsRow w4.heap.size 39 3 (.slice pT T.length capT) T.length (ev T)) := Lib.hid (by rw [hq.out, ← hV.out]; exact Hown5.out)
            by_cases hl : T.getLast? = some x
            · obtain rfl : false = r := by rw [← hr.out]; simp [hl]
              have HD2 := Lib.hid (ddI_same hD.out Hx.out hl)
              clear hl
              go_wp2_with fail
              exact ⟨⟨k + 1, T, by go_num, by omega, HD2, Hown6, HB6⟩, by simp [intOf]; omega⟩
            · obtain rfl : true = r := by rw [← hr.out]; simp [hl]
              have HD2 := Lib.hid (ddI_new hD.out Hx.out hl)
              have g0 : wc.cell? ⟨wr.heap.size, 0, none⟩ = some (.int .i64 x.fr) := by rw [hq.out, ← hV.out]; exact d0
              have g1 : wc.cell? ⟨wr.heap.size, 1, none⟩ = some (.int .i64 x.to) := by rw [hq.out, ← hV.out]; exact d1
              have g2 : wc.cell? ⟨wr.heap.size, 2, none⟩ = some (.string (bs x.tx)) := by rw [hq.out, ← hV.out]; exact d2
              have hs6 := HB6.out.size
              clear hl
              go_wp2_with (at_builtin; refine wpList_append_eds rfl _ _ rfl w4.heap.size _ _ _ _ [x] rfl (Hown6.out.alloc _) rfl (eds_row1 (RowAt.new _ 39 _)) (by simp; omega) (by simp; omega) ?_; intro v5 w5 hown5 hb5; have Hb5 := Lib.hid ((HB6.out.alloc hs6 _).trans hb5); have Hown7 := Lib.hid hown5; clear hown5 hb5)
              have hfin : Hid (w5.ownsRow w4.heap.size 39 3 v5 (T ++ [x]).length (ev (T ++ [x]))) := Lib.hid (by
                have h := Hown7.out
                rw [ev_append, List.length_append]
                exact h)
              exact ⟨⟨k + 1, T ++ [x], by go_num, by omega, HD2, hfin, Hb5⟩, by simp [intOf]; omega⟩
        · obtain rfl : k = M.length := by omega
          have hT := ddI_end hD.out
          subst hT
          have HF := Lib.hid (own_eds hown.out)
          have HBF := Lib.hid (B4.out.trans (hB.out.mono B4.out.size))
          clear hown
          cases hok3 : chkB far none (dd none M) with
          | true =>
            have hok3 := Lib.hid hok3
            go_wp2_with fail
            refine (valid_any _ _ wr HF.out).mono ?_
            rw [hok3.out]
            rintro e w5 ⟨rfl, b5⟩
            have HBG := Lib.hid (HBF.out.trans (b5.mono HBF.out.size))
            have HFG := Lib.hid (HF.out.below b5)
            clear b5
            go_wp2_with fail
            go_ret2
            exact ⟨u6, M, HM.out, by simp [bothB, hok.out, hok2.out, hok3.out, code], by unfold bothA; rw [if_pos ⟨hok.out, hok2.out, hok3.out⟩]; exact HFG.out, HBG.out⟩
          | false =>
            have hok3 := Lib.hid hok3
            go_wp2_with fail
            refine (valid_any _ _ wr HF.out).mono ?_
            rw [hok3.out]
            rintro e w5 ⟨rfl, b5⟩
            have HBG := Lib.hid (HBF.out.trans (b5.mono HBF.out.size))
            clear b5
            go_wp2_with fail
            go_ret2
            exact ⟨.slice none 0 0, M, HM.out, by simp [bothB, hok.out, hok2.out, hok3.out, code], by unfold bothA; rw [if_neg (by rw [hok3.out]; simp)]; exact eds_none _, HBG.out⟩
end Go.Proofs.Ytpekbakidhfliaa
