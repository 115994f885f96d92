/-
  For the laws of span: SpanBoth, by the program. Condition: a text and edits as handed in.
-/
import Derived.Test.YtpekbakidhfliaaMix
import Derived.Test.YtpekbakidhfliaaApplb
import Derived.Test.YtpekbakidhfliaaBoth
import Derived.Test.YtpekbakidhfliaaMoved
import Derived.Test.YtpekbakidhfliaaWake
namespace Go.Proofs.Ytpekbakidhfliaa
open Go.RowKit Go.Shelf
set_option linter.unusedSimpArgs false

theorem mix_len {a b X : List Ed} (h : Mix a b X) : X.length = a.length + b.length := by
  induction h with
  | nil => rfl
  | left p _ ih => simp only [List.length_cons, ih]; omega
  | right q _ ih => simp only [List.length_cons, ih]; omega
/-- What is known of two rows that don't meet. -/
structure Facts (t : By) (a b X : List Ed) : Prop where
  all : ∀ M, SrtOf (a ++ b) M ∨ SrtOf (b ++ a) M → dd none M = X ∧ chkB far none (dd none M) = true
  okX : chkB t.length none X = true
  len : X.length ≤ 120
  tx : ∀ e ∈ X, e.tx.length ≤ 200
  okM : chkB (app t 0 a).length none (mvd 0 a b) = true
  same : app (app t 0 a) 0 (mvd 0 a b) = app t 0 X
  ofB : ∀ q ∈ b, mvA a q.fr = (mvv 0 a q.fr, true) ∧ mvA a q.to = (mvv 0 a q.to, true)
theorem facts {t : By} {a b : List Ed} (ht : t.length ≤ 1000) (ha : chkB t.length none a = true) (hb : chkB t.length none b = true) (hap : Apart a b) (la : a.length ≤ 60) (lb : b.length ≤ 60) (xa : ∀ e ∈ a, e.tx.length ≤ 200) (xb : ∀ e ∈ b, e.tx.length ≤ 200) : ∃ X, Facts t a b X := by
  have oa : Ok t.length 0 a := ok_of ha (fun e h => by cases h) (fun _ => Int.le_refl _) (by omega)
  have ob : Ok t.length 0 b := ok_of hb (fun e h => by cases h) (fun _ => Int.le_refl _) (by omega)
  have hfar : (t.length : Int) ≤ far := by unfold far; omega
  obtain ⟨X, hm, ho, hs⟩ := mix_ex (a.length + b.length) a b 0 (Nat.le_refl _) oa ob (chk_strictF ha).1 (chk_strictF hb).1 hap
  have hlen : (app t 0 a).length ≤ 100000 := by
    have h1 := app_len t a 0 xa
    have h2 : a.length * (200 + t.length) ≤ 60 * 1200 := Nat.mul_le_mul la (by omega)
    omega
  have hone : ∀ x : Int, 0 ≤ x → x ≤ t.length → Free a x → mvA a x = (mvv 0 a x, true) := fun x h0 h1 hf => by
    have hl := mv_low a t.length 0 0 x _ oa h0 (mv_free hf)
    have hend : mvv 0 a x ≤ (app t 0 a).length := by
      have he := at_end oa
      rcases Int.lt_or_eq_of_le h1 with h | h
      · have := mv_mono a t.length 0 0 x t.length _ _ oa h0 h (mv_free hf) he
        omega
      · rw [h]; unfold mvv; rw [he]; simp
    unfold mvA
    rw [if_pos ⟨h0, chk_more hfar ha⟩]
    unfold mvR
    rw [mv_free hf]
    have : wrap64 (mvv 0 a x) = mvv 0 a x := Go.IntWalk.wrap64_in _ (by omega)
    simp only [this]
  refine ⟨X, fun M hM => both_mix hfar hm ho hs hM, chk_of ho hs (Int.le_refl _) (fun q hq => by cases hq), ?_, ?_, chk_mvd oa hb hap (fun q hq => by cases hq), ?_, ?_⟩
  · rw [mix_len hm]; omega
  · intro e he
    rcases (mix_mem hm e).1 he with h | h
    · exact xa e h
    · exact xb e h
  · have := app_mix (t := t) (s := app t 0 a) hm 0 0 ho hap (by simp) (by omega)
    simpa using this
  · intro q hq
    obtain ⟨f1, f2⟩ := free_of hap ob hq
    have := ok_mem ob q hq
    exact ⟨hone _ (by omega) (by omega) f1, hone _ (by omega) (by omega) f2⟩
/-- What is known of the first i, and of the first k against the next one. -/
def ApI (A B : List Ed) (i : Nat) : Prop := ∀ p ∈ A.take i, ∀ q ∈ B, apart p q
def ApK (p : Ed) (B : List Ed) (k : Nat) : Prop := ∀ q ∈ B.take k, apart p q
theorem apI_start (A B : List Ed) : ApI A B 0 := fun p hp => by simp at hp
theorem apK_start (p : Ed) (B : List Ed) : ApK p B 0 := fun q hq => by simp at hq
theorem apK_step {p q : Ed} {B : List Ed} {k : Nat} (h : ApK p B k) (hq : B[k]? = some q) (hn : ¬ (p.fr ≤ q.to ∧ q.fr ≤ p.to)) : ApK p B (k + 1) := fun y hy => by
  rw [List.take_add_one, hq] at hy
  rcases List.mem_append.1 hy with hy | hy
  · exact h y hy
  · have : y = q := by simpa using hy
    subst this
    unfold apart; omega
theorem apI_step {p : Ed} {A B : List Ed} {i : Nat} (h : ApI A B i) (hp : A[i]? = some p) (hk : ApK p B B.length) : ApI A B (i + 1) := fun y hy => by
  rw [List.take_add_one, hp] at hy
  rcases List.mem_append.1 hy with hy | hy
  · exact h y hy
  · have : y = p := by simpa using hy
    subst this
    unfold ApK at hk
    rwa [List.take_length] at hk
theorem apI_end {A B : List Ed} (h : ApI A B A.length) : Apart A B := by
  unfold ApI at h
  rwa [List.take_length] at h
theorem mvd_take {A B : List Ed} {k : Nat} {q : Ed} (h : B[k]? = some q) : mvd 0 A (B.take (k + 1)) = mvd 0 A (B.take k) ++ [⟨mvv 0 A q.fr, mvv 0 A q.to, q.tx⟩] := by
  unfold mvd
  rw [List.take_add_one, h, List.map_append]; rfl
theorem mvd_len (A B : List Ed) (k : Nat) (hk : k ≤ B.length) : (mvd 0 A (B.take k)).length = k := by
  unfold mvd
  rw [List.length_map, List.length_take]; omega
set_option maxRecDepth 100000 in
set_option maxHeartbeats 8000000 in
theorem BothL_any (t : ByteArray) (u v : Value) (A B : List Ed) (w : World) (ht : t.size ≤ maxLen) (h1 : Eds w u A) (h2 : Eds w v B) : Calls Try.prog 6 #[.string t, u, v] w fun e w' => e = .returned (.bool true) ∧ Below w.heap.size w w' := by
  have H1 := Lib.hid h1
  have H2 := Lib.hid h2
  obtain ⟨a, capa, rfl, hca, hma, hata⟩ := h1
  obtain ⟨b, capb, rfl, hcb, hmb, hatb⟩ := h2
  have HatA := Lib.hid hata
  have HatB := Lib.hid hatb
  unfold maxLen at hma hmb ht
  clear hata hatb
  go_enter Try.func6, Try.ntmps6
  go_wp2_with fail
  refine (wake_any w).mono ?_
  rintro e w1 ⟨rfl, b1⟩
  have B1 := Lib.hid b1
  clear b1
  go_wp2_with fail
  refine (few_any _ A w1 (H1.out.below B1.out)).mono ?_
  rintro e w2 ⟨rfl, b2⟩
  have B2 := Lib.hid (B1.out.trans (b2.mono B1.out.size))
  clear b2
  go_wp2_with fail
  refine (few_any _ B w2 (H2.out.below B2.out)).mono ?_
  rintro e w3 ⟨rfl, b3⟩
  have B3 := Lib.hid (B2.out.trans (b3.mono B2.out.size))
  clear b3
  cases hf : fewE A with
  | false =>
    go_wp2_with fail
    go_ret
    exact ⟨rfl, B3.out⟩
  | true =>
    cases hg : fewE B with
    | false =>
      go_wp2_with fail
      go_ret
      exact ⟨rfl, B3.out⟩
    | true =>
      obtain ⟨hA, hxA⟩ := few_bd hf
      obtain ⟨hB, hxB⟩ := few_bd hg
      have HxA := Lib.hid hxA
      have HxB := Lib.hid hxB
      clear hf hg hxA hxB
      by_cases h1000 : t.size > 1000
      · have f1 : decide ((t.size : Int) > 1000) = true := decide_eq_true (by omega)
        go_wp2_with fail
        go_ret
        exact ⟨rfl, B3.out⟩
      have f1 : decide ((t.size : Int) > 1000) = false := decide_eq_false (by omega)
      go_wp2_with fail
      go_loopw [10] (fun c wr => ∃ (i : Nat), c = .int .i64 i ∧ i ≤ A.length ∧ Hid (ApI A B i) ∧ Hid (Below w.heap.size w wr)) (fun c _ => A.length - (intOf c).toNat)
      case atStart => exact ⟨0, rfl, by omega, Lib.hid (apI_start A B), B3⟩
      case round =>
        obtain ⟨i, rfl, hi, hap, hW⟩ := hrel
        have hbs := hW.out.size
        by_cases hlt : i < A.length
        · obtain ⟨p, hp⟩ : ∃ x, A[i]? = some x := ⟨_, List.getElem?_eq_getElem hlt⟩
          obtain ⟨b1, off1, rfl, hbl1, l0, l1, -⟩ := HatA.out i p hp
          have C0 : Hid (∀ W, Below w.heap.size w W → W.cell? ⟨b1, off1 + i * 3, none⟩ = some (.int .i64 p.fr) ∧ W.cell? ⟨b1, off1 + i * 3 + 1, none⟩ = some (.int .i64 p.to)) := Lib.hid (fun W h =>
            ⟨(h.cell (p := ⟨b1, off1 + i * 3, none⟩) hbl1).trans l0, (h.cell (p := ⟨b1, off1 + i * 3 + 1, none⟩) hbl1).trans l1⟩)
          have Hp := Lib.hid hp
          have q0 : (0 : Int) ≤ (i : Int) := by omega
          have q1 : (i : Int) < (A.length : Int) := by omega
          clear l0 l1 hp
          go_wp2_with fail
          go_loopw [11] (fun c wx => ∃ (k : Nat), c = .int .i64 k ∧ k ≤ B.length ∧ Hid (ApK p B k) ∧ Hid (Below w.heap.size w wx)) (fun c _ => B.length - (intOf c).toNat)
          case atStart => exact ⟨0, rfl, by omega, Lib.hid (apK_start p B), hW⟩
          case round =>
            obtain ⟨k, rfl, hk, hak, hX⟩ := hrel
            by_cases hlt2 : k < B.length
            · obtain ⟨q, hq⟩ : ∃ x, B[k]? = some x := ⟨_, List.getElem?_eq_getElem hlt2⟩
              obtain ⟨b2, off2, rfl, hbl2, m0, m1, -⟩ := HatB.out k q hq
              obtain ⟨c0, c1⟩ := C0.out _ hX.out
              have g0 : wr.cell? ⟨b2, off2 + k * 3, none⟩ = some (.int .i64 q.fr) := (hX.out.cell (p := ⟨b2, off2 + k * 3, none⟩) hbl2).trans m0
              have g1 : wr.cell? ⟨b2, off2 + k * 3 + 1, none⟩ = some (.int .i64 q.to) := (hX.out.cell (p := ⟨b2, off2 + k * 3 + 1, none⟩) hbl2).trans m1
              have p0 : (0 : Int) ≤ (k : Int) := by omega
              have p1 : (k : Int) < (B.length : Int) := by omega
              have Hst := Lib.hid (apK_step hak.out hq)
              clear m0 m1 hq
              by_cases t1 : p.fr ≤ q.to
              · have e1 : decide (p.fr ≤ q.to) = true := decide_eq_true t1
                by_cases t2 : q.fr ≤ p.to
                · have e2 : decide (q.fr ≤ p.to) = true := decide_eq_true t2
                  clear t1 t2
                  go_wp2_with fail
                  go_quiet (fail)
                  go_wp2_with fail
                  go_ret
                  exact ⟨rfl, below_draws hX.out _⟩
                · have e2 : decide (q.fr ≤ p.to) = false := decide_eq_false t2
                  have Hs2 := Lib.hid (Hst.out (by omega))
                  clear t1 t2
                  go_wp2_with fail
                  go_quiet (fail)
                  go_wp2_with fail
                  exact ⟨⟨k + 1, by go_num, by omega, Hs2, Lib.hid (below_draws hX.out _)⟩, by simp [intOf]; omega⟩
              · have e1 : decide (p.fr ≤ q.to) = false := decide_eq_false t1
                have Hs2 := Lib.hid (Hst.out (by omega))
                clear t1
                go_wp2_with fail
                go_quiet (fail)
                go_wp2_with fail
                exact ⟨⟨k + 1, by go_num, by omega, Hs2, Lib.hid (below_draws hX.out _)⟩, by simp [intOf]; omega⟩
            · obtain rfl : k = B.length := by omega
              have Hs2 := Lib.hid (apI_step hap.out Hp.out hak.out)
              go_wp2_with fail
              exact ⟨⟨i + 1, by go_num, by omega, Hs2, hX⟩, by simp [intOf]; omega⟩
        · obtain rfl : i = A.length := by omega
          have Hap := Lib.hid (apI_end hap.out)
          go_wp2_with fail
          refine (Both_any _ _ A B wr (H1.out.below hW.out) (H2.out.below hW.out) hA hB).mono ?_
          rintro e w6 ⟨u6, M, hM, rfl, hu, b6⟩
          have HM := Lib.hid hM
          have U6 := Lib.hid hu
          have B6 := Lib.hid (hW.out.trans (b6.mono hbs))
          obtain ⟨c6, hc6⟩ : ∃ c, Hid (code (bothB A B M) = c) := ⟨_, Lib.hid rfl⟩
          rw [hc6.out]
          clear b6 hu hM
          go_wp2_with fail
          refine (Both_any _ _ B A w6 (H2.out.below B6.out) (H1.out.below B6.out) hB hA).mono ?_
          rintro e w7 ⟨u7, N, hN, rfl, hu, b7⟩
          have HN := Lib.hid hN
          have U7 := Lib.hid hu
          have V7 := Lib.hid (U6.out.below b7)
          have B7 := Lib.hid (B6.out.trans (b7.mono B6.out.size))
          obtain ⟨c7, hc7⟩ : ∃ c, Hid (code (bothB B A N) = c) := ⟨_, Lib.hid rfl⟩
          rw [hc7.out]
          clear b7 hu hN
          cases ha : chkB t.size none A with
          | false =>
            have Ha := Lib.hid ha
            clear ha
            have f := code_no false
            go_wp2_with fail
            refine (Check_any t.size _ A w7 (H1.out.below B7.out)).mono ?_
            rw [Ha.out]
            rintro e w8 ⟨rfl, b8⟩
            have B8 := Lib.hid (B7.out.trans (b8.mono B7.out.size))
            clear b8
            go_wp2_with fail
            go_ret
            exact ⟨rfl, B8.out⟩
          | true =>
            have Ha := Lib.hid ha
            clear ha
            cases hb : chkB t.size none B with
            | false =>
              have Hb := Lib.hid hb
              clear hb
              have f := code_no false
              have f' := code_no true
              go_wp2_with fail
              refine (Check_any t.size _ A w7 (H1.out.below B7.out)).mono ?_
              rw [Ha.out]
              rintro e w8 ⟨rfl, b8⟩
              have B8 := Lib.hid (B7.out.trans (b8.mono B7.out.size))
              clear b8
              go_wp2_with fail
              refine (Check_any t.size _ B w8 (H2.out.below B8.out)).mono ?_
              rw [Hb.out]
              rintro e w9 ⟨rfl, b9⟩
              have B9 := Lib.hid (B8.out.trans (b9.mono B8.out.size))
              clear b9
              go_wp2_with fail
              go_ret
              exact ⟨rfl, B9.out⟩
            | true =>
              have Hb := Lib.hid hb
              clear hb
              obtain ⟨X, F⟩ := facts (t := tl t) (a := A) (b := B) (by rw [tl_length]; omega) (by rw [tl_length]; exact Ha.out) (by rw [tl_length]; exact Hb.out) Hap.out hA hB HxA.out HxB.out
              have HFx := Lib.hid F
              have hfar : ((tl t).length : Int) ≤ far := by unfold far; rw [tl_length]; omega
              have kA : chkB far none A = true := chk_more hfar (by rw [tl_length]; exact Ha.out)
              have kB : chkB far none B = true := chk_more hfar (by rw [tl_length]; exact Hb.out)
              obtain ⟨d1, d2⟩ := F.all M (.inl HM.out)
              obtain ⟨d3, d4⟩ := F.all N (.inr HN.out)
              obtain rfl : c6 = 0 := by rw [← hc6.out]; simp [bothB, kA, kB, d2, code]
              obtain rfl : c7 = 0 := by rw [← hc7.out]; simp [bothB, kA, kB, d4, code]
              have V7' : Hid (Eds w7 u6 X) := Lib.hid (by have h := V7.out; unfold bothA at h; rw [if_pos ⟨kA, kB, d2⟩, d1] at h; exact h)
              have U7' : Hid (Eds w7 u7 X) := Lib.hid (by have h := U7.out; unfold bothA at h; rw [if_pos ⟨kB, kA, d4⟩, d3] at h; exact h)
              clear V7 U7 U6 d1 d2 d3 d4 kA kB hfar F hc6 hc7
              have f' := code_no true
              go_wp2_with fail
              refine (Check_any t.size _ A w7 (H1.out.below B7.out)).mono ?_
              rw [Ha.out]
              rintro e w8 ⟨rfl, b8⟩
              have B8 := Lib.hid (B7.out.trans (b8.mono B7.out.size))
              have V8 := Lib.hid (V7'.out.below b8)
              have U8 := Lib.hid (U7'.out.below b8)
              clear b8 V7' U7'
              go_wp2_with fail
              refine (Check_any t.size _ B w8 (H2.out.below B8.out)).mono ?_
              rw [Hb.out]
              rintro e w9 ⟨rfl, b9⟩
              have B9 := Lib.hid (B8.out.trans (b9.mono B8.out.size))
              have V9 := Lib.hid (V8.out.below b9)
              have U9 := Lib.hid (U8.out.below b9)
              clear b9 V8 U8
              go_wp2_with fail
              refine (Same_any _ _ X X w9 V9.out U9.out).mono ?_
              rw [decide_eq_true rfl]
              rintro e w10 ⟨rfl, b10⟩
              have B10 := Lib.hid (B9.out.trans (b10.mono B9.out.size))
              have V10 := Lib.hid (V9.out.below b10)
              clear b10 V9 U9
              go_wp2_with fail
              refine (Apply_big t _ X w10 V10.out (by omega) HFx.out.len HFx.out.tx).mono ?_
              have hcX : chkB t.size none X = true := by have h := HFx.out.okX; rwa [tl_length] at h
              have hRX : appR (tl t) X = app (tl t) 0 X := by unfold appR; rw [if_pos HFx.out.okX]
              obtain ⟨R, hR⟩ : ∃ R, Hid (app (tl t) 0 X = R) := ⟨_, Lib.hid rfl⟩
              rw [hcX, hRX, hR.out]
              rintro e w11 ⟨rfl, b11⟩
              have B11 := Lib.hid (B10.out.trans (b11.mono B10.out.size))
              clear b11 V10 hcX hRX
              go_wp2_with fail
              refine (Apply_any t _ A w11 (H1.out.below B11.out) (by omega) hA HxA.out).mono ?_
              have hRA : appR (tl t) A = app (tl t) 0 A := by unfold appR; rw [if_pos (by rw [tl_length]; exact Ha.out)]
              obtain ⟨S, hS⟩ : ∃ S, Hid (app (tl t) 0 A = S) := ⟨_, Lib.hid rfl⟩
              rw [Ha.out, hRA, hS.out]
              rintro e w12 ⟨rfl, b12⟩
              have B12 := Lib.hid (B11.out.trans (b12.mono B11.out.size))
              clear b12 hRA
              go_wp2_with fail
              obtain ⟨i0, hi0, hz0, hz1, hz2⟩ := info_parts infoEd
              have HobB : Hid (∀ q ∈ B, 0 ≤ q.fr ∧ q.fr ≤ q.to ∧ q.to ≤ t.size) := Lib.hid (ok_mem (ok_of Hb.out (fun e h => by cases h) (fun _ => Int.le_refl _) (by omega)))
              go_loopw [20, 21] (fun o c wr => ∃ (k : Nat), c = .int .i64 k ∧ k ≤ B.length ∧ wr.ownsRow w12.heap.size 39 3 o k (ev (mvd 0 A (B.take k))) ∧ Below w12.heap.size w12 wr) (fun _ c _ => B.length - (intOf c).toNat)
              case atStart => exact ⟨0, rfl, by omega, World.ownsRow_nil _ _ _ _, Below.refl _ _⟩
              case round =>
                obtain ⟨k, rfl, hk, hown, hW2⟩ := hrel
                have hbs2 := hW2.size
                have hWW := Lib.hid (B12.out.trans (hW2.mono B12.out.size))
                by_cases hlt2 : k < B.length
                · obtain ⟨q, hq⟩ : ∃ x, B[k]? = some x := ⟨_, List.getElem?_eq_getElem hlt2⟩
                  obtain ⟨b2, off2, rfl, hbl2, m0, m1, m2⟩ := HatB.out k q hq
                  obtain ⟨r1, r2⟩ := HFx.out.ofB q (List.mem_of_getElem? hq)
                  obtain ⟨o1, o2, o3⟩ := HobB.out q (List.mem_of_getElem? hq)
                  have hx1 := Lib.hid (Go.IntWalk.wrap64_in q.fr (by omega))
                  have hx2 := Lib.hid (Go.IntWalk.wrap64_in q.to (by omega))
                  have Hlies : Hid (∀ W, Below w.heap.size w W → W.cell? ⟨b2, off2 + k * 3, none⟩ = some (.int .i64 q.fr) ∧ W.cell? ⟨b2, off2 + k * 3 + 1, none⟩ = some (.int .i64 q.to) ∧ W.cell? ⟨b2, off2 + k * 3 + 2, none⟩ = some (.string (bs q.tx))) := Lib.hid fun W hW =>
                    ⟨(hW.cell (p := ⟨b2, off2 + k * 3, none⟩) hbl2).trans m0, (hW.cell (p := ⟨b2, off2 + k * 3 + 1, none⟩) hbl2).trans m1, (hW.cell (p := ⟨b2, off2 + k * 3 + 2, none⟩) hbl2).trans m2⟩
                  obtain ⟨F1, hF1⟩ : ∃ x, Hid (mvv 0 A q.fr = x) := ⟨_, Lib.hid rfl⟩
                  obtain ⟨T1, hT1⟩ : ∃ x, Hid (mvv 0 A q.to = x) := ⟨_, Lib.hid rfl⟩
                  rw [hF1.out] at r1
                  rw [hT1.out] at r2
                  have R1 := Lib.hid r1
                  have R2 := Lib.hid r2
                  have Hmt := Lib.hid (mvd_take (A := A) hq)
                  obtain ⟨c0, -, -⟩ := Hlies.out wr hWW.out
                  have Hown := Lib.hid hown
                  have HW2 := Lib.hid hW2
                  clear m0 m1 m2 r1 r2 o1 o2 o3 hq hown hW2
                  go_wp2_with fail
                  refine (Moved_any _ A q.fr wr (H1.out.below hWW.out) (by omega) hx1.out).mono ?_
                  rw [R1.out]
                  rintro e v1 ⟨rfl, bv1⟩
                  have BV1 := Lib.hid (hWW.out.trans (bv1.mono hWW.out.size))
                  have Bv1 := Lib.hid bv1
                  obtain ⟨-, c1, -⟩ := Hlies.out v1 BV1.out
                  clear bv1 c0
                  go_wp2_with fail
                  refine (Moved_any _ A q.to v1 (H1.out.below BV1.out) (by omega) hx2.out).mono ?_
                  rw [R2.out]
                  rintro e v2 ⟨rfl, bv2⟩
                  have BV2 := Lib.hid (BV1.out.trans (bv2.mono BV1.out.size))
                  have Bv2 := Lib.hid (Bv1.out.trans (bv2.mono Bv1.out.size))
                  obtain ⟨-, -, c2⟩ := Hlies.out v2 BV2.out
                  have HOW := Lib.hid (own_below Hown.out Bv2.out)
                  have HW3 := Lib.hid (HW2.out.trans (Bv2.out.mono hbs2))
                  clear bv2 c1
                  have hs3 := HW3.out.size
                  have hlk := mvd_len A B k hk
                  go_wp2_with (at_builtin; refine wpList_append_eds rfl _ _ rfl w12.heap.size _ _ _ _ [⟨F1, T1, q.tx⟩] rfl (HOW.out.alloc _) rfl (eds_row1 (e := ⟨F1, T1, q.tx⟩) (RowAt.new _ 39 _)) (by simp; omega) (by simp; omega) ?_; intro v5 w5 hown5 hb5; have Hb5 := Lib.hid ((HW3.out.alloc hs3 _).trans hb5); have Hown5 := Lib.hid hown5; clear hown5 hb5)
                  have hfin : w5.ownsRow w12.heap.size 39 3 v5 (k + 1) (ev (mvd 0 A (B.take (k + 1)))) := by
                    have h := Hown5.out
                    rw [Hmt.out, ev_append, hF1.out, hT1.out]
                    exact h
                  exact ⟨⟨k + 1, by go_num, by omega, hfin, Hb5.out⟩, by simp [intOf]; omega⟩
                · obtain rfl : k = B.length := by omega
                  rw [List.take_length] at hown
                  have hml : (mvd 0 A B).length = B.length := by unfold mvd; rw [List.length_map]
                  have hxm : ∀ e ∈ mvd 0 A B, e.tx.length ≤ 200 := fun e he => by
                    unfold mvd at he
                    obtain ⟨y, hy, rfl⟩ := List.mem_map.1 he
                    exact HxB.out y hy
                  have hSl : S.length ≤ 100000 := by
                    have g1 := app_len (tl t) A 0 HxA.out
                    rw [hS.out, tl_length] at g1
                    have g2 : A.length * (200 + t.size) ≤ 60 * 1200 := Nat.mul_le_mul hA (by omega)
                    omega
                  have hcM : chkB ((bs S).size : Int) none (mvd 0 A B) = true := by
                    have h := HFx.out.okM
                    rw [hS.out] at h
                    rw [bs_size]; exact h
                  have hap2 : appR (tl (bs S)) (mvd 0 A B) = R := by
                    have h := HFx.out.same
                    have h2 := HFx.out.okM
                    rw [hS.out] at h h2
                    rw [hR.out] at h
                    unfold appR
                    rw [tl_bs, if_pos h2, h]
                  rw [← hml] at hown
                  have HE := Lib.hid (own_eds hown)
                  have Hc := Lib.hid hcM
                  have Hq := Lib.hid hap2
                  have Hx2 := Lib.hid hxm
                  have f'' := code_ok true
                  have hbz : (bs S).size ≤ 100000 := by rw [bs_size]; exact hSl
                  have hml2 : (mvd 0 A B).length ≤ 60 := by omega
                  clear hown hcM hap2 hxm hml hW2
                  go_wp2_with fail
                  refine (Apply_any (bs S) _ (mvd 0 A B) wr HE.out hbz hml2 Hx2.out).mono ?_
                  rw [Hq.out, Hc.out]
                  rintro e w13 ⟨rfl, b13⟩
                  have B13 := Lib.hid (hWW.out.trans (b13.mono hWW.out.size))
                  clear b13
                  go_wp2_with fail
                  go_ret
                  exact ⟨rfl, B13.out⟩
end Go.Proofs.Ytpekbakidhfliaa
