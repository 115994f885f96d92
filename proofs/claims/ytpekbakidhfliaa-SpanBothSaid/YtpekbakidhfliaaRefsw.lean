/-
  For the laws of span: edits put in order, by the reference, by the program. Condition: at most 1,000 edits.
-/
import Derived.Test.YtpekbakidhfliaaRefs
import Derived.Test.YtpekbakidhfliaaRefi
import Derived.Test.YtpekbakidhfliaaWake
import Derived.Deep.CutBlock
namespace Go.Proofs.Ytpekbakidhfliaa
open Go.RowKit Go.Shelf Go.Sort
set_option linter.unusedSimpArgs false

/-- The places from k on go behind x. -/
def Beh (M : List Ed) (k : Nat) (x : Ed) : Prop := ∀ p y, k ≤ p → M[p]? = some y → gtE y x
theorem beh_start (M : List Ed) (x : Ed) : Beh M M.length x := fun p y h1 h2 => by
  have := (List.getElem?_eq_some_iff.1 h2).1
  omega
theorem beh_step {M : List Ed} {k : Nat} {x y : Ed} (h : Beh M (k + 1) x) (hy : M[k]? = some y) (hg : gtE y x) : Beh M k x := fun p z h1 h2 => by
  by_cases e : p = k
  · subst e; rw [hy] at h2; cases h2; exact hg
  · exact h p z (by omega) h2
def SrtR (L : List Ed) (w : World) (e : Ending) (w' : World) : Prop := (∃ v' M, e = .returned v' ∧ SrtOf L M ∧ w'.ownsRow w.heap.size 39 3 v' L.length (ev M)) ∧ Below w.heap.size w w'
theorem eds_take {W : World} {p : Option Addr} {n cap k : Nat} {M : List Ed} (h : Eds W (.slice p n cap) M) (hk : k ≤ M.length) : Eds W (.slice p k cap) (M.take k) := by
  obtain ⟨a, c, e, hc, hm, hat⟩ := h
  cases e
  refine ⟨_, _, by rw [List.length_take, Nat.min_eq_left hk], by rw [List.length_take]; omega, hm, fun j x hj => ?_⟩
  rw [List.getElem?_take] at hj
  split at hj
  · exact hat j x hj
  · cases hj
theorem eds_drop {W : World} {p : Addr} {n cap k : Nat} {M : List Ed} (h : Eds W (.slice (some p) n cap) M) (hk : k ≤ M.length) : Eds W (.slice (some (p.add (k * 3))) (n - k) (cap - k)) (M.drop k) := by
  obtain ⟨a, c, e, hc, hm, hat⟩ := h
  cases e
  refine ⟨_, _, by rw [List.length_drop], by rw [List.length_drop]; omega, by omega, fun j x hj => ?_⟩
  rw [List.getElem?_drop] at hj
  obtain ⟨b, off, e, h1, h2, h3, h4⟩ := hat _ x hj
  cases e
  refine ⟨b, off + k * 3, by rw [add_flat], h1, ?_, ?_, ?_⟩
  · rw [← h2]; congr 2; omega
  · rw [← h3]; congr 2; omega
  · rw [← h4]; congr 2; omega
theorem eds_drop0 {W : World} {p : Option Addr} {k : Nat} {M : List Ed} (hk : k = M.length) : Eds W (.slice p 0 0) (M.drop k) := by
  subst hk
  rw [List.drop_length]
  exact ⟨_, _, rfl, Nat.le_refl _, Nat.zero_le _, by simp⟩
set_option maxRecDepth 100000 in
set_option maxHeartbeats 8000000 in
theorem RefSort_any (v : Value) (L : List Ed) (w : World) (h1 : Eds w v L) (hL : L.length ≤ 1000) : Calls Try.prog 20 #[v] w (SrtR L w) := by
  obtain ⟨a, cap, rfl, hc, hm, hat⟩ := h1
  have Hat := Lib.hid hat; clear hat
  unfold maxLen at hm
  obtain ⟨i0, hi0, hz0, hz1, hz2⟩ := info_parts infoEd
  go_enter Try.func20, Try.ntmps20
  go_wp2_with fail
  go_loopw [3, 4] (fun u c wr => ∃ (i : Nat) (M : List Ed), c = .int .i64 i ∧ i ≤ L.length ∧ Hid (SrtP L i M) ∧ Hid (wr.ownsRow w.heap.size 39 3 u i (ev M)) ∧ Hid (Below w.heap.size w wr)) (fun _ c _ => L.length - (intOf c).toNat)
  case atStart => exact ⟨0, [], rfl, by omega, Lib.hid (srtP_start L), Lib.hid (World.ownsRow_nil _ _ _ _), Lib.hid (Below.refl _ _)⟩
  case round =>
    obtain ⟨i, M, rfl, hi, hP, hown, hB⟩ := hrel
    have hbs := hB.out.size
    by_cases hlt : i < L.length
    · obtain ⟨x, hx⟩ : ∃ x, L[i]? = some x := ⟨_, List.getElem?_eq_getElem hlt⟩
      obtain ⟨b, off, rfl, hbl, hl0, hl1, hl2⟩ := Hat.out i x hx
      have hMl := srtP_len hP.out
      have hEM : Eds wr u3 M := own_eds (by rw [← hMl] at hown; exact hown.out)
      obtain ⟨p, capM, rfl, hcM, hmM, -⟩ := own_eds (by rw [← hMl] at hown; exact hown.out)
      have HEM := Lib.hid hEM
      have Hx := Lib.hid hx
      have c0 : Hid (wr.cell? ⟨b, off + i * 3, none⟩ = some (.int .i64 x.fr)) := Lib.hid ((hB.out.cell (p := ⟨b, off + i * 3, none⟩) hbl).trans hl0)
      have c1 : Hid (wr.cell? ⟨b, off + i * 3 + 1, none⟩ = some (.int .i64 x.to)) := Lib.hid ((hB.out.cell (p := ⟨b, off + i * 3 + 1, none⟩) hbl).trans hl1)
      have c2 : Hid (wr.cell? ⟨b, off + i * 3 + 2, none⟩ = some (.string (bs x.tx))) := Lib.hid ((hB.out.cell (p := ⟨b, off + i * 3 + 2, none⟩) hbl).trans hl2)
      have HMl := Lib.hid hMl
      unfold maxLen at hmM
      clear hEM hx hMl hl0 hl1 hl2
      go_upto_block 2 with fail
      go_cut [5] from 15 to 60 (fun c wx => ∃ k : Nat, c = .int .i64 k ∧ k ≤ M.length ∧ Hid (Beh M k x ∧ ∀ y, k ≠ 0 → M[k - 1]? = some y → ¬ gtE y x) ∧ ∃ q, Hid (wx = wr.drewN q))
      case first =>
        go_wp2_with fail
        go_loopw [5] (fun c wx => ∃ k : Nat, c = .int .i64 k ∧ k ≤ M.length ∧ Hid (Beh M k x) ∧ ∃ q, Hid (wx = wr.drewN q)) (fun c _ => (intOf c).toNat)
        case atStart => exact ⟨M.length, rfl, by omega, Lib.hid (beh_start M x), 0, Lib.hid rfl⟩
        case round =>
          obtain ⟨k, rfl, hk, hbeh, q, hq⟩ := hrel
          have hli := HMl.out
          rcases Nat.eq_zero_or_pos k with h0 | h0
          · have hlo : Hid (∀ y, k ≠ 0 → M[k - 1]? = some y → ¬ gtE y x) := Lib.hid (fun y h => absurd h0 h)
            have f4 : decide ((k : Int) > 0) = false := decide_eq_false (by omega)
            have f5 : decide (0 < k) = false := decide_eq_false (by omega)
            clear h0
            go_wp2_with fail
            go_quiet (fail)
            go_wp2_with fail
            go_meet
            case rel => exact ⟨k, rfl, hk, Lib.hid ⟨hbeh.out, hlo.out⟩, q + nq, Lib.hid (by rw [hq.out]; exact World.drewN_drewN _ q nq)⟩
          · obtain ⟨y, hy⟩ : ∃ y, M[k - 1]? = some y := ⟨_, List.getElem?_eq_getElem (by omega)⟩
            obtain ⟨_, capM', hv, -, -, hatM⟩ := HEM.out
            obtain ⟨b', off', rfl, hlM, hm0, hm1, -⟩ := hatM (k - 1) y hy
            cases hv
            have g0 : wr.cell? ⟨b', off' + (k - 1) * 3, none⟩ = some (.int .i64 y.fr) := by rw [hq.out]; exact hm0
            have g1 : wr.cell? ⟨b', off' + (k - 1) * 3 + 1, none⟩ = some (.int .i64 y.to) := by rw [hq.out]; exact hm1
            have d0 : wr.cell? ⟨b, off + i * 3, none⟩ = some (.int .i64 x.fr) := by rw [hq.out]; exact c0.out
            have d1 : wr.cell? ⟨b, off + i * 3 + 1, none⟩ = some (.int .i64 x.to) := by rw [hq.out]; exact c1.out
            have p0 : IntKind.i64.wrap ((k : Int) - 1) = ((k - 1 : Nat) : Int) := by rw [Go.IntWalk.i64_left, Go.IntWalk.wrap64_in _ (by omega)]; omega
            have p1 : (0 : Int) ≤ ((k - 1 : Nat) : Int) := by omega
            have p2 : ((k - 1 : Nat) : Int) < (M.length : Int) := by omega
            have p3 : (0 : Int) ≤ (i : Int) := by omega
            have p4 : (i : Int) < (L.length : Int) := by omega
            have f4 : decide ((k : Int) > 0) = true := decide_eq_true (by omega)
            have f5 : decide (0 < k) = true := decide_eq_true (by omega)
            have Hy := Lib.hid hy
            have hpos : Hid (0 < k) := Lib.hid h0
            clear hatM hm0 hm1 hy h0
            have hbeh2 : Hid (gtE y x → Beh M (k - 1) x) := Lib.hid (fun hg => beh_step (by rw [Nat.sub_add_cancel hpos.out]; exact hbeh.out) Hy.out hg)
            have hlo : Hid (¬ gtE y x → ∀ z, k ≠ 0 → M[k - 1]? = some z → ¬ gtE z x) := Lib.hid (fun hg z _ hz => by rw [Hy.out] at hz; cases hz; exact hg)
            by_cases t1 : y.fr > x.fr
            · have f6 : decide (y.fr > x.fr) = true := decide_eq_true t1
              have hbeh3 := Lib.hid (hbeh2.out (.inl t1))
              clear t1
              go_wp2_with fail
              go_quiet (fail)
              go_wp2_with fail
              exact ⟨⟨k - 1, by go_num, by omega, hbeh3, q + nq, Lib.hid (by rw [hq.out]; exact World.drewN_drewN _ q nq)⟩, by simp [intOf]; have := hpos.out; omega⟩
            have f6 : decide (y.fr > x.fr) = false := decide_eq_false t1
            by_cases t2 : y.fr = x.fr
            · have f7 : (y.fr == x.fr) = true := beq_iff_eq.2 t2
              by_cases t3 : y.to > x.to
              · have f8 : decide (y.to > x.to) = true := decide_eq_true t3
                have hbeh3 := Lib.hid (hbeh2.out (.inr ⟨t2.symm, t3⟩))
                clear t1 t2 t3
                go_wp2_with fail
                go_quiet (fail)
                go_wp2_with fail
                exact ⟨⟨k - 1, by go_num, by omega, hbeh3, q + nq, Lib.hid (by rw [hq.out]; exact World.drewN_drewN _ q nq)⟩, by simp [intOf]; have := hpos.out; omega⟩
              · have f8 : decide (y.to > x.to) = false := decide_eq_false t3
                have hlo3 := Lib.hid (hlo.out (by unfold gtE; omega))
                clear t1 t2 t3
                go_wp2_with fail
                go_quiet (fail)
                go_wp2_with fail
                go_meet
                case rel => exact ⟨k, rfl, hk, Lib.hid ⟨hbeh.out, hlo3.out⟩, q + nq, Lib.hid (by rw [hq.out]; exact World.drewN_drewN _ q nq)⟩
            · have f7 : (y.fr == x.fr) = false := beq_eq_false_iff_ne.2 t2
              have hlo3 := Lib.hid (hlo.out (by unfold gtE; omega))
              clear t1 t2
              go_wp2_with fail
              go_quiet (fail)
              go_wp2_with fail
              go_meet
              case rel => exact ⟨k, rfl, hk, Lib.hid ⟨hbeh.out, hlo3.out⟩, q + nq, Lib.hid (by rw [hq.out]; exact World.drewN_drewN _ q nq)⟩
      case rest =>
        obtain ⟨k, rfl, hk, hbh, q, hq⟩ := hcut
        cases p with
        | none =>
          obtain rfl : M = [] := eds_nil HEM.out
          obtain rfl : k = 0 := by simpa using hk
          obtain rfl : i = 0 := by rw [← HMl.out]; rfl
          have hbc : Hid (Below w.heap.size w wc) := Lib.hid (by rw [hq.out]; exact below_draws hB.out q)
          have hbs2 := hbc.out.size
          have k0 : wr.cell? ⟨b, off, none⟩ = some (.int .i64 x.fr) := by simpa using c0.out
          have k1 : wr.cell? ⟨b, off + 1, none⟩ = some (.int .i64 x.to) := by simpa using c1.out
          have k2 : wr.cell? ⟨b, off + 2, none⟩ = some (.string (bs x.tx)) := by simpa using c2.out
          have hall : Hid (∀ W, Below wc.heap.size wc W → W.cell? ⟨b, off, none⟩ = some (.int .i64 x.fr) ∧ W.cell? ⟨b, off + 1, none⟩ = some (.int .i64 x.to) ∧ W.cell? ⟨b, off + 2, none⟩ = some (.string (bs x.tx))) := Lib.hid (fun W hW =>
            ⟨(hW.cell (p := ⟨b, off, none⟩) (show b < wc.heap.size by omega)).trans (by rw [hq.out]; exact k0), (hW.cell (p := ⟨b, off + 1, none⟩) (show b < wc.heap.size by omega)).trans (by rw [hq.out]; exact k1), (hW.cell (p := ⟨b, off + 2, none⟩) (show b < wc.heap.size by omega)).trans (by rw [hq.out]; exact k2)⟩)
          clear k0 k1 k2
          have hE : Hid (∀ W n, n ≤ capM → Eds W (.slice none 0 n) []) := Lib.hid (fun W n hn => ⟨_, _, rfl, Nat.zero_le _, Nat.le_trans hn (by unfold maxLen; exact hmM), by simp⟩)
          go_wp2_with (first
            | (at_builtin; refine wpList_append_eds rfl _ _ rfl wc.heap.size _ _ 0 [] [] rfl (World.ownsRow_nil _ _ _ _) rfl (hE.out _ _ (by omega)) (by simp) (Nat.le_refl _) ?_; intro v1 w1 hown1 hb1; obtain ⟨e0, e1, e2⟩ := hall.out w1 hb1; have hs1 := hb1.size; have Hb1 := Lib.hid hb1; have Hown1 := Lib.hid (hown1.alloc (.cells #[.int .i64 x.fr, .int .i64 x.to, .string (bs x.tx)] 39)); clear hown1 hb1)
            | (at_builtin; refine wpList_append_eds rfl _ _ rfl wc.heap.size _ _ _ _ [x] rfl Hown1.out rfl (eds_row1 (RowAt.new _ 39 _)) (by simp) (by simp; omega) ?_; intro v2 w2 hown2 hb2; have hs2 := hb2.size; simp only [World.size_alloc] at hs2; have Hb2 := Lib.hid ((Hb1.out.alloc (by omega) _).trans hb2); have Hown2 := Lib.hid hown2; clear hown2 hb2)
            | (at_builtin; (refine wpList_append_eds rfl _ _ rfl wc.heap.size _ _ _ _ [] rfl Hown2.out rfl (hE.out _ _ (by omega)) (by simp) (by omega) ?_; intro v3 w3 hown3 hb3; have Hb3 := Lib.hid (Hb2.out.trans hb3); have Hown3 := Lib.hid hown3; clear hown3 hb3)))
          have hfin : Hid (w3.ownsRow w.heap.size 39 3 v3 1 (ev [x])) := Lib.hid (by
            have h := own_low Hown3.out hbs2
            have ee : [] ++ ev [] ++ ev [x] ++ ev [] = ev [x] := by simp [ev]
            rwa [ee] at h)
          exact ⟨⟨1, _, by go_num, by omega, Lib.hid (srtP_next (k := 0) hP.out Hx.out (by omega) hbh.out.1 hbh.out.2), hfin, Lib.hid (hbc.out.trans (Hb3.out.mono hbs2))⟩, by simp [intOf]; omega⟩
        | some p =>
          have hV := HEM.out
          have ht : Hid (Eds wc (.slice (some p) k capM) (M.take k)) := Lib.hid (by
            rw [hq.out]; exact eds_take hV hk)
          have htl : Hid ((M.take k).length = k) := Lib.hid (by rw [List.length_take]; omega)
          have hbc : Hid (Below w.heap.size w wc) := Lib.hid (by rw [hq.out]; exact below_draws hB.out q)
          have hbs2 := hbc.out.size
          have hMle : M.length ≤ 1000 := by rw [HMl.out]; omega
          have hall : Hid (∀ W, Below wc.heap.size wc W → W.cell? ⟨b, off + i * 3, none⟩ = some (.int .i64 x.fr) ∧ W.cell? ⟨b, off + i * 3 + 1, none⟩ = some (.int .i64 x.to) ∧ W.cell? ⟨b, off + i * 3 + 2, none⟩ = some (.string (bs x.tx))) := Lib.hid (fun W hW =>
            ⟨(hW.cell (p := ⟨b, off + i * 3, none⟩) (show b < wc.heap.size by omega)).trans (by rw [hq.out]; exact c0.out), (hW.cell (p := ⟨b, off + i * 3 + 1, none⟩) (show b < wc.heap.size by omega)).trans (by rw [hq.out]; exact c1.out), (hW.cell (p := ⟨b, off + i * 3 + 2, none⟩) (show b < wc.heap.size by omega)).trans (by rw [hq.out]; exact c2.out)⟩)
          have hE : ∀ W, Below wc.heap.size wc W → Eds W (.slice (some p) M.length capM) M := fun W hW => by
            refine Eds.below (W := wc) ?_ hW
            rw [hq.out]; exact hV
          have hki : k ≤ i := by rw [← HMl.out]; exact hk
          rcases Nat.lt_or_ge k capM with hkc | hkc
          · have hkc1 : ¬ capM = k := by omega
            have HD : Hid (∀ W, Below wc.heap.size wc W → Eds W (.slice (some (p.add (k * 3))) (M.length - k) (capM - k)) (M.drop k)) := Lib.hid (fun W hW => eds_drop (hE W hW) hk)
            clear hV hkc hE
            go_wp2_with (first
              | (at_builtin; refine wpList_append_eds rfl _ _ rfl wc.heap.size _ _ 0 [] (M.take k) rfl (World.ownsRow_nil _ _ _ _) rfl ht.out (by rw [htl.out]; omega) (Nat.le_refl _) ?_; intro v1 w1 hown1 hb1; obtain ⟨e0, e1, e2⟩ := hall.out w1 hb1; have hs1 := hb1.size; have Hb1 := Lib.hid hb1; have Hown1 := Lib.hid (hown1.alloc (.cells #[.int .i64 x.fr, .int .i64 x.to, .string (bs x.tx)] 39)); clear hown1 hb1)
              | (at_builtin; refine wpList_append_eds rfl _ _ rfl wc.heap.size _ _ _ _ [x] rfl Hown1.out rfl (eds_row1 (RowAt.new _ 39 _)) (by simp [htl.out]; omega) (by simp; omega) ?_; intro v2 w2 hown2 hb2; have hs2 := hb2.size; simp only [World.size_alloc] at hs2; have Hb2 := Lib.hid ((Hb1.out.alloc (by omega) _).trans hb2); have Hown2 := Lib.hid hown2; clear hown2 hb2)
              | (at_builtin; (refine wpList_append_eds rfl _ _ rfl wc.heap.size _ _ _ _ (M.drop k) rfl Hown2.out rfl (HD.out _ Hb2.out) (by simp [htl.out]; omega) (by omega) ?_; intro v3 w3 hown3 hb3; have Hb3 := Lib.hid (Hb2.out.trans hb3); have Hown3 := Lib.hid hown3; clear hown3 hb3)))
            have hfin : Hid (w3.ownsRow w.heap.size 39 3 v3 (i + 1) (ev (M.take k ++ (x :: M.drop k)))) := Lib.hid (by
              have h := own_low Hown3.out hbs2
              have en : 0 + (M.take k).length + [x].length + (M.drop k).length = i + 1 := by rw [htl.out, List.length_drop, HMl.out]; simp <;> omega
              have ee : [] ++ ev (M.take k) ++ ev [x] ++ ev (M.drop k) = ev (M.take k ++ (x :: M.drop k)) := by
                rw [List.nil_append, ← ev_append, ← ev_append, List.append_assoc]; rfl
              rwa [en, ee] at h)
            exact ⟨⟨i + 1, _, by go_num, by omega, Lib.hid (srtP_next hP.out Hx.out (by omega) hbh.out.1 hbh.out.2), hfin, Lib.hid (hbc.out.trans (Hb3.out.mono hbs2))⟩, by simp [intOf]; omega⟩
          · obtain rfl : k = M.length := by omega
            obtain rfl : capM = M.length := by omega
            have hkM : M.length = M.length := rfl
            have HD : Hid (∀ W, Below wc.heap.size wc W → Eds W (.slice (some p) 0 0) (M.drop M.length)) := Lib.hid (fun W _ => eds_drop0 hkM)
            clear hV hE hkc hkM
            go_wp2_with (first
              | (at_builtin; refine wpList_append_eds rfl _ _ rfl wc.heap.size _ _ 0 [] (M.take M.length) rfl (World.ownsRow_nil _ _ _ _) rfl ht.out (by rw [htl.out]; omega) (Nat.le_refl _) ?_; intro v1 w1 hown1 hb1; obtain ⟨e0, e1, e2⟩ := hall.out w1 hb1; have hs1 := hb1.size; have Hb1 := Lib.hid hb1; have Hown1 := Lib.hid (hown1.alloc (.cells #[.int .i64 x.fr, .int .i64 x.to, .string (bs x.tx)] 39)); clear hown1 hb1)
              | (at_builtin; refine wpList_append_eds rfl _ _ rfl wc.heap.size _ _ _ _ [x] rfl Hown1.out rfl (eds_row1 (RowAt.new _ 39 _)) (by simp [htl.out]; omega) (by simp; omega) ?_; intro v2 w2 hown2 hb2; have hs2 := hb2.size; simp only [World.size_alloc] at hs2; have Hb2 := Lib.hid ((Hb1.out.alloc (by omega) _).trans hb2); have Hown2 := Lib.hid hown2; clear hown2 hb2)
              | (at_builtin; (refine wpList_append_eds rfl _ _ rfl wc.heap.size _ _ _ _ (M.drop M.length) rfl Hown2.out rfl (HD.out _ Hb2.out) (by simp [htl.out]; omega) (by omega) ?_; intro v3 w3 hown3 hb3; have Hb3 := Lib.hid (Hb2.out.trans hb3); have Hown3 := Lib.hid hown3; clear hown3 hb3)))
            have hfin : Hid (w3.ownsRow w.heap.size 39 3 v3 (i + 1) (ev (M.take M.length ++ (x :: M.drop M.length)))) := Lib.hid (by
              have h := own_low Hown3.out hbs2
              have en : 0 + (M.take M.length).length + [x].length + (M.drop M.length).length = i + 1 := by rw [htl.out, List.length_drop, HMl.out]; simp <;> omega
              have ee : [] ++ ev (M.take M.length) ++ ev [x] ++ ev (M.drop M.length) = ev (M.take M.length ++ (x :: M.drop M.length)) := by
                rw [List.nil_append, ← ev_append, ← ev_append, List.append_assoc]; rfl
              rwa [en, ee] at h)
            exact ⟨⟨i + 1, _, by go_num, by omega, Lib.hid (srtP_next hP.out Hx.out (by omega) hbh.out.1 hbh.out.2), hfin, Lib.hid (hbc.out.trans (Hb3.out.mono hbs2))⟩, by simp [intOf]; omega⟩
    · obtain rfl : i = L.length := by omega
      go_wp2_with fail
      go_ret
      exact ⟨⟨_, M, rfl, srtP_all hP.out, hown.out⟩, hB.out⟩
end Go.Proofs.Ytpekbakidhfliaa
