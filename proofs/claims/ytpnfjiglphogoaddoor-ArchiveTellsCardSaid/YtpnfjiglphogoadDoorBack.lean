/-
  For the laws of archive: ArchiveBack returns true. Condition: the listed variables hold what the program's text lays.
-/
import Derived.Test.YtpnfjiglphogoadDoorWake
namespace Go.Proofs.YtpnfjiglphogoadDoor
open Go.RowKit Go.Shelf
set_option linter.unusedSimpArgs false
set_option linter.unusedVariables false

theorem oneL_8 (f : Fl) : f.path.length + f.text.length + 8 ≤ (oneL f).length := by
  have h1 : f.text.length ≤ (whole f.text).length := by unfold whole; split <;> simp
  have h2 : 1 ≤ (Lib.decDigits (cnt f.text)).length := by
    cases h : Lib.decDigits (cnt f.text) with
    | nil => exact absurd h (dec_ne _)
    | cons a b => simp
  unfold oneL headL
  simp only [List.length_append, List.length_cons, List.length_nil, fileW]
  omega
theorem showL_8 (L : List Fl) : L.length * 8 ≤ (showL L).length ∧ ∀ f ∈ L, f.path.length + f.text.length ≤ (showL L).length := by
  induction L with
  | nil => exact ⟨Nat.zero_le _, fun f hf => by cases hf⟩
  | cons g L ih =>
    have h := oneL_8 g
    rw [showL_clen, List.length_cons]
    refine ⟨by have := ih.1; omega, fun f hf => ?_⟩
    rcases List.mem_cons.1 hf with rfl | hf
    · omega
    · have := ih.2 f hf; omega
theorem show_okS {L : List Fl} {n : Nat} (h : (showL L).length ≤ n) (hn : n ≤ 8000) : L.length ≤ 1000 ∧ ∀ f ∈ L, okS f := by
  obtain ⟨h1, h2⟩ := showL_8 L
  refine ⟨by omega, fun f hf => ?_⟩
  have := h2 f hf
  unfold okS; omega
theorem oneL_small {f : Fl} (h1 : f.path.length ≤ 60) (h2 : f.text.length ≤ 150) : (oneL f).length ≤ 300 := by
  have h3 := cnt_le f.text
  have h4 := dec_le 2 (cnt f.text) (by omega)
  have h5 := whole_le f.text
  unfold oneL headL
  simp only [List.length_append, List.length_cons, List.length_nil, fileW]
  split <;> simp <;> omega
theorem showL_small {L : List Fl} (hl : L.length ≤ 12) (h : ∀ f ∈ L, f.path.length ≤ 60 ∧ f.text.length ≤ 150) : (showL L).length ≤ 3600 := by
  have : (showL L).length ≤ L.length * 300 := by
    clear hl
    induction L with
    | nil => simp [showL]
    | cons g L ih =>
      have h1 := oneL_small (h g List.mem_cons_self).1 (h g List.mem_cons_self).2
      have h2 := ih (fun f hf => h f (List.mem_cons_of_mem _ hf))
      rw [showL_clen, List.length_cons]
      omega
  omega
theorem small_okS {L : List Fl} (h : ∀ f ∈ L, f.path.length ≤ 60 ∧ f.text.length ≤ 150) : ∀ f ∈ L, okS f := fun f hf => by
  have := h f hf; unfold okS; omega
theorem all_take {L : List Fl} {k : Nat} {f : Fl} (h : L[k]? = some f) (hp : pathOk f.path = true) (ha : okL (L.take k)) : okL (L.take (k + 1)) := by
  intro g hg
  rw [List.take_add_one, h] at hg
  rcases List.mem_append.1 hg with hg | hg
  · exact ha g hg
  · obtain rfl : g = f := by simpa using hg
    exact hp
set_option maxRecDepth 100000 in
set_option maxHeartbeats 16000000 in
theorem archiveBack_any (v : Value) (L : List Fl) (s : ByteArray) (w : World) (hv : Fls w v L) (hW : AW w) : Calls Tryd.prog 4 #[v, .string s] w fun e w' => e = .returned (.bool true) ∧ Below w.heap.size w w' := by
  have HW := Lib.hid hW
  have HV := Lib.hid hv
  obtain ⟨a, cap, rfl, hc, hcm, hat⟩ := hv
  unfold maxLen at hcm
  have Hat := Lib.hid hat
  clear hW hat
  cases hf : fewF L with
  | false =>
    have Hf := Lib.hid hf
    clear hf
    go_enter Tryd.func4, Tryd.ntmps4
    go_wp2_with fail
    refine (awake_any _ HW.out).mono ?_
    rintro e w1 ⟨rfl, b1⟩
    have B1 := Lib.hid b1
    have V1 := Lib.hid (HV.out.below b1)
    have hs1 := b1.size
    clear b1
    go_wp2_with fail
    refine (few_any _ L _ V1.out).mono ?_
    rw [Hf.out]
    rintro e w2 ⟨rfl, b2⟩
    have B2 := Lib.hid (B1.out.trans (b2.mono hs1))
    clear b2
    go_wp2_with fail
    go_ret
    exact ⟨rfl, B2.out⟩
  | true =>
    have Hf := Lib.hid hf
    obtain ⟨hl, hok⟩ := few_ok hf
    have Hok := Lib.hid hok
    have hsm := showL_small hl hok
    clear hf hok
    by_cases hs : s.size ≤ 2000
    · have f1 : decide ((s.size : Int) > 2000) = false := decide_eq_false (by omega)
      obtain ⟨S, hS⟩ : ∃ S, Hid (showL L = S) := ⟨_, Lib.hid rfl⟩
      rw [hS.out] at hsm
      have htl := tl_length s
      go_enter Tryd.func4, Tryd.ntmps4
      go_wp2_with fail
      refine (awake_any _ HW.out).mono ?_
      rintro e w1 ⟨rfl, b1⟩
      have B1 := Lib.hid b1
      have V1 := Lib.hid (HV.out.below b1)
      have hs1 := b1.size
      clear b1
      go_wp2_with fail
      refine (few_any _ L _ V1.out).mono ?_
      rw [Hf.out]
      rintro e w2 ⟨rfl, b2⟩
      have B2 := Lib.hid (B1.out.trans (b2.mono hs1))
      have V2 := Lib.hid (V1.out.below b2)
      have hs2 := B2.out.size
      clear b2
      have hwh := Whole8_any (tl s) (by omega) w2 (HW.out.below B2.out)
      rw [bs_tl] at hwh
      go_wp2_with fail
      refine hwh.mono ?_
      rintro e w3 ⟨he, b3⟩
      have B3 := Lib.hid (B2.out.trans (b3.mono hs2))
      have V3 := Lib.hid (V2.out.below b3)
      have hs3 := B3.out.size
      clear b3 hwh
      have Hat' : Hid (∀ (wr : World), Below w.heap.size w wr → ∀ k (p : Fl), L[k]? = some p → ∃ b off, a = some ⟨b, off, none⟩ ∧ b < w.heap.size ∧ wr.cell? ⟨b, off + k * 2, none⟩ = some (.string (bs p.path))) := Lib.hid fun wr hb k p hp => by
        obtain ⟨b, off, e, hbl, l0, -⟩ := Hat.out k p hp
        exact ⟨b, off, e, hbl, (hb.cell (p := ⟨b, off + k * 2, none⟩) hbl).trans l0⟩
      rcases he with ⟨L', v', ho, hsh, rfl, hL'⟩ | ⟨-, rfl⟩
      · have hsl : (showL L').length ≤ 2000 := by rw [← hsh]; omega
        obtain ⟨g1, g2⟩ := show_okS hsl (by omega)
        have hbs2 : Hid (bs (showL L') = s) := Lib.hid (by rw [← hsh, bs_tl])
        clear ho hsh hsl
        go_wp2_with fail
        refine (Show_any _ L' g1 g2 _ (HW.out.below B3.out) hL').mono ?_
        rw [hbs2.out]
        rintro e w4 ⟨rfl, b4⟩
        have B4 := Lib.hid (B3.out.trans (b4.mono hs3))
        have V4 := Lib.hid (V3.out.below b4)
        have hs4 := B4.out.size
        clear b4 g1 g2 hL' hbs2
        go_wp2_with fail
        go_loopw [9] (fun c wr => ∃ k : Nat, c = .int .i64 k ∧ k ≤ L.length ∧ Hid (Below w.heap.size w wr) ∧ Hid (okL (L.take k))) (fun c _ => L.length - (intOf c).toNat)
        case atStart => exact ⟨0, rfl, by omega, B4, Lib.hid (fun f hf => by simp at hf)⟩
        case round =>
          obtain ⟨k, rfl, hk, hB, hok⟩ := hrel
          have hbs := hB.out.size
          by_cases hlt : k < L.length
          · obtain ⟨p, hp⟩ : ∃ p, L[k]? = some p := ⟨_, List.getElem?_eq_getElem hlt⟩
            obtain ⟨b, off, rfl, hbl, c0⟩ := Hat'.out wr hB.out k p hp
            have hpl : p.path.length ≤ 60 := (Hok.out p (List.mem_of_getElem? hp)).1
            have Hp := Lib.hid hp
            clear hp
            cases hq : pathOk p.path with
            | true =>
              have Hq := Lib.hid hq
              clear hq
              go_wp2_with fail
              refine (RefPath_any (bs p.path) _ (by rw [bs_size]; unfold maxLen; omega)).mono ?_
              rw [tl_bs, Hq.out]
              rintro e w5 ⟨rfl, rfl⟩
              go_wp2_with fail
              exact ⟨⟨k + 1, by go_num, by omega, hB, Lib.hid (all_take Hp.out Hq.out hok.out)⟩, by simp [intOf]; omega⟩
            | false =>
              have Hq := Lib.hid hq
              clear hq
              go_wp2_with fail
              refine (RefPath_any (bs p.path) _ (by rw [bs_size]; unfold maxLen; omega)).mono ?_
              rw [tl_bs, Hq.out]
              rintro e w5 ⟨rfl, rfl⟩
              go_wp2_with fail
              go_ret
              exact ⟨rfl, hB.out⟩
          · obtain rfl : k = L.length := by omega
            have hokL := hok.out
            rw [List.take_length] at hokL
            have HokL := Lib.hid hokL
            clear hok hokL
            have hw6 := Whole8_any S (by omega)
            have hr7 := Read_any (S ++ tl s) (by rw [List.length_append]; omega) (L.length : Int)
            have Hw6 := Lib.hid hw6
            have Hr7 := Lib.hid hr7
            clear hw6 hr7
            have V5 := Lib.hid (HV.out.below hB.out)
            go_wp2_with fail
            refine (Show_any _ L (by omega) (small_okS Hok.out) _ (HW.out.below hB.out) V5.out).mono ?_
            rw [hS.out]
            rintro e w6 ⟨rfl, b6⟩
            have B6 := Lib.hid (hB.out.trans (b6.mono hbs))
            have V6 := Lib.hid (V5.out.below b6)
            have hs6 := B6.out.size
            clear b6
            go_wp2_with fail
            refine (Hw6.out _ (HW.out.below B6.out)).mono ?_
            rintro e w7 ⟨he, b7⟩
            obtain ⟨v7, rfl, p7⟩ := he.shown hS.out.symm (by omega) HokL.out
            have B7 := Lib.hid (B6.out.trans (b7.mono hs6))
            have V7 := Lib.hid (V6.out.below b7)
            have P7 := Lib.hid p7
            have hs7 := B7.out.size
            clear b7 p7 he
            go_wp2_with fail
            rw [app_bs]
            refine (Hr7.out _ (HW.out.below B7.out)).mono ?_
            rintro e w8 ⟨he, b8⟩
            obtain ⟨v8, rfl, p8⟩ := he.shown rfl (by rw [hS.out]) (by rw [List.length_append]; omega) HokL.out
            rw [bs_tl]
            have B8 := Lib.hid (B7.out.trans (b8.mono hs7))
            have V8 := Lib.hid (V7.out.below b8)
            have P8 := Lib.hid (P7.out.below b8)
            have Q8 := Lib.hid p8
            have hs8 := B8.out.size
            clear b8 he p8
            go_wp2_with fail
            refine (Same_eq _ _ L _ P8.out V8.out).mono ?_
            rintro e w9 ⟨rfl, b9⟩
            have B9 := Lib.hid (B8.out.trans (b9.mono hs8))
            have V9 := Lib.hid (V8.out.below b9)
            have Q9 := Lib.hid (Q8.out.below b9)
            have hs9 := B9.out.size
            clear b9
            go_wp2_with fail
            refine (Same_eq _ _ L _ Q9.out V9.out).mono ?_
            rintro e w10 ⟨rfl, b10⟩
            have B10 := Lib.hid (B9.out.trans (b10.mono hs9))
            clear b10
            go_wp2_with fail
            go_ret
            exact ⟨rfl, B10.out⟩
      · obtain ⟨w4, hw4⟩ : ∃ w4, w3 = w4 := ⟨_, rfl⟩
        rw [hw4] at B3 V3 hs3
        have B4 := B3
        have V4 := V3
        have hs4 := hs3
        rw [hw4]
        clear hw4
        go_wp2_with fail
        go_loopw [9] (fun c wr => ∃ k : Nat, c = .int .i64 k ∧ k ≤ L.length ∧ Hid (Below w.heap.size w wr) ∧ Hid (okL (L.take k))) (fun c _ => L.length - (intOf c).toNat)
        case atStart => exact ⟨0, rfl, by omega, B4, Lib.hid (fun f hf => by simp at hf)⟩
        case round =>
          obtain ⟨k, rfl, hk, hB, hok⟩ := hrel
          have hbs := hB.out.size
          by_cases hlt : k < L.length
          · obtain ⟨p, hp⟩ : ∃ p, L[k]? = some p := ⟨_, List.getElem?_eq_getElem hlt⟩
            obtain ⟨b, off, rfl, hbl, c0⟩ := Hat'.out wr hB.out k p hp
            have hpl : p.path.length ≤ 60 := (Hok.out p (List.mem_of_getElem? hp)).1
            have Hp := Lib.hid hp
            clear hp
            cases hq : pathOk p.path with
            | true =>
              have Hq := Lib.hid hq
              clear hq
              go_wp2_with fail
              refine (RefPath_any (bs p.path) _ (by rw [bs_size]; unfold maxLen; omega)).mono ?_
              rw [tl_bs, Hq.out]
              rintro e w5 ⟨rfl, rfl⟩
              go_wp2_with fail
              exact ⟨⟨k + 1, by go_num, by omega, hB, Lib.hid (all_take Hp.out Hq.out hok.out)⟩, by simp [intOf]; omega⟩
            | false =>
              have Hq := Lib.hid hq
              clear hq
              go_wp2_with fail
              refine (RefPath_any (bs p.path) _ (by rw [bs_size]; unfold maxLen; omega)).mono ?_
              rw [tl_bs, Hq.out]
              rintro e w5 ⟨rfl, rfl⟩
              go_wp2_with fail
              go_ret
              exact ⟨rfl, hB.out⟩
          · obtain rfl : k = L.length := by omega
            have hokL := hok.out
            rw [List.take_length] at hokL
            have HokL := Lib.hid hokL
            clear hok hokL
            have hw6 := Whole8_any S (by omega)
            have hr7 := Read_any (S ++ tl s) (by rw [List.length_append]; omega) (L.length : Int)
            have Hw6 := Lib.hid hw6
            have Hr7 := Lib.hid hr7
            clear hw6 hr7
            have V5 := Lib.hid (HV.out.below hB.out)
            go_wp2_with fail
            refine (Show_any _ L (by omega) (small_okS Hok.out) _ (HW.out.below hB.out) V5.out).mono ?_
            rw [hS.out]
            rintro e w6 ⟨rfl, b6⟩
            have B6 := Lib.hid (hB.out.trans (b6.mono hbs))
            have V6 := Lib.hid (V5.out.below b6)
            have hs6 := B6.out.size
            clear b6
            go_wp2_with fail
            refine (Hw6.out _ (HW.out.below B6.out)).mono ?_
            rintro e w7 ⟨he, b7⟩
            obtain ⟨v7, rfl, p7⟩ := he.shown hS.out.symm (by omega) HokL.out
            have B7 := Lib.hid (B6.out.trans (b7.mono hs6))
            have V7 := Lib.hid (V6.out.below b7)
            have P7 := Lib.hid p7
            have hs7 := B7.out.size
            clear b7 p7 he
            go_wp2_with fail
            rw [app_bs]
            refine (Hr7.out _ (HW.out.below B7.out)).mono ?_
            rintro e w8 ⟨he, b8⟩
            obtain ⟨v8, rfl, p8⟩ := he.shown rfl (by rw [hS.out]) (by rw [List.length_append]; omega) HokL.out
            rw [bs_tl]
            have B8 := Lib.hid (B7.out.trans (b8.mono hs7))
            have V8 := Lib.hid (V7.out.below b8)
            have P8 := Lib.hid (P7.out.below b8)
            have Q8 := Lib.hid p8
            have hs8 := B8.out.size
            clear b8 he p8
            go_wp2_with fail
            refine (Same_eq _ _ L _ P8.out V8.out).mono ?_
            rintro e w9 ⟨rfl, b9⟩
            have B9 := Lib.hid (B8.out.trans (b9.mono hs8))
            have V9 := Lib.hid (V8.out.below b9)
            have Q9 := Lib.hid (Q8.out.below b9)
            have hs9 := B9.out.size
            clear b9
            go_wp2_with fail
            refine (Same_eq _ _ L _ Q9.out V9.out).mono ?_
            rintro e w10 ⟨rfl, b10⟩
            have B10 := Lib.hid (B9.out.trans (b10.mono hs9))
            clear b10
            go_wp2_with fail
            go_ret
            exact ⟨rfl, B10.out⟩
    · have f1 : decide ((s.size : Int) > 2000) = true := decide_eq_true (by omega)
      go_enter Tryd.func4, Tryd.ntmps4
      go_wp2_with fail
      refine (awake_any _ HW.out).mono ?_
      rintro e w1 ⟨rfl, b1⟩
      have B1 := Lib.hid b1
      have V1 := Lib.hid (HV.out.below b1)
      have hs1 := b1.size
      clear b1
      go_wp2_with fail
      refine (few_any _ L _ V1.out).mono ?_
      rw [Hf.out]
      rintro e w2 ⟨rfl, b2⟩
      have B2 := Lib.hid (B1.out.trans (b2.mono hs1))
      clear b2
      go_wp2_with fail
      go_ret
      exact ⟨rfl, B2.out⟩
end Go.Proofs.YtpnfjiglphogoadDoor
