/-
  For the laws of span: where a byte stands then, by the reference, by the program. Condition: at most 1,000,000 edits.
-/
import Derived.StillTailTactics
import Derived.Test.YtpekbakidhfliaaRefsw
import Derived.Test.YtpekbakidhfliaaMoved
namespace Go.Proofs.Ytpekbakidhfliaa
open Go.RowKit Go.Shelf
set_option linter.unusedSimpArgs false

/-- Where a byte stands then, edit by edit to the last. -/
def rm : Int → List Ed → Int → Int × Bool
  | b, [], x => (wrap64 (x + b), true)
  | b, e :: L, x => if e.fr ≤ x ∧ x < e.to then (0, false) else rm (if e.to ≤ x then b + gr e else b) L x
theorem rm_low {N x : Int} : ∀ {L : List Ed} {d b : Int}, Ok N d L → x < d → rm b L x = (wrap64 (x + b), true)
  | [], _, _, _, _ => rfl
  | e :: L, d, b, h, hx => by
    obtain ⟨h1, h2, _, h4⟩ := h
    rw [rm, if_neg (by omega), if_neg (by omega), rm_low h4 (by omega)]
theorem rm_eq {N x : Int} : ∀ {L : List Ed} {d b : Int}, Ok N d L → rm b L x = match mv b L x with | some n => (wrap64 n, true) | none => (0, false)
  | [], _, _, _ => rfl
  | e :: L, d, b, h => by
    obtain ⟨h1, h2, _, h4⟩ := h
    rw [rm, mv]
    by_cases c1 : x < e.fr
    · rw [if_neg (by omega), if_neg (by omega), if_pos c1, rm_low h4 (by omega)]
    · rw [if_neg c1]
      by_cases c2 : x < e.to
      · rw [if_pos (by omega), if_pos c2]
      · rw [if_neg (by omega), if_neg c2, if_pos (by omega), rm_eq h4]
theorem rm_mvR {L : List Ed} {x : Int} (h : chkB far none L = true) : rm 0 L x = mvR L x := by
  have hok : Ok far 0 L := ok_of h (fun e h => by cases h) (fun _ => Int.le_refl _) (by unfold far; omega)
  rw [rm_eq hok]; rfl
theorem rm_at {L : List Ed} {k : Nat} {e : Ed} {b x : Int} (h : L[k]? = some e) : rm b (L.drop k) x = if e.fr ≤ x ∧ x < e.to then (0, false) else rm (if e.to ≤ x then b + gr e else b) (L.drop (k + 1)) x := by
  rw [drop_at h, rm]
theorem ret2 {r : Int × Bool} {n : Int} {is : Bool} (h : (n, is) = r) : Ending.returned (.tuple #[.int .i64 n, .bool is]) = Ending.returned (.tuple #[.int .i64 r.1, .bool r.2]) := by rw [← h]
set_option maxRecDepth 100000 in
set_option maxHeartbeats 8000000 in
theorem RefMoved_any (v : Value) (L : List Ed) (x : Int) (w : World) (h1 : Eds w v L) (hlen : L.length ≤ 1000000) :
    Calls Try.prog 16 #[v, .int .i64 x] w fun e W' => e = .returned (.tuple #[.int .i64 (mvA L x).1, .bool (mvA L x).2]) ∧ Below w.heap.size w W' := by
  have H1 := Lib.hid h1
  obtain ⟨a, cap, rfl, hc, hm, hat⟩ := h1
  have Hat := Lib.hid hat; clear hat
  unfold maxLen at hm
  obtain ⟨r, hr⟩ : ∃ r, Hid (mvA L x = r) := ⟨_, Lib.hid rfl⟩
  rw [hr.out]
  have hrr := hr.out
  unfold mvA at hrr
  cases hok : chkB far none L with
  | false =>
    have hok := Lib.hid hok
    rw [hok.out, if_neg (by simp)] at hrr
    subst hrr
    go_enter Try.func16, Try.ntmps16
    go_wp2_with fail
    refine (May_any far _ L w H1.out).mono ?_
    rw [hok.out]
    rintro e w1 ⟨rfl, b1⟩
    go_wp2_with fail
    go_ret2
    exact ⟨rfl, b1⟩
  | true =>
    have hok := Lib.hid hok
    by_cases h0 : x < 0
    · rw [if_neg (by omega)] at hrr
      subst hrr
      go_enter Try.func16, Try.ntmps16
      go_wp2_with fail
      refine (May_any far _ L w H1.out).mono ?_
      rw [hok.out]
      rintro e w1 ⟨rfl, b1⟩
      go_wp2_with fail
      go_ret2
      exact ⟨rfl, b1⟩
    · rw [if_pos ⟨by omega, hok.out⟩, ← rm_mvR hok.out] at hrr
      have hx0 : ¬ x < 0 := h0
      have Hrr := Lib.hid hrr
      clear hrr hr
      go_enter Try.func16, Try.ntmps16
      go_wp2_with fail
      refine (May_any far _ L w H1.out).mono ?_
      rw [hok.out]
      rintro e w1 ⟨rfl, b1⟩
      have B1 := Lib.hid b1
      clear b1
      go_wp2_with fail
      go_loopw [7, 8] (fun m c wr => ∃ (k : Nat) (b0 s : Int), k ≤ L.length ∧ c = .int .i64 k ∧ m = .int .i64 b0 ∧ Hid (b0 = wrap64 s) ∧ Hid (rm s (L.drop k) x = r) ∧ Hid (Below w.heap.size w wr)) (fun _ c _ => L.length - (intOf c).toNat)
      case atStart => exact ⟨0, 0, 0, by omega, rfl, rfl, Lib.hid (by unfold wrap64; omega), Lib.hid (by rw [List.drop_zero]; exact Hrr.out), B1⟩
      case round =>
        obtain ⟨k, b0, s, hk, rfl, rfl, hb0, hg, hB⟩ := hrel
        have hbs := hB.out.size
        by_cases hlt : k < L.length
        · obtain ⟨y, hy⟩ : ∃ x, L[k]? = some x := ⟨_, List.getElem?_eq_getElem hlt⟩
          obtain ⟨b, off, rfl, hbl, hl0, hl1, hl2⟩ := Hat.out k y hy
          have hg2 := hg.out
          rw [rm_at hy] at hg2
          obtain ⟨f, g, tx⟩ := y
          simp only at hl0 hl1 hl2 hg2
          have c0 : wr.cell? ⟨b, off + k * 3, none⟩ = some (.int .i64 f) := (hB.out.cell (p := ⟨b, off + k * 3, none⟩) hbl).trans hl0
          have c1 : wr.cell? ⟨b, off + k * 3 + 1, none⟩ = some (.int .i64 g) := (hB.out.cell (p := ⟨b, off + k * 3 + 1, none⟩) hbl).trans hl1
          have c2 : wr.cell? ⟨b, off + k * 3 + 2, none⟩ = some (.string (bs tx)) := (hB.out.cell (p := ⟨b, off + k * 3 + 2, none⟩) hbl).trans hl2
          have p0 : (0 : Int) ≤ (k : Int) := by omega
          have p1 : (k : Int) < (L.length : Int) := by omega
          clear hl0 hl1 hl2 hy
          by_cases t1 : f ≤ x
          · have f1 : decide (x ≥ f) = true := decide_eq_true t1
            by_cases t2 : x < g
            · have f2 : decide (x < g) = true := decide_eq_true t2
              rw [if_pos ⟨t1, t2⟩] at hg2
              subst hg2
              go_wp2_with fail
              go_ret2
              exact ⟨rfl, hB.out⟩
            · have f2 : decide (x < g) = false := decide_eq_false t2
              have f3 : decide (g ≤ x) = true := decide_eq_true (by omega)
              rw [if_neg (by omega), if_pos (by omega)] at hg2
              have Hg2 := Lib.hid hg2
              have Hnx := Lib.hid (by_next (l := tx.length) (f := f) (g := g) hb0.out)
              have t3 : g ≤ x := by omega
              clear hg2 t2
              go_wp2_with fail
              go_quiet (fail)
              go_wp2_with fail
              exact ⟨⟨k + 1, _, s + gr ⟨f, g, tx⟩, by omega, by go_num, rfl, Hnx, Hg2, Lib.hid (below_draws hB.out _)⟩, by simp [intOf]; omega⟩
          · have f1 : decide (x ≥ f) = false := decide_eq_false (by omega)
            rw [if_neg (by omega)] at hg2
            by_cases t3 : g ≤ x
            · have f3 : decide (g ≤ x) = true := decide_eq_true (by omega)
              rw [if_pos t3] at hg2
              have Hg2 := Lib.hid hg2
              have Hnx := Lib.hid (by_next (l := tx.length) (f := f) (g := g) hb0.out)
              clear hg2
              go_wp2_with fail
              go_quiet (fail)
              go_wp2_with fail
              exact ⟨⟨k + 1, _, s + gr ⟨f, g, tx⟩, by omega, by go_num, rfl, Hnx, Hg2, Lib.hid (below_draws hB.out _)⟩, by simp [intOf]; omega⟩
            · have f3 : decide (g ≤ x) = false := decide_eq_false (by omega)
              rw [if_neg t3] at hg2
              have Hg2 := Lib.hid hg2
              clear hg2
              go_wp2_with fail
              exact ⟨⟨k + 1, _, s, by omega, by go_num, rfl, hb0, Hg2, hB⟩, by simp [intOf]; omega⟩
        · obtain rfl : k = L.length := by omega
          have hg2 := hg.out
          rw [List.drop_length, rm] at hg2
          have hb := hb0.out
          go_wp2_with fail
          go_ret2
          refine ⟨ret2 ?_, hB.out⟩
          rw [← hg2]
          refine Prod.ext ?_ rfl
          simp only
          first | (rw [hb]; unfold wrap64; omega) | (unfold wrap64; omega)
end Go.Proofs.Ytpekbakidhfliaa
