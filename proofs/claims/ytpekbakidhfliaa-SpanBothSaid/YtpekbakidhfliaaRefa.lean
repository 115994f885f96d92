/-
  For the laws of span: what comes of edits, by the document: from the last one on. Conditions: at most 60 edits of at most 200 bytes, a text of at most 100,000 bytes.
-/
import Derived.Test.YtpekbakidhfliaaApply
import Derived.Test.YtpekbakidhfliaaInv
namespace Go.Proofs.Ytpekbakidhfliaa
open Go.RowKit Go.Shelf

/-- Where the edits ahead of place k end. -/
def dp (L : List Ed) : Nat → Nat
  | 0 => 0
  | k + 1 => ((L[k]?).map fun e => e.to.toNat).getD 0
theorem ok_at {n : Int} : ∀ {L : List Ed} {d : Int}, Ok n d L → ∀ k e, L[k]? = some e → (∀ j p, k = j + 1 → L[j]? = some p → p.to ≤ e.fr) ∧ d ≤ e.fr ∧ e.fr ≤ e.to ∧ e.to ≤ n
  | x :: L, d, ⟨h1, h2, h3, h4⟩, 0, e, he => by
    simp only [List.getElem?_cons_zero, Option.some.injEq] at he
    subst he
    exact ⟨fun j p h => by omega, h1, h2, h3⟩
  | x :: L, d, ⟨h1, h2, h3, h4⟩, k + 1, e, he => by
    simp only [List.getElem?_cons_succ] at he
    obtain ⟨i1, i2, i3, i4⟩ := ok_at h4 k e he
    refine ⟨fun j p h hp => ?_, by omega, i3, i4⟩
    cases j with
    | zero =>
      simp only [List.getElem?_cons_zero, Option.some.injEq] at hp
      subst hp
      exact i2
    | succ j =>
      simp only [List.getElem?_cons_succ] at hp
      exact i1 j p (by omega) hp
/-- The text behind the edits from place k on. -/
def bk (t : By) (L : List Ed) (k : Nat) : By := t.take (dp L k) ++ app t (dp L k) (L.drop k)
theorem bk_last {t : By} {L : List Ed} : bk t L L.length = t := by
  unfold bk
  rw [List.drop_length, app, List.take_append_drop]
theorem bk_first {t : By} {L : List Ed} : bk t L 0 = app t 0 L := by
  unfold bk dp
  rw [List.take_zero, List.nil_append, List.drop_zero]
theorem bk_step {t : By} {L : List Ed} {k : Nat} {e : Ed} (ho : Ok t.length 0 L) (h : L[k]? = some e) :
    e.fr.toNat ≤ e.to.toNat ∧ e.to.toNat ≤ (bk t L (k + 1)).length ∧ bk t L k = (bk t L (k + 1)).take e.fr.toNat ++ e.tx ++ (bk t L (k + 1)).drop e.to.toNat := by
  obtain ⟨h0, h1, h2, h3⟩ := ok_at ho k e h
  have hd : dp L (k + 1) = e.to.toNat := by rw [dp, h]; rfl
  have hdk : dp L k ≤ e.fr.toNat := by
    cases k with
    | zero => exact Nat.zero_le _
    | succ j =>
      obtain ⟨p, hp⟩ : ∃ p, L[j]? = some p := ⟨_, List.getElem?_eq_getElem (by have := (List.getElem?_eq_some_iff.1 h).1; omega)⟩
      have := h0 j p rfl hp
      rw [dp, hp]
      show p.to.toNat ≤ _
      omega
  have hgl : e.to.toNat ≤ t.length := by omega
  have hfg : e.fr.toNat ≤ e.to.toNat := by omega
  have hlt : (t.take e.to.toNat).length = e.to.toNat := by rw [List.length_take]; omega
  refine ⟨hfg, ?_, ?_⟩
  · unfold bk
    rw [hd, List.length_append, hlt]; omega
  · have e1 : (bk t L (k + 1)).take e.fr.toNat = t.take e.fr.toNat := by
      unfold bk
      rw [hd, List.take_append_of_le_length (by rw [hlt]; exact hfg), List.take_take, Nat.min_eq_left hfg]
    have e2 : (bk t L (k + 1)).drop e.to.toNat = app t e.to.toNat (L.drop (k + 1)) := by
      unfold bk
      rw [hd, List.drop_append_of_le_length (by rw [hlt]; exact Nat.le_refl _), List.drop_of_length_le (by rw [hlt]; exact Nat.le_refl _), List.nil_append]
    rw [e1, e2]
    unfold bk
    rw [drop_at h, app]
    have e3 : t.take e.fr.toNat = t.take (dp L k) ++ (t.drop (dp L k)).take (e.fr.toNat - dp L k) := by
      rw [← List.take_add]; congr 1; omega
    rw [e3]
    simp
theorem bk_len {t : By} {L : List Ed} (h : ∀ e ∈ L, e.tx.length ≤ 200) (k : Nat) : (bk t L k).length ≤ 2 * t.length + L.length * (200 + t.length) := by
  unfold bk
  have h1 := app_len t (L.drop k) (dp L k) (fun e he => h e (List.mem_of_mem_drop he))
  have h2 : (L.drop k).length * (200 + t.length) ≤ L.length * (200 + t.length) := Nat.mul_le_mul (by rw [List.length_drop]; omega) (Nat.le_refl _)
  rw [List.length_append, List.length_take]
  omega
theorem bs_append (a b : List UInt8) : bs (a ++ b) = bs a ++ bs b := by
  rw [← bs_tl (bs a ++ bs b)]
  show bs _ = bs (bs a ++ bs b).data.toList
  simp
theorem bk_go {t : By} {L : List Ed} {k : Nat} {e : Ed} (ho : Ok t.length 0 L) (h : L[k]? = some e) {X : By} (hX : bk t L (k + 1) = X) :
    (bs X).extract 0 e.fr.toNat ++ bs e.tx ++ (bs X).extract e.to.toNat X.length = bs (bk t L k) := by
  obtain ⟨h1, h2, h3⟩ := bk_step ho h
  rw [h3, hX, ext_bs, ext_bs, tl_bs, bs_append, bs_append]
  simp only [List.drop_zero, Nat.sub_zero]
  rw [List.take_of_length_le (l := X.drop e.to.toNat) (by rw [List.length_drop]; exact Nat.le_refl _)]
set_option maxRecDepth 100000 in
set_option maxHeartbeats 8000000 in
theorem RefApply_any (t : ByteArray) (v : Value) (L : List Ed) (w : World) (h1 : Eds w v L) (ht : t.size ≤ 100000) (hL : L.length ≤ 60) (hx : ∀ e ∈ L, e.tx.length ≤ 200) : Calls Try.prog 10 #[.string t, v] w fun e w' => e = .returned (.tuple #[.string (bs (appR (tl t) L)), .int .i64 (code (chkB t.size none L))]) ∧ Below w.heap.size w w' := by
  have H1 := Lib.hid h1
  have Hx := Lib.hid hx
  obtain ⟨a, cap, rfl, hc, hm, hat⟩ := h1
  have Hat := Lib.hid hat; clear hat hx
  unfold maxLen at hm
  have Htl : Hid ((tl t).length = t.size) := Lib.hid (tl_length t)
  unfold appR
  rw [Htl.out]
  cases hr : chkB t.size none L with
  | false =>
    have hr := Lib.hid hr
    go_enter Try.func10, Try.ntmps10
    go_wp2_with fail
    refine (May_any t.size _ L w H1.out).mono ?_
    rw [hr.out]
    rintro e w1 ⟨rfl, b1⟩
    go_wp2_with fail
    go_ret2
    exact ⟨rfl, b1⟩
  | true =>
    have hok : Ok ((tl t).length : Int) 0 L := by rw [Htl.out]; exact ok_of hr (fun e h => by cases h) (fun _ => Int.le_refl _) (by omega)
    have hr := Lib.hid hr
    have Hok := Lib.hid hok
    clear hok
    rw [if_pos rfl, ← bk_first]
    have hbl : ∀ k, (bk (tl t) L k).length ≤ 8000000 := fun k => by
      have := bk_len (t := tl t) Hx.out k
      rw [Htl.out] at this
      have h2 : L.length * (200 + t.size) ≤ 60 * (200 + 100000) := Nat.mul_le_mul hL (by omega)
      omega
    have Hbl := Lib.hid hbl
    clear hbl
    go_enter Try.func10, Try.ntmps10
    go_wp2_with fail
    refine (May_any t.size _ L w H1.out).mono ?_
    rw [hr.out]
    rintro e w1 ⟨rfl, b1⟩
    have hw : wrap64 ((L.length : Int) - 1) = (L.length : Int) - 1 := Go.IntWalk.wrap64_in _ (by omega)
    go_wp2_with fail
    go_loopw [0, 7] (fun s c wr => ∃ (k : Nat) (X : By), c = .int .i64 ((k : Int) - 1) ∧ s = .string (bs X) ∧ k ≤ L.length ∧ Hid (bk (tl t) L k = X) ∧ Hid (Below w.heap.size w wr)) (fun _ c _ => (intOf c + 1).toNat)
    case atStart => exact ⟨L.length, tl t, rfl, by rw [bs_tl], Nat.le_refl _, Lib.hid bk_last, Lib.hid b1⟩
    case round =>
      obtain ⟨k, X, rfl, rfl, hk, hX, hB⟩ := hrel
      cases k with
      | zero =>
        have e0 : bk (tl t) L 0 = X := hX.out
        clear hX
        go_wp2_with fail
        go_ret2
        exact ⟨by rw [e0]; rfl, hB.out⟩
      | succ k =>
        obtain ⟨x, hxk⟩ : ∃ x, L[k]? = some x := ⟨_, List.getElem?_eq_getElem (by omega)⟩
        obtain ⟨b, off, rfl, hbl, hl0, hl1, hl2⟩ := Hat.out k x hxk
        have hgo := Lib.hid (bk_go Hok.out hxk hX.out)
        obtain ⟨s1, s2, s3⟩ := bk_step Hok.out hxk
        have hl3 := Hbl.out k
        have htx := Hx.out x (List.mem_of_getElem? hxk)
        have o0 := (ok_at Hok.out k x hxk).2
        rw [hX.out] at s2
        have hXl := Hbl.out (k + 1)
        rw [hX.out] at hXl
        obtain ⟨xf, xt, tx⟩ := x
        obtain ⟨f, rfl⟩ := Int.eq_ofNat_of_zero_le (show 0 ≤ xf by simp at o0; omega)
        obtain ⟨g, rfl⟩ := Int.eq_ofNat_of_zero_le (show 0 ≤ xt by simp at o0; omega)
        simp only [Int.toNat_natCast] at hgo s1 s2 s3 htx hl0 hl1 hl2
        have c0 : wr.cell? ⟨b, off + k * 3, none⟩ = some (.int .i64 f) := (hB.out.cell (p := ⟨b, off + k * 3, none⟩) hbl).trans hl0
        have c1 : wr.cell? ⟨b, off + k * 3 + 1, none⟩ = some (.int .i64 g) := (hB.out.cell (p := ⟨b, off + k * 3 + 1, none⟩) hbl).trans hl1
        have c2 : wr.cell? ⟨b, off + k * 3 + 2, none⟩ = some (.string (bs tx)) := (hB.out.cell (p := ⟨b, off + k * 3 + 2, none⟩) hbl).trans hl2
        have ei : ((k + 1 : Nat) : Int) - 1 = (k : Int) := by omega
        rw [ei]
        clear hl0 hl1 hl2 hxk s3 o0
        go_wp2_with fail
        go_quiet (fail)
        go_wp2_with fail
        exact ⟨⟨k, bk (tl t) L k, by go_num, by rw [hgo.out], by omega, Lib.hid rfl, Lib.hid (below_draws hB.out _)⟩, by simp [intOf]⟩
end Go.Proofs.Ytpekbakidhfliaa
