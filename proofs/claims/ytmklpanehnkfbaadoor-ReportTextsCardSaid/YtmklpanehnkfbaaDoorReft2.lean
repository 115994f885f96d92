/-
  For the laws of report: all that is told of a merge, by the document. Condition: at most 1,000 requests and conflicts each, texts of at most 2,000,000 bytes.
-/
import Derived.Test.YtmklpanehnkfbaaDoorReft
namespace Go.Proofs.YtmklpanehnkfbaaDoor
open Go.RowKit Go.Shelf

set_option maxRecDepth 100000 in
set_option maxHeartbeats 16000000 in
theorem RefText_any (kd : Int) (v1 v2 v3 : Value) (L R : List Rq) (C : List Cf) (w : World) (h1 : Rqs w v1 L) (h2 : Rqs w v2 R) (h3 : Cfs w v3 C) (hL : L.length ≤ 1000) (hR : R.length ≤ 1000) (hC : C.length ≤ 1000)
    (bL : ∀ r ∈ L, r.id.length ≤ 2000000 ∧ r.to.length ≤ 2000000) (bR : ∀ r ∈ R, r.id.length ≤ 2000000 ∧ r.to.length ≤ 2000000) (bC : ∀ r ∈ C, r.key.length ≤ 2000000) :
    Calls Tryd.prog 15 #[.int .i64 kd, v1, v2, v3] w fun e w' => e = .returned (.string (bs (textT kd L R C))) ∧ Below w.heap.size w w' := by
  obtain ⟨a1, cap1, rfl, hc1, hm1, hat1⟩ := h1
  obtain ⟨a2, cap2, rfl, hc2, hm2, hat2⟩ := h2
  obtain ⟨a3, cap3, rfl, hc3, hm3, hat3⟩ := h3
  have Hat1 := Lib.hid hat1
  have Hat2 := Lib.hid hat2
  have Hat3 := Lib.hid hat3
  have BL := Lib.hid bL
  have BR := Lib.hid bR
  have BC := Lib.hid bC
  clear hat1 hat2 hat3 bL bR bC
  unfold maxLen at hm1 hm2 hm3
  have zL := reqs_le (w := wLeft) (by decide) hL BL.out
  have zR := reqs_le (w := wRight) (by decide) hR BR.out
  have zC := bad_le hC BC.out
  have ZL := Lib.hid zL
  have ZR := Lib.hid zR
  have ZC := Lib.hid zC
  have zO := outOf_le kd
  clear zL zR zC
  go_enter Tryd.func15, Tryd.ntmps15
  go_wp2_with fail
  refine (RefOutcome_any kd _).mono ?_
  rintro e w2 ⟨rfl, b2⟩
  have hB2 := Lib.hid b2
  clear b2
  obtain ⟨r0, hr0⟩ : ∃ r0, Hid (outOf kd = r0) := ⟨_, Lib.hid rfl⟩
  have hh0' : headT kd ++ reqsT wLeft L ++ reqsT wRight R ++ badT C = textT kd L R C := rfl
  have hh0 := Lib.hid hh0'
  clear hh0'
  have hhead : Hid (bs r0 ++ ⟨#[10]⟩ = bs (headT kd)) := Lib.hid (by rw [show (⟨#[10]⟩ : ByteArray) = bs [10] from rfl, bs_app, headT, hr0.out])
  have zr0 : (bs (outOf kd)).size = (outOf kd).length := bs_size _
  rw [hr0.out] at zO zr0 ⊢
  have zH : (headT kd).length ≤ 20 := by unfold headT; rw [hr0.out, List.length_append]; simp; omega
  have hh0x : Hid (headT kd = headT kd) := Lib.hid rfl
  go_wp2_with fail
  rw [hhead.out]
  generalize headT kd = h0 at *
  go_wp2_with fail
  go_loopw [9, 10] (fun u c wr => ∃ k : Nat, c = .int .i64 k ∧ k ≤ L.length ∧ u = .string (bs (h0 ++ reqsT wLeft (L.take k))) ∧ Hid (Below w.heap.size w wr)) (fun _ c _ => L.length - (intOf c).toNat)
  case atStart => exact ⟨0, rfl, by omega, by simp [reqsT], hB2⟩
  case round =>
    obtain ⟨k, rfl, hk, rfl, hB⟩ := hrel
    have hsz := hB.out.size
    by_cases hlt : k < L.length
    · obtain ⟨x, hx⟩ : ∃ x, L[k]? = some x := ⟨_, List.getElem?_eq_getElem hlt⟩
      obtain ⟨b, off, rfl, hbl, hl0, hl1, hl2⟩ := Hat1.out k x hx
      have c0 : wr.cell? ⟨b, off + k * 3, none⟩ = some (.int .i64 x.kind) := (hB.out.cell (p := ⟨b, off + k * 3, none⟩) hbl).trans hl0
      have c1 : wr.cell? ⟨b, off + k * 3 + 1, none⟩ = some (.string (bs x.id)) := (hB.out.cell (p := ⟨b, off + k * 3 + 1, none⟩) hbl).trans hl1
      have c2 : wr.cell? ⟨b, off + k * 3 + 2, none⟩ = some (.string (bs x.to)) := (hB.out.cell (p := ⟨b, off + k * 3 + 2, none⟩) hbl).trans hl2
      obtain ⟨y1, y2⟩ := BL.out x (List.mem_of_getElem? hx)
      have Hnx := Lib.hid (reqsT_next (w := wLeft) hx h0)
      have zk := ZL.out k
      have ysh := showOf_le x.kind x.id x.to
      clear hl0 hl1 hl2 hx
      obtain ⟨t0, ht0⟩ : ∃ t0, Hid (h0 ++ reqsT wLeft (L.take k) = t0) := ⟨_, Lib.hid rfl⟩
      have zt : t0.length ≤ 5000000020 := by rw [← ht0.out, List.length_append]; omega
      rw [ht0.out] at Hnx ⊢
      have z0 : (bs t0).size = t0.length := bs_size _
      have z1 : (bs t0 ++ ⟨#[108, 101, 102, 116, 58, 32]⟩ : ByteArray).size = t0.length + wLeft.length := by rw [ByteArray.size_append, bs_size]; rfl
      have z1' : (bs t0 ++ ⟨#[108, 101, 102, 116, 58, 32]⟩ : ByteArray).size ≤ 20000000000 := by rw [z1]; simp only [wLeft, List.length_cons, List.length_nil]; omega
      have Z1 := Lib.hid z1
      clear z1
      go_wp2_with fail
      refine (RefShow_any x.kind (bs x.id) (bs x.to) _ (by rw [bs_size]; omega) (by rw [bs_size]; omega)).mono ?_
      rw [tl_bs, tl_bs]
      rintro e w5 ⟨rfl, b5⟩
      obtain ⟨r, hr⟩ : ∃ r, Hid (showOf x.kind x.id x.to = r) := ⟨_, Lib.hid rfl⟩
      rw [hr.out] at ysh Hnx ⊢
      have hB5 := Lib.hid (hB.out.trans (b5.mono (by omega)))
      have zr : (bs r).size = r.length := bs_size _
      have z2 : (bs t0 ++ ⟨#[108, 101, 102, 116, 58, 32]⟩ ++ bs r : ByteArray).size ≤ 20010000000 := by rw [ByteArray.size_append]; omega
      have hsum : Hid (bs t0 ++ ⟨#[108, 101, 102, 116, 58, 32]⟩ ++ bs r ++ ⟨#[10]⟩ = bs (h0 ++ reqsT wLeft (L.take (k + 1)))) := Lib.hid (by
        rw [← Hnx.out, show (⟨#[108, 101, 102, 116, 58, 32]⟩ : ByteArray) = bs wLeft from rfl, show (⟨#[10]⟩ : ByteArray) = bs [10] from rfl, bs_app, bs_app, bs_app]
        simp)
      clear b5 c0 c1 c2
      go_wp2_with fail
      exact ⟨⟨k + 1, by go_num, by omega, by rw [hsum.out], hB5⟩, by simp [intOf]; omega⟩
    · obtain rfl : k = L.length := by omega
      rw [List.take_length]
      have zk := ZL.out L.length
      rw [List.take_length] at zk
      obtain ⟨h1, hh1⟩ : ∃ h1, Hid (h0 ++ reqsT wLeft L = h1) := ⟨_, Lib.hid rfl⟩
      rw [hh1.out]
      have zH1 : h1.length ≤ 5000000020 := by rw [← hh1.out, List.length_append]; omega
      go_wp2_with fail
      go_loopw [9, 11] (fun u c wr => ∃ k : Nat, c = .int .i64 k ∧ k ≤ R.length ∧ u = .string (bs (h1 ++ reqsT wRight (R.take k))) ∧ Hid (Below w.heap.size w wr)) (fun _ c _ => R.length - (intOf c).toNat)
      case atStart => exact ⟨0, rfl, by omega, by simp [reqsT], hB⟩
      case round =>
        obtain ⟨k, rfl, hk, rfl, hB⟩ := hrel
        have hsz := hB.out.size
        by_cases hlt : k < R.length
        · obtain ⟨x, hx⟩ : ∃ x, R[k]? = some x := ⟨_, List.getElem?_eq_getElem hlt⟩
          obtain ⟨b, off, rfl, hbl, hl0, hl1, hl2⟩ := Hat2.out k x hx
          have c0 : wr.cell? ⟨b, off + k * 3, none⟩ = some (.int .i64 x.kind) := (hB.out.cell (p := ⟨b, off + k * 3, none⟩) hbl).trans hl0
          have c1 : wr.cell? ⟨b, off + k * 3 + 1, none⟩ = some (.string (bs x.id)) := (hB.out.cell (p := ⟨b, off + k * 3 + 1, none⟩) hbl).trans hl1
          have c2 : wr.cell? ⟨b, off + k * 3 + 2, none⟩ = some (.string (bs x.to)) := (hB.out.cell (p := ⟨b, off + k * 3 + 2, none⟩) hbl).trans hl2
          obtain ⟨y1, y2⟩ := BR.out x (List.mem_of_getElem? hx)
          have Hnx := Lib.hid (reqsT_next (w := wRight) hx h1)
          have zk := ZR.out k
          have ysh := showOf_le x.kind x.id x.to
          clear hl0 hl1 hl2 hx
          obtain ⟨t0, ht0⟩ : ∃ t0, Hid (h1 ++ reqsT wRight (R.take k) = t0) := ⟨_, Lib.hid rfl⟩
          have zt : t0.length ≤ 10000000020 := by rw [← ht0.out, List.length_append]; omega
          rw [ht0.out] at Hnx ⊢
          have z0 : (bs t0).size = t0.length := bs_size _
          have z1 : (bs t0 ++ ⟨#[114, 105, 103, 104, 116, 58, 32]⟩ : ByteArray).size = t0.length + wRight.length := by rw [ByteArray.size_append, bs_size]; rfl
          have z1' : (bs t0 ++ ⟨#[114, 105, 103, 104, 116, 58, 32]⟩ : ByteArray).size ≤ 20000000000 := by rw [z1]; simp only [wRight, List.length_cons, List.length_nil]; omega
          have Z1 := Lib.hid z1
          clear z1
          go_wp2_with fail
          refine (RefShow_any x.kind (bs x.id) (bs x.to) _ (by rw [bs_size]; omega) (by rw [bs_size]; omega)).mono ?_
          rw [tl_bs, tl_bs]
          rintro e w5 ⟨rfl, b5⟩
          obtain ⟨r, hr⟩ : ∃ r, Hid (showOf x.kind x.id x.to = r) := ⟨_, Lib.hid rfl⟩
          rw [hr.out] at ysh Hnx ⊢
          have hB5 := Lib.hid (hB.out.trans (b5.mono (by omega)))
          have zr : (bs r).size = r.length := bs_size _
          have z2 : (bs t0 ++ ⟨#[114, 105, 103, 104, 116, 58, 32]⟩ ++ bs r : ByteArray).size ≤ 20010000000 := by rw [ByteArray.size_append]; omega
          have hsum : Hid (bs t0 ++ ⟨#[114, 105, 103, 104, 116, 58, 32]⟩ ++ bs r ++ ⟨#[10]⟩ = bs (h1 ++ reqsT wRight (R.take (k + 1)))) := Lib.hid (by
            rw [← Hnx.out, show (⟨#[114, 105, 103, 104, 116, 58, 32]⟩ : ByteArray) = bs wRight from rfl, show (⟨#[10]⟩ : ByteArray) = bs [10] from rfl, bs_app, bs_app, bs_app]
            simp)
          clear b5 c0 c1 c2
          go_wp2_with fail
          exact ⟨⟨k + 1, by go_num, by omega, by rw [hsum.out], hB5⟩, by simp [intOf]; omega⟩
        · obtain rfl : k = R.length := by omega
          rw [List.take_length]
          have zk := ZR.out R.length
          rw [List.take_length] at zk
          obtain ⟨h2, hh2⟩ : ∃ h2, Hid (h1 ++ reqsT wRight R = h2) := ⟨_, Lib.hid rfl⟩
          rw [hh2.out]
          have zH2 : h2.length ≤ 10000000020 := by rw [← hh2.out, List.length_append]; omega
          go_wp2_with fail
          go_loopw [9, 12] (fun u c wr => ∃ k : Nat, c = .int .i64 k ∧ k ≤ C.length ∧ u = .string (bs (h2 ++ badT (C.take k))) ∧ Hid (Below w.heap.size w wr)) (fun _ c _ => C.length - (intOf c).toNat)
          case atStart => exact ⟨0, rfl, by omega, by simp [badT], hB⟩
          case round =>
            obtain ⟨k, rfl, hk, rfl, hB⟩ := hrel
            have hsz := hB.out.size
            by_cases hlt : k < C.length
            · obtain ⟨x, hx⟩ : ∃ x, C[k]? = some x := ⟨_, List.getElem?_eq_getElem hlt⟩
              obtain ⟨b, off, rfl, hbl, hl0, hl1⟩ := Hat3.out k x hx
              have c0 : wr.cell? ⟨b, off + k * 2, none⟩ = some (.int .i64 x.kind) := (hB.out.cell (p := ⟨b, off + k * 2, none⟩) hbl).trans hl0
              have c1 : wr.cell? ⟨b, off + k * 2 + 1, none⟩ = some (.string (bs x.key)) := (hB.out.cell (p := ⟨b, off + k * 2 + 1, none⟩) hbl).trans hl1
              have y1 := BC.out x (List.mem_of_getElem? hx)
              have Hnx := Lib.hid (badT_next hx h2)
              have zk := ZC.out k
              have ysh := conOf_le x.kind x.key
              clear hl0 hl1 hx
              obtain ⟨t0, ht0⟩ : ∃ t0, Hid (h2 ++ badT (C.take k) = t0) := ⟨_, Lib.hid rfl⟩
              have zt : t0.length ≤ 15000000020 := by rw [← ht0.out, List.length_append]; omega
              rw [ht0.out] at Hnx ⊢
              have z0 : (bs t0).size = t0.length := bs_size _
              have z1 : (bs t0 ++ ⟨#[99, 111, 110, 102, 108, 105, 99, 116, 58, 32]⟩ : ByteArray).size = t0.length + 10 := by rw [ByteArray.size_append, bs_size]; rfl
              have z1' : (bs t0 ++ ⟨#[99, 111, 110, 102, 108, 105, 99, 116, 58, 32]⟩ : ByteArray).size ≤ 20000000000 := by rw [z1]; omega
              have Z1 := Lib.hid z1
              clear z1
              go_wp2_with fail
              refine (RefConflict_any x.kind (bs x.key) _ (by rw [bs_size]; omega)).mono ?_
              rw [tl_bs]
              rintro e w5 ⟨rfl, b5⟩
              obtain ⟨r, hr⟩ : ∃ r, Hid (conOf x.kind x.key = r) := ⟨_, Lib.hid rfl⟩
              rw [hr.out] at ysh Hnx ⊢
              have hB5 := Lib.hid (hB.out.trans (b5.mono (by omega)))
              have zr : (bs r).size = r.length := bs_size _
              have z2 : (bs t0 ++ ⟨#[99, 111, 110, 102, 108, 105, 99, 116, 58, 32]⟩ ++ bs r : ByteArray).size ≤ 20010000000 := by rw [ByteArray.size_append]; omega
              have hsum : Hid (bs t0 ++ ⟨#[99, 111, 110, 102, 108, 105, 99, 116, 58, 32]⟩ ++ bs r ++ ⟨#[10]⟩ = bs (h2 ++ badT (C.take (k + 1)))) := Lib.hid (by
                rw [← Hnx.out, show (⟨#[99, 111, 110, 102, 108, 105, 99, 116, 58, 32]⟩ : ByteArray) = bs wBad from rfl, show (⟨#[10]⟩ : ByteArray) = bs [10] from rfl, bs_app, bs_app, bs_app]
                simp)
              clear b5 c0 c1
              go_wp2_with fail
              exact ⟨⟨k + 1, by go_num, by omega, by rw [hsum.out], hB5⟩, by simp [intOf]; omega⟩
            · obtain rfl : k = C.length := by omega
              rw [List.take_length]
              have hfin : Hid (h2 ++ badT C = textT kd L R C) := Lib.hid (by rw [← hh2.out, ← hh1.out]; exact hh0.out)
              rw [hfin.out]
              go_wp2_with fail
              go_ret
              exact ⟨rfl, hB.out⟩
end Go.Proofs.YtmklpanehnkfbaaDoor
