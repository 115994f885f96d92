/-
  For the laws of report: all that is told of a merge, by the program. Condition: at most 1,000 requests and conflicts each, texts of at most 2,000,000 bytes; the program's tables are as they are laid.
-/
import Derived.Test.YtmklpanehnkfbaaDoorText
namespace Go.Proofs.YtmklpanehnkfbaaDoor
open Go.RowKit Go.Shelf

theorem row2 (W : World) (x : ByteArray) (y : List UInt8) (z : List UInt8) (hx : x = bs z) : RowAt (W.alloc (.cells #[.string x, .string (bs y)] 9)) W.heap.size 9 (strV [z, y]).toArray := by
  rw [hx]
  exact RowAt.new W 9 _
theorem reqsT_next {w : List UInt8} {L : List Rq} {k : Nat} {x : Rq} (h : L[k]? = some x) (p : List UInt8) : p ++ reqsT w (L.take k) ++ [w, showOf x.kind x.id x.to].flatten ++ [10] = p ++ reqsT w (L.take (k + 1)) := by
  unfold reqsT
  rw [flat_take h]
  simp [lineQ]
theorem badT_next {L : List Cf} {k : Nat} {x : Cf} (h : L[k]? = some x) (p : List UInt8) : p ++ badT (L.take k) ++ [wBad, conOf x.kind x.key].flatten ++ [10] = p ++ badT (L.take (k + 1)) := by
  unfold badT
  rw [flat_take h]
  simp [lineC]
set_option maxRecDepth 100000 in
set_option maxHeartbeats 16000000 in
theorem Text_any (kd : Int) (v1 v2 v3 : Value) (L R : List Rq) (C : List Cf) (w : World) (h1 : Rqs w v1 L) (h2 : Rqs w v2 R) (h3 : Cfs w v3 C) (hW : RepW w) (hL : L.length ≤ 1000) (hR : R.length ≤ 1000) (hC : C.length ≤ 1000)
    (bL : ∀ r ∈ L, r.id.length ≤ 2000000 ∧ r.to.length ≤ 2000000) (bR : ∀ r ∈ R, r.id.length ≤ 2000000 ∧ r.to.length ≤ 2000000) (bC : ∀ r ∈ C, r.key.length ≤ 2000000) :
    Calls Tryd.prog 14 #[.int .i64 kd, v1, v2, v3] w fun e w' => e = .returned (.string (bs (textT kd L R C))) ∧ Below w.heap.size w w' := by
  have HW := Lib.hid hW; clear hW
  have hW4 := HW.out.size
  obtain ⟨a1, cap1, rfl, hc1, hm1, hat1⟩ := h1
  obtain ⟨a2, cap2, rfl, hc2, hm2, hat2⟩ := h2
  obtain ⟨a3, cap3, rfl, hc3, hm3, hat3⟩ := h3
  have Hat1 := Lib.hid hat1
  have Hat2 := Lib.hid hat2
  have Hat3 := Lib.hid hat3
  have BL := Lib.hid bL
  have BR := Lib.hid bR
  have BC := Lib.hid bC
  clear hat1 hat2 hat3 bL bR bC
  unfold maxLen at hm1 hm2 hm3
  have zL := reqs_le (w := wLeft) (by decide) hL BL.out
  have zR := reqs_le (w := wRight) (by decide) hR BR.out
  have zC := bad_le hC BC.out
  have ZL := Lib.hid zL
  have ZR := Lib.hid zR
  have ZC := Lib.hid zC
  have zO := outOf_le kd
  clear zL zR zC
  obtain ⟨W1, hW1⟩ : ∃ W1, Hid (w.alloc (.cells #[.pointer none, .slice none 0 0] 53) = W1) := ⟨_, Lib.hid rfl⟩
  have hbu1 : Hid (Lib.IsBuilder 53 5 w.heap.size w.heap.size (Lib.byteCells []) W1) := by rw [← hW1.out]; exact Lib.hid (builder_new w)
  have hb1 : Hid (Below w.heap.size w W1) := by rw [← hW1.out]; exact Lib.hid ((Below.refl _ w).alloc (Nat.le_refl _) _)
  have hs1 : w.heap.size + 1 ≤ W1.heap.size := by rw [← hW1.out]; simp
  go_enter Tryd.func14, Tryd.ntmps14
  go_wp2_with fail
  rw [hW1.out]
  refine (Outcome_any kd _ (HW.out.below hb1.out hW4)).mono ?_
  rintro e w2 ⟨rfl, b2⟩
  have hB2 := Lib.hid (hb1.out.trans (b2.mono hb1.out.size))
  have hbu2 := Lib.hid (builder_below hbu1.out b2)
  have hs2 := b2.size
  clear b2
  obtain ⟨r0, hr0⟩ : ∃ r0, Hid (outOf kd = r0) := ⟨_, Lib.hid rfl⟩
  rw [hr0.out] at zO ⊢
  have hbu2a := Lib.hid (builder_alloc hbu2.out (.cells #[.string (bs r0)] 9))
  have hB2a := Lib.hid (hB2.out.alloc (by omega) (.cells #[.string (bs r0)] 9))
  go_wp2_with fail
  refine (write_any w.heap.size w.heap.size w2.heap.size [] [r0] _ hbu2a.out (RowAt.new w2 9 _) (by omega) (by simp) (fun x hx => by rw [List.mem_singleton.1 hx]; omega) (by simp) (by simp; omega)).mono ?_
  rintro e w3 ⟨rfl, hbu3', hb3⟩
  have hB3 := Lib.hid (hB2a.out.trans hb3)
  have hs3 : w.heap.size + 1 ≤ w3.heap.size := by have := hb3.size; simp at this; omega
  have hbu3 : Hid (Lib.IsBuilder 53 5 w.heap.size w.heap.size (Lib.byteCells (headT kd)) w3) := Lib.hid (by
    have e : headT kd = [] ++ [r0].flatten ++ [10] := by unfold headT; rw [hr0.out]; simp
    rw [e]; exact hbu3')
  have zH : (headT kd).length ≤ 20 := by unfold headT; rw [hr0.out, List.length_append]; simp; omega
  clear hbu3' hb3 hbu2a hB2a hbu2 hB2 hbu1
  have hh0' : headT kd ++ reqsT wLeft L ++ reqsT wRight R ++ badT C = textT kd L R C := rfl
  have hh0 := Lib.hid hh0'
  clear hh0'
  generalize headT kd = h0 at *
  go_wp2_with fail
  go_loopw [22] (fun c wr => ∃ k : Nat, c = .int .i64 k ∧ k ≤ L.length ∧ Hid (Below w.heap.size w wr) ∧ w.heap.size + 1 ≤ wr.heap.size ∧ Hid (Lib.IsBuilder 53 5 w.heap.size w.heap.size (Lib.byteCells (h0 ++ reqsT wLeft (L.take k))) wr)) (fun c _ => L.length - (intOf c).toNat)
  case atStart => exact ⟨0, rfl, by omega, hB3, by omega, Lib.hid (by simpa [reqsT] using hbu3.out)⟩
  case round =>
    obtain ⟨k, rfl, hk, hB, hsz, hbu⟩ := hrel
    by_cases hlt : k < L.length
    · obtain ⟨x, hx⟩ : ∃ x, L[k]? = some x := ⟨_, List.getElem?_eq_getElem hlt⟩
      obtain ⟨b, off, rfl, hbl, hl0, hl1, hl2⟩ := Hat1.out k x hx
      have c0 : wr.cell? ⟨b, off + k * 3, none⟩ = some (.int .i64 x.kind) := (hB.out.cell (p := ⟨b, off + k * 3, none⟩) hbl).trans hl0
      have c1 : wr.cell? ⟨b, off + k * 3 + 1, none⟩ = some (.string (bs x.id)) := (hB.out.cell (p := ⟨b, off + k * 3 + 1, none⟩) hbl).trans hl1
      have c2 : wr.cell? ⟨b, off + k * 3 + 2, none⟩ = some (.string (bs x.to)) := (hB.out.cell (p := ⟨b, off + k * 3 + 2, none⟩) hbl).trans hl2
      obtain ⟨y1, y2⟩ := BL.out x (List.mem_of_getElem? hx)
      have Hnx := Lib.hid (reqsT_next (w := wLeft) hx h0)
      have zk := ZL.out k
      have hBa := Lib.hid (hB.out.alloc (by omega) (.cells #[.int .i64 x.kind, .string (bs x.id), .string (bs x.to)] 33))
      have hbua := Lib.hid (builder_alloc hbu.out (.cells #[.int .i64 x.kind, .string (bs x.id), .string (bs x.to)] 33))
      have ysh := showOf_le x.kind x.id x.to
      clear hl0 hl1 hl2 hx
      go_wp2_with fail
      refine (Show_any x.kind (bs x.id) (bs x.to) _ (HW.out.below hBa.out hW4) (by rw [bs_size]; omega) (by rw [bs_size]; omega)).mono ?_
      rw [tl_bs, tl_bs]
      rintro e w5 ⟨rfl, b5⟩
      have hB5 := Lib.hid (hBa.out.trans (b5.mono (by simp; omega)))
      have hbu5 := Lib.hid (builder_below hbua.out b5)
      have hs5 := b5.size
      rw [World.size_alloc] at hs5
      clear b5 c0 c1 c2
      have hbu5a := Lib.hid (builder_alloc hbu5.out (.cells #[.string ⟨#[108, 101, 102, 116, 58, 32]⟩, .string (bs (showOf x.kind x.id x.to))] 9))
      have hB5a := Lib.hid (hB5.out.alloc (by omega) (.cells #[.string ⟨#[108, 101, 102, 116, 58, 32]⟩, .string (bs (showOf x.kind x.id x.to))] 9))
      have hrow5 := Lib.hid (row2 w5 ⟨#[108, 101, 102, 116, 58, 32]⟩ (showOf x.kind x.id x.to) wLeft rfl)
      go_wp2_with fail
      refine (write_any w.heap.size w.heap.size w5.heap.size _ [wLeft, showOf x.kind x.id x.to] _ hbu5a.out hrow5.out (by omega) (by simp) (fun z hz => by rcases List.mem_cons.1 hz with rfl | hz; (· decide); rw [List.mem_singleton.1 hz]; omega) (by rw [List.length_append]; omega) (by simp; omega)).mono ?_
      rintro e w6 ⟨rfl, hbu6, hb6⟩
      rw [Hnx.out] at hbu6
      have hB6 := Lib.hid (hB5a.out.trans hb6)
      have Hbu6 := Lib.hid hbu6
      have hs6 : w.heap.size + 1 ≤ w6.heap.size := by have := hb6.size; simp at this; omega
      clear hbu6 hb6
      go_wp2_with fail
      exact ⟨⟨k + 1, by go_num, by omega, hB6, hs6, Hbu6⟩, by simp [intOf]; omega⟩
    · obtain rfl : k = L.length := by omega
      rw [List.take_length] at hbu
      have zk := ZL.out L.length
      rw [List.take_length] at zk
      obtain ⟨h1, hh1⟩ : ∃ h1, Hid (h0 ++ reqsT wLeft L = h1) := ⟨_, Lib.hid rfl⟩
      rw [hh1.out] at hbu
      have zH1 : h1.length ≤ 20 + 5000000000 := by rw [← hh1.out, List.length_append]; omega
      clear hB3 hbu3
      go_wp2_with fail
      go_loopw [33] (fun c wr => ∃ k : Nat, c = .int .i64 k ∧ k ≤ R.length ∧ Hid (Below w.heap.size w wr) ∧ w.heap.size + 1 ≤ wr.heap.size ∧ Hid (Lib.IsBuilder 53 5 w.heap.size w.heap.size (Lib.byteCells (h1 ++ reqsT wRight (R.take k))) wr)) (fun c _ => R.length - (intOf c).toNat)
      case atStart => exact ⟨0, rfl, by omega, hB, by omega, Lib.hid (by simpa [reqsT] using hbu.out)⟩
      case round =>
        obtain ⟨k, rfl, hk, hB, hsz, hbu⟩ := hrel
        by_cases hlt : k < R.length
        · obtain ⟨x, hx⟩ : ∃ x, R[k]? = some x := ⟨_, List.getElem?_eq_getElem hlt⟩
          obtain ⟨b, off, rfl, hbl, hl0, hl1, hl2⟩ := Hat2.out k x hx
          have c0 : wr.cell? ⟨b, off + k * 3, none⟩ = some (.int .i64 x.kind) := (hB.out.cell (p := ⟨b, off + k * 3, none⟩) hbl).trans hl0
          have c1 : wr.cell? ⟨b, off + k * 3 + 1, none⟩ = some (.string (bs x.id)) := (hB.out.cell (p := ⟨b, off + k * 3 + 1, none⟩) hbl).trans hl1
          have c2 : wr.cell? ⟨b, off + k * 3 + 2, none⟩ = some (.string (bs x.to)) := (hB.out.cell (p := ⟨b, off + k * 3 + 2, none⟩) hbl).trans hl2
          obtain ⟨y1, y2⟩ := BR.out x (List.mem_of_getElem? hx)
          have Hnx := Lib.hid (reqsT_next (w := wRight) hx h1)
          have zk := ZR.out k
          have hBa := Lib.hid (hB.out.alloc (by omega) (.cells #[.int .i64 x.kind, .string (bs x.id), .string (bs x.to)] 33))
          have hbua := Lib.hid (builder_alloc hbu.out (.cells #[.int .i64 x.kind, .string (bs x.id), .string (bs x.to)] 33))
          have ysh := showOf_le x.kind x.id x.to
          clear hl0 hl1 hl2 hx
          go_wp2_with fail
          refine (Show_any x.kind (bs x.id) (bs x.to) _ (HW.out.below hBa.out hW4) (by rw [bs_size]; omega) (by rw [bs_size]; omega)).mono ?_
          rw [tl_bs, tl_bs]
          rintro e w5 ⟨rfl, b5⟩
          have hB5 := Lib.hid (hBa.out.trans (b5.mono (by simp; omega)))
          have hbu5 := Lib.hid (builder_below hbua.out b5)
          have hs5 := b5.size
          rw [World.size_alloc] at hs5
          clear b5 c0 c1 c2
          have hbu5a := Lib.hid (builder_alloc hbu5.out (.cells #[.string ⟨#[114, 105, 103, 104, 116, 58, 32]⟩, .string (bs (showOf x.kind x.id x.to))] 9))
          have hB5a := Lib.hid (hB5.out.alloc (by omega) (.cells #[.string ⟨#[114, 105, 103, 104, 116, 58, 32]⟩, .string (bs (showOf x.kind x.id x.to))] 9))
          have hrow5 := Lib.hid (row2 w5 ⟨#[114, 105, 103, 104, 116, 58, 32]⟩ (showOf x.kind x.id x.to) wRight rfl)
          go_wp2_with fail
          refine (write_any w.heap.size w.heap.size w5.heap.size _ [wRight, showOf x.kind x.id x.to] _ hbu5a.out hrow5.out (by omega) (by simp) (fun z hz => by rcases List.mem_cons.1 hz with rfl | hz; (· decide); rw [List.mem_singleton.1 hz]; omega) (by rw [List.length_append]; omega) (by simp; omega)).mono ?_
          rintro e w6 ⟨rfl, hbu6, hb6⟩
          rw [Hnx.out] at hbu6
          have hB6 := Lib.hid (hB5a.out.trans hb6)
          have Hbu6 := Lib.hid hbu6
          have hs6 : w.heap.size + 1 ≤ w6.heap.size := by have := hb6.size; simp at this; omega
          clear hbu6 hb6
          go_wp2_with fail
          exact ⟨⟨k + 1, by go_num, by omega, hB6, hs6, Hbu6⟩, by simp [intOf]; omega⟩
        · obtain rfl : k = R.length := by omega
          rw [List.take_length] at hbu
          have zk := ZR.out R.length
          rw [List.take_length] at zk
          obtain ⟨h2, hh2⟩ : ∃ h2, Hid (h1 ++ reqsT wRight R = h2) := ⟨_, Lib.hid rfl⟩
          rw [hh2.out] at hbu
          have zH2 : h2.length ≤ 5000000020 + 5000000000 := by rw [← hh2.out, List.length_append]; omega
          go_wp2_with fail
          go_loopw [44] (fun c wr => ∃ k : Nat, c = .int .i64 k ∧ k ≤ C.length ∧ Hid (Below w.heap.size w wr) ∧ w.heap.size + 1 ≤ wr.heap.size ∧ Hid (Lib.IsBuilder 53 5 w.heap.size w.heap.size (Lib.byteCells (h2 ++ badT (C.take k))) wr)) (fun c _ => C.length - (intOf c).toNat)
          case atStart => exact ⟨0, rfl, by omega, hB, by omega, Lib.hid (by simpa [badT] using hbu.out)⟩
          case round =>
            obtain ⟨k, rfl, hk, hB, hsz, hbu⟩ := hrel
            by_cases hlt : k < C.length
            · obtain ⟨x, hx⟩ : ∃ x, C[k]? = some x := ⟨_, List.getElem?_eq_getElem hlt⟩
              obtain ⟨b, off, rfl, hbl, hl0, hl1⟩ := Hat3.out k x hx
              have c0 : wr.cell? ⟨b, off + k * 2, none⟩ = some (.int .i64 x.kind) := (hB.out.cell (p := ⟨b, off + k * 2, none⟩) hbl).trans hl0
              have c1 : wr.cell? ⟨b, off + k * 2 + 1, none⟩ = some (.string (bs x.key)) := (hB.out.cell (p := ⟨b, off + k * 2 + 1, none⟩) hbl).trans hl1
              have y1 := BC.out x (List.mem_of_getElem? hx)
              have Hnx := Lib.hid (badT_next hx h2)
              have zk := ZC.out k
              have hBa := Lib.hid (hB.out.alloc (by omega) (.cells #[.int .i64 x.kind, .string (bs x.key)] 23))
              have hbua := Lib.hid (builder_alloc hbu.out (.cells #[.int .i64 x.kind, .string (bs x.key)] 23))
              have ysh := conOf_le x.kind x.key
              clear hl0 hl1 hx
              go_wp2_with fail
              refine (Conflict_any x.kind (bs x.key) _ (HW.out.below hBa.out hW4) (by rw [bs_size]; omega)).mono ?_
              rw [tl_bs]
              rintro e w5 ⟨rfl, b5⟩
              have hB5 := Lib.hid (hBa.out.trans (b5.mono (by simp; omega)))
              have hbu5 := Lib.hid (builder_below hbua.out b5)
              have hs5 := b5.size
              rw [World.size_alloc] at hs5
              clear b5 c0 c1
              have hbu5a := Lib.hid (builder_alloc hbu5.out (.cells #[.string ⟨#[99, 111, 110, 102, 108, 105, 99, 116, 58, 32]⟩, .string (bs (conOf x.kind x.key))] 9))
              have hB5a := Lib.hid (hB5.out.alloc (by omega) (.cells #[.string ⟨#[99, 111, 110, 102, 108, 105, 99, 116, 58, 32]⟩, .string (bs (conOf x.kind x.key))] 9))
              have hrow5 := Lib.hid (row2 w5 ⟨#[99, 111, 110, 102, 108, 105, 99, 116, 58, 32]⟩ (conOf x.kind x.key) wBad rfl)
              go_wp2_with fail
              refine (write_any w.heap.size w.heap.size w5.heap.size _ [wBad, conOf x.kind x.key] _ hbu5a.out hrow5.out (by omega) (by simp) (fun z hz => by rcases List.mem_cons.1 hz with rfl | hz; (· decide); rw [List.mem_singleton.1 hz]; omega) (by rw [List.length_append]; omega) (by simp; omega)).mono ?_
              rintro e w6 ⟨rfl, hbu6, hb6⟩
              rw [Hnx.out] at hbu6
              have hB6 := Lib.hid (hB5a.out.trans hb6)
              have Hbu6 := Lib.hid hbu6
              have hs6 : w.heap.size + 1 ≤ w6.heap.size := by have := hb6.size; simp at this; omega
              clear hbu6 hb6
              go_wp2_with fail
              exact ⟨⟨k + 1, by go_num, by omega, hB6, hs6, Hbu6⟩, by simp [intOf]; omega⟩
            · obtain rfl : k = C.length := by omega
              rw [List.take_length] at hbu
              have hfin : Hid (h2 ++ badT C = textT kd L R C) := Lib.hid (by rw [← hh2.out, ← hh1.out]; exact hh0.out)
              rw [hfin.out] at hbu
              go_wp2_with fail
              refine (Tryd.Builder_String_any _ _ _ _ hbu.out (by omega)).mono ?_
              rintro e w7 ⟨rfl, hb7⟩
              have hB7 := hB.out.trans hb7
              go_wp2_with fail
              go_ret
              exact ⟨rfl, hB7⟩
end Go.Proofs.YtmklpanehnkfbaaDoor
