/-
  For the laws of report: a line's conflict, by the document. Condition: at most 1,000,000 bytes.
-/
import Derived.Test.YtmklpanehnkfbaaDoorRead
import Derived.Test.YtmklpanehnkfbaaDoorRefw
namespace Go.Proofs.YtmklpanehnkfbaaDoor
open Go.RowKit Go.Shelf

/-- The key that the document tries with a word of n bytes. -/
def keyAt (s : List UInt8) (n : Nat) : List UInt8 := s.drop (n + 1)
theorem Reads.key {s : List UInt8} {k : Int} {key x : List UInt8} (h : Reads s k key) (hx : conW[(k - 1).toNat]? = some x) : key = keyAt s x.length := by
  obtain ⟨h1, h2⟩ := h.cut
  rw [hx] at h1
  rw [← h2, Option.some.inj h1]
  rfl
theorem reads_nl {s : List UInt8} {k : Int} {key : List UInt8} (h1 : 1 ≤ k) (h2 : k ≤ 5) (h : conOf k key = s) : 10 ∈ s ↔ 10 ∈ key := by
  obtain ⟨w, -, e, -, h10, -⟩ := conOf_kind (key := key) h1 h2
  rw [← h, e, withKey_nl h10]
set_option maxRecDepth 100000 in
set_option maxHeartbeats 8000000 in
theorem RefRead_any (s : ByteArray) (w : World) (hs : s.size ≤ 1000000) : Calls Tryd.prog 9 #[.string s] w (ReadGives w s) := by
  obtain ⟨W1, hW1⟩ : ∃ W1, Hid (w.alloc (.cells #[.int .i64 0, .string ⟨#[]⟩] 23) = W1) := ⟨_, Lib.hid rfl⟩
  have hz1 : Hid (W1.heap[w.heap.size]? = some (.cells #[.int .i64 0, .string ⟨#[]⟩] 23)) := by rw [← hW1.out]; exact Lib.hid (World.alloc_heap_new w _)
  have hb1 : Hid (Below w.heap.size w W1) := by rw [← hW1.out]; exact Lib.hid ((Below.refl _ w).alloc (Nat.le_refl _) _)
  have hs1 : w.heap.size + 1 ≤ W1.heap.size := by rw [← hW1.out]; simp
  go_enter Tryd.func9, Tryd.ntmps9
  go_wp2_with fail
  rw [hW1.out]
  go_loop [4] (fun c => ∃ i : Nat, c = .int .i64 i ∧ i ≤ s.size ∧ Hid (∀ (j : Nat) c, j < i → (tl s)[j]? = some c → c ≠ 10)) (fun c => s.size - (intOf c).toNat)
  case atStart => exact ⟨0, rfl, by omega, Lib.hid (fun j c h => by omega)⟩
  case round =>
    obtain ⟨i, rfl, hi, hno⟩ := hrel
    by_cases hlt : i < s.size
    · have hg := tl_get s hlt
      by_cases h10 : (s[i].toNat : Int) = 10
      · have hd : ((s[i].toNat : Int) == 10) = true := by simpa using h10
        have hmem : Hid (10 ∈ tl s) := Lib.hid (by
          have : s[i] = 10 := by apply UInt8.toNat_inj.1; show _ = 10; omega
          rw [this] at hg
          exact List.mem_of_getElem? hg)
        have hRes0 : Hid (RowAt W1 w.heap.size 23 #[.int .i64 0, .string ⟨#[]⟩]) := Lib.hid hz1.out
        have z0 := hRes0.out.cell (j := 0) rfl
        have z1 := hRes0.out.cell (j := 1) rfl
        have y0 := hRes0.out.frozen 0
        have y1 := hRes0.out.frozen 1
        clear h10 hg
        go_wp2_with fail
        refine bodyPost_ret (results_cell_row_tmp rfl _ _ w.heap.size 23 #[.int .i64 0, .string ⟨#[]⟩] (0, 0) _ rfl ((hRes0.out.set 0 _).set 1 _) Tryd.underlying23 rfl rfl) rfl ?_
        refine ⟨.inr ⟨fun k key h => ?_, rfl⟩, (hb1.out.setCell (p := ⟨w.heap.size, 0, none⟩) (Nat.le_refl _) _).setCell (p := ⟨w.heap.size, 1, none⟩) (Nat.le_refl _) _⟩
        exact h.2.2.2 ((reads_nl h.1 h.2.1 h.2.2.1).1 hmem.out)
      · have hd : ((s[i].toNat : Int) == 10) = false := by simpa using h10
        have hnx : Hid (∀ (j : Nat) c, j < i + 1 → (tl s)[j]? = some c → c ≠ 10) := Lib.hid (fun j c hj hc => by
          rcases Nat.lt_or_ge j i with h | h
          · exact hno.out j c h hc
          · obtain rfl : j = i := by omega
            rw [hg] at hc
            cases hc
            intro e
            apply h10
            rw [e]; rfl)
        clear h10 hg hno
        go_wp2_with fail
        exact ⟨⟨i + 1, by go_num, by omega, hnx⟩, by simp [intOf]; omega⟩
    · obtain rfl : i = s.size := by omega
      have hn10 : Hid (10 ∉ tl s) := Lib.hid (fun hm => by
        obtain ⟨j, hj⟩ := List.getElem?_of_mem hm
        have hjl := (List.getElem?_eq_some_iff.1 hj).1
        rw [tl_length] at hjl
        exact hno.out j 10 hjl hj rfl)
      clear hno
      go_wp2_with fail
      go_loopw [5] (fun c wr => ∃ i : Nat, c = .int .i64 ((i : Int) + 1) ∧ i ≤ 5 ∧ Hid (Below (w.heap.size + 1) W1 wr) ∧ Hid (∀ (j : Nat) key, j < i → ¬ Reads (tl s) ((j : Int) + 1) key)) (fun c _ => 6 - (intOf c).toNat)
      case atStart => exact ⟨0, rfl, by omega, Lib.hid (Below.refl _ _), Lib.hid (fun j key h => by omega)⟩
      case round =>
        obtain ⟨i, rfl, hi, hB, hno⟩ := hrel
        have hBw : Hid (Below w.heap.size w wr) := Lib.hid (hb1.out.trans (hB.out.mono (by omega)))
        have hsz := hB.out.size
        have hRes : Hid (RowAt wr w.heap.size 23 #[.int .i64 0, .string ⟨#[]⟩]) := Lib.hid ((hB.out.block _ (by omega)).trans hz1.out)
        by_cases hlt : i < 5
        · obtain ⟨x, hx, -, x1, x2, x3⟩ := conW_get hlt
          have hxr : refW[i + 1]? = some x := hx
          have hxl : x.length ≤ 10 := by
            have : ∀ w ∈ conW, w.length ≤ 10 := by decide
            exact this x (List.mem_of_getElem? hx)
          have Hx := Lib.hid hx
          have Hxr := Lib.hid hxr
          have hd5 : decide ((i : Int) + 1 ≤ 5) = true := by simp; omega
          have zx : (bs x).size = x.length := bs_size _
          clear hx hxr x1 x2 x3
          go_wp2_with fail
          refine (words_any _).mono ?_
          rintro e w3 ⟨⟨v, rfl, a, cap, rfl, hc, hm, hat⟩, b3⟩
          obtain ⟨bb, off, rfl, hbl, c9⟩ := hat (i + 1) x Hxr.out
          have hc6 : 6 ≤ cap := hc
          unfold maxLen at hm
          have hB3 := Lib.hid (hB.out.trans (b3.mono (by omega)))
          have hRes3 := Lib.hid (hRes.out.later b3)
          have hs3 := b3.size
          have hi1 : (0 : Int) ≤ (i : Int) + 1 := by omega
          have hi2 : ((i : Int) + 1).toNat = i + 1 := by omega
          have hi3 : (i : Int) + 1 < 6 := by omega
          have hi4 : i + 1 < 6 := by omega
          clear hat b3 hc
          simp only [show refW.length = 6 from rfl]
          obtain ⟨r, hr0⟩ : ∃ r, Hid (conOf ((i : Int) + 1) (keyAt (tl s) x.length) = r) := ⟨_, Lib.hid rfl⟩
          have f2 := bs_beq s r
          by_cases hlong : x.length + 1 < s.size
          · have d1 : decide (x.length + 1 < s.size) = true := by simpa using hlong
            have d2 : decide ((x.length : Int) + 1 < (s.size : Int)) = true := by simp; omega
            have i1 : ((x.length : Int) + 1).toNat = x.length + 1 := by omega
            obtain ⟨KK, hKK⟩ : ∃ KK, Hid (s.extract (x.length + 1) s.size = KK) := ⟨_, Lib.hid rfl⟩
            have hkk : Hid (tl KK = keyAt (tl s) x.length) := Lib.hid (by rw [← hKK.out]; exact Lib.extract_to_end s _)
            have hkz : KK.size ≤ 1000000 := by
              rw [← tl_length, hkk.out]; unfold keyAt; rw [List.length_drop, tl_length]; omega
            have hr : Hid (conOf ((i : Int) + 1) (tl KK) = r) := Lib.hid (by rw [hkk.out]; exact hr0.out)
            go_wp2_with fail
            rw [hKK.out]
            refine (RefConflict_any _ KK _ (by omega)).mono ?_
            rw [hr.out]
            rintro e w5 ⟨rfl, b5⟩
            have hB5 := Lib.hid ((hB3.out.alloc (by omega) (.cells #[.int .i64 ((i : Int) + 1), .string KK] 23)).trans (b5.mono (by simp; omega)))
            have hRes5 := Lib.hid ((hRes3.out.alloc (.cells #[.int .i64 ((i : Int) + 1), .string KK] 23)).later b5)
            have hRow5 := Lib.hid ((RowAt.new w3 23 #[.int .i64 ((i : Int) + 1), .string KK]).later b5)
            have hs5 := b5.size
            rw [World.size_alloc] at hs5
            clear b5
            by_cases e2 : r = tl s
            · rw [decide_eq_true e2] at f2
              have hR : Hid (Reads (tl s) ((i : Int) + 1) (tl KK)) := Lib.hid (by
                have h3 : conOf ((i : Int) + 1) (tl KK) = tl s := by rw [hkk.out]; exact hr0.out.trans e2
                exact ⟨by omega, by omega, h3, fun h => hn10.out ((reads_nl (by omega) (by omega) h3).2 h)⟩)
              clear e2
              have k0 := hRow5.out.cell (j := 0) rfl
              have k1 := hRow5.out.cell (j := 1) rfl
              have z0 := hRes5.out.cell (j := 0) rfl
              have z1 := hRes5.out.cell (j := 1) rfl
              have y0 := hRes5.out.frozen 0
              have y1 := hRes5.out.frozen 1
              go_wp2_with fail
              refine bodyPost_ret (results_cell_row_tmp rfl _ _ w.heap.size 23 #[.int .i64 ((i : Int) + 1), .string KK] (0, 0) _ rfl ((hRes5.out.set 0 _).set 1 _) Tryd.underlying23 rfl rfl) rfl ?_
              exact ⟨.inl ⟨_, _, hR.out, rfl⟩, ((hb1.out.trans (hB5.out.mono (by omega))).setCell (p := ⟨w.heap.size, 0, none⟩) (Nat.le_refl _) _).setCell (p := ⟨w.heap.size, 1, none⟩) (Nat.le_refl _) _⟩
            · rw [decide_eq_false e2] at f2
              have hnx : Hid (∀ (j : Nat) key, j < i + 1 → ¬ Reads (tl s) ((j : Int) + 1) key) := Lib.hid (fun j key hj hR => by
                rcases Nat.lt_or_ge j i with h' | h'
                · exact hno.out j key h' hR
                · obtain rfl : j = i := by omega
                  have hk := hR.key (x := x) (by rw [show ((j : Int) + 1 - 1).toNat = j from by omega]; exact Hx.out)
                  apply e2
                  rw [← hr0.out, ← hk]
                  exact hR.2.2.1)
              clear e2
              go_wp2_with fail
              exact ⟨⟨i + 1, by go_num, by omega, hB5, hnx⟩, by simp [intOf]; omega⟩
          · have d1 : decide (x.length + 1 < s.size) = false := by simpa using hlong
            have d2 : decide ((x.length : Int) + 1 < (s.size : Int)) = false := by simp; omega
            have hkk : Hid (tl (⟨#[]⟩ : ByteArray) = keyAt (tl s) x.length) := Lib.hid (by unfold keyAt; rw [List.drop_of_length_le (by rw [tl_length]; omega)])
            have hr : Hid (conOf ((i : Int) + 1) (tl (⟨#[]⟩ : ByteArray)) = r) := Lib.hid (by rw [hkk.out]; exact hr0.out)
            go_wp2_with fail
            refine (RefConflict_any _ ⟨#[]⟩ _ (by decide)).mono ?_
            rw [hr.out]
            rintro e w5 ⟨rfl, b5⟩
            have hB5 := Lib.hid ((hB3.out.alloc (by omega) (.cells #[.int .i64 ((i : Int) + 1), .string ⟨#[]⟩] 23)).trans (b5.mono (by simp; omega)))
            have hRes5 := Lib.hid ((hRes3.out.alloc (.cells #[.int .i64 ((i : Int) + 1), .string ⟨#[]⟩] 23)).later b5)
            have hRow5 := Lib.hid ((RowAt.new w3 23 #[.int .i64 ((i : Int) + 1), .string ⟨#[]⟩]).later b5)
            have hs5 := b5.size
            rw [World.size_alloc] at hs5
            clear b5
            by_cases e2 : r = tl s
            · rw [decide_eq_true e2] at f2
              have hR : Hid (Reads (tl s) ((i : Int) + 1) (tl (⟨#[]⟩ : ByteArray))) := Lib.hid (by
                have h3 : conOf ((i : Int) + 1) (tl (⟨#[]⟩ : ByteArray)) = tl s := by rw [hkk.out]; exact hr0.out.trans e2
                exact ⟨by omega, by omega, h3, fun h => hn10.out ((reads_nl (by omega) (by omega) h3).2 h)⟩)
              clear e2
              have k0 := hRow5.out.cell (j := 0) rfl
              have k1 := hRow5.out.cell (j := 1) rfl
              have z0 := hRes5.out.cell (j := 0) rfl
              have z1 := hRes5.out.cell (j := 1) rfl
              have y0 := hRes5.out.frozen 0
              have y1 := hRes5.out.frozen 1
              go_wp2_with fail
              refine bodyPost_ret (results_cell_row_tmp rfl _ _ w.heap.size 23 #[.int .i64 ((i : Int) + 1), .string ⟨#[]⟩] (0, 0) _ rfl ((hRes5.out.set 0 _).set 1 _) Tryd.underlying23 rfl rfl) rfl ?_
              exact ⟨.inl ⟨_, _, hR.out, rfl⟩, ((hb1.out.trans (hB5.out.mono (by omega))).setCell (p := ⟨w.heap.size, 0, none⟩) (Nat.le_refl _) _).setCell (p := ⟨w.heap.size, 1, none⟩) (Nat.le_refl _) _⟩
            · rw [decide_eq_false e2] at f2
              have hnx : Hid (∀ (j : Nat) key, j < i + 1 → ¬ Reads (tl s) ((j : Int) + 1) key) := Lib.hid (fun j key hj hR => by
                rcases Nat.lt_or_ge j i with h' | h'
                · exact hno.out j key h' hR
                · obtain rfl : j = i := by omega
                  have hk := hR.key (x := x) (by rw [show ((j : Int) + 1 - 1).toNat = j from by omega]; exact Hx.out)
                  apply e2
                  rw [← hr0.out, ← hk]
                  exact hR.2.2.1)
              clear e2
              go_wp2_with fail
              exact ⟨⟨i + 1, by go_num, by omega, hB5, hnx⟩, by simp [intOf]; omega⟩
        · obtain rfl : i = 5 := by omega
          have hall : ∀ k key, ¬ Reads (tl s) k key := fun k key h => by
            have h1 := h.1
            have h2 := h.2.1
            refine hno.out (k - 1).toNat key (by omega) ?_
            rw [show (((k - 1).toNat : Nat) : Int) + 1 = k from by omega]
            exact h
          have Hall := Lib.hid hall
          have z0 := hRes.out.cell (j := 0) rfl
          have z1 := hRes.out.cell (j := 1) rfl
          have y0 := hRes.out.frozen 0
          have y1 := hRes.out.frozen 1
          clear hall
          go_wp2_with fail
          refine bodyPost_ret (results_cell_row_tmp rfl _ _ w.heap.size 23 #[.int .i64 0, .string ⟨#[]⟩] (0, 0) _ rfl ((hRes.out.set 0 _).set 1 _) Tryd.underlying23 rfl rfl) rfl ?_
          exact ⟨.inr ⟨Hall.out, rfl⟩, (hBw.out.setCell (p := ⟨w.heap.size, 0, none⟩) (Nat.le_refl _) _).setCell (p := ⟨w.heap.size, 1, none⟩) (Nat.le_refl _) _⟩
end Go.Proofs.YtmklpanehnkfbaaDoor
