/-
  For the laws of span: what comes of edits, by the program. Conditions: at most 120 edits of at most 200 bytes, a text of at most 100,000 bytes.
-/
import Derived.Test.YtpekbakidhfliaaApply
namespace Go.Proofs.Ytpekbakidhfliaa
open Go.RowKit Go.Shelf

set_option maxRecDepth 100000 in
set_option maxHeartbeats 8000000 in
theorem Apply_big (t : ByteArray) (v : Value) (L : List Ed) (w : World) (h1 : Eds w v L) (ht : t.size ≤ 100000) (hL : L.length ≤ 120) (hx : ∀ e ∈ L, e.tx.length ≤ 200) : Calls Try.prog 9 #[.string t, v] w fun e w' => e = .returned (.tuple #[.string (bs (appR (tl t) L)), .int .i64 (code (chkB t.size none L))]) ∧ Below w.heap.size w w' := by
  have H1 := Lib.hid h1
  have Hx := Lib.hid hx
  obtain ⟨a, cap, rfl, hc, hm, hat⟩ := h1
  have Hat := Lib.hid hat; clear hat hx
  unfold maxLen at hm
  have Htl : Hid ((tl t).length = t.size) := Lib.hid (tl_length t)
  unfold appR
  rw [Htl.out]
  cases hr : chkB t.size none L with
  | false =>
    have hr := Lib.hid hr
    go_enter Try.func9, Try.ntmps9
    go_wp2_with fail
    refine (Check_any t.size _ L w H1.out).mono ?_
    rw [hr.out]
    rintro e w1 ⟨rfl, b1⟩
    have f := code_no false
    go_wp2_with fail
    go_ret2
    exact ⟨rfl, b1⟩
  | true =>
    have hok : Ok (t.size : Int) 0 L := ok_of hr (fun e h => by cases h) (fun _ => Int.le_refl _) (by omega)
    have hr := Lib.hid hr
    have Hok := Lib.hid hok
    clear hok
    obtain ⟨R, hR⟩ : ∃ R, Hid (app (tl t) 0 L = R) := ⟨_, Lib.hid rfl⟩
    have hRl : R.length ≤ 13000000 := by
      have := app_len (tl t) L 0 Hx.out
      rw [hR.out, Htl.out] at this
      have h2 : L.length * (200 + t.size) ≤ 120 * (200 + 100000) := Nat.mul_le_mul hL (by omega)
      omega
    rw [if_pos rfl, hR.out]
    go_enter Try.func9, Try.ntmps9
    go_wp2_with fail
    refine (Check_any t.size _ L w H1.out).mono ?_
    rw [hr.out]
    rintro e w1 ⟨rfl, b1⟩
    have f := code_no true
    have B1 := Lib.hid b1
    have hs1 := b1.size
    have hb0 := builder_new w1
    have hbn : Below w1.heap.size w1 (w1.alloc (.cells #[.pointer none, .slice none 0 0] 44)) := (Below.refl _ _).alloc (Nat.le_refl _) _
    clear b1
    obtain ⟨W1, hW1⟩ : ∃ W1, Hid (w1.alloc (.cells #[.pointer none, .slice none 0 0] 44) = W1) := ⟨_, Lib.hid rfl⟩
    rw [hW1.out] at hb0 hbn
    obtain ⟨b0, hb⟩ : ∃ b0, Hid (w1.heap.size = b0) := ⟨_, Lib.hid rfl⟩
    rw [hb.out] at hb0 hbn hs1
    have Hb0 := Lib.hid hb0
    have Hbn : Hid (Below b0 w1 W1) := Lib.hid hbn
    clear hb0 hbn
    have hW1s : b0 < W1.heap.size := by rw [← hb.out, ← hW1.out]; simp
    go_wp2_with fail
    rw [hb.out, hW1.out]
    have B1W : Hid (Below w.heap.size w W1) := Lib.hid (B1.out.trans (Hbn.out.mono hs1))
    go_loopw [8, 20] (fun dv c wr => ∃ (k d : Nat) (xs : By), c = .int .i64 k ∧ dv = .int .i64 d ∧ k ≤ L.length ∧ d ≤ t.size ∧ Hid (Ok t.size d (L.drop k)) ∧ Hid (xs ++ app (tl t) d (L.drop k) = R) ∧ Hid (Lib.IsBuilder 44 5 b0 b0 (Lib.byteCells xs) wr) ∧ Hid (Below b0 W1 wr)) (fun _ c _ => L.length - (intOf c).toNat)
    case atStart => exact ⟨0, 0, [], rfl, rfl, by omega, by omega, Hok, Lib.hid (by simpa using hR.out), Hb0, Lib.hid (Below.refl _ _)⟩
    case round =>
      obtain ⟨k, d, xs, rfl, rfl, hk, hd, ho, hxs, hBu, hB⟩ := hrel
      have hbs := hB.out.size
      by_cases hlt : k < L.length
      · obtain ⟨x, hxk⟩ : ∃ x, L[k]? = some x := ⟨_, List.getElem?_eq_getElem hlt⟩
        obtain ⟨b, off, rfl, hbl, hl0, hl1, hl2⟩ := Hat.out k x hxk
        have ho2 := ho.out
        have hx2 := hxs.out
        rw [drop_at hxk] at ho2 hx2
        obtain ⟨o1, o2, o3, o4⟩ := ho2
        have hx3 := app_step hx2
        have htx := Hx.out x (List.mem_of_getElem? hxk)
        obtain ⟨xf, xt, tx⟩ := x
        obtain ⟨f, rfl⟩ := Int.eq_ofNat_of_zero_le (show 0 ≤ xf by simp at o1; omega)
        obtain ⟨g, rfl⟩ := Int.eq_ofNat_of_zero_le (show 0 ≤ xt by simp at o1 o2; omega)
        simp only [Int.toNat_natCast] at o1 o2 o3 o4 hx3 hl0 hl1 hl2 htx
        have hdf : d ≤ f := by omega
        have hfg : f ≤ g := by omega
        have hgs : g ≤ t.size := by omega
        have Ho4 := Lib.hid o4
        have Hx3 := Lib.hid hx3
        have hxl : xs.length + (f - d) + tx.length ≤ 13000000 := by
          have := congrArg List.length hx3
          simp only [List.length_append, List.length_take, List.length_drop, Htl.out] at this
          omega
        have hBl := B1W.out.trans (hB.out.mono hs1)
        have c0 : wr.cell? ⟨b, off + k * 3, none⟩ = some (.int .i64 f) := (hBl.cell (p := ⟨b, off + k * 3, none⟩) hbl).trans hl0
        have c1 : wr.cell? ⟨b, off + k * 3 + 1, none⟩ = some (.int .i64 g) := (hBl.cell (p := ⟨b, off + k * 3 + 1, none⟩) hbl).trans hl1
        have c2 : wr.cell? ⟨b, off + k * 3 + 2, none⟩ = some (.string (bs tx)) := (hBl.cell (p := ⟨b, off + k * 3 + 2, none⟩) hbl).trans hl2
        have r0 := ed_new wr f g (bs tx)
        obtain ⟨W2, hW2⟩ : ∃ W2, Hid (wr.alloc (.cells #[.int .i64 f, .int .i64 g, .string (bs tx)] 39) = W2) := ⟨_, Lib.hid rfl⟩
        obtain ⟨q, hq⟩ : ∃ q, Hid (wr.heap.size = q) := ⟨_, Lib.hid rfl⟩
        have Bu2 := Lib.hid (builder_alloc hBu.out (.cells #[.int .i64 f, .int .i64 g, .string (bs tx)] 39))
        have B2 := Lib.hid (hB.out.alloc (by omega) (.cells #[.int .i64 f, .int .i64 g, .string (bs tx)] 39))
        have hqb : q ≠ b0 := by rw [← hq.out]; omega
        have hW2s : b0 ≤ W2.heap.size := by rw [← hW2.out]; simp; omega
        rw [hW2.out, hq.out] at r0
        rw [hW2.out] at Bu2 B2
        have d0 := r0.cell (j := 0) (v := .int .i64 f) rfl
        have R0 := Lib.hid r0
        clear hl0 hl1 hl2 hBl r0 hxk hx2 hx3 o4 ho hxs hBu hB
        go_wp2_with fail
        rw [hW2.out, hq.out]
        refine (WriteString_k b0 b0 _ (t.extract d f) _ Bu2.out (by rw [byteCells_length, ext_bs, bs_size, List.length_take, List.length_drop]; omega) hW2s).mono ?_
        rintro e w3 ⟨rfl, hw3, hb3, hq3⟩
        have B3 := Lib.hid (B2.out.trans hb3)
        have R3 := (R0.out).same (hq3 q _ 39 (0, 0) R0.out (by decide) hqb)
        have e2 := R3.cell (j := 2) (v := .string (bs tx)) rfl
        have R3h := Lib.hid R3
        have hw3s : b0 ≤ w3.heap.size := Nat.le_trans hW2s hb3.size
        have Bu3 : Hid (Lib.IsBuilder 44 5 b0 b0 (Lib.byteCells (xs ++ ((tl t).drop d).take (f - d))) w3) := Lib.hid (by
          rw [ext_bs, strCells_bs, ← byteCells_append] at hw3
          exact .inr hw3)
        clear hw3 hb3 hq3 R3 d0
        go_wp2_with fail
        refine (WriteString_k b0 b0 _ (bs tx) _ Bu3.out (by rw [byteCells_length, bs_size, List.length_append, List.length_take, List.length_drop]; omega) hw3s).mono ?_
        rintro e w4 ⟨rfl, hw4, hb4, hq4⟩
        have B4 := Lib.hid (B3.out.trans hb4)
        have R4 := (R3h.out).same (hq4 q _ 39 (0, 0) R3h.out (by decide) hqb)
        have e1 := R4.cell (j := 1) (v := .int .i64 g) rfl
        have Bu4 : Hid (Lib.IsBuilder 44 5 b0 b0 (Lib.byteCells (xs ++ ((tl t).drop d).take (f - d) ++ tx)) w4) := Lib.hid (by
          rw [strCells_bs, ← byteCells_append] at hw4
          exact .inr hw4)
        clear hw4 hb4 hq4 R4 e2
        go_wp2_with fail
        exact ⟨⟨k + 1, g, _, by go_num, rfl, by omega, hgs, Ho4, Hx3, Bu4, B4⟩, by simp [intOf]; omega⟩
      · obtain rfl : k = L.length := by omega
        have hx2 := hxs.out
        rw [List.drop_length, app] at hx2
        have Hx2 := Lib.hid hx2
        have hxl : xs.length ≤ 13000000 := by
          have := congrArg List.length hx2
          simp only [List.length_append] at this
          omega
        have p0 : (0 : Int) ≤ (d : Int) := by omega
        have p1 : (d : Int) ≤ (t.size : Int) := by omega
        have hws : b0 ≤ wr.heap.size := by omega
        clear hx2 hxs
        go_wp2_with fail
        refine (WriteString_k b0 b0 _ (t.extract d t.size) _ hBu.out (by rw [byteCells_length, ext_bs, bs_size, List.length_take, List.length_drop, Htl.out]; omega) hws).mono ?_
        rintro e w3 ⟨rfl, hw3, hb3, hq3⟩
        have B3 := Lib.hid (hB.out.trans hb3)
        have hw3s : b0 ≤ w3.heap.size := Nat.le_trans hws hb3.size
        have Bu3 : Hid (Lib.IsBuilder 44 5 b0 b0 (Lib.byteCells R) w3) := Lib.hid (by
          rw [ext_bs, strCells_bs, ← byteCells_append, List.take_of_length_le (by rw [List.length_drop, Htl.out]; exact Nat.le_refl _), Hx2.out] at hw3
          exact .inr hw3)
        clear hw3 hb3 hq3
        go_wp2_with fail
        refine (Try.Builder_String_any b0 b0 R _ Bu3.out hw3s).mono ?_
        rintro e w4 ⟨rfl, hb4⟩
        have B4 := B1W.out.trans ((B3.out.trans hb4).mono hs1)
        clear hb4
        go_wp2_with fail
        go_ret2
        exact ⟨rfl, B4⟩
end Go.Proofs.Ytpekbakidhfliaa
