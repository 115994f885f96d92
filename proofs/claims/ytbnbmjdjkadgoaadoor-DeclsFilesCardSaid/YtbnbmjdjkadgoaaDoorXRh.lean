/-
  For the laws on the parser: a number. Condition: the tokens are a text's.
-/
import Derived.Test.YtbnbmjdjkadgoaaDoorXRg
namespace Go.Proofs.YtbnbmjdjkadgoaaDoor.X
open Go.RowKit Go.Shelf
set_option linter.unusedSimpArgs false
set_option linter.unusedVariables false

theorem valOf_mono {l : List UInt8} (k : Nat) : valOf (l.take k) ≤ valOf l := by
  have step : ∀ j, valOf (l.take j) ≤ valOf (l.take (j + 1)) := fun j => by
    rcases Nat.lt_or_ge j l.length with h | h
    · rw [valOf_next (List.getElem?_eq_getElem h)]; omega
    · rw [List.take_of_length_le h, List.take_of_length_le (by omega)]; exact Nat.le_refl _
  have up : ∀ n, valOf (l.take k) ≤ valOf (l.take (k + n)) := fun n => by
    induction n with
    | zero => exact Nat.le_refl _
    | succ n ih => exact Nat.le_trans ih (step _)
  have := up l.length
  rw [List.take_of_length_le (i := k + l.length) (by omega)] at this
  exact this
set_option maxRecDepth 100000 in
set_option maxHeartbeats 16000000 in
theorem prim_num (v : Value) (T : List Tk) (hT : GoodT T) (a d : Nat) (w : World) (hk : (tokT T a).kind = 2) (ha : a < T.length) (hd : d ≤ 80) (h : Toks w v T) :
    Calls Tryd.prog 87 #[v, .int .i64 (a : Nat), .int .i64 (d : Nat)] w fun e w' => NodeIs (.ok (.mk { madeH T 13 a (a + 1) with n := (valOf (tokT T a).text : Nat) } []) (a + 1)) w.heap.size e w' ∧ Below w.heap.size w w' := by
  have htk := hT.tk _ (List.mem_of_getElem? (tok_at ha))
  have hval := (htk.num hk).2
  have hdig := (htk.num hk).1
  have hsz : (bs (tokT T a).text).size ≤ 1048576 := by
    rw [← tl_length, tl_bs]
    have := htk.lo
    have := htk.hi
    omega
  have HT := Lib.hid (fun W (hW : Below w.heap.size w W) => h.below hW)
  have HG := Lib.hid hT
  have hTl := hT.len
  obtain ⟨tb, to_, cv, rfl, -, -, hcell⟩ := h.fix hT.e.pos
  have HC := Lib.hid hcell
  clear h hcell
  obtain ⟨x, hx⟩ : ∃ x : ByteArray, bs (tokT T a).text = x := ⟨_, rfl⟩
  rw [hx] at hsz
  have htl : (tokT T a).text = tl x := by rw [← hx]
  rw [htl] at hval hdig ⊢
  obtain ⟨m, hm⟩ : ∃ m, (Nd.mk { madeH T 13 a (a + 1) with n := (valOf (tl x) : Nat) } []) = m := ⟨_, rfl⟩
  rw [hm]
  have Hm := Lib.hid hm
  have Hd := Lib.hid hdig
  have Hv := Lib.hid hval
  have Hx := Lib.hid hx
  have hxl := tl_length x
  clear hdig htk hT hx htl hm
  go_enter Tryd.func87, Tryd.ntmps87
  go_upto_region 1 with fail
  refine wp_gen (fun W => RowAt W w.heap.size 55 #[.int .i64 0, .string ⟨#[]⟩, .string ⟨#[]⟩, .int .i64 0, .int .i64 0, .int .i64 0, .int .i64 0, .int .i64 0, .slice none 0 0] ∧ RowAt W (w.heap.size + 1) 68 #[.int .i64 0, .int .i64 0] ∧ Below w.heap.size w W) ⟨(row_new rfl).alloc _, row_new (by simp), ((Below.refl _ w).alloc (Nat.le_refl _) _).alloc (by simp) _⟩ ?_
  rintro W1 ⟨g1, h1, b1⟩
  have RG1 := Lib.hid g1
  have RH1 := Lib.hid h1
  have B1 := Lib.hid b1
  have hlt1 := h1.lt
  clear g1 h1 b1
  have tk0 := (HC.out W1 B1.out a ha).1
  rw [hk] at tk0
  have i1 : (0 : Int) ≤ (a : Int) := by omega
  have i2 : (a : Int) < (T.length : Int) := by omega
  go_wp2_with fail
  refine (made_at (.slice (some ⟨tb, to_, none⟩) T.length cv) none 0 0 T HG.out 13 a (a + 1) ha (by omega) (by omega) W1 (HT.out W1 B1.out)).mono ?_
  rintro e w8 ⟨rfl, b8⟩
  have RG8 := Lib.hid (RG1.out.later b8)
  have RH8 := Lib.hid (RH1.out.later b8)
  have B8 := Lib.hid (B1.out.trans (b8.mono B1.out.size))
  have hs8 := b8.size
  clear b8
  obtain ⟨h0, hh0⟩ : ∃ h0, madeH T 13 a (a + 1) = h0 := ⟨_, rfl⟩
  have hn0 : h0.n = 0 := by rw [← hh0]; rfl
  rw [hh0]
  obtain ⟨P, hP⟩ : ∃ P, w8.heap.size = P := ⟨_, rfl⟩
  go_wp2_with fail
  refine wp_gen (fun W => RowAt W w.heap.size 55 #[.int .i64 0, .string ⟨#[]⟩, .string ⟨#[]⟩, .int .i64 0, .int .i64 0, .int .i64 0, .int .i64 0, .int .i64 0, .slice none 0 0] ∧ RowAt W (w.heap.size + 1) 68 #[.int .i64 0, .int .i64 0] ∧ RowAt W w8.heap.size 55 #[.int .i64 h0.kind, .string (bs h0.text), .string (bs h0.type), .int .i64 0, .int .i64 h0.fr, .int .i64 h0.to_, .int .i64 h0.at_, .int .i64 h0.tat, .slice none 0 0] ∧ Below w.heap.size w W) ⟨RG8.out.alloc _, RH8.out.alloc _, row_new rfl, B8.out.alloc (by omega) _⟩ ?_
  rintro W3 ⟨g3, h3, m3, b3⟩
  rw [hP] at m3
  have fG := Lib.hid g3
  have fH := Lib.hid h3
  have fB := Lib.hid b3
  have fM : Hid (RowAt W3 P 55 #[.int .i64 h0.kind, .string (bs h0.text), .string (bs h0.type), .int .i64 (valOf ((tl x).take 0) : Nat), .int .i64 h0.fr, .int .i64 h0.to_, .int .i64 h0.at_, .int .i64 h0.tat, .slice none 0 0]) := Lib.hid m3
  have hPl : Hid (w.heap.size + 2 ≤ P) := Lib.hid (by omega)
  have htb : tb < w.heap.size := cell_lt ((HC.out w (Below.refl _ _) 0 HG.out.e.pos).2.1)
  clear g3 h3 m3 b3 tk0
  go_loopw [10] (fun c wr => ∃ k : Nat, c = .int .i64 k ∧ k ≤ x.size ∧ Hid (RowAt wr w.heap.size 55 #[.int .i64 0, .string ⟨#[]⟩, .string ⟨#[]⟩, .int .i64 0, .int .i64 0, .int .i64 0, .int .i64 0, .int .i64 0, .slice none 0 0]) ∧ Hid (RowAt wr (w.heap.size + 1) 68 #[.int .i64 0, .int .i64 0]) ∧ Hid (RowAt wr P 55 #[.int .i64 h0.kind, .string (bs h0.text), .string (bs h0.type), .int .i64 (valOf ((tl x).take k) : Nat), .int .i64 h0.fr, .int .i64 h0.to_, .int .i64 h0.at_, .int .i64 h0.tat, .slice none 0 0]) ∧ Hid (Below w.heap.size w wr)) (fun c _ => x.size - (intOf c).toNat)
  case atStart => exact ⟨0, rfl, Nat.zero_le _, fG, fH, fM, fB⟩
  case round =>
    clear fG fH fM fB
    obtain ⟨k, rfl, hkx, RG, RH, RM, B3⟩ := hrel
    have hPl := hPl.out
    have tk := (HC.out wr B3.out a ha).2.1
    rw [Hx.out] at tk
    have i1 : (0 : Int) ≤ (a : Int) := by omega
    have i2 : (a : Int) < (T.length : Int) := by omega
    by_cases hlt : k < x.size
    · obtain ⟨c, hc⟩ : ∃ c, x[k] = c := ⟨_, rfl⟩
      have hg := tl_get x hlt
      rw [hc] at hg
      have hdc := dig_true c (Hd.out c (List.mem_of_getElem? hg))
      have hnx := Lib.hid (valOf_next hg)
      have hm := valOf_mono (l := tl x) k
      have hm2 := valOf_mono (l := tl x) (k + 1)
      rw [hnx.out] at hm2
      have hv := Hv.out
      clear hg
      have j1 : IntKind.u8.wrap ((c.toNat : Int) - 48) = (c.toNat : Int) - 48 := Go.IntWalk.u8_in _ (by omega)
      have j2 : IntKind.i64.wrap ((c.toNat : Int) - 48) = (c.toNat : Int) - 48 := Go.IntWalk.i64_in _ (by omega)
      generalize valOf ((tl x).take k) = n at *
      have j3 : IntKind.i64.wrap (10 * (n : Int)) = 10 * (n : Int) := Go.IntWalk.i64_in _ (by omega)
      have j4 : IntKind.i64.wrap (10 * (n : Int) + ((c.toNat : Int) - 48)) = 10 * (n : Int) + ((c.toNat : Int) - 48) := Go.IntWalk.i64_in _ (by omega)
      have d3 : wr.cell? ⟨P, 3, none⟩ = some (.int .i64 (n : Nat)) := RM.out.cell rfl
      have z3 := RM.out.frozen 3
      have hcx : (k : Int) < (x.size : Int) := by omega
      have hk0 : (0 : Int) ≤ (k : Int) := by omega
      have neP : tb ≠ P := by omega
      go_wp2_with fail
      have K1 : ∀ p : InC wr, p.w.cell? ⟨P, 3, none⟩ = some (.int .i64 (n : Nat)) := fun p => (p.h.cell (p := ⟨P, 3, none⟩) RM.out.lt).trans d3
      have K2 : ∀ p : InC wr, p.w.cell? ⟨tb, to_ + a * 4 + 1, none⟩ = some (.string x) := fun p => (p.h.cell (p := ⟨tb, to_ + a * 4 + 1, none⟩) (Nat.lt_of_lt_of_le htb B3.out.size)).trans tk
      refine wp_tail_in wr 14 (Below.refl _ _) (by kernel_rfl) (by kernel_rfl) ?_
      simp only [List.take_succ_cons, List.take_zero, List.drop_succ_cons, List.drop_zero]
      repeat (quiet_step (fail))
      refine wpQuiet_nil ?_
      intro U hw'
      have hU : Below wr.heap.size wr U := by obtain ⟨p, rfl⟩ := hw'; exact p.h
      clear hw' K1 K2
      have R2 := RM.out.later hU
      have z3 := R2.frozen 3
      have c3 : U.cell? ⟨P, 3, none⟩ = some (.int .i64 (n : Nat)) := R2.cell rfl
      have fG := Lib.hid (RG.out.later hU)
      have fH := Lib.hid (RH.out.later hU)
      have fB := Lib.hid (B3.out.trans (hU.mono B3.out.size))
      have fM := Lib.hid R2
      clear hU R2
      go_wp2_with fail
      have hval : ((valOf ((tl x).take (k + 1)) : Nat) : Int) = 10 * (n : Int) + ((c.toNat : Int) - 48) := by rw [hnx.out]; omega
      refine ⟨⟨k + 1, by go_num, by omega, ?_, ?_, ?_, ?_⟩, by simp [intOf]; omega⟩
      · exact Lib.hid (fG.out.other (by omega) 3 _)
      · exact Lib.hid (fH.out.other (by omega) 3 _)
      · rw [hval]
        have R9 := fM.out.set 3 (.int .i64 (10 * (n : Int) + ((c.toNat : Int) - 48)))
        simp only [List.setIfInBounds_toArray, List.set_cons_zero, List.set_cons_succ] at R9
        exact Lib.hid R9
      · exact Lib.hid (fB.out.setCell (p := ⟨P, 3, none⟩) (by show w.heap.size ≤ P; omega) _)
    · obtain rfl : k = x.size := by omega
      have hall : (tl x).take x.size = tl x := List.take_of_length_le (by omega)
      rw [hall] at RM
      have hnl : decide ((x.size : Int) < (x.size : Int)) = false := decide_eq_false (by omega)
      have RMm : Hid (RowAt wr P 55 #[.int .i64 m.hd.kind, .string (bs m.hd.text), .string (bs m.hd.type), .int .i64 m.hd.n, .int .i64 m.hd.fr, .int .i64 m.hd.to_, .int .i64 m.hd.at_, .int .i64 m.hd.tat, .slice none 0 0]) := Lib.hid (by rw [← Hm.out]; have R5 := RM.out; rw [← hh0] at R5; exact R5)
      have SS : Hid (Sup wr W1.heap.size m.kids (.slice none 0 0) (fun _ => False)) := Lib.hid (by rw [← Hm.out]; exact ⟨nofun, fun V _ => KidsAt.nil V⟩)
      have hne1 : P ≠ w.heap.size := by omega
      have hne2 : P ≠ w.heap.size + 1 := by omega
      have iw : Hid (IntKind.i64.wrap ((a : Int) + 1) = (a : Int) + 1) := Lib.hid (Go.IntWalk.i64_in _ (by omega))
      go_upto_region 7 with fail
      have z0 := RG.out.frozen 0
      have z1 := RG.out.frozen 1
      have z2 := RG.out.frozen 2
      have z3 := RG.out.frozen 3
      have z4 := RG.out.frozen 4
      have z5 := RG.out.frozen 5
      have z6 := RG.out.frozen 6
      have z7 := RG.out.frozen 7
      have z8 := RG.out.frozen 8
      have y0 := RH.out.frozen 0
      have y1 := RH.out.frozen 1
      obtain ⟨r0, r1, r2, r3, r4, r5, r6, r7, r8⟩ := (show Cells wr w.heap.size 0 ⟨0, [], [], 0, 0, 0, 0, 0⟩ (.slice none 0 0) from Cells.row RG.out)
      simp only [Nat.zero_add] at r1 r2 r3 r4 r5 r6 r7 r8
      have s0 : wr.cell? ⟨w.heap.size + 1, 0, none⟩ = some (.int .i64 0) := RH.out.cell rfl
      have s1 : wr.cell? ⟨w.heap.size + 1, 1, none⟩ = some (.int .i64 0) := RH.out.cell rfl
      have F0 : Hid (wr.cell? ⟨P, 0, none⟩ = some (.int .i64 m.hd.kind) ∧ wr.cell? ⟨P, 1, none⟩ = some (.string (bs m.hd.text)) ∧ wr.cell? ⟨P, 2, none⟩ = some (.string (bs m.hd.type)) ∧ wr.cell? ⟨P, 3, none⟩ = some (.int .i64 m.hd.n) ∧ wr.cell? ⟨P, 4, none⟩ = some (.int .i64 m.hd.fr) ∧ wr.cell? ⟨P, 5, none⟩ = some (.int .i64 m.hd.to_) ∧ wr.cell? ⟨P, 6, none⟩ = some (.int .i64 m.hd.at_) ∧ wr.cell? ⟨P, 7, none⟩ = some (.int .i64 m.hd.tat) ∧ wr.cell? ⟨P, 8, none⟩ = some (.slice none 0 0)) := Lib.hid ⟨RMm.out.cell rfl, RMm.out.cell rfl, RMm.out.cell rfl, RMm.out.cell rfl, RMm.out.cell rfl, RMm.out.cell rfl, RMm.out.cell rfl, RMm.out.cell rfl, RMm.out.cell rfl⟩
      have FD : Hid (wr.drew.cell? ⟨P, 0, none⟩ = some (.int .i64 m.hd.kind) ∧ wr.drew.cell? ⟨P, 1, none⟩ = some (.string (bs m.hd.text)) ∧ wr.drew.cell? ⟨P, 2, none⟩ = some (.string (bs m.hd.type)) ∧ wr.drew.cell? ⟨P, 3, none⟩ = some (.int .i64 m.hd.n) ∧ wr.drew.cell? ⟨P, 4, none⟩ = some (.int .i64 m.hd.fr) ∧ wr.drew.cell? ⟨P, 5, none⟩ = some (.int .i64 m.hd.to_) ∧ wr.drew.cell? ⟨P, 6, none⟩ = some (.int .i64 m.hd.at_) ∧ wr.drew.cell? ⟨P, 7, none⟩ = some (.int .i64 m.hd.tat) ∧ wr.drew.cell? ⟨P, 8, none⟩ = some (.slice none 0 0)) := Lib.hid F0.out
      have RGd : Hid (RowAt wr.drew w.heap.size 55 #[.int .i64 0, .string ⟨#[]⟩, .string ⟨#[]⟩, .int .i64 0, .int .i64 0, .int .i64 0, .int .i64 0, .int .i64 0, .slice none 0 0]) := Lib.hid RG.out
      have RHd : Hid (RowAt wr.drew (w.heap.size + 1) 68 #[.int .i64 0, .int .i64 0]) := Lib.hid RH.out
      have RMd : Hid (RowAt wr.drew P 55 #[.int .i64 m.hd.kind, .string (bs m.hd.text), .string (bs m.hd.type), .int .i64 m.hd.n, .int .i64 m.hd.fr, .int .i64 m.hd.to_, .int .i64 m.hd.at_, .int .i64 m.hd.tat, .slice none 0 0]) := Lib.hid RMm.out
      have BDd : Hid (Below w.heap.size w wr.drew) := Lib.hid (below_drew B3.out)
      have SDd : Hid (Sup wr.drew W1.heap.size m.kids (.slice none 0 0) (fun _ => False)) := Lib.hid (SS.out.below (below_drew (Below.refl _ _)))
      go_region_held3 (fun W => W.cell? ⟨P, 0, none⟩ = some (.int .i64 m.hd.kind) ∧ W.cell? ⟨P, 1, none⟩ = some (.string (bs m.hd.text)) ∧ W.cell? ⟨P, 2, none⟩ = some (.string (bs m.hd.type)) ∧ W.cell? ⟨P, 3, none⟩ = some (.int .i64 m.hd.n) ∧ W.cell? ⟨P, 4, none⟩ = some (.int .i64 m.hd.fr) ∧ W.cell? ⟨P, 5, none⟩ = some (.int .i64 m.hd.to_) ∧ W.cell? ⟨P, 6, none⟩ = some (.int .i64 m.hd.at_) ∧ W.cell? ⟨P, 7, none⟩ = some (.int .i64 m.hd.tat) ∧ W.cell? ⟨P, 8, none⟩ = some (.slice none 0 0))
        (first | (with_reducible exact F0.out) | (with_reducible exact FD.out) | (with_reducible exact F5.out) | (with_reducible exact F6.out) | (with_reducible exact F7.out))
        (first | (go_at_call 46; ((with_reducible refine (fine_any _).mono ?_); rintro e wf ⟨rfl, bf⟩; have R5 := RMd.out.later bf; have F5 := Lib.hid (show wf.cell? ⟨P, 0, none⟩ = some (.int .i64 m.hd.kind) ∧ wf.cell? ⟨P, 1, none⟩ = some (.string (bs m.hd.text)) ∧ wf.cell? ⟨P, 2, none⟩ = some (.string (bs m.hd.type)) ∧ wf.cell? ⟨P, 3, none⟩ = some (.int .i64 m.hd.n) ∧ wf.cell? ⟨P, 4, none⟩ = some (.int .i64 m.hd.fr) ∧ wf.cell? ⟨P, 5, none⟩ = some (.int .i64 m.hd.to_) ∧ wf.cell? ⟨P, 6, none⟩ = some (.int .i64 m.hd.at_) ∧ wf.cell? ⟨P, 7, none⟩ = some (.int .i64 m.hd.tat) ∧ wf.cell? ⟨P, 8, none⟩ = some (.slice none 0 0) from ⟨R5.cell rfl, R5.cell rfl, R5.cell rfl, R5.cell rfl, R5.cell rfl, R5.cell rfl, R5.cell rfl, R5.cell rfl, R5.cell rfl⟩); have RGf := Lib.hid (RGd.out.later bf); have RHf := Lib.hid (RHd.out.later bf); have F6 := Lib.hid (nineC (RowAt.same R5 ((nine RGf.out m.hd (.slice none 0 0)).2.other P (by omega)))); have N9 := (nine RGf.out m.hd (.slice none 0 0)).2; have F7 := Lib.hid (nineC (((RowAt.same R5 (N9.other P (by omega))).other (c := w.heap.size + 1) (by omega) 0 (.int .i64 (-1))).other (c := w.heap.size + 1) (by omega) 1 (.int .i64 0))); clear N9; have Bf := Lib.hid (BDd.out.trans (bf.mono BDd.out.size)); have Sf := Lib.hid (SDd.out.below bf); have z0 := RGf.out.frozen 0; have z1 := RGf.out.frozen 1; have z2 := RGf.out.frozen 2; have z3 := RGf.out.frozen 3; have z4 := RGf.out.frozen 4; have z5 := RGf.out.frozen 5; have z6 := RGf.out.frozen 6; have z7 := RGf.out.frozen 7; have z8 := RGf.out.frozen 8; have y0 := RHf.out.frozen 0; have y1 := RHf.out.frozen 1; obtain ⟨r0, r1, r2, r3, r4, r5, r6, r7, r8⟩ := (show Cells wf w.heap.size 0 ⟨0, [], [], 0, 0, 0, 0, 0⟩ (.slice none 0 0) from Cells.row RGf.out); simp only [Nat.zero_add] at r1 r2 r3 r4 r5 r6 r7 r8; have s0 : wf.cell? ⟨w.heap.size + 1, 0, none⟩ = some (.int .i64 0) := RHf.out.cell rfl; have s1 : wf.cell? ⟨w.heap.size + 1, 1, none⟩ = some (.int .i64 0) := RHf.out.cell rfl; clear bf R5)))
      all_goals
        go_wp2_with fail
        obtain ⟨k1, k2, k3, k4, k5⟩ := both_rows RGf.out RHf.out (by omega) m.hd (.slice none 0 0) (-1) 0 rfl
        refine fin_node 6 7 8 rfl rfl rfl k1 k2 ⟨⟨none, 0, 0, (fun _ => False), (by show Ending.returned (.tuple #[_, .int .i64 (IntKind.i64.wrap ((a : Int) + 1)), _]) = _; rw [iw.out]; rfl), sup_past Sf.out k3 k4 (by omega) (by omega) B1.out.size⟩, Bf.out.trans (k5 _ (Nat.le_refl _) (by omega))⟩
end Go.Proofs.YtbnbmjdjkadgoaaDoor.X
