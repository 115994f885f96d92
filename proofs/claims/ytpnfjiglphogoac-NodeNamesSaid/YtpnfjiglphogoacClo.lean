/-
  For the laws of node: what Plain, Shift, Rename and a copy do to one node. No condition.
-/
import Derived.Test.YtpnfjiglphogoacChg
import Derived.RegionTactic
namespace Go.Proofs.Ytpnfjiglphogoac
open Go.RowKit Go.Shelf
set_option linter.unusedSimpArgs false
set_option linter.unusedVariables false

section
variable {W : World} {b o : Nat} {h : Hd} {kv : Value}
theorem off_set (W : World) (b o i j : Nat) (hij : i ≠ j) (v : Value) : (W.setCell ⟨b, o + i, none⟩ v).cell? ⟨b, o + j, none⟩ = W.cell? ⟨b, o + j, none⟩ :=
  World.cell?_setCell_other _ _ _ _ (by intro h; simp only [Addr.mk.injEq] at h; omega)
theorem off_set0 (W : World) (b o i : Nat) (hi : i ≠ 0) (v : Value) : (W.setCell ⟨b, o + i, none⟩ v).cell? ⟨b, o, none⟩ = W.cell? ⟨b, o, none⟩ :=
  World.cell?_setCell_other _ _ _ _ (by intro h; simp only [Addr.mk.injEq] at h; omega)
theorem Cells.set1 (c : Cells W b o h kv) (x : List UInt8) : Cells (W.setCell ⟨b, o + 1, none⟩ (.string (bs x))) b o { h with text := x } kv :=
  ⟨(off_set0 _ _ _ _ (by omega) _).trans c.c0, World.cell?_setCell_same _ _ _ c.c1, (off_set _ _ _ _ _ (by omega) _).trans c.c2, (off_set _ _ _ _ _ (by omega) _).trans c.c3, (off_set _ _ _ _ _ (by omega) _).trans c.c4, (off_set _ _ _ _ _ (by omega) _).trans c.c5, (off_set _ _ _ _ _ (by omega) _).trans c.c6, (off_set _ _ _ _ _ (by omega) _).trans c.c7, (off_set _ _ _ _ _ (by omega) _).trans c.c8⟩
theorem Cells.set2 (c : Cells W b o h kv) (x : List UInt8) : Cells (W.setCell ⟨b, o + 2, none⟩ (.string (bs x))) b o { h with type := x } kv :=
  ⟨(off_set0 _ _ _ _ (by omega) _).trans c.c0, (off_set _ _ _ _ _ (by omega) _).trans c.c1, World.cell?_setCell_same _ _ _ c.c2, (off_set _ _ _ _ _ (by omega) _).trans c.c3, (off_set _ _ _ _ _ (by omega) _).trans c.c4, (off_set _ _ _ _ _ (by omega) _).trans c.c5, (off_set _ _ _ _ _ (by omega) _).trans c.c6, (off_set _ _ _ _ _ (by omega) _).trans c.c7, (off_set _ _ _ _ _ (by omega) _).trans c.c8⟩
theorem Cells.set4 (c : Cells W b o h kv) (x : Int) : Cells (W.setCell ⟨b, o + 4, none⟩ (.int .i64 x)) b o { h with fr := x } kv :=
  ⟨(off_set0 _ _ _ _ (by omega) _).trans c.c0, (off_set _ _ _ _ _ (by omega) _).trans c.c1, (off_set _ _ _ _ _ (by omega) _).trans c.c2, (off_set _ _ _ _ _ (by omega) _).trans c.c3, World.cell?_setCell_same _ _ _ c.c4, (off_set _ _ _ _ _ (by omega) _).trans c.c5, (off_set _ _ _ _ _ (by omega) _).trans c.c6, (off_set _ _ _ _ _ (by omega) _).trans c.c7, (off_set _ _ _ _ _ (by omega) _).trans c.c8⟩
theorem Cells.set5 (c : Cells W b o h kv) (x : Int) : Cells (W.setCell ⟨b, o + 5, none⟩ (.int .i64 x)) b o { h with to_ := x } kv :=
  ⟨(off_set0 _ _ _ _ (by omega) _).trans c.c0, (off_set _ _ _ _ _ (by omega) _).trans c.c1, (off_set _ _ _ _ _ (by omega) _).trans c.c2, (off_set _ _ _ _ _ (by omega) _).trans c.c3, (off_set _ _ _ _ _ (by omega) _).trans c.c4, World.cell?_setCell_same _ _ _ c.c5, (off_set _ _ _ _ _ (by omega) _).trans c.c6, (off_set _ _ _ _ _ (by omega) _).trans c.c7, (off_set _ _ _ _ _ (by omega) _).trans c.c8⟩
theorem Cells.set6 (c : Cells W b o h kv) (x : Int) : Cells (W.setCell ⟨b, o + 6, none⟩ (.int .i64 x)) b o { h with at_ := x } kv :=
  ⟨(off_set0 _ _ _ _ (by omega) _).trans c.c0, (off_set _ _ _ _ _ (by omega) _).trans c.c1, (off_set _ _ _ _ _ (by omega) _).trans c.c2, (off_set _ _ _ _ _ (by omega) _).trans c.c3, (off_set _ _ _ _ _ (by omega) _).trans c.c4, (off_set _ _ _ _ _ (by omega) _).trans c.c5, World.cell?_setCell_same _ _ _ c.c6, (off_set _ _ _ _ _ (by omega) _).trans c.c7, (off_set _ _ _ _ _ (by omega) _).trans c.c8⟩
theorem Cells.set7 (c : Cells W b o h kv) (x : Int) : Cells (W.setCell ⟨b, o + 7, none⟩ (.int .i64 x)) b o { h with tat := x } kv :=
  ⟨(off_set0 _ _ _ _ (by omega) _).trans c.c0, (off_set _ _ _ _ _ (by omega) _).trans c.c1, (off_set _ _ _ _ _ (by omega) _).trans c.c2, (off_set _ _ _ _ _ (by omega) _).trans c.c3, (off_set _ _ _ _ _ (by omega) _).trans c.c4, (off_set _ _ _ _ _ (by omega) _).trans c.c5, (off_set _ _ _ _ _ (by omega) _).trans c.c6, World.cell?_setCell_same _ _ _ c.c7, (off_set _ _ _ _ _ (by omega) _).trans c.c8⟩
end
theorem copyOk (w : World) : ChangeOk 34 #[] id w := by
  intro W b o h a n c hW hb hr hc
  show Calls Try.prog 34 #[.pointer (some ⟨b, o, none⟩)] W _
  have HC := Lib.hid hc
  clear hc
  go_enter Try.func34, Try.ntmps34
  go_wp2_with fail
  go_end0
  exact ⟨⟨_, rfl⟩, Upd.refl _ _ _, HC.out⟩
set_option maxRecDepth 100000 in
set_option maxHeartbeats 8000000 in
theorem plainOk (w : World) : ChangeOk 33 #[] plainH w := by
  intro W b o h a n c hW hb hr hc
  show Calls Try.prog 33 #[.pointer (some ⟨b, o, none⟩)] W _
  have HC := Lib.hid hc
  have z4 := hr.frozen (o + 4)
  have z5 := hr.frozen (o + 5)
  have z6 := hr.frozen (o + 6)
  have z7 := hr.frozen (o + 7)
  obtain ⟨d0, d1, d2, d3, d4, d5, d6, d7, d8⟩ := hc
  go_enter Try.func33, Try.ntmps33
  go_wp2_with fail
  go_end0
  have U := (((Upd.set W b o 4 (by omega) (.int .i64 0)).trans (Upd.set _ b o 5 (by omega) (.int .i64 0))).trans (Upd.set _ b o 6 (by omega) (.int .i64 (-1)))).trans (Upd.set _ b o 7 (by omega) (.int .i64 (-1)))
  exact ⟨⟨_, rfl⟩, U, (((HC.out.set4 0).set5 0).set6 (-1)).set7 (-1)⟩
/-- Moved on. -/
def shH (by_ : Int) (h : Hd) : Hd := { h with fr := wrap64 (h.fr + by_), to_ := wrap64 (h.to_ + by_), at_ := if 0 ≤ h.at_ then wrap64 (h.at_ + by_) else h.at_, tat := if 0 ≤ h.tat then wrap64 (h.tat + by_) else h.tat }
structure ShSt (W V : World) (b o : Nat) (h : Hd) (kv : Value) (B : Nat) (by_ : Int) : Prop where
  upd : Upd W V b o
  rw : Rw V b (o + 9)
  cells : Cells V b o h kv
  box : V.cell? ⟨B, 0, none⟩ = some (.int .i64 by_)
section
variable {W V : World} {b o B : Nat} {h : Hd} {kv : Value} {by_ : Int}
theorem ShSt.set4 (S : ShSt W V b o h kv B by_) (hne : B ≠ b) (x : Int) : ShSt W (V.setCell ⟨b, o + 4, none⟩ (.int .i64 x)).drew b o { h with fr := x } kv B by_ := by
  have u := (Upd.set V b o 4 (by omega) (.int .i64 x)).trans (Upd.drew _ b o)
  exact ⟨S.upd.trans u, u.rw S.rw, (S.cells.set4 x).same fun _ _ => rfl, (cell_same (u.other B hne) 0).trans S.box⟩
theorem ShSt.set5 (S : ShSt W V b o h kv B by_) (hne : B ≠ b) (x : Int) : ShSt W (V.setCell ⟨b, o + 5, none⟩ (.int .i64 x)).drew b o { h with to_ := x } kv B by_ := by
  have u := (Upd.set V b o 5 (by omega) (.int .i64 x)).trans (Upd.drew _ b o)
  exact ⟨S.upd.trans u, u.rw S.rw, (S.cells.set5 x).same fun _ _ => rfl, (cell_same (u.other B hne) 0).trans S.box⟩
theorem ShSt.set6 (S : ShSt W V b o h kv B by_) (hne : B ≠ b) (x : Int) : ShSt W (V.setCell ⟨b, o + 6, none⟩ (.int .i64 x)).drew b o { h with at_ := x } kv B by_ := by
  have u := (Upd.set V b o 6 (by omega) (.int .i64 x)).trans (Upd.drew _ b o)
  exact ⟨S.upd.trans u, u.rw S.rw, (S.cells.set6 x).same fun _ _ => rfl, (cell_same (u.other B hne) 0).trans S.box⟩
theorem ShSt.set7 (S : ShSt W V b o h kv B by_) (hne : B ≠ b) (x : Int) : ShSt W (V.setCell ⟨b, o + 7, none⟩ (.int .i64 x)).drew b o { h with tat := x } kv B by_ := by
  have u := (Upd.set V b o 7 (by omega) (.int .i64 x)).trans (Upd.drew _ b o)
  exact ⟨S.upd.trans u, u.rw S.rw, (S.cells.set7 x).same fun _ _ => rfl, (cell_same (u.other B hne) 0).trans S.box⟩
end
set_option maxRecDepth 100000 in
set_option maxHeartbeats 8000000 in
theorem shiftOk (w : World) (B : Nat) (by_ : Int) (hB : w.cell? ⟨B, 0, none⟩ = some (.int .i64 by_)) : ChangeOk 32 #[.pointer (some ⟨B, 0, none⟩)] (shH by_) w := by
  intro W b o h a n c hW hb hr hc
  show Calls Try.prog 32 #[.pointer (some ⟨b, o, none⟩), .pointer (some ⟨B, 0, none⟩)] W _
  have z4 := hr.frozen (o + 4)
  have z5 := hr.frozen (o + 5)
  have z6 := hr.frozen (o + 6)
  have z7 := hr.frozen (o + 7)
  have hBl : B < w.heap.size := World.block_lt_of_cell? w _ hB
  have hne : B ≠ b := by omega
  have cb : W.cell? ⟨B, 0, none⟩ = some (.int .i64 by_) := (hW.cell (p := ⟨B, 0, none⟩) hBl).trans hB
  have SW : Hid (ShSt W W b o h (.slice a n c) B by_) := Lib.hid ⟨Upd.refl _ _ _, hr, hc, cb⟩
  obtain ⟨d0, d1, d2, d3, d4, d5, d6, d7, d8⟩ := hc
  clear hW hr hB
  obtain ⟨k, tx, ty, nn, f, t, at_, tat⟩ := h
  go_enter Try.func32, Try.ntmps32
  go_wp2_with fail
  go_region
  obtain ⟨V1, hV1⟩ : ∃ V, Hid ((W.setCell ⟨b, o + 4, none⟩ (.int .i64 (wrap64 (f + by_)))).drew = V) := ⟨_, Lib.hid rfl⟩
  have SV1 : Hid (ShSt W V1 b o ⟨k, tx, ty, nn, wrap64 (f + by_), t, at_, tat⟩ (.slice a n c) B by_) := by rw [← hV1.out]; exact Lib.hid (SW.out.set4 hne _)
  rw [hV1.out]
  clear d0 d1 d2 d3 d4 d5 d6 d7 d8 z4 z5 z6 z7 cb
  obtain ⟨d0, d1, d2, d3, d4, d5, d6, d7, d8⟩ := SV1.out.cells
  have z4 := SV1.out.rw.frozen (o + 4)
  have z5 := SV1.out.rw.frozen (o + 5)
  have z6 := SV1.out.rw.frozen (o + 6)
  have z7 := SV1.out.rw.frozen (o + 7)
  have cb := SV1.out.box
  go_wp2_with fail
  go_region
  obtain ⟨V2, hV2⟩ : ∃ V, Hid ((V1.setCell ⟨b, o + 5, none⟩ (.int .i64 (wrap64 (t + by_)))).drew = V) := ⟨_, Lib.hid rfl⟩
  have SV2 : Hid (ShSt W V2 b o ⟨k, tx, ty, nn, wrap64 (f + by_), wrap64 (t + by_), at_, tat⟩ (.slice a n c) B by_) := by rw [← hV2.out]; exact Lib.hid (SV1.out.set5 hne _)
  rw [hV2.out]
  clear d0 d1 d2 d3 d4 d5 d6 d7 d8 z4 z5 z6 z7 cb
  obtain ⟨d0, d1, d2, d3, d4, d5, d6, d7, d8⟩ := SV2.out.cells
  have z4 := SV2.out.rw.frozen (o + 4)
  have z5 := SV2.out.rw.frozen (o + 5)
  have z6 := SV2.out.rw.frozen (o + 6)
  have z7 := SV2.out.rw.frozen (o + 7)
  have cb := SV2.out.box
  by_cases ha : 0 ≤ at_
  · have fa : decide (0 ≤ at_) = true := decide_eq_true ha
    go_wp2_with fail
    go_region
    obtain ⟨V3, hV3⟩ : ∃ V, Hid ((V2.setCell ⟨b, o + 6, none⟩ (.int .i64 (wrap64 (at_ + by_)))).drew = V) := ⟨_, Lib.hid rfl⟩
    have SV3 : Hid (ShSt W V3 b o ⟨k, tx, ty, nn, wrap64 (f + by_), wrap64 (t + by_), wrap64 (at_ + by_), tat⟩ (.slice a n c) B by_) := by rw [← hV3.out]; exact Lib.hid (SV2.out.set6 hne _)
    rw [hV3.out]
    clear d0 d1 d2 d3 d4 d5 d6 d7 d8 z4 z5 z6 z7 cb
    obtain ⟨d0, d1, d2, d3, d4, d5, d6, d7, d8⟩ := SV3.out.cells
    have z4 := SV3.out.rw.frozen (o + 4)
    have z5 := SV3.out.rw.frozen (o + 5)
    have z6 := SV3.out.rw.frozen (o + 6)
    have z7 := SV3.out.rw.frozen (o + 7)
    have cb := SV3.out.box
    by_cases ht : 0 ≤ tat
    · have g : decide (0 ≤ tat) = true := decide_eq_true ht
      go_wp2_with fail
      go_region
      obtain ⟨V4, hV4⟩ : ∃ V, Hid ((V3.setCell ⟨b, o + 7, none⟩ (.int .i64 (wrap64 (tat + by_)))).drew = V) := ⟨_, Lib.hid rfl⟩
      have SV4 : Hid (ShSt W V4 b o ⟨k, tx, ty, nn, wrap64 (f + by_), wrap64 (t + by_), wrap64 (at_ + by_), wrap64 (tat + by_)⟩ (.slice a n c) B by_) := by rw [← hV4.out]; exact Lib.hid (SV3.out.set7 hne _)
      rw [hV4.out]
      clear d0 d1 d2 d3 d4 d5 d6 d7 d8 z4 z5 z6 z7 cb
      obtain ⟨d0, d1, d2, d3, d4, d5, d6, d7, d8⟩ := SV4.out.cells
      have z4 := SV4.out.rw.frozen (o + 4)
      have z5 := SV4.out.rw.frozen (o + 5)
      have z6 := SV4.out.rw.frozen (o + 6)
      have z7 := SV4.out.rw.frozen (o + 7)
      have cb := SV4.out.box
      go_wp2_with fail
      go_end0
      exact ⟨⟨_, rfl⟩, SV4.out.upd, by have e := SV4.out.cells; unfold shH; simpa only [if_pos ht, if_pos ha] using e⟩
    · have g : decide (0 ≤ tat) = false := decide_eq_false ht
      go_wp2_with fail
      go_end0
      exact ⟨⟨_, rfl⟩, SV3.out.upd, by have e := SV3.out.cells; unfold shH; simpa only [if_neg (Int.not_le.2 ht), if_pos ha] using e⟩
  · have fa : decide (0 ≤ at_) = false := decide_eq_false ha
    by_cases ht : 0 ≤ tat
    · have g : decide (0 ≤ tat) = true := decide_eq_true ht
      go_wp2_with fail
      go_region
      obtain ⟨V4, hV4⟩ : ∃ V, Hid ((V2.setCell ⟨b, o + 7, none⟩ (.int .i64 (wrap64 (tat + by_)))).drew = V) := ⟨_, Lib.hid rfl⟩
      have SV4 : Hid (ShSt W V4 b o ⟨k, tx, ty, nn, wrap64 (f + by_), wrap64 (t + by_), at_, wrap64 (tat + by_)⟩ (.slice a n c) B by_) := by rw [← hV4.out]; exact Lib.hid (SV2.out.set7 hne _)
      rw [hV4.out]
      clear d0 d1 d2 d3 d4 d5 d6 d7 d8 z4 z5 z6 z7 cb
      obtain ⟨d0, d1, d2, d3, d4, d5, d6, d7, d8⟩ := SV4.out.cells
      have z4 := SV4.out.rw.frozen (o + 4)
      have z5 := SV4.out.rw.frozen (o + 5)
      have z6 := SV4.out.rw.frozen (o + 6)
      have z7 := SV4.out.rw.frozen (o + 7)
      have cb := SV4.out.box
      go_wp2_with fail
      go_end0
      exact ⟨⟨_, rfl⟩, SV4.out.upd, by have e := SV4.out.cells; unfold shH; simpa only [if_pos ht, if_neg (Int.not_le.2 ha)] using e⟩
    · have g : decide (0 ≤ tat) = false := decide_eq_false ht
      go_wp2_with fail
      go_end0
      exact ⟨⟨_, rfl⟩, SV2.out.upd, by have e := SV2.out.cells; unfold shH; simpa only [if_neg (Int.not_le.2 ht), if_neg (Int.not_le.2 ha)] using e⟩
/-- Another name. -/
def rnA (kind : Int) (from_ : List UInt8) (h : Hd) : Bool := (h.text == from_) && ((kind == 0) || (h.kind == kind) || ((kind == 1) && (h.kind == 21)))
def rnB (kind : Int) (from_ : List UInt8) (h : Hd) : Bool := (kind == 1) && (h.type == from_)
def rnH (kind : Int) (from_ to : List UInt8) (h : Hd) : Hd :=
  { h with text := if rnA kind from_ h then to else h.text, type := if rnB kind from_ h then to else h.type }
structure RnSt (W V : World) (b o : Nat) (h : Hd) (kv : Value) (B1 B2 B3 : Nat) (kind : Int) (from_ to : List UInt8) : Prop where
  upd : Upd W V b o
  rw : Rw V b (o + 9)
  cells : Cells V b o h kv
  box1 : V.cell? ⟨B1, 0, none⟩ = some (.string (bs from_))
  box2 : V.cell? ⟨B2, 0, none⟩ = some (.int .i64 kind)
  box3 : V.cell? ⟨B3, 0, none⟩ = some (.string (bs to))
  ne1 : B1 ≠ b
  ne2 : B2 ≠ b
  ne3 : B3 ≠ b
section
variable {W V : World} {b o B1 B2 B3 : Nat} {h : Hd} {kv : Value} {kind : Int} {from_ to : List UInt8}
theorem RnSt.draws (S : RnSt W V b o h kv B1 B2 B3 kind from_ to) (q : Nat) : RnSt W (V.drewN q) b o h kv B1 B2 B3 kind from_ to :=
  ⟨S.upd.trans (Upd.draws _ _ _ _), S.rw, S.cells.same fun _ _ => rfl, S.box1, S.box2, S.box3, S.ne1, S.ne2, S.ne3⟩
theorem RnSt.set1 (S : RnSt W V b o h kv B1 B2 B3 kind from_ to) (x : List UInt8) : RnSt W (V.setCell ⟨b, o + 1, none⟩ (.string (bs x))) b o { h with text := x } kv B1 B2 B3 kind from_ to := by
  have u := Upd.set V b o 1 (by omega) (.string (bs x))
  exact ⟨S.upd.trans u, u.rw S.rw, S.cells.set1 x, (cell_same (u.other B1 S.ne1) 0).trans S.box1, (cell_same (u.other B2 S.ne2) 0).trans S.box2, (cell_same (u.other B3 S.ne3) 0).trans S.box3, S.ne1, S.ne2, S.ne3⟩
theorem RnSt.set2 (S : RnSt W V b o h kv B1 B2 B3 kind from_ to) (x : List UInt8) : RnSt W (V.setCell ⟨b, o + 2, none⟩ (.string (bs x))) b o { h with type := x } kv B1 B2 B3 kind from_ to := by
  have u := Upd.set V b o 2 (by omega) (.string (bs x))
  exact ⟨S.upd.trans u, u.rw S.rw, S.cells.set2 x, (cell_same (u.other B1 S.ne1) 0).trans S.box1, (cell_same (u.other B2 S.ne2) 0).trans S.box2, (cell_same (u.other B3 S.ne3) 0).trans S.box3, S.ne1, S.ne2, S.ne3⟩
end
set_option maxRecDepth 100000 in
set_option maxHeartbeats 8000000 in
theorem renameOk (w : World) (B1 B2 B3 : Nat) (kind : Int) (from_ to : List UInt8) (hB1 : w.cell? ⟨B1, 0, none⟩ = some (.string (bs from_))) (hB2 : w.cell? ⟨B2, 0, none⟩ = some (.int .i64 kind)) (hB3 : w.cell? ⟨B3, 0, none⟩ = some (.string (bs to))) :
    ChangeOk 28 #[.pointer (some ⟨B1, 0, none⟩), .pointer (some ⟨B2, 0, none⟩), .pointer (some ⟨B3, 0, none⟩)] (rnH kind from_ to) w := by
  intro W b o h a n c hW hb hr hc
  show Calls Try.prog 28 #[.pointer (some ⟨b, o, none⟩), .pointer (some ⟨B1, 0, none⟩), .pointer (some ⟨B2, 0, none⟩), .pointer (some ⟨B3, 0, none⟩)] W _
  have z1 := hr.frozen (o + 1)
  have z2 := hr.frozen (o + 2)
  have hl1 : B1 < w.heap.size := World.block_lt_of_cell? w _ hB1
  have hl2 : B2 < w.heap.size := World.block_lt_of_cell? w _ hB2
  have hl3 : B3 < w.heap.size := World.block_lt_of_cell? w _ hB3
  have cb1 : W.cell? ⟨B1, 0, none⟩ = some (.string (bs from_)) := (hW.cell (p := ⟨B1, 0, none⟩) hl1).trans hB1
  have cb2 : W.cell? ⟨B2, 0, none⟩ = some (.int .i64 kind) := (hW.cell (p := ⟨B2, 0, none⟩) hl2).trans hB2
  have cb3 : W.cell? ⟨B3, 0, none⟩ = some (.string (bs to)) := (hW.cell (p := ⟨B3, 0, none⟩) hl3).trans hB3
  have hn1 : B1 ≠ b := by omega
  have hn2 : B2 ≠ b := by omega
  have hn3 : B3 ≠ b := by omega
  have SW : Hid (RnSt W W b o h (.slice a n c) B1 B2 B3 kind from_ to) := Lib.hid ⟨Upd.refl _ _ _, hr, hc, cb1, cb2, cb3, hn1, hn2, hn3⟩
  obtain ⟨d0, d1, d2, d3, d4, d5, d6, d7, d8⟩ := hc
  clear hW hr hB1 hB2 hB3 hl1 hl2 hl3 hn1 hn2 hn3
  obtain ⟨k, tx, ty, nn, f, t, at_, tat⟩ := h
  have hk3 : kind = 0 ∨ kind = 1 ∨ (¬ kind = 0 ∧ ¬ kind = 1) := by omega
  rcases hk3 with rfl | rfl | ⟨h0, h1⟩
  · by_cases ha : tx = from_
    · have fa : (tx == from_) = true := by simpa using ha
      clear ha
      have E : Hid (rnH 0 from_ to ⟨k, tx, ty, nn, f, t, at_, tat⟩ = ⟨k, to, ty, nn, f, t, at_, tat⟩) := Lib.hid (by simp [rnH, rnA, rnB, fa])
      rw [E.out]
      go_enter Try.func28, Try.ntmps28
      go_wp2_with fail
      go_quiet (fail)
      obtain ⟨V1, hV1⟩ : ∃ V, Hid (W.drewN nq = V) := ⟨_, Lib.hid rfl⟩
      have S1 : Hid (RnSt W V1 b o ⟨k, tx, ty, nn, f, t, at_, tat⟩ (.slice a n c) B1 B2 B3 0 from_ to) := by rw [← hV1.out]; exact Lib.hid (SW.out.draws nq)
      rw [hV1.out]
      clear d0 d1 d2 d3 d4 d5 d6 d7 d8 z1 z2 cb1 cb2 cb3
      obtain ⟨d0, d1, d2, d3, d4, d5, d6, d7, d8⟩ := S1.out.cells
      have z1 := S1.out.rw.frozen (o + 1)
      have z2 := S1.out.rw.frozen (o + 2)
      have cb1 := S1.out.box1
      have cb2 := S1.out.box2
      have cb3 := S1.out.box3
      go_wp2_with fail
      obtain ⟨V2, hV2⟩ : ∃ V, Hid (V1.setCell ⟨b, o + 1, none⟩ (.string (bs to)) = V) := ⟨_, Lib.hid rfl⟩
      have S2 : Hid (RnSt W V2 b o ⟨k, to, ty, nn, f, t, at_, tat⟩ (.slice a n c) B1 B2 B3 0 from_ to) := by rw [← hV2.out]; exact Lib.hid (S1.out.set1 to)
      rw [hV2.out]
      clear d0 d1 d2 d3 d4 d5 d6 d7 d8 z1 z2 cb1 cb2 cb3
      obtain ⟨d0, d1, d2, d3, d4, d5, d6, d7, d8⟩ := S2.out.cells
      have z1 := S2.out.rw.frozen (o + 1)
      have z2 := S2.out.rw.frozen (o + 2)
      have cb1 := S2.out.box1
      have cb2 := S2.out.box2
      have cb3 := S2.out.box3
      go_quiet (fail)
      obtain ⟨V3, hV3⟩ : ∃ V, Hid (V2.drewN nq = V) := ⟨_, Lib.hid rfl⟩
      have S3 : Hid (RnSt W V3 b o ⟨k, to, ty, nn, f, t, at_, tat⟩ (.slice a n c) B1 B2 B3 0 from_ to) := by rw [← hV3.out]; exact Lib.hid (S2.out.draws nq)
      rw [hV3.out]
      clear d0 d1 d2 d3 d4 d5 d6 d7 d8 z1 z2 cb1 cb2 cb3
      obtain ⟨d0, d1, d2, d3, d4, d5, d6, d7, d8⟩ := S3.out.cells
      have z1 := S3.out.rw.frozen (o + 1)
      have z2 := S3.out.rw.frozen (o + 2)
      have cb1 := S3.out.box1
      have cb2 := S3.out.box2
      have cb3 := S3.out.box3
      go_wp2_with fail
      go_end0
      exact ⟨⟨_, rfl⟩, S3.out.upd, S3.out.cells⟩
    · have fa : (tx == from_) = false := by simpa using ha
      clear ha
      have E : Hid (rnH 0 from_ to ⟨k, tx, ty, nn, f, t, at_, tat⟩ = ⟨k, tx, ty, nn, f, t, at_, tat⟩) := Lib.hid (by simp [rnH, rnA, rnB, fa])
      rw [E.out]
      go_enter Try.func28, Try.ntmps28
      go_wp2_with fail
      go_quiet (fail)
      obtain ⟨V1, hV1⟩ : ∃ V, Hid (W.drewN nq = V) := ⟨_, Lib.hid rfl⟩
      have S1 : Hid (RnSt W V1 b o ⟨k, tx, ty, nn, f, t, at_, tat⟩ (.slice a n c) B1 B2 B3 0 from_ to) := by rw [← hV1.out]; exact Lib.hid (SW.out.draws nq)
      rw [hV1.out]
      clear d0 d1 d2 d3 d4 d5 d6 d7 d8 z1 z2 cb1 cb2 cb3
      obtain ⟨d0, d1, d2, d3, d4, d5, d6, d7, d8⟩ := S1.out.cells
      have z1 := S1.out.rw.frozen (o + 1)
      have z2 := S1.out.rw.frozen (o + 2)
      have cb1 := S1.out.box1
      have cb2 := S1.out.box2
      have cb3 := S1.out.box3
      go_wp2_with fail
      go_quiet (fail)
      obtain ⟨V3, hV3⟩ : ∃ V, Hid (V1.drewN nq = V) := ⟨_, Lib.hid rfl⟩
      have S3 : Hid (RnSt W V3 b o ⟨k, tx, ty, nn, f, t, at_, tat⟩ (.slice a n c) B1 B2 B3 0 from_ to) := by rw [← hV3.out]; exact Lib.hid (S1.out.draws nq)
      rw [hV3.out]
      clear d0 d1 d2 d3 d4 d5 d6 d7 d8 z1 z2 cb1 cb2 cb3
      obtain ⟨d0, d1, d2, d3, d4, d5, d6, d7, d8⟩ := S3.out.cells
      have z1 := S3.out.rw.frozen (o + 1)
      have z2 := S3.out.rw.frozen (o + 2)
      have cb1 := S3.out.box1
      have cb2 := S3.out.box2
      have cb3 := S3.out.box3
      go_wp2_with fail
      go_end0
      exact ⟨⟨_, rfl⟩, S3.out.upd, S3.out.cells⟩
  · by_cases ha : tx = from_
    · have fa : (tx == from_) = true := by simpa using ha
      clear ha
      by_cases hk : k = 1
      · have fk : (k == 1) = true := by simpa using hk
        clear hk
        by_cases hb : ty = from_
        · have fb : (ty == from_) = true := by simpa using hb
          clear hb
          have E : Hid (rnH 1 from_ to ⟨k, tx, ty, nn, f, t, at_, tat⟩ = ⟨k, to, to, nn, f, t, at_, tat⟩) := Lib.hid (by simp [rnH, rnA, rnB, fa, fk, fb])
          rw [E.out]
          go_enter Try.func28, Try.ntmps28
          go_wp2_with fail
          go_quiet (fail)
          obtain ⟨V1, hV1⟩ : ∃ V, Hid (W.drewN nq = V) := ⟨_, Lib.hid rfl⟩
          have S1 : Hid (RnSt W V1 b o ⟨k, tx, ty, nn, f, t, at_, tat⟩ (.slice a n c) B1 B2 B3 1 from_ to) := by rw [← hV1.out]; exact Lib.hid (SW.out.draws nq)
          rw [hV1.out]
          clear d0 d1 d2 d3 d4 d5 d6 d7 d8 z1 z2 cb1 cb2 cb3
          obtain ⟨d0, d1, d2, d3, d4, d5, d6, d7, d8⟩ := S1.out.cells
          have z1 := S1.out.rw.frozen (o + 1)
          have z2 := S1.out.rw.frozen (o + 2)
          have cb1 := S1.out.box1
          have cb2 := S1.out.box2
          have cb3 := S1.out.box3
          go_wp2_with fail
          obtain ⟨V2, hV2⟩ : ∃ V, Hid (V1.setCell ⟨b, o + 1, none⟩ (.string (bs to)) = V) := ⟨_, Lib.hid rfl⟩
          have S2 : Hid (RnSt W V2 b o ⟨k, to, ty, nn, f, t, at_, tat⟩ (.slice a n c) B1 B2 B3 1 from_ to) := by rw [← hV2.out]; exact Lib.hid (S1.out.set1 to)
          rw [hV2.out]
          clear d0 d1 d2 d3 d4 d5 d6 d7 d8 z1 z2 cb1 cb2 cb3
          obtain ⟨d0, d1, d2, d3, d4, d5, d6, d7, d8⟩ := S2.out.cells
          have z1 := S2.out.rw.frozen (o + 1)
          have z2 := S2.out.rw.frozen (o + 2)
          have cb1 := S2.out.box1
          have cb2 := S2.out.box2
          have cb3 := S2.out.box3
          go_quiet (fail)
          obtain ⟨V3, hV3⟩ : ∃ V, Hid (V2.drewN nq = V) := ⟨_, Lib.hid rfl⟩
          have S3 : Hid (RnSt W V3 b o ⟨k, to, ty, nn, f, t, at_, tat⟩ (.slice a n c) B1 B2 B3 1 from_ to) := by rw [← hV3.out]; exact Lib.hid (S2.out.draws nq)
          rw [hV3.out]
          clear d0 d1 d2 d3 d4 d5 d6 d7 d8 z1 z2 cb1 cb2 cb3
          obtain ⟨d0, d1, d2, d3, d4, d5, d6, d7, d8⟩ := S3.out.cells
          have z1 := S3.out.rw.frozen (o + 1)
          have z2 := S3.out.rw.frozen (o + 2)
          have cb1 := S3.out.box1
          have cb2 := S3.out.box2
          have cb3 := S3.out.box3
          go_wp2_with fail
          go_end0
          exact ⟨⟨_, rfl⟩, (S3.out.set2 to).upd, (S3.out.set2 to).cells⟩
        · have fb : (ty == from_) = false := by simpa using hb
          clear hb
          have E : Hid (rnH 1 from_ to ⟨k, tx, ty, nn, f, t, at_, tat⟩ = ⟨k, to, ty, nn, f, t, at_, tat⟩) := Lib.hid (by simp [rnH, rnA, rnB, fa, fk, fb])
          rw [E.out]
          go_enter Try.func28, Try.ntmps28
          go_wp2_with fail
          go_quiet (fail)
          obtain ⟨V1, hV1⟩ : ∃ V, Hid (W.drewN nq = V) := ⟨_, Lib.hid rfl⟩
          have S1 : Hid (RnSt W V1 b o ⟨k, tx, ty, nn, f, t, at_, tat⟩ (.slice a n c) B1 B2 B3 1 from_ to) := by rw [← hV1.out]; exact Lib.hid (SW.out.draws nq)
          rw [hV1.out]
          clear d0 d1 d2 d3 d4 d5 d6 d7 d8 z1 z2 cb1 cb2 cb3
          obtain ⟨d0, d1, d2, d3, d4, d5, d6, d7, d8⟩ := S1.out.cells
          have z1 := S1.out.rw.frozen (o + 1)
          have z2 := S1.out.rw.frozen (o + 2)
          have cb1 := S1.out.box1
          have cb2 := S1.out.box2
          have cb3 := S1.out.box3
          go_wp2_with fail
          obtain ⟨V2, hV2⟩ : ∃ V, Hid (V1.setCell ⟨b, o + 1, none⟩ (.string (bs to)) = V) := ⟨_, Lib.hid rfl⟩
          have S2 : Hid (RnSt W V2 b o ⟨k, to, ty, nn, f, t, at_, tat⟩ (.slice a n c) B1 B2 B3 1 from_ to) := by rw [← hV2.out]; exact Lib.hid (S1.out.set1 to)
          rw [hV2.out]
          clear d0 d1 d2 d3 d4 d5 d6 d7 d8 z1 z2 cb1 cb2 cb3
          obtain ⟨d0, d1, d2, d3, d4, d5, d6, d7, d8⟩ := S2.out.cells
          have z1 := S2.out.rw.frozen (o + 1)
          have z2 := S2.out.rw.frozen (o + 2)
          have cb1 := S2.out.box1
          have cb2 := S2.out.box2
          have cb3 := S2.out.box3
          go_quiet (fail)
          obtain ⟨V3, hV3⟩ : ∃ V, Hid (V2.drewN nq = V) := ⟨_, Lib.hid rfl⟩
          have S3 : Hid (RnSt W V3 b o ⟨k, to, ty, nn, f, t, at_, tat⟩ (.slice a n c) B1 B2 B3 1 from_ to) := by rw [← hV3.out]; exact Lib.hid (S2.out.draws nq)
          rw [hV3.out]
          clear d0 d1 d2 d3 d4 d5 d6 d7 d8 z1 z2 cb1 cb2 cb3
          obtain ⟨d0, d1, d2, d3, d4, d5, d6, d7, d8⟩ := S3.out.cells
          have z1 := S3.out.rw.frozen (o + 1)
          have z2 := S3.out.rw.frozen (o + 2)
          have cb1 := S3.out.box1
          have cb2 := S3.out.box2
          have cb3 := S3.out.box3
          go_wp2_with fail
          go_end0
          exact ⟨⟨_, rfl⟩, S3.out.upd, S3.out.cells⟩
      · have fk : (k == 1) = false := by simpa using hk
        clear hk
        by_cases hk : k = 21
        · have fk2 : (k == 21) = true := by simpa using hk
          clear hk
          by_cases hb : ty = from_
          · have fb : (ty == from_) = true := by simpa using hb
            clear hb
            have E : Hid (rnH 1 from_ to ⟨k, tx, ty, nn, f, t, at_, tat⟩ = ⟨k, to, to, nn, f, t, at_, tat⟩) := Lib.hid (by simp [rnH, rnA, rnB, fa, fk, fk2, fb])
            rw [E.out]
            go_enter Try.func28, Try.ntmps28
            go_wp2_with fail
            go_quiet (fail)
            obtain ⟨V1, hV1⟩ : ∃ V, Hid (W.drewN nq = V) := ⟨_, Lib.hid rfl⟩
            have S1 : Hid (RnSt W V1 b o ⟨k, tx, ty, nn, f, t, at_, tat⟩ (.slice a n c) B1 B2 B3 1 from_ to) := by rw [← hV1.out]; exact Lib.hid (SW.out.draws nq)
            rw [hV1.out]
            clear d0 d1 d2 d3 d4 d5 d6 d7 d8 z1 z2 cb1 cb2 cb3
            obtain ⟨d0, d1, d2, d3, d4, d5, d6, d7, d8⟩ := S1.out.cells
            have z1 := S1.out.rw.frozen (o + 1)
            have z2 := S1.out.rw.frozen (o + 2)
            have cb1 := S1.out.box1
            have cb2 := S1.out.box2
            have cb3 := S1.out.box3
            go_wp2_with fail
            obtain ⟨V2, hV2⟩ : ∃ V, Hid (V1.setCell ⟨b, o + 1, none⟩ (.string (bs to)) = V) := ⟨_, Lib.hid rfl⟩
            have S2 : Hid (RnSt W V2 b o ⟨k, to, ty, nn, f, t, at_, tat⟩ (.slice a n c) B1 B2 B3 1 from_ to) := by rw [← hV2.out]; exact Lib.hid (S1.out.set1 to)
            rw [hV2.out]
            clear d0 d1 d2 d3 d4 d5 d6 d7 d8 z1 z2 cb1 cb2 cb3
            obtain ⟨d0, d1, d2, d3, d4, d5, d6, d7, d8⟩ := S2.out.cells
            have z1 := S2.out.rw.frozen (o + 1)
            have z2 := S2.out.rw.frozen (o + 2)
            have cb1 := S2.out.box1
            have cb2 := S2.out.box2
            have cb3 := S2.out.box3
            go_quiet (fail)
            obtain ⟨V3, hV3⟩ : ∃ V, Hid (V2.drewN nq = V) := ⟨_, Lib.hid rfl⟩
            have S3 : Hid (RnSt W V3 b o ⟨k, to, ty, nn, f, t, at_, tat⟩ (.slice a n c) B1 B2 B3 1 from_ to) := by rw [← hV3.out]; exact Lib.hid (S2.out.draws nq)
            rw [hV3.out]
            clear d0 d1 d2 d3 d4 d5 d6 d7 d8 z1 z2 cb1 cb2 cb3
            obtain ⟨d0, d1, d2, d3, d4, d5, d6, d7, d8⟩ := S3.out.cells
            have z1 := S3.out.rw.frozen (o + 1)
            have z2 := S3.out.rw.frozen (o + 2)
            have cb1 := S3.out.box1
            have cb2 := S3.out.box2
            have cb3 := S3.out.box3
            go_wp2_with fail
            go_end0
            exact ⟨⟨_, rfl⟩, (S3.out.set2 to).upd, (S3.out.set2 to).cells⟩
          · have fb : (ty == from_) = false := by simpa using hb
            clear hb
            have E : Hid (rnH 1 from_ to ⟨k, tx, ty, nn, f, t, at_, tat⟩ = ⟨k, to, ty, nn, f, t, at_, tat⟩) := Lib.hid (by simp [rnH, rnA, rnB, fa, fk, fk2, fb])
            rw [E.out]
            go_enter Try.func28, Try.ntmps28
            go_wp2_with fail
            go_quiet (fail)
            obtain ⟨V1, hV1⟩ : ∃ V, Hid (W.drewN nq = V) := ⟨_, Lib.hid rfl⟩
            have S1 : Hid (RnSt W V1 b o ⟨k, tx, ty, nn, f, t, at_, tat⟩ (.slice a n c) B1 B2 B3 1 from_ to) := by rw [← hV1.out]; exact Lib.hid (SW.out.draws nq)
            rw [hV1.out]
            clear d0 d1 d2 d3 d4 d5 d6 d7 d8 z1 z2 cb1 cb2 cb3
            obtain ⟨d0, d1, d2, d3, d4, d5, d6, d7, d8⟩ := S1.out.cells
            have z1 := S1.out.rw.frozen (o + 1)
            have z2 := S1.out.rw.frozen (o + 2)
            have cb1 := S1.out.box1
            have cb2 := S1.out.box2
            have cb3 := S1.out.box3
            go_wp2_with fail
            obtain ⟨V2, hV2⟩ : ∃ V, Hid (V1.setCell ⟨b, o + 1, none⟩ (.string (bs to)) = V) := ⟨_, Lib.hid rfl⟩
            have S2 : Hid (RnSt W V2 b o ⟨k, to, ty, nn, f, t, at_, tat⟩ (.slice a n c) B1 B2 B3 1 from_ to) := by rw [← hV2.out]; exact Lib.hid (S1.out.set1 to)
            rw [hV2.out]
            clear d0 d1 d2 d3 d4 d5 d6 d7 d8 z1 z2 cb1 cb2 cb3
            obtain ⟨d0, d1, d2, d3, d4, d5, d6, d7, d8⟩ := S2.out.cells
            have z1 := S2.out.rw.frozen (o + 1)
            have z2 := S2.out.rw.frozen (o + 2)
            have cb1 := S2.out.box1
            have cb2 := S2.out.box2
            have cb3 := S2.out.box3
            go_quiet (fail)
            obtain ⟨V3, hV3⟩ : ∃ V, Hid (V2.drewN nq = V) := ⟨_, Lib.hid rfl⟩
            have S3 : Hid (RnSt W V3 b o ⟨k, to, ty, nn, f, t, at_, tat⟩ (.slice a n c) B1 B2 B3 1 from_ to) := by rw [← hV3.out]; exact Lib.hid (S2.out.draws nq)
            rw [hV3.out]
            clear d0 d1 d2 d3 d4 d5 d6 d7 d8 z1 z2 cb1 cb2 cb3
            obtain ⟨d0, d1, d2, d3, d4, d5, d6, d7, d8⟩ := S3.out.cells
            have z1 := S3.out.rw.frozen (o + 1)
            have z2 := S3.out.rw.frozen (o + 2)
            have cb1 := S3.out.box1
            have cb2 := S3.out.box2
            have cb3 := S3.out.box3
            go_wp2_with fail
            go_end0
            exact ⟨⟨_, rfl⟩, S3.out.upd, S3.out.cells⟩
        · have fk2 : (k == 21) = false := by simpa using hk
          clear hk
          by_cases hb : ty = from_
          · have fb : (ty == from_) = true := by simpa using hb
            clear hb
            have E : Hid (rnH 1 from_ to ⟨k, tx, ty, nn, f, t, at_, tat⟩ = ⟨k, tx, to, nn, f, t, at_, tat⟩) := Lib.hid (by simp [rnH, rnA, rnB, fa, fk, fk2, fb])
            rw [E.out]
            go_enter Try.func28, Try.ntmps28
            go_wp2_with fail
            go_quiet (fail)
            obtain ⟨V1, hV1⟩ : ∃ V, Hid (W.drewN nq = V) := ⟨_, Lib.hid rfl⟩
            have S1 : Hid (RnSt W V1 b o ⟨k, tx, ty, nn, f, t, at_, tat⟩ (.slice a n c) B1 B2 B3 1 from_ to) := by rw [← hV1.out]; exact Lib.hid (SW.out.draws nq)
            rw [hV1.out]
            clear d0 d1 d2 d3 d4 d5 d6 d7 d8 z1 z2 cb1 cb2 cb3
            obtain ⟨d0, d1, d2, d3, d4, d5, d6, d7, d8⟩ := S1.out.cells
            have z1 := S1.out.rw.frozen (o + 1)
            have z2 := S1.out.rw.frozen (o + 2)
            have cb1 := S1.out.box1
            have cb2 := S1.out.box2
            have cb3 := S1.out.box3
            go_wp2_with fail
            go_quiet (fail)
            obtain ⟨V3, hV3⟩ : ∃ V, Hid (V1.drewN nq = V) := ⟨_, Lib.hid rfl⟩
            have S3 : Hid (RnSt W V3 b o ⟨k, tx, ty, nn, f, t, at_, tat⟩ (.slice a n c) B1 B2 B3 1 from_ to) := by rw [← hV3.out]; exact Lib.hid (S1.out.draws nq)
            rw [hV3.out]
            clear d0 d1 d2 d3 d4 d5 d6 d7 d8 z1 z2 cb1 cb2 cb3
            obtain ⟨d0, d1, d2, d3, d4, d5, d6, d7, d8⟩ := S3.out.cells
            have z1 := S3.out.rw.frozen (o + 1)
            have z2 := S3.out.rw.frozen (o + 2)
            have cb1 := S3.out.box1
            have cb2 := S3.out.box2
            have cb3 := S3.out.box3
            go_wp2_with fail
            go_end0
            exact ⟨⟨_, rfl⟩, (S3.out.set2 to).upd, (S3.out.set2 to).cells⟩
          · have fb : (ty == from_) = false := by simpa using hb
            clear hb
            have E : Hid (rnH 1 from_ to ⟨k, tx, ty, nn, f, t, at_, tat⟩ = ⟨k, tx, ty, nn, f, t, at_, tat⟩) := Lib.hid (by simp [rnH, rnA, rnB, fa, fk, fk2, fb])
            rw [E.out]
            go_enter Try.func28, Try.ntmps28
            go_wp2_with fail
            go_quiet (fail)
            obtain ⟨V1, hV1⟩ : ∃ V, Hid (W.drewN nq = V) := ⟨_, Lib.hid rfl⟩
            have S1 : Hid (RnSt W V1 b o ⟨k, tx, ty, nn, f, t, at_, tat⟩ (.slice a n c) B1 B2 B3 1 from_ to) := by rw [← hV1.out]; exact Lib.hid (SW.out.draws nq)
            rw [hV1.out]
            clear d0 d1 d2 d3 d4 d5 d6 d7 d8 z1 z2 cb1 cb2 cb3
            obtain ⟨d0, d1, d2, d3, d4, d5, d6, d7, d8⟩ := S1.out.cells
            have z1 := S1.out.rw.frozen (o + 1)
            have z2 := S1.out.rw.frozen (o + 2)
            have cb1 := S1.out.box1
            have cb2 := S1.out.box2
            have cb3 := S1.out.box3
            go_wp2_with fail
            go_quiet (fail)
            obtain ⟨V3, hV3⟩ : ∃ V, Hid (V1.drewN nq = V) := ⟨_, Lib.hid rfl⟩
            have S3 : Hid (RnSt W V3 b o ⟨k, tx, ty, nn, f, t, at_, tat⟩ (.slice a n c) B1 B2 B3 1 from_ to) := by rw [← hV3.out]; exact Lib.hid (S1.out.draws nq)
            rw [hV3.out]
            clear d0 d1 d2 d3 d4 d5 d6 d7 d8 z1 z2 cb1 cb2 cb3
            obtain ⟨d0, d1, d2, d3, d4, d5, d6, d7, d8⟩ := S3.out.cells
            have z1 := S3.out.rw.frozen (o + 1)
            have z2 := S3.out.rw.frozen (o + 2)
            have cb1 := S3.out.box1
            have cb2 := S3.out.box2
            have cb3 := S3.out.box3
            go_wp2_with fail
            go_end0
            exact ⟨⟨_, rfl⟩, S3.out.upd, S3.out.cells⟩
    · have fa : (tx == from_) = false := by simpa using ha
      clear ha
      by_cases hb : ty = from_
      · have fb : (ty == from_) = true := by simpa using hb
        clear hb
        have E : Hid (rnH 1 from_ to ⟨k, tx, ty, nn, f, t, at_, tat⟩ = ⟨k, tx, to, nn, f, t, at_, tat⟩) := Lib.hid (by simp [rnH, rnA, rnB, fa, fb])
        rw [E.out]
        go_enter Try.func28, Try.ntmps28
        go_wp2_with fail
        go_quiet (fail)
        obtain ⟨V1, hV1⟩ : ∃ V, Hid (W.drewN nq = V) := ⟨_, Lib.hid rfl⟩
        have S1 : Hid (RnSt W V1 b o ⟨k, tx, ty, nn, f, t, at_, tat⟩ (.slice a n c) B1 B2 B3 1 from_ to) := by rw [← hV1.out]; exact Lib.hid (SW.out.draws nq)
        rw [hV1.out]
        clear d0 d1 d2 d3 d4 d5 d6 d7 d8 z1 z2 cb1 cb2 cb3
        obtain ⟨d0, d1, d2, d3, d4, d5, d6, d7, d8⟩ := S1.out.cells
        have z1 := S1.out.rw.frozen (o + 1)
        have z2 := S1.out.rw.frozen (o + 2)
        have cb1 := S1.out.box1
        have cb2 := S1.out.box2
        have cb3 := S1.out.box3
        go_wp2_with fail
        go_quiet (fail)
        obtain ⟨V3, hV3⟩ : ∃ V, Hid (V1.drewN nq = V) := ⟨_, Lib.hid rfl⟩
        have S3 : Hid (RnSt W V3 b o ⟨k, tx, ty, nn, f, t, at_, tat⟩ (.slice a n c) B1 B2 B3 1 from_ to) := by rw [← hV3.out]; exact Lib.hid (S1.out.draws nq)
        rw [hV3.out]
        clear d0 d1 d2 d3 d4 d5 d6 d7 d8 z1 z2 cb1 cb2 cb3
        obtain ⟨d0, d1, d2, d3, d4, d5, d6, d7, d8⟩ := S3.out.cells
        have z1 := S3.out.rw.frozen (o + 1)
        have z2 := S3.out.rw.frozen (o + 2)
        have cb1 := S3.out.box1
        have cb2 := S3.out.box2
        have cb3 := S3.out.box3
        go_wp2_with fail
        go_end0
        exact ⟨⟨_, rfl⟩, (S3.out.set2 to).upd, (S3.out.set2 to).cells⟩
      · have fb : (ty == from_) = false := by simpa using hb
        clear hb
        have E : Hid (rnH 1 from_ to ⟨k, tx, ty, nn, f, t, at_, tat⟩ = ⟨k, tx, ty, nn, f, t, at_, tat⟩) := Lib.hid (by simp [rnH, rnA, rnB, fa, fb])
        rw [E.out]
        go_enter Try.func28, Try.ntmps28
        go_wp2_with fail
        go_quiet (fail)
        obtain ⟨V1, hV1⟩ : ∃ V, Hid (W.drewN nq = V) := ⟨_, Lib.hid rfl⟩
        have S1 : Hid (RnSt W V1 b o ⟨k, tx, ty, nn, f, t, at_, tat⟩ (.slice a n c) B1 B2 B3 1 from_ to) := by rw [← hV1.out]; exact Lib.hid (SW.out.draws nq)
        rw [hV1.out]
        clear d0 d1 d2 d3 d4 d5 d6 d7 d8 z1 z2 cb1 cb2 cb3
        obtain ⟨d0, d1, d2, d3, d4, d5, d6, d7, d8⟩ := S1.out.cells
        have z1 := S1.out.rw.frozen (o + 1)
        have z2 := S1.out.rw.frozen (o + 2)
        have cb1 := S1.out.box1
        have cb2 := S1.out.box2
        have cb3 := S1.out.box3
        go_wp2_with fail
        go_quiet (fail)
        obtain ⟨V3, hV3⟩ : ∃ V, Hid (V1.drewN nq = V) := ⟨_, Lib.hid rfl⟩
        have S3 : Hid (RnSt W V3 b o ⟨k, tx, ty, nn, f, t, at_, tat⟩ (.slice a n c) B1 B2 B3 1 from_ to) := by rw [← hV3.out]; exact Lib.hid (S1.out.draws nq)
        rw [hV3.out]
        clear d0 d1 d2 d3 d4 d5 d6 d7 d8 z1 z2 cb1 cb2 cb3
        obtain ⟨d0, d1, d2, d3, d4, d5, d6, d7, d8⟩ := S3.out.cells
        have z1 := S3.out.rw.frozen (o + 1)
        have z2 := S3.out.rw.frozen (o + 2)
        have cb1 := S3.out.box1
        have cb2 := S3.out.box2
        have cb3 := S3.out.box3
        go_wp2_with fail
        go_end0
        exact ⟨⟨_, rfl⟩, S3.out.upd, S3.out.cells⟩
  · have f0 : (kind == 0) = false := by simpa using h0
    have f1 : (kind == 1) = false := by simpa using h1
    clear h0 h1
    by_cases ha : tx = from_
    · have fa : (tx == from_) = true := by simpa using ha
      clear ha
      by_cases hk : k = kind
      · have fk : (k == kind) = true := by simpa using hk
        clear hk
        have E : Hid (rnH kind from_ to ⟨k, tx, ty, nn, f, t, at_, tat⟩ = ⟨k, to, ty, nn, f, t, at_, tat⟩) := Lib.hid (by simp [rnH, rnA, rnB, f0, f1, fa, fk])
        rw [E.out]
        go_enter Try.func28, Try.ntmps28
        go_wp2_with fail
        go_quiet (fail)
        obtain ⟨V1, hV1⟩ : ∃ V, Hid (W.drewN nq = V) := ⟨_, Lib.hid rfl⟩
        have S1 : Hid (RnSt W V1 b o ⟨k, tx, ty, nn, f, t, at_, tat⟩ (.slice a n c) B1 B2 B3 kind from_ to) := by rw [← hV1.out]; exact Lib.hid (SW.out.draws nq)
        rw [hV1.out]
        clear d0 d1 d2 d3 d4 d5 d6 d7 d8 z1 z2 cb1 cb2 cb3
        obtain ⟨d0, d1, d2, d3, d4, d5, d6, d7, d8⟩ := S1.out.cells
        have z1 := S1.out.rw.frozen (o + 1)
        have z2 := S1.out.rw.frozen (o + 2)
        have cb1 := S1.out.box1
        have cb2 := S1.out.box2
        have cb3 := S1.out.box3
        go_wp2_with fail
        obtain ⟨V2, hV2⟩ : ∃ V, Hid (V1.setCell ⟨b, o + 1, none⟩ (.string (bs to)) = V) := ⟨_, Lib.hid rfl⟩
        have S2 : Hid (RnSt W V2 b o ⟨k, to, ty, nn, f, t, at_, tat⟩ (.slice a n c) B1 B2 B3 kind from_ to) := by rw [← hV2.out]; exact Lib.hid (S1.out.set1 to)
        rw [hV2.out]
        clear d0 d1 d2 d3 d4 d5 d6 d7 d8 z1 z2 cb1 cb2 cb3
        obtain ⟨d0, d1, d2, d3, d4, d5, d6, d7, d8⟩ := S2.out.cells
        have z1 := S2.out.rw.frozen (o + 1)
        have z2 := S2.out.rw.frozen (o + 2)
        have cb1 := S2.out.box1
        have cb2 := S2.out.box2
        have cb3 := S2.out.box3
        go_quiet (fail)
        obtain ⟨V3, hV3⟩ : ∃ V, Hid (V2.drewN nq = V) := ⟨_, Lib.hid rfl⟩
        have S3 : Hid (RnSt W V3 b o ⟨k, to, ty, nn, f, t, at_, tat⟩ (.slice a n c) B1 B2 B3 kind from_ to) := by rw [← hV3.out]; exact Lib.hid (S2.out.draws nq)
        rw [hV3.out]
        clear d0 d1 d2 d3 d4 d5 d6 d7 d8 z1 z2 cb1 cb2 cb3
        obtain ⟨d0, d1, d2, d3, d4, d5, d6, d7, d8⟩ := S3.out.cells
        have z1 := S3.out.rw.frozen (o + 1)
        have z2 := S3.out.rw.frozen (o + 2)
        have cb1 := S3.out.box1
        have cb2 := S3.out.box2
        have cb3 := S3.out.box3
        go_wp2_with fail
        go_end0
        exact ⟨⟨_, rfl⟩, S3.out.upd, S3.out.cells⟩
      · have fk : (k == kind) = false := by simpa using hk
        clear hk
        have E : Hid (rnH kind from_ to ⟨k, tx, ty, nn, f, t, at_, tat⟩ = ⟨k, tx, ty, nn, f, t, at_, tat⟩) := Lib.hid (by simp [rnH, rnA, rnB, f0, f1, fa, fk])
        rw [E.out]
        go_enter Try.func28, Try.ntmps28
        go_wp2_with fail
        go_quiet (fail)
        obtain ⟨V1, hV1⟩ : ∃ V, Hid (W.drewN nq = V) := ⟨_, Lib.hid rfl⟩
        have S1 : Hid (RnSt W V1 b o ⟨k, tx, ty, nn, f, t, at_, tat⟩ (.slice a n c) B1 B2 B3 kind from_ to) := by rw [← hV1.out]; exact Lib.hid (SW.out.draws nq)
        rw [hV1.out]
        clear d0 d1 d2 d3 d4 d5 d6 d7 d8 z1 z2 cb1 cb2 cb3
        obtain ⟨d0, d1, d2, d3, d4, d5, d6, d7, d8⟩ := S1.out.cells
        have z1 := S1.out.rw.frozen (o + 1)
        have z2 := S1.out.rw.frozen (o + 2)
        have cb1 := S1.out.box1
        have cb2 := S1.out.box2
        have cb3 := S1.out.box3
        go_wp2_with fail
        go_quiet (fail)
        obtain ⟨V3, hV3⟩ : ∃ V, Hid (V1.drewN nq = V) := ⟨_, Lib.hid rfl⟩
        have S3 : Hid (RnSt W V3 b o ⟨k, tx, ty, nn, f, t, at_, tat⟩ (.slice a n c) B1 B2 B3 kind from_ to) := by rw [← hV3.out]; exact Lib.hid (S1.out.draws nq)
        rw [hV3.out]
        clear d0 d1 d2 d3 d4 d5 d6 d7 d8 z1 z2 cb1 cb2 cb3
        obtain ⟨d0, d1, d2, d3, d4, d5, d6, d7, d8⟩ := S3.out.cells
        have z1 := S3.out.rw.frozen (o + 1)
        have z2 := S3.out.rw.frozen (o + 2)
        have cb1 := S3.out.box1
        have cb2 := S3.out.box2
        have cb3 := S3.out.box3
        go_wp2_with fail
        go_end0
        exact ⟨⟨_, rfl⟩, S3.out.upd, S3.out.cells⟩
    · have fa : (tx == from_) = false := by simpa using ha
      clear ha
      have E : Hid (rnH kind from_ to ⟨k, tx, ty, nn, f, t, at_, tat⟩ = ⟨k, tx, ty, nn, f, t, at_, tat⟩) := Lib.hid (by simp [rnH, rnA, rnB, f0, f1, fa])
      rw [E.out]
      go_enter Try.func28, Try.ntmps28
      go_wp2_with fail
      go_quiet (fail)
      obtain ⟨V1, hV1⟩ : ∃ V, Hid (W.drewN nq = V) := ⟨_, Lib.hid rfl⟩
      have S1 : Hid (RnSt W V1 b o ⟨k, tx, ty, nn, f, t, at_, tat⟩ (.slice a n c) B1 B2 B3 kind from_ to) := by rw [← hV1.out]; exact Lib.hid (SW.out.draws nq)
      rw [hV1.out]
      clear d0 d1 d2 d3 d4 d5 d6 d7 d8 z1 z2 cb1 cb2 cb3
      obtain ⟨d0, d1, d2, d3, d4, d5, d6, d7, d8⟩ := S1.out.cells
      have z1 := S1.out.rw.frozen (o + 1)
      have z2 := S1.out.rw.frozen (o + 2)
      have cb1 := S1.out.box1
      have cb2 := S1.out.box2
      have cb3 := S1.out.box3
      go_wp2_with fail
      go_quiet (fail)
      obtain ⟨V3, hV3⟩ : ∃ V, Hid (V1.drewN nq = V) := ⟨_, Lib.hid rfl⟩
      have S3 : Hid (RnSt W V3 b o ⟨k, tx, ty, nn, f, t, at_, tat⟩ (.slice a n c) B1 B2 B3 kind from_ to) := by rw [← hV3.out]; exact Lib.hid (S1.out.draws nq)
      rw [hV3.out]
      clear d0 d1 d2 d3 d4 d5 d6 d7 d8 z1 z2 cb1 cb2 cb3
      obtain ⟨d0, d1, d2, d3, d4, d5, d6, d7, d8⟩ := S3.out.cells
      have z1 := S3.out.rw.frozen (o + 1)
      have z2 := S3.out.rw.frozen (o + 2)
      have cb1 := S3.out.box1
      have cb2 := S3.out.box2
      have cb3 := S3.out.box3
      go_wp2_with fail
      go_end0
      exact ⟨⟨_, rfl⟩, S3.out.upd, S3.out.cells⟩
end Go.Proofs.Ytpnfjiglphogoac
