/-
  For the laws of node: Plain, Shift, Rename and a copy of any tree. Condition: at most 2,000,000 nodes.
-/
import Derived.Test.YtpnfjiglphogoacClo
namespace Go.Proofs.Ytpnfjiglphogoac
open Go.RowKit Go.Shelf
set_option linter.unusedSimpArgs false
set_option linter.unusedVariables false

def Zero9 : Array Value := #[.int .i64 0, .string ⟨#[]⟩, .string ⟨#[]⟩, .int .i64 0, .int .i64 0, .int .i64 0, .int .i64 0, .int .i64 0, .slice none 0 0]
/-- A whole node stored. -/
theorem nine {wr : World} {rb : Nat} {a b c d e f g h i : Value} (R : RowAt wr rb 24 #[a, b, c, d, e, f, g, h, i]) (h2 : Hd) (v : Value) : RowAt (((((((((wr.setCell ⟨rb, 0, none⟩ (.int .i64 h2.kind)).setCell ⟨rb, 1, none⟩ (.string (bs h2.text))).setCell ⟨rb, 2, none⟩ (.string (bs h2.type))).setCell ⟨rb, 3, none⟩ (.int .i64 h2.n)).setCell ⟨rb, 4, none⟩ (.int .i64 h2.fr)).setCell ⟨rb, 5, none⟩ (.int .i64 h2.to_)).setCell ⟨rb, 6, none⟩ (.int .i64 h2.at_)).setCell ⟨rb, 7, none⟩ (.int .i64 h2.tat)).setCell ⟨rb, 8, none⟩ v) rb 24 (h2.vals v) ∧ Upd wr (((((((((wr.setCell ⟨rb, 0, none⟩ (.int .i64 h2.kind)).setCell ⟨rb, 1, none⟩ (.string (bs h2.text))).setCell ⟨rb, 2, none⟩ (.string (bs h2.type))).setCell ⟨rb, 3, none⟩ (.int .i64 h2.n)).setCell ⟨rb, 4, none⟩ (.int .i64 h2.fr)).setCell ⟨rb, 5, none⟩ (.int .i64 h2.to_)).setCell ⟨rb, 6, none⟩ (.int .i64 h2.at_)).setCell ⟨rb, 7, none⟩ (.int .i64 h2.tat)).setCell ⟨rb, 8, none⟩ v) rb 0 := by
  have R9 := ((((((((R.set 0 (.int .i64 h2.kind)).set 1 (.string (bs h2.text))).set 2 (.string (bs h2.type))).set 3 (.int .i64 h2.n)).set 4 (.int .i64 h2.fr)).set 5 (.int .i64 h2.to_)).set 6 (.int .i64 h2.at_)).set 7 (.int .i64 h2.tat)).set 8 v
  have U9 := ((((((((Upd.set wr rb 0 0 (by omega) (.int .i64 h2.kind)).trans (Upd.set _ rb 0 1 (by omega) (.string (bs h2.text)))).trans (Upd.set _ rb 0 2 (by omega) (.string (bs h2.type)))).trans (Upd.set _ rb 0 3 (by omega) (.int .i64 h2.n))).trans (Upd.set _ rb 0 4 (by omega) (.int .i64 h2.fr))).trans (Upd.set _ rb 0 5 (by omega) (.int .i64 h2.to_))).trans (Upd.set _ rb 0 6 (by omega) (.int .i64 h2.at_))).trans (Upd.set _ rb 0 7 (by omega) (.int .i64 h2.tat))).trans (Upd.set _ rb 0 8 (by omega) v)
  simp only [Nat.zero_add] at U9
  simp only [List.setIfInBounds_toArray, List.set_cons_zero, List.set_cons_succ] at R9
  exact ⟨R9, U9⟩
/-- What is stored in a block of its own doesn't touch the answer. -/
theorem ChgIs.stored {f : Hd → Hd} {w w1 w2 W9 : World} {T : Nd} {kv : Value} {F : List Nat} {rb : Nat} (hs : SepAt w2 (mapL f T.kids) kv F) (hn : F.Nodup) (hF : ∀ N ∈ F, w1.heap.size ≤ N) (hb : Below w1.heap.size w1 w2) (h1 : Below w.heap.size w w1) (hr : rb < w1.heap.size) (hr2 : w.heap.size ≤ rb) (U : Upd w2 W9 rb 0) {h2 : Hd} (he : f T.hd = h2) : ChgIs f w T (.returned (h2.agg kv)) W9 := by
  have := h1.size
  exact ⟨kv, F, by rw [he], hs.keep fun b hb' => U.other b (by have := hF b hb'; omega), hn, fun N hN => by have := hF N hN; omega, h1.trans ((hb.mono this).trans (U.below _ hr2))⟩
set_option maxRecDepth 100000 in
set_option maxHeartbeats 8000000 in
theorem Plain_any (T : Nd) (kv : Value) (w : World) (hm : T.cnt ≤ 2000000) (hk : KidsAt w T.kids kv) :
    Calls Try.prog 20 #[.agg #[.int .i64 T.hd.kind, .string (bs T.hd.text), .string (bs T.hd.type), .int .i64 T.hd.n, .int .i64 T.hd.fr, .int .i64 T.hd.to_, .int .i64 T.hd.at_, .int .i64 T.hd.tat, kv]] w fun e w' => ChgIs plainH w T e w' := by
  obtain ⟨a0, cap0, rfl, -⟩ := hk.get
  have HK := Lib.hid hk
  clear hk
  obtain ⟨n, hn⟩ : ∃ n, Hid (T.kids.length = n) := ⟨_, Lib.hid rfl⟩
  rw [hn.out] at HK
  rw [hn.out]
  obtain ⟨W1, hW1⟩ : ∃ W1, Hid (((w.alloc (.cells #[.int .i64 T.hd.kind, .string (bs T.hd.text), .string (bs T.hd.type), .int .i64 T.hd.n, .int .i64 T.hd.fr, .int .i64 T.hd.to_, .int .i64 T.hd.at_, .int .i64 T.hd.tat, .slice a0 n cap0] 24)).alloc (.cells #[.int .i64 0, .string ⟨#[]⟩, .string ⟨#[]⟩, .int .i64 0, .int .i64 0, .int .i64 0, .int .i64 0, .int .i64 0, .slice none 0 0] 24)) = W1) := ⟨_, Lib.hid rfl⟩
  have B1 : Hid (Below w.heap.size w W1) := by rw [← hW1.out]; exact Lib.hid (((Below.refl _ w).alloc (by simp; try omega) _).alloc (by simp; try omega) _)
  have hs1 : W1.heap.size = w.heap.size + 2 := by rw [← hW1.out]; simp
  have X0 : RowAt W1 (w.heap.size) 24 #[.int .i64 T.hd.kind, .string (bs T.hd.text), .string (bs T.hd.type), .int .i64 T.hd.n, .int .i64 T.hd.fr, .int .i64 T.hd.to_, .int .i64 T.hd.at_, .int .i64 T.hd.tat, .slice a0 n cap0] := by
    rw [← hW1.out]
    have := ((RowAt.new w 24 #[.int .i64 T.hd.kind, .string (bs T.hd.text), .string (bs T.hd.type), .int .i64 T.hd.n, .int .i64 T.hd.fr, .int .i64 T.hd.to_, .int .i64 T.hd.at_, .int .i64 T.hd.tat, .slice a0 n cap0]).alloc (.cells #[.int .i64 0, .string ⟨#[]⟩, .string ⟨#[]⟩, .int .i64 0, .int .i64 0, .int .i64 0, .int .i64 0, .int .i64 0, .slice none 0 0] 24))
    try simp only [World.size_alloc] at this
    exact this
  have XR : RowAt W1 (w.heap.size + 1) 24 #[.int .i64 0, .string ⟨#[]⟩, .string ⟨#[]⟩, .int .i64 0, .int .i64 0, .int .i64 0, .int .i64 0, .int .i64 0, .slice none 0 0] := by
    rw [← hW1.out]
    have := RowAt.new (w.alloc (.cells #[.int .i64 T.hd.kind, .string (bs T.hd.text), .string (bs T.hd.type), .int .i64 T.hd.n, .int .i64 T.hd.fr, .int .i64 T.hd.to_, .int .i64 T.hd.at_, .int .i64 T.hd.tat, .slice a0 n cap0] 24)) 24 #[.int .i64 0, .string ⟨#[]⟩, .string ⟨#[]⟩, .int .i64 0, .int .i64 0, .int .i64 0, .int .i64 0, .int .i64 0, .slice none 0 0]
    try simp only [World.size_alloc] at this
    exact this
  have Call := Lib.hid (changed_any 33 #[] (plainH) T (.slice a0 n cap0) W1 (enters_of Try.func33 (by kernel_rfl) rfl) (plainOk W1) hm (HK.out.below B1.out))
  have HX := Lib.hid XR
  obtain ⟨d0, d1, d2, d3, d4, d5, d6, d7, d8⟩ := Cells.row X0
  simp only [Nat.zero_add] at d1 d2 d3 d4 d5 d6 d7 d8
  clear XR X0
  go_enter Try.func20, Try.ntmps20
  go_wp2_with fail
  rw [hW1.out]
  go_wp2_with fail
  refine Call.out.mono ?_
  rintro e w2 ⟨kv2, F, rfl, hsep, hnd, hF, hb2⟩
  obtain ⟨ak, ck, rfl, -⟩ := hsep.kids.get
  obtain ⟨km, hkm⟩ : ∃ km, Hid ((mapL (plainH) T.kids).length = km) := ⟨_, Lib.hid rfl⟩
  rw [hkm.out] at hsep
  rw [hkm.out]
  obtain ⟨h2, hh2⟩ : ∃ h2, Hid ((plainH) T.hd = h2) := ⟨_, Lib.hid rfl⟩
  rw [hh2.out]
  have R2 := HX.out.later hb2
  have HE : Hid (∀ W9, Upd w2 W9 (w.heap.size + 1) 0 → ChgIs (plainH) w T (.returned (h2.agg (.slice ak km ck))) W9) := Lib.hid (fun W9 U => ChgIs.stored hsep hnd hF hb2 B1.out (by omega) (by omega) U hh2.out)
  obtain ⟨r0, r1, r2, r3, r4, r5, r6, r7, r8⟩ := (show Cells w2 (w.heap.size + 1) 0 ⟨0, [], [], 0, 0, 0, 0, 0⟩ (.slice none 0 0) from Cells.row R2)
  simp only [Nat.zero_add] at r1 r2 r3 r4 r5 r6 r7 r8
  have z0 := R2.frozen 0
  have z1 := R2.frozen 1
  have z2 := R2.frozen 2
  have z3 := R2.frozen 3
  have z4 := R2.frozen 4
  have z5 := R2.frozen 5
  have z6 := R2.frozen 6
  have z7 := R2.frozen 7
  have z8 := R2.frozen 8
  have NN := Lib.hid (nine R2 h2 (.slice ak km ck))
  clear hsep hnd hF hb2 R2 d0 d1 d2 d3 d4 d5 d6 d7 d8
  go_wp2_with fail
  obtain ⟨W9, hW9⟩ : ∃ W9, Hid (W9 = (((((((((w2.setCell ⟨w.heap.size + 1, 0, none⟩ (.int .i64 h2.kind)).setCell ⟨w.heap.size + 1, 1, none⟩ (.string (bs h2.text))).setCell ⟨w.heap.size + 1, 2, none⟩ (.string (bs h2.type))).setCell ⟨w.heap.size + 1, 3, none⟩ (.int .i64 h2.n)).setCell ⟨w.heap.size + 1, 4, none⟩ (.int .i64 h2.fr)).setCell ⟨w.heap.size + 1, 5, none⟩ (.int .i64 h2.to_)).setCell ⟨w.heap.size + 1, 6, none⟩ (.int .i64 h2.at_)).setCell ⟨w.heap.size + 1, 7, none⟩ (.int .i64 h2.tat)).setCell ⟨w.heap.size + 1, 8, none⟩ (.slice ak km ck))) := ⟨_, Lib.hid rfl⟩
  rw [← hW9.out] at NN ⊢
  clear hW9
  refine bodyPost_ret (results_cell_row rfl _ _ (w.heap.size + 1) 24 (h2.vals (.slice ak km ck)) (0, 0) _ rfl NN.out.1 Try.underlying24 rfl rfl) rfl ?_
  exact HE.out _ NN.out.2
set_option maxRecDepth 100000 in
set_option maxHeartbeats 8000000 in
theorem copied_any (T : Nd) (kv : Value) (w : World) (hm : T.cnt ≤ 2000000) (hk : KidsAt w T.kids kv) :
    Calls Try.prog 25 #[.agg #[.int .i64 T.hd.kind, .string (bs T.hd.text), .string (bs T.hd.type), .int .i64 T.hd.n, .int .i64 T.hd.fr, .int .i64 T.hd.to_, .int .i64 T.hd.at_, .int .i64 T.hd.tat, kv]] w fun e w' => ChgIs id w T e w' := by
  obtain ⟨a0, cap0, rfl, -⟩ := hk.get
  have HK := Lib.hid hk
  clear hk
  obtain ⟨n, hn⟩ : ∃ n, Hid (T.kids.length = n) := ⟨_, Lib.hid rfl⟩
  rw [hn.out] at HK
  rw [hn.out]
  obtain ⟨W1, hW1⟩ : ∃ W1, Hid (((w.alloc (.cells #[.int .i64 T.hd.kind, .string (bs T.hd.text), .string (bs T.hd.type), .int .i64 T.hd.n, .int .i64 T.hd.fr, .int .i64 T.hd.to_, .int .i64 T.hd.at_, .int .i64 T.hd.tat, .slice a0 n cap0] 24)).alloc (.cells #[.int .i64 0, .string ⟨#[]⟩, .string ⟨#[]⟩, .int .i64 0, .int .i64 0, .int .i64 0, .int .i64 0, .int .i64 0, .slice none 0 0] 24)) = W1) := ⟨_, Lib.hid rfl⟩
  have B1 : Hid (Below w.heap.size w W1) := by rw [← hW1.out]; exact Lib.hid (((Below.refl _ w).alloc (by simp; try omega) _).alloc (by simp; try omega) _)
  have hs1 : W1.heap.size = w.heap.size + 2 := by rw [← hW1.out]; simp
  have X0 : RowAt W1 (w.heap.size) 24 #[.int .i64 T.hd.kind, .string (bs T.hd.text), .string (bs T.hd.type), .int .i64 T.hd.n, .int .i64 T.hd.fr, .int .i64 T.hd.to_, .int .i64 T.hd.at_, .int .i64 T.hd.tat, .slice a0 n cap0] := by
    rw [← hW1.out]
    have := ((RowAt.new w 24 #[.int .i64 T.hd.kind, .string (bs T.hd.text), .string (bs T.hd.type), .int .i64 T.hd.n, .int .i64 T.hd.fr, .int .i64 T.hd.to_, .int .i64 T.hd.at_, .int .i64 T.hd.tat, .slice a0 n cap0]).alloc (.cells #[.int .i64 0, .string ⟨#[]⟩, .string ⟨#[]⟩, .int .i64 0, .int .i64 0, .int .i64 0, .int .i64 0, .int .i64 0, .slice none 0 0] 24))
    try simp only [World.size_alloc] at this
    exact this
  have XR : RowAt W1 (w.heap.size + 1) 24 #[.int .i64 0, .string ⟨#[]⟩, .string ⟨#[]⟩, .int .i64 0, .int .i64 0, .int .i64 0, .int .i64 0, .int .i64 0, .slice none 0 0] := by
    rw [← hW1.out]
    have := RowAt.new (w.alloc (.cells #[.int .i64 T.hd.kind, .string (bs T.hd.text), .string (bs T.hd.type), .int .i64 T.hd.n, .int .i64 T.hd.fr, .int .i64 T.hd.to_, .int .i64 T.hd.at_, .int .i64 T.hd.tat, .slice a0 n cap0] 24)) 24 #[.int .i64 0, .string ⟨#[]⟩, .string ⟨#[]⟩, .int .i64 0, .int .i64 0, .int .i64 0, .int .i64 0, .int .i64 0, .slice none 0 0]
    try simp only [World.size_alloc] at this
    exact this
  have Call := Lib.hid (changed_any 34 #[] (id) T (.slice a0 n cap0) W1 (enters_of Try.func34 (by kernel_rfl) rfl) (copyOk W1) hm (HK.out.below B1.out))
  have HX := Lib.hid XR
  obtain ⟨d0, d1, d2, d3, d4, d5, d6, d7, d8⟩ := Cells.row X0
  simp only [Nat.zero_add] at d1 d2 d3 d4 d5 d6 d7 d8
  clear XR X0
  go_enter Try.func25, Try.ntmps25
  go_wp2_with fail
  rw [hW1.out]
  go_wp2_with fail
  refine Call.out.mono ?_
  rintro e w2 ⟨kv2, F, rfl, hsep, hnd, hF, hb2⟩
  obtain ⟨ak, ck, rfl, -⟩ := hsep.kids.get
  obtain ⟨km, hkm⟩ : ∃ km, Hid ((mapL (id) T.kids).length = km) := ⟨_, Lib.hid rfl⟩
  rw [hkm.out] at hsep
  rw [hkm.out]
  obtain ⟨h2, hh2⟩ : ∃ h2, Hid ((id) T.hd = h2) := ⟨_, Lib.hid rfl⟩
  rw [hh2.out]
  have R2 := HX.out.later hb2
  have HE : Hid (∀ W9, Upd w2 W9 (w.heap.size + 1) 0 → ChgIs (id) w T (.returned (h2.agg (.slice ak km ck))) W9) := Lib.hid (fun W9 U => ChgIs.stored hsep hnd hF hb2 B1.out (by omega) (by omega) U hh2.out)
  obtain ⟨r0, r1, r2, r3, r4, r5, r6, r7, r8⟩ := (show Cells w2 (w.heap.size + 1) 0 ⟨0, [], [], 0, 0, 0, 0, 0⟩ (.slice none 0 0) from Cells.row R2)
  simp only [Nat.zero_add] at r1 r2 r3 r4 r5 r6 r7 r8
  have z0 := R2.frozen 0
  have z1 := R2.frozen 1
  have z2 := R2.frozen 2
  have z3 := R2.frozen 3
  have z4 := R2.frozen 4
  have z5 := R2.frozen 5
  have z6 := R2.frozen 6
  have z7 := R2.frozen 7
  have z8 := R2.frozen 8
  have NN := Lib.hid (nine R2 h2 (.slice ak km ck))
  clear hsep hnd hF hb2 R2 d0 d1 d2 d3 d4 d5 d6 d7 d8
  go_wp2_with fail
  obtain ⟨W9, hW9⟩ : ∃ W9, Hid (W9 = (((((((((w2.setCell ⟨w.heap.size + 1, 0, none⟩ (.int .i64 h2.kind)).setCell ⟨w.heap.size + 1, 1, none⟩ (.string (bs h2.text))).setCell ⟨w.heap.size + 1, 2, none⟩ (.string (bs h2.type))).setCell ⟨w.heap.size + 1, 3, none⟩ (.int .i64 h2.n)).setCell ⟨w.heap.size + 1, 4, none⟩ (.int .i64 h2.fr)).setCell ⟨w.heap.size + 1, 5, none⟩ (.int .i64 h2.to_)).setCell ⟨w.heap.size + 1, 6, none⟩ (.int .i64 h2.at_)).setCell ⟨w.heap.size + 1, 7, none⟩ (.int .i64 h2.tat)).setCell ⟨w.heap.size + 1, 8, none⟩ (.slice ak km ck))) := ⟨_, Lib.hid rfl⟩
  rw [← hW9.out] at NN ⊢
  clear hW9
  refine bodyPost_ret (results_cell_row rfl _ _ (w.heap.size + 1) 24 (h2.vals (.slice ak km ck)) (0, 0) _ rfl NN.out.1 Try.underlying24 rfl rfl) rfl ?_
  exact HE.out _ NN.out.2
set_option maxRecDepth 100000 in
set_option maxHeartbeats 8000000 in
theorem Shift_any (T : Nd) (kv : Value) (by_ : Int) (w : World) (hm : T.cnt ≤ 2000000) (hk : KidsAt w T.kids kv) :
    Calls Try.prog 17 #[.agg #[.int .i64 T.hd.kind, .string (bs T.hd.text), .string (bs T.hd.type), .int .i64 T.hd.n, .int .i64 T.hd.fr, .int .i64 T.hd.to_, .int .i64 T.hd.at_, .int .i64 T.hd.tat, kv], .int .i64 by_] w fun e w' => ChgIs (shH by_) w T e w' := by
  obtain ⟨a0, cap0, rfl, -⟩ := hk.get
  have HK := Lib.hid hk
  clear hk
  obtain ⟨n, hn⟩ : ∃ n, Hid (T.kids.length = n) := ⟨_, Lib.hid rfl⟩
  rw [hn.out] at HK
  rw [hn.out]
  obtain ⟨W1, hW1⟩ : ∃ W1, Hid ((((w.alloc (.cells #[.int .i64 T.hd.kind, .string (bs T.hd.text), .string (bs T.hd.type), .int .i64 T.hd.n, .int .i64 T.hd.fr, .int .i64 T.hd.to_, .int .i64 T.hd.at_, .int .i64 T.hd.tat, .slice a0 n cap0] 24)).alloc (.cells #[.int .i64 by_] 3)).alloc (.cells #[.int .i64 0, .string ⟨#[]⟩, .string ⟨#[]⟩, .int .i64 0, .int .i64 0, .int .i64 0, .int .i64 0, .int .i64 0, .slice none 0 0] 24)) = W1) := ⟨_, Lib.hid rfl⟩
  have B1 : Hid (Below w.heap.size w W1) := by rw [← hW1.out]; exact Lib.hid ((((Below.refl _ w).alloc (by simp; try omega) _).alloc (by simp; try omega) _).alloc (by simp; try omega) _)
  have hs1 : W1.heap.size = w.heap.size + 3 := by rw [← hW1.out]; simp
  have X0 : RowAt W1 (w.heap.size) 24 #[.int .i64 T.hd.kind, .string (bs T.hd.text), .string (bs T.hd.type), .int .i64 T.hd.n, .int .i64 T.hd.fr, .int .i64 T.hd.to_, .int .i64 T.hd.at_, .int .i64 T.hd.tat, .slice a0 n cap0] := by
    rw [← hW1.out]
    have := (((RowAt.new w 24 #[.int .i64 T.hd.kind, .string (bs T.hd.text), .string (bs T.hd.type), .int .i64 T.hd.n, .int .i64 T.hd.fr, .int .i64 T.hd.to_, .int .i64 T.hd.at_, .int .i64 T.hd.tat, .slice a0 n cap0]).alloc (.cells #[.int .i64 by_] 3)).alloc (.cells #[.int .i64 0, .string ⟨#[]⟩, .string ⟨#[]⟩, .int .i64 0, .int .i64 0, .int .i64 0, .int .i64 0, .int .i64 0, .slice none 0 0] 24))
    try simp only [World.size_alloc] at this
    exact this
  have X1 : RowAt W1 (w.heap.size + 1) 3 #[.int .i64 by_] := by
    rw [← hW1.out]
    have := ((RowAt.new (w.alloc (.cells #[.int .i64 T.hd.kind, .string (bs T.hd.text), .string (bs T.hd.type), .int .i64 T.hd.n, .int .i64 T.hd.fr, .int .i64 T.hd.to_, .int .i64 T.hd.at_, .int .i64 T.hd.tat, .slice a0 n cap0] 24)) 3 #[.int .i64 by_]).alloc (.cells #[.int .i64 0, .string ⟨#[]⟩, .string ⟨#[]⟩, .int .i64 0, .int .i64 0, .int .i64 0, .int .i64 0, .int .i64 0, .slice none 0 0] 24))
    try simp only [World.size_alloc] at this
    exact this
  have XR : RowAt W1 (w.heap.size + 1 + 1) 24 #[.int .i64 0, .string ⟨#[]⟩, .string ⟨#[]⟩, .int .i64 0, .int .i64 0, .int .i64 0, .int .i64 0, .int .i64 0, .slice none 0 0] := by
    rw [← hW1.out]
    have := RowAt.new ((w.alloc (.cells #[.int .i64 T.hd.kind, .string (bs T.hd.text), .string (bs T.hd.type), .int .i64 T.hd.n, .int .i64 T.hd.fr, .int .i64 T.hd.to_, .int .i64 T.hd.at_, .int .i64 T.hd.tat, .slice a0 n cap0] 24)).alloc (.cells #[.int .i64 by_] 3)) 24 #[.int .i64 0, .string ⟨#[]⟩, .string ⟨#[]⟩, .int .i64 0, .int .i64 0, .int .i64 0, .int .i64 0, .int .i64 0, .slice none 0 0]
    try simp only [World.size_alloc] at this
    exact this
  have Call := Lib.hid (changed_any 32 #[.pointer (some ⟨w.heap.size + 1, 0, none⟩)] (shH by_) T (.slice a0 n cap0) W1 (enters_of Try.func32 (by kernel_rfl) rfl) (shiftOk W1 (w.heap.size + 1) by_ (X1.cell rfl)) hm (HK.out.below B1.out))
  have HX := Lib.hid XR
  obtain ⟨d0, d1, d2, d3, d4, d5, d6, d7, d8⟩ := Cells.row X0
  simp only [Nat.zero_add] at d1 d2 d3 d4 d5 d6 d7 d8
  clear XR X0 X1
  go_enter Try.func17, Try.ntmps17
  go_wp2_with fail
  rw [hW1.out]
  go_wp2_with fail
  refine Call.out.mono ?_
  rintro e w2 ⟨kv2, F, rfl, hsep, hnd, hF, hb2⟩
  obtain ⟨ak, ck, rfl, -⟩ := hsep.kids.get
  obtain ⟨km, hkm⟩ : ∃ km, Hid ((mapL (shH by_) T.kids).length = km) := ⟨_, Lib.hid rfl⟩
  rw [hkm.out] at hsep
  rw [hkm.out]
  obtain ⟨h2, hh2⟩ : ∃ h2, Hid ((shH by_) T.hd = h2) := ⟨_, Lib.hid rfl⟩
  rw [hh2.out]
  have R2 := HX.out.later hb2
  have HE : Hid (∀ W9, Upd w2 W9 (w.heap.size + 1 + 1) 0 → ChgIs (shH by_) w T (.returned (h2.agg (.slice ak km ck))) W9) := Lib.hid (fun W9 U => ChgIs.stored hsep hnd hF hb2 B1.out (by omega) (by omega) U hh2.out)
  obtain ⟨r0, r1, r2, r3, r4, r5, r6, r7, r8⟩ := (show Cells w2 (w.heap.size + 1 + 1) 0 ⟨0, [], [], 0, 0, 0, 0, 0⟩ (.slice none 0 0) from Cells.row R2)
  simp only [Nat.zero_add] at r1 r2 r3 r4 r5 r6 r7 r8
  have z0 := R2.frozen 0
  have z1 := R2.frozen 1
  have z2 := R2.frozen 2
  have z3 := R2.frozen 3
  have z4 := R2.frozen 4
  have z5 := R2.frozen 5
  have z6 := R2.frozen 6
  have z7 := R2.frozen 7
  have z8 := R2.frozen 8
  have NN := Lib.hid (nine R2 h2 (.slice ak km ck))
  clear hsep hnd hF hb2 R2 d0 d1 d2 d3 d4 d5 d6 d7 d8
  go_wp2_with fail
  obtain ⟨W9, hW9⟩ : ∃ W9, Hid (W9 = (((((((((w2.setCell ⟨w.heap.size + 1 + 1, 0, none⟩ (.int .i64 h2.kind)).setCell ⟨w.heap.size + 1 + 1, 1, none⟩ (.string (bs h2.text))).setCell ⟨w.heap.size + 1 + 1, 2, none⟩ (.string (bs h2.type))).setCell ⟨w.heap.size + 1 + 1, 3, none⟩ (.int .i64 h2.n)).setCell ⟨w.heap.size + 1 + 1, 4, none⟩ (.int .i64 h2.fr)).setCell ⟨w.heap.size + 1 + 1, 5, none⟩ (.int .i64 h2.to_)).setCell ⟨w.heap.size + 1 + 1, 6, none⟩ (.int .i64 h2.at_)).setCell ⟨w.heap.size + 1 + 1, 7, none⟩ (.int .i64 h2.tat)).setCell ⟨w.heap.size + 1 + 1, 8, none⟩ (.slice ak km ck))) := ⟨_, Lib.hid rfl⟩
  rw [← hW9.out] at NN ⊢
  clear hW9
  refine bodyPost_ret (results_cell_row rfl _ _ (w.heap.size + 1 + 1) 24 (h2.vals (.slice ak km ck)) (0, 0) _ rfl NN.out.1 Try.underlying24 rfl rfl) rfl ?_
  exact HE.out _ NN.out.2
set_option maxRecDepth 100000 in
set_option maxHeartbeats 8000000 in
theorem Rename_any (T : Nd) (kv : Value) (kind : Int) (from_ to : List UInt8) (w : World) (hm : T.cnt ≤ 2000000) (hk : KidsAt w T.kids kv) :
    Calls Try.prog 13 #[.agg #[.int .i64 T.hd.kind, .string (bs T.hd.text), .string (bs T.hd.type), .int .i64 T.hd.n, .int .i64 T.hd.fr, .int .i64 T.hd.to_, .int .i64 T.hd.at_, .int .i64 T.hd.tat, kv], .int .i64 kind, .string (bs from_), .string (bs to)] w fun e w' => ChgIs (rnH kind from_ to) w T e w' := by
  obtain ⟨a0, cap0, rfl, -⟩ := hk.get
  have HK := Lib.hid hk
  clear hk
  obtain ⟨n, hn⟩ : ∃ n, Hid (T.kids.length = n) := ⟨_, Lib.hid rfl⟩
  rw [hn.out] at HK
  rw [hn.out]
  obtain ⟨W1, hW1⟩ : ∃ W1, Hid ((((((w.alloc (.cells #[.int .i64 T.hd.kind, .string (bs T.hd.text), .string (bs T.hd.type), .int .i64 T.hd.n, .int .i64 T.hd.fr, .int .i64 T.hd.to_, .int .i64 T.hd.at_, .int .i64 T.hd.tat, .slice a0 n cap0] 24)).alloc (.cells #[.int .i64 kind] 3)).alloc (.cells #[.string (bs from_)] 9)).alloc (.cells #[.string (bs to)] 9)).alloc (.cells #[.int .i64 0, .string ⟨#[]⟩, .string ⟨#[]⟩, .int .i64 0, .int .i64 0, .int .i64 0, .int .i64 0, .int .i64 0, .slice none 0 0] 24)) = W1) := ⟨_, Lib.hid rfl⟩
  have B1 : Hid (Below w.heap.size w W1) := by rw [← hW1.out]; exact Lib.hid ((((((Below.refl _ w).alloc (by simp; try omega) _).alloc (by simp; try omega) _).alloc (by simp; try omega) _).alloc (by simp; try omega) _).alloc (by simp; try omega) _)
  have hs1 : W1.heap.size = w.heap.size + 5 := by rw [← hW1.out]; simp
  have X0 : RowAt W1 (w.heap.size) 24 #[.int .i64 T.hd.kind, .string (bs T.hd.text), .string (bs T.hd.type), .int .i64 T.hd.n, .int .i64 T.hd.fr, .int .i64 T.hd.to_, .int .i64 T.hd.at_, .int .i64 T.hd.tat, .slice a0 n cap0] := by
    rw [← hW1.out]
    have := (((((RowAt.new w 24 #[.int .i64 T.hd.kind, .string (bs T.hd.text), .string (bs T.hd.type), .int .i64 T.hd.n, .int .i64 T.hd.fr, .int .i64 T.hd.to_, .int .i64 T.hd.at_, .int .i64 T.hd.tat, .slice a0 n cap0]).alloc (.cells #[.int .i64 kind] 3)).alloc (.cells #[.string (bs from_)] 9)).alloc (.cells #[.string (bs to)] 9)).alloc (.cells #[.int .i64 0, .string ⟨#[]⟩, .string ⟨#[]⟩, .int .i64 0, .int .i64 0, .int .i64 0, .int .i64 0, .int .i64 0, .slice none 0 0] 24))
    try simp only [World.size_alloc] at this
    exact this
  have X1 : RowAt W1 (w.heap.size + 1) 3 #[.int .i64 kind] := by
    rw [← hW1.out]
    have := ((((RowAt.new (w.alloc (.cells #[.int .i64 T.hd.kind, .string (bs T.hd.text), .string (bs T.hd.type), .int .i64 T.hd.n, .int .i64 T.hd.fr, .int .i64 T.hd.to_, .int .i64 T.hd.at_, .int .i64 T.hd.tat, .slice a0 n cap0] 24)) 3 #[.int .i64 kind]).alloc (.cells #[.string (bs from_)] 9)).alloc (.cells #[.string (bs to)] 9)).alloc (.cells #[.int .i64 0, .string ⟨#[]⟩, .string ⟨#[]⟩, .int .i64 0, .int .i64 0, .int .i64 0, .int .i64 0, .int .i64 0, .slice none 0 0] 24))
    try simp only [World.size_alloc] at this
    exact this
  have X2 : RowAt W1 (w.heap.size + 1 + 1) 9 #[.string (bs from_)] := by
    rw [← hW1.out]
    have := (((RowAt.new ((w.alloc (.cells #[.int .i64 T.hd.kind, .string (bs T.hd.text), .string (bs T.hd.type), .int .i64 T.hd.n, .int .i64 T.hd.fr, .int .i64 T.hd.to_, .int .i64 T.hd.at_, .int .i64 T.hd.tat, .slice a0 n cap0] 24)).alloc (.cells #[.int .i64 kind] 3)) 9 #[.string (bs from_)]).alloc (.cells #[.string (bs to)] 9)).alloc (.cells #[.int .i64 0, .string ⟨#[]⟩, .string ⟨#[]⟩, .int .i64 0, .int .i64 0, .int .i64 0, .int .i64 0, .int .i64 0, .slice none 0 0] 24))
    try simp only [World.size_alloc] at this
    exact this
  have X3 : RowAt W1 (w.heap.size + 1 + 1 + 1) 9 #[.string (bs to)] := by
    rw [← hW1.out]
    have := ((RowAt.new (((w.alloc (.cells #[.int .i64 T.hd.kind, .string (bs T.hd.text), .string (bs T.hd.type), .int .i64 T.hd.n, .int .i64 T.hd.fr, .int .i64 T.hd.to_, .int .i64 T.hd.at_, .int .i64 T.hd.tat, .slice a0 n cap0] 24)).alloc (.cells #[.int .i64 kind] 3)).alloc (.cells #[.string (bs from_)] 9)) 9 #[.string (bs to)]).alloc (.cells #[.int .i64 0, .string ⟨#[]⟩, .string ⟨#[]⟩, .int .i64 0, .int .i64 0, .int .i64 0, .int .i64 0, .int .i64 0, .slice none 0 0] 24))
    try simp only [World.size_alloc] at this
    exact this
  have XR : RowAt W1 (w.heap.size + 1 + 1 + 1 + 1) 24 #[.int .i64 0, .string ⟨#[]⟩, .string ⟨#[]⟩, .int .i64 0, .int .i64 0, .int .i64 0, .int .i64 0, .int .i64 0, .slice none 0 0] := by
    rw [← hW1.out]
    have := RowAt.new ((((w.alloc (.cells #[.int .i64 T.hd.kind, .string (bs T.hd.text), .string (bs T.hd.type), .int .i64 T.hd.n, .int .i64 T.hd.fr, .int .i64 T.hd.to_, .int .i64 T.hd.at_, .int .i64 T.hd.tat, .slice a0 n cap0] 24)).alloc (.cells #[.int .i64 kind] 3)).alloc (.cells #[.string (bs from_)] 9)).alloc (.cells #[.string (bs to)] 9)) 24 #[.int .i64 0, .string ⟨#[]⟩, .string ⟨#[]⟩, .int .i64 0, .int .i64 0, .int .i64 0, .int .i64 0, .int .i64 0, .slice none 0 0]
    try simp only [World.size_alloc] at this
    exact this
  have Call := Lib.hid (changed_any 28 #[.pointer (some ⟨w.heap.size + 1 + 1, 0, none⟩), .pointer (some ⟨w.heap.size + 1, 0, none⟩), .pointer (some ⟨w.heap.size + 1 + 1 + 1, 0, none⟩)] (rnH kind from_ to) T (.slice a0 n cap0) W1 (enters_of Try.func28 (by kernel_rfl) rfl) (renameOk W1 (w.heap.size + 1 + 1) (w.heap.size + 1) (w.heap.size + 1 + 1 + 1) kind from_ to (X2.cell rfl) (X1.cell rfl) (X3.cell rfl)) hm (HK.out.below B1.out))
  have HX := Lib.hid XR
  obtain ⟨d0, d1, d2, d3, d4, d5, d6, d7, d8⟩ := Cells.row X0
  simp only [Nat.zero_add] at d1 d2 d3 d4 d5 d6 d7 d8
  clear XR X0 X1 X2 X3
  go_enter Try.func13, Try.ntmps13
  go_wp2_with fail
  rw [hW1.out]
  go_wp2_with fail
  refine Call.out.mono ?_
  rintro e w2 ⟨kv2, F, rfl, hsep, hnd, hF, hb2⟩
  obtain ⟨ak, ck, rfl, -⟩ := hsep.kids.get
  obtain ⟨km, hkm⟩ : ∃ km, Hid ((mapL (rnH kind from_ to) T.kids).length = km) := ⟨_, Lib.hid rfl⟩
  rw [hkm.out] at hsep
  rw [hkm.out]
  obtain ⟨h2, hh2⟩ : ∃ h2, Hid ((rnH kind from_ to) T.hd = h2) := ⟨_, Lib.hid rfl⟩
  rw [hh2.out]
  have R2 := HX.out.later hb2
  have HE : Hid (∀ W9, Upd w2 W9 (w.heap.size + 1 + 1 + 1 + 1) 0 → ChgIs (rnH kind from_ to) w T (.returned (h2.agg (.slice ak km ck))) W9) := Lib.hid (fun W9 U => ChgIs.stored hsep hnd hF hb2 B1.out (by omega) (by omega) U hh2.out)
  obtain ⟨r0, r1, r2, r3, r4, r5, r6, r7, r8⟩ := (show Cells w2 (w.heap.size + 1 + 1 + 1 + 1) 0 ⟨0, [], [], 0, 0, 0, 0, 0⟩ (.slice none 0 0) from Cells.row R2)
  simp only [Nat.zero_add] at r1 r2 r3 r4 r5 r6 r7 r8
  have z0 := R2.frozen 0
  have z1 := R2.frozen 1
  have z2 := R2.frozen 2
  have z3 := R2.frozen 3
  have z4 := R2.frozen 4
  have z5 := R2.frozen 5
  have z6 := R2.frozen 6
  have z7 := R2.frozen 7
  have z8 := R2.frozen 8
  have NN := Lib.hid (nine R2 h2 (.slice ak km ck))
  clear hsep hnd hF hb2 R2 d0 d1 d2 d3 d4 d5 d6 d7 d8
  go_wp2_with fail
  obtain ⟨W9, hW9⟩ : ∃ W9, Hid (W9 = (((((((((w2.setCell ⟨w.heap.size + 1 + 1 + 1 + 1, 0, none⟩ (.int .i64 h2.kind)).setCell ⟨w.heap.size + 1 + 1 + 1 + 1, 1, none⟩ (.string (bs h2.text))).setCell ⟨w.heap.size + 1 + 1 + 1 + 1, 2, none⟩ (.string (bs h2.type))).setCell ⟨w.heap.size + 1 + 1 + 1 + 1, 3, none⟩ (.int .i64 h2.n)).setCell ⟨w.heap.size + 1 + 1 + 1 + 1, 4, none⟩ (.int .i64 h2.fr)).setCell ⟨w.heap.size + 1 + 1 + 1 + 1, 5, none⟩ (.int .i64 h2.to_)).setCell ⟨w.heap.size + 1 + 1 + 1 + 1, 6, none⟩ (.int .i64 h2.at_)).setCell ⟨w.heap.size + 1 + 1 + 1 + 1, 7, none⟩ (.int .i64 h2.tat)).setCell ⟨w.heap.size + 1 + 1 + 1 + 1, 8, none⟩ (.slice ak km ck))) := ⟨_, Lib.hid rfl⟩
  rw [← hW9.out] at NN ⊢
  clear hW9
  refine bodyPost_ret (results_cell_row rfl _ _ (w.heap.size + 1 + 1 + 1 + 1) 24 (h2.vals (.slice ak km ck)) (0, 0) _ rfl NN.out.1 Try.underlying24 rfl rfl) rfl ?_
  exact HE.out _ NN.out.2
end Go.Proofs.Ytpnfjiglphogoac
