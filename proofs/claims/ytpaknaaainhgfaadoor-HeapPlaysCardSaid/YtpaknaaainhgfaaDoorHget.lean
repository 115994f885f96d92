/-
  For the laws of heap: Get and Set. No condition.
-/
import Derived.Test.YtpaknaaainhgfaaDoorHat
import Derived.RegionTactic
import Derived.ChangeAlike
namespace Go.Proofs.YtpaknaaainhgfaaDoor
open Go.RowKit Go.Maps Go.WideMaps

set_option maxRecDepth 100000 in
set_option maxHeartbeats 4000000 in
theorem Get_nil (k n : Int) (id kind : ByteArray) (w : World) : Calls Tryd.prog 29 #[.pointer none, val2 k n, .string id, .string kind] w fun e w' => e = .returned (.tuple #[val2 0 0, .int .i64 1]) ∧ Below w.heap.size w w' := by
  have hbelow : Below w.heap.size w ((w.alloc (.cells #[.int .i64 k, .int .i64 n] 44)).alloc (.cells #[.int .i64 0, .int .i64 0] 44)) := ((Below.refl _ w).alloc (Nat.le_refl _) _).alloc (by simp) _
  go_enter Tryd.func29, Tryd.ntmps29
  go_wp2_with fail
  refine (At_nil k n id _).mono ?_
  rintro e w1 ⟨rfl, hb1⟩
  have r5 : RowAt w1 w.heap.size 44 #[.int .i64 k, .int .i64 n] := ((RowAt.new w 44 #[.int .i64 k, .int .i64 n]).alloc _).later hb1
  have r8 : RowAt w1 (w.heap.size + 1) 44 #[.int .i64 0, .int .i64 0] := by
    have := (RowAt.new (w.alloc (.cells #[.int .i64 k, .int .i64 n] 44)) 44 #[.int .i64 0, .int .i64 0]).later hb1
    rw [World.size_alloc] at this
    exact this
  have hb01 : Below w.heap.size w w1 := hbelow.trans (hb1.mono (by simp; omega))
  have d0 : w1.cell? ⟨w.heap.size + 1, 0, none⟩ = some (.int .i64 0) := r8.cell rfl
  have d1 : w1.cell? ⟨w.heap.size + 1, 1, none⟩ = some (.int .i64 0) := r8.cell rfl
  have f0 := r8.frozen 0
  have f1 := r8.frozen 1
  have l8 := r8.lt
  go_wp2
  refine bodyPost_ret (results_cell_row_tmp rfl _ _ (w.heap.size + 1) 44 #[.int .i64 0, .int .i64 0] (0, 0) _ rfl (((r8.set 0 _).set 1 _).alloc _) Tryd.underlying44 rfl rfl) rfl ?_
  exact ⟨rfl, ((hb01.setCell (p := ⟨w.heap.size + 1, 0, none⟩) (by simp) _).setCell (p := ⟨w.heap.size + 1, 1, none⟩) (by simp) _).alloc (by simp; omega) _⟩

theorem whereAt_wf {len : Nat} {k n o er : Int} (hw : whereAt len k n = (o, er)) (hkn : (Lit.int .i64 n).wf = true) : (Lit.int .i64 o).wf = true := by
  unfold whereAt at hw
  split at hw
  · cases hw; exact hkn
  · split at hw
    · cases hw; decide
    · split at hw
      · cases hw; decide
      · cases hw; decide

set_option maxRecDepth 100000 in
set_option maxHeartbeats 4000000 in
theorem Get_err (k n : Int) (id kind : ByteArray) (w : World) (base h m : Nat) (cs : List ByteArray) (f : Store) (H : Hp w base h cs m f) (er : Int) (hw : whereAt cs.length k n = (0, er)) (her : er ≠ 0) :
    Calls Tryd.prog 29 #[.pointer (some ⟨h, 0, none⟩), val2 k n, .string id, .string kind] w fun e w' => e = .returned (.tuple #[val2 0 0, .int .i64 er]) ∧ Below w.heap.size w w' := by
  have hne : (er != 0) = true := by simpa using her
  have hbelow : Below w.heap.size w ((w.alloc (.cells #[.int .i64 k, .int .i64 n] 44)).alloc (.cells #[.int .i64 0, .int .i64 0] 44)) := ((Below.refl _ w).alloc (Nat.le_refl _) _).alloc (by simp) _
  go_enter Tryd.func29, Tryd.ntmps29
  go_wp2_with fail
  refine (At_any k n id _ base h m cs f (H.later hbelow)).mono ?_
  rw [hw, show plcOf (0, er) id = plc 0 ⟨#[]⟩ from if_neg her]
  rintro e w1 ⟨rfl, hb1⟩
  have r8 : RowAt w1 (w.heap.size + 1) 44 #[.int .i64 0, .int .i64 0] := by
    have := (RowAt.new (w.alloc (.cells #[.int .i64 k, .int .i64 n] 44)) 44 #[.int .i64 0, .int .i64 0]).later hb1
    rw [World.size_alloc] at this
    exact this
  have hb01 : Below w.heap.size w w1 := hbelow.trans (hb1.mono (by simp; omega))
  have hb1h : h < w1.heap.size := by have := H.lt; have := hb01.size; omega
  have hl1 : w.heap.size + 1 < w1.heap.size := r8.lt
  have d0 : w1.cell? ⟨w.heap.size + 1, 0, none⟩ = some (.int .i64 0) := r8.cell rfl
  have d1 : w1.cell? ⟨w.heap.size + 1, 1, none⟩ = some (.int .i64 0) := r8.cell rfl
  have f0 := r8.frozen 0
  have f1 := r8.frozen 1
  go_wp2
  refine bodyPost_ret (results_cell_row_tmp rfl _ _ (w.heap.size + 1) 44 #[.int .i64 0, .int .i64 0] (0, 0) _ rfl (((r8.set 0 _).set 1 _).alloc _) Tryd.underlying44 rfl rfl) rfl ?_
  exact ⟨rfl, ((hb01.setCell (p := ⟨w.heap.size + 1, 0, none⟩) (by simp) _).setCell (p := ⟨w.heap.size + 1, 1, none⟩) (by simp) _).alloc (by simp; omega) _⟩

set_option maxRecDepth 100000 in
set_option maxHeartbeats 4000000 in
theorem Get_some (k n : Int) (hkn : (Lit.int .i64 n).wf = true) (id kind : ByteArray) (hid : id.size ≤ maxLen) (w : World) (base h m : Nat) (cs : List ByteArray) (f : Store) (H : Hp w base h cs m f) (o : Int) (hw : whereAt cs.length k n = (o, 0)) (x : Int × Int) (hx : f o id = some x) :
    Calls Tryd.prog 29 #[.pointer (some ⟨h, 0, none⟩), val2 k n, .string id, .string kind] w fun e w' => e = .returned (.tuple #[val2 x.1 x.2, .int .i64 0]) ∧ Below w.heap.size w w' := by
  have hbelow : Below w.heap.size w ((w.alloc (.cells #[.int .i64 k, .int .i64 n] 44)).alloc (.cells #[.int .i64 0, .int .i64 0] 44)) := ((Below.refl _ w).alloc (Nat.le_refl _) _).alloc (by simp) _
  go_enter Tryd.func29, Tryd.ntmps29
  go_wp2_with fail
  refine (At_any k n id _ base h m cs f (H.later hbelow)).mono ?_
  rw [hw, show plcOf (o, 0) id = plc o id from rfl]
  rintro e w1 ⟨rfl, hb1⟩
  have r8 : RowAt w1 (w.heap.size + 1) 44 #[.int .i64 0, .int .i64 0] := by
    have := (RowAt.new (w.alloc (.cells #[.int .i64 k, .int .i64 n] 44)) 44 #[.int .i64 0, .int .i64 0]).later hb1
    rw [World.size_alloc] at this
    exact this
  have hb01 : Below w.heap.size w w1 := hbelow.trans (hb1.mono (by simp; omega))
  have hb1h : h < w1.heap.size := by have := H.lt; have := hb01.size; omega
  have hl1 : w.heap.size + 1 < w1.heap.size := r8.lt
  obtain ⟨p, c, mv, hr, -, hm⟩ := H.later hb01
  obtain ⟨W, hW⟩ : ∃ W, Hid (w1.alloc (.cells #[.int .i64 o, .string id] 87) = W) := ⟨_, rfl⟩
  have c1 : W.cell? ⟨h, 1, none⟩ = some mv := by rw [← hW.out]; exact (hr.alloc _).cell rfl
  have rW : RowAt W w1.heap.size 87 #[.int .i64 o, .string id] := by rw [← hW.out]; exact RowAt.new _ _ _
  have k0 : W.cell? ⟨w1.heap.size, 0, none⟩ = some (.int .i64 o) := rW.cell rfl
  have k1 : W.cell? ⟨w1.heap.size, 1, none⟩ = some (.string id) := rW.cell rfl
  have hlW : h < W.heap.size := by rw [← hW.out]; simp; omega
  have hsW := rW.lt
  have hwf := whereAt_wf hw hkn
  have hmW : (mv = .map none ∧ f = fun _ _ => none) ∨ ∃ b, mv = .map (some b) ∧ base ≤ b ∧ MapHas W b m f := by
    rcases hm with hm | ⟨b, e1, e2, e3⟩
    · exact .inl hm
    · exact .inr ⟨b, e1, e2, by rw [← hW.out]; exact e3.later (Below.heap_alloc _ _ _ e3.lt)⟩
  have qq : ∀ V : World, (∀ b, b < W.heap.size → V.heap[b]? = W.heap[b]?) → (Instr.lookup 83 mv (plc o id) true).run Tryd.prog V = .ok (.tuple #[val2 ((f o id).getD (0, 0)).1 ((f o id).getD (0, 0)).2, .bool (f o id).isSome]) V := by
    intro V hV
    rcases hmW with ⟨rfl, rfl⟩ | ⟨b, rfl, _, e3⟩
    · exact look_none V o id hwf hid
    · exact (e3.later (hV b e3.lt)).look o id hwf hid
  rw [hx] at qq
  have q0 := qq W.drew (fun _ _ => rfl)
  have q1 := qq (W.alloc (.cells #[.int .i64 0, .int .i64 0] 44)).drew (fun b hb => Below.heap_alloc _ _ _ hb)
  have r8W : RowAt W (w.heap.size + 1) 44 #[.int .i64 0, .int .i64 0] := by rw [← hW.out]; exact r8.alloc _
  have hbW : Below w.heap.size w W := by rw [← hW.out]; exact hb01.alloc (by omega) _
  have hszW : w1.heap.size ≤ W.heap.size := by rw [← hW.out]; simp
  clear hr r8 hbelow hb1 hmW hm qq
  go_wp2_with fail
  rw [hW.out]
  go_region
  all_goals
    obtain ⟨V, hV⟩ : ∃ V, Hid ((W.alloc (.cells #[.int .i64 x.1, .int .i64 x.2] 44)).drew = V) := ⟨_, rfl⟩
    have v8 : RowAt V (w.heap.size + 1) 44 #[.int .i64 0, .int .i64 0] := by rw [← hV.out]; exact r8W.alloc _
    have vx : RowAt V W.heap.size 44 #[.int .i64 x.1, .int .i64 x.2] := by rw [← hV.out]; exact RowAt.new _ _ _
    have hbV : Below w.heap.size w V := by
      rw [← hV.out]
      have := hbW.alloc (by omega) (.cells #[.int .i64 x.1, .int .i64 x.2] 44)
      exact ⟨this.os, this.tape, this.output, this.size, this.block⟩
    have hVs : W.heap.size < V.heap.size := vx.lt
    have d0 : V.cell? ⟨w.heap.size + 1, 0, none⟩ = some (.int .i64 0) := v8.cell rfl
    have d1 : V.cell? ⟨w.heap.size + 1, 1, none⟩ = some (.int .i64 0) := v8.cell rfl
    have f0 := v8.frozen 0
    have f1 := v8.frozen 1
    have x0 : V.cell? ⟨W.heap.size, 0, none⟩ = some (.int .i64 x.1) := vx.cell rfl
    have x1 : V.cell? ⟨W.heap.size, 1, none⟩ = some (.int .i64 x.2) := vx.cell rfl
    simp only [Option.getD_some] at *
    rw [hV.out]
    go_wp2
    refine bodyPost_ret (results_cell_row_tmp rfl _ _ (w.heap.size + 1) 44 #[.int .i64 x.1, .int .i64 x.2] (0, 0) _ rfl ((v8.set 0 _).set 1 _) Tryd.underlying44 rfl rfl) rfl ?_
    exact ⟨rfl, (hbV.setCell (p := ⟨w.heap.size + 1, 0, none⟩) (by simp) _).setCell (p := ⟨w.heap.size + 1, 1, none⟩) (by simp) _⟩

set_option maxRecDepth 100000 in
set_option maxHeartbeats 4000000 in
theorem Get_none (k n : Int) (hkn : (Lit.int .i64 n).wf = true) (id kind : ByteArray) (hid : id.size ≤ maxLen) (w : World) (base h m : Nat) (cs : List ByteArray) (f : Store) (H : Hp w base h cs m f) (o : Int) (hw : whereAt cs.length k n = (o, 0)) (hx : f o id = none) :
    Calls Tryd.prog 29 #[.pointer (some ⟨h, 0, none⟩), val2 k n, .string id, .string kind] w fun e w' => e = .returned (.tuple #[val2 (firstK kind) 0, .int .i64 0]) ∧ Below w.heap.size w w' := by
  have hbelow : Below w.heap.size w ((w.alloc (.cells #[.int .i64 k, .int .i64 n] 44)).alloc (.cells #[.int .i64 0, .int .i64 0] 44)) := ((Below.refl _ w).alloc (Nat.le_refl _) _).alloc (by simp) _
  go_enter Tryd.func29, Tryd.ntmps29
  go_wp2_with fail
  refine (At_any k n id _ base h m cs f (H.later hbelow)).mono ?_
  rw [hw, show plcOf (o, 0) id = plc o id from rfl]
  rintro e w1 ⟨rfl, hb1⟩
  have r8 : RowAt w1 (w.heap.size + 1) 44 #[.int .i64 0, .int .i64 0] := by
    have := (RowAt.new (w.alloc (.cells #[.int .i64 k, .int .i64 n] 44)) 44 #[.int .i64 0, .int .i64 0]).later hb1
    rw [World.size_alloc] at this
    exact this
  have hb01 : Below w.heap.size w w1 := hbelow.trans (hb1.mono (by simp; omega))
  have hb1h : h < w1.heap.size := by have := H.lt; have := hb01.size; omega
  have hl1 : w.heap.size + 1 < w1.heap.size := r8.lt
  obtain ⟨p, c, mv, hr, -, hm⟩ := H.later hb01
  obtain ⟨W, hW⟩ : ∃ W, Hid (w1.alloc (.cells #[.int .i64 o, .string id] 87) = W) := ⟨_, rfl⟩
  have c1 : W.cell? ⟨h, 1, none⟩ = some mv := by rw [← hW.out]; exact (hr.alloc _).cell rfl
  have rW : RowAt W w1.heap.size 87 #[.int .i64 o, .string id] := by rw [← hW.out]; exact RowAt.new _ _ _
  have k0 : W.cell? ⟨w1.heap.size, 0, none⟩ = some (.int .i64 o) := rW.cell rfl
  have k1 : W.cell? ⟨w1.heap.size, 1, none⟩ = some (.string id) := rW.cell rfl
  have hlW : h < W.heap.size := by rw [← hW.out]; simp; omega
  have hsW := rW.lt
  have hwf := whereAt_wf hw hkn
  have hmW : (mv = .map none ∧ f = fun _ _ => none) ∨ ∃ b, mv = .map (some b) ∧ base ≤ b ∧ MapHas W b m f := by
    rcases hm with hm | ⟨b, e1, e2, e3⟩
    · exact .inl hm
    · exact .inr ⟨b, e1, e2, by rw [← hW.out]; exact e3.later (Below.heap_alloc _ _ _ e3.lt)⟩
  have qq : ∀ V : World, (∀ b, b < W.heap.size → V.heap[b]? = W.heap[b]?) → (Instr.lookup 83 mv (plc o id) true).run Tryd.prog V = .ok (.tuple #[val2 ((f o id).getD (0, 0)).1 ((f o id).getD (0, 0)).2, .bool (f o id).isSome]) V := by
    intro V hV
    rcases hmW with ⟨rfl, rfl⟩ | ⟨b, rfl, _, e3⟩
    · exact look_none V o id hwf hid
    · exact (e3.later (hV b e3.lt)).look o id hwf hid
  rw [hx] at qq
  have q0 := qq W.drew (fun _ _ => rfl)
  have q1 := qq (W.alloc (.cells #[.int .i64 0, .int .i64 0] 44)).drew (fun b hb => Below.heap_alloc _ _ _ hb)
  have r8W : RowAt W (w.heap.size + 1) 44 #[.int .i64 0, .int .i64 0] := by rw [← hW.out]; exact r8.alloc _
  have hbW : Below w.heap.size w W := by rw [← hW.out]; exact hb01.alloc (by omega) _
  have hszW : w1.heap.size ≤ W.heap.size := by rw [← hW.out]; simp
  clear hr r8 hbelow hb1 hmW hm qq
  go_wp2_with fail
  rw [hW.out]
  go_region
  all_goals
    obtain ⟨V, hV⟩ : ∃ V, Hid ((W.alloc (.cells #[.int .i64 0, .int .i64 0] 44)).drew = V) := ⟨_, rfl⟩
    have v8 : RowAt V (w.heap.size + 1) 44 #[.int .i64 0, .int .i64 0] := by rw [← hV.out]; exact r8W.alloc _
    have vx : RowAt V W.heap.size 44 #[.int .i64 0, .int .i64 0] := by rw [← hV.out]; exact RowAt.new _ _ _
    have hbV : Below w.heap.size w V := by
      rw [← hV.out]
      have := hbW.alloc (by omega) (.cells #[.int .i64 0, .int .i64 0] 44)
      exact ⟨this.os, this.tape, this.output, this.size, this.block⟩
    have hVs : W.heap.size < V.heap.size := vx.lt
    simp only [Option.getD_none] at *
    rw [hV.out]
    go_wp2_with fail
    refine (First_any kind _).mono ?_
    rintro e w2 ⟨rfl, hb2⟩
    have v8' := v8.later hb2
    have hb02 : Below w.heap.size w w2 := hbV.trans (hb2.mono (by omega))
    have d0 : w2.cell? ⟨w.heap.size + 1, 0, none⟩ = some (.int .i64 0) := v8'.cell rfl
    have d1 : w2.cell? ⟨w.heap.size + 1, 1, none⟩ = some (.int .i64 0) := v8'.cell rfl
    have f0 := v8'.frozen 0
    have f1 := v8'.frozen 1
    go_wp2
    refine bodyPost_ret (results_cell_row_tmp rfl _ _ (w.heap.size + 1) 44 #[.int .i64 (firstK kind), .int .i64 0] (0, 0) _ rfl ((v8'.set 0 _).set 1 _) Tryd.underlying44 rfl rfl) rfl ?_
    exact ⟨rfl, (hb02.setCell (p := ⟨w.heap.size + 1, 0, none⟩) (by simp) _).setCell (p := ⟨w.heap.size + 1, 1, none⟩) (by simp) _⟩

end Go.Proofs.YtpaknaaainhgfaaDoor
