/-
  For the laws of heap: where a field is stored, or why nowhere. No condition.
-/
import Derived.Test.YtpaknaaainhgfaaDoorHread
namespace Go.Proofs.YtpaknaaainhgfaaDoor
open Go.RowKit Go.Maps Go.WideMaps

set_option maxRecDepth 100000 in
set_option maxHeartbeats 4000000 in
theorem At_nil (k n : Int) (id : ByteArray) (w : World) : Calls Tryd.prog 44 #[.pointer none, val2 k n, .string id] w fun e w' => e = .returned (.tuple #[plc 0 ⟨#[]⟩, .int .i64 1]) ∧ Below w.heap.size w w' := by
  go_enter Tryd.func44, Tryd.ntmps44
  go_wp2
  refine bodyPost_ret (results_cell_row_tmp rfl _ _ (w.heap.size + 1) 87 #[.int .i64 0, .string ⟨#[]⟩] (0, 0) _ rfl (heap_alloc2_new _ _ _) Tryd.underlying87 rfl rfl) rfl ?_
  exact ⟨rfl, ((Below.refl _ _).alloc (Nat.le_refl _) _).alloc (by simp) _⟩

/-- An object of the heap's? -/
def isObj (len : Nat) (k n : Int) : Prop := k = 3 ∧ 1 ≤ n ∧ n ≤ len

set_option maxRecDepth 100000 in
set_option maxHeartbeats 4000000 in
theorem At_null (k n : Int) (id : ByteArray) (w : World) (base h m : Nat) (cs : List ByteArray) (f : Store) (H : Hp w base h cs m f) (hno : ¬ isObj cs.length k n) (hk : k = 0 ∨ k = 3) :
    Calls Tryd.prog 44 #[.pointer (some ⟨h, 0, none⟩), val2 k n, .string id] w fun e w' => e = .returned (.tuple #[plc 0 ⟨#[]⟩, .int .i64 220]) ∧ Below w.heap.size w w' := by
  have g : ((k == 0) || (k == 3)) = true := by rcases hk with rfl | rfl <;> rfl
  have hlt := H.lt
  have hbelow : Below w.heap.size w ((w.alloc (.cells #[.int .i64 k, .int .i64 n] 44)).alloc (.cells #[.int .i64 0, .string ⟨#[]⟩] 87)) := ((Below.refl _ w).alloc (Nat.le_refl _) _).alloc (by simp) _
  go_enter Tryd.func44, Tryd.ntmps44
  go_wp2_with fail
  refine (Class_no k n _ base h m cs f (H.later hbelow) hno).mono ?_
  rintro e w1 ⟨rfl, hb1⟩
  have r4 : RowAt w1 w.heap.size 44 #[.int .i64 k, .int .i64 n] := ((RowAt.new w 44 #[.int .i64 k, .int .i64 n]).alloc _).later hb1
  have r6 : RowAt w1 (w.heap.size + 1) 87 #[.int .i64 0, .string ⟨#[]⟩] := by
    have := (RowAt.new (w.alloc (.cells #[.int .i64 k, .int .i64 n] 44)) 87 #[.int .i64 0, .string ⟨#[]⟩]).later hb1
    rw [World.size_alloc] at this
    exact this
  have hb01 : Below w.heap.size w w1 := hbelow.trans (hb1.mono (by simp; omega))
  have a0 : w1.cell? ⟨w.heap.size, 0, none⟩ = some (.int .i64 k) := r4.cell rfl
  have a1 : w1.cell? ⟨w.heap.size, 1, none⟩ = some (.int .i64 n) := r4.cell rfl
  have d0 : w1.cell? ⟨w.heap.size + 1, 0, none⟩ = some (.int .i64 0) := r6.cell rfl
  have d1 : w1.cell? ⟨w.heap.size + 1, 1, none⟩ = some (.string ⟨#[]⟩) := r6.cell rfl
  have f0 := r6.frozen 0
  have f1 := r6.frozen 1
  go_wp2
  all_goals refine bodyPost_ret (results_cell_row_tmp rfl _ _ (w.heap.size + 1) 87 #[.int .i64 0, .string ⟨#[]⟩] (0, 0) _ rfl ((r6.set 0 _).set 1 _) Tryd.underlying87 rfl rfl) rfl ?_
  all_goals exact ⟨rfl, (hb01.setCell (p := ⟨w.heap.size + 1, 0, none⟩) (by simp) _).setCell (p := ⟨w.heap.size + 1, 1, none⟩) (by simp) _⟩

set_option maxRecDepth 100000 in
set_option maxHeartbeats 4000000 in
theorem At_stat (k n : Int) (id : ByteArray) (w : World) (base h m : Nat) (cs : List ByteArray) (f : Store) (H : Hp w base h cs m f) (hno : ¬ isObj cs.length k n) (hk : k = 1 ∧ n = 0) :
    Calls Tryd.prog 44 #[.pointer (some ⟨h, 0, none⟩), val2 k n, .string id] w fun e w' => e = .returned (.tuple #[plc 0 id, .int .i64 0]) ∧ Below w.heap.size w w' := by
  obtain ⟨rfl, rfl⟩ := hk
  have hlt := H.lt
  have hbelow : Below w.heap.size w ((w.alloc (.cells #[.int .i64 1, .int .i64 0] 44)).alloc (.cells #[.int .i64 0, .string ⟨#[]⟩] 87)) := ((Below.refl _ w).alloc (Nat.le_refl _) _).alloc (by simp) _
  go_enter Tryd.func44, Tryd.ntmps44
  go_wp2_with fail
  refine (Class_no 1 0 _ base h m cs f (H.later hbelow) hno).mono ?_
  rintro e w1 ⟨rfl, hb1⟩
  have r4 : RowAt w1 w.heap.size 44 #[.int .i64 1, .int .i64 0] := ((RowAt.new w 44 #[.int .i64 1, .int .i64 0]).alloc _).later hb1
  have r6 : RowAt w1 (w.heap.size + 1) 87 #[.int .i64 0, .string ⟨#[]⟩] := by
    have := (RowAt.new (w.alloc (.cells #[.int .i64 1, .int .i64 0] 44)) 87 #[.int .i64 0, .string ⟨#[]⟩]).later hb1
    rw [World.size_alloc] at this
    exact this
  have hb01 : Below w.heap.size w w1 := hbelow.trans (hb1.mono (by simp; omega))
  have a0 : w1.cell? ⟨w.heap.size, 0, none⟩ = some (.int .i64 1) := r4.cell rfl
  have a1 : w1.cell? ⟨w.heap.size, 1, none⟩ = some (.int .i64 0) := r4.cell rfl
  have d0 : w1.cell? ⟨w.heap.size + 1, 0, none⟩ = some (.int .i64 0) := r6.cell rfl
  have d1 : w1.cell? ⟨w.heap.size + 1, 1, none⟩ = some (.string ⟨#[]⟩) := r6.cell rfl
  have f0 := r6.frozen 0
  have f1 := r6.frozen 1
  go_wp2
  all_goals refine bodyPost_ret (results_cell_row_tmp rfl _ _ (w.heap.size + 1) 87 #[.int .i64 0, .string id] (0, 0) _ rfl ((r6.set 0 _).set 1 _) Tryd.underlying87 rfl rfl) rfl ?_
  all_goals exact ⟨rfl, (hb01.setCell (p := ⟨w.heap.size + 1, 0, none⟩) (by simp) _).setCell (p := ⟨w.heap.size + 1, 1, none⟩) (by simp) _⟩

set_option maxRecDepth 100000 in
set_option maxHeartbeats 4000000 in
theorem At_bad (k n : Int) (id : ByteArray) (w : World) (base h m : Nat) (cs : List ByteArray) (f : Store) (H : Hp w base h cs m f) (hno : ¬ isObj cs.length k n) (h0 : k ≠ 0) (h3 : k ≠ 3) (hk : ¬ (k = 1 ∧ n = 0)) :
    Calls Tryd.prog 44 #[.pointer (some ⟨h, 0, none⟩), val2 k n, .string id] w fun e w' => e = .returned (.tuple #[plc 0 ⟨#[]⟩, .int .i64 1]) ∧ Below w.heap.size w w' := by
  have g0 : (k == 0) = false := by simpa using h0
  have g3 : (k == 3) = false := by simpa using h3
  have hlt := H.lt
  have hbelow : Below w.heap.size w ((w.alloc (.cells #[.int .i64 k, .int .i64 n] 44)).alloc (.cells #[.int .i64 0, .string ⟨#[]⟩] 87)) := ((Below.refl _ w).alloc (Nat.le_refl _) _).alloc (by simp) _
  go_enter Tryd.func44, Tryd.ntmps44
  go_wp2_with fail
  refine (Class_no k n _ base h m cs f (H.later hbelow) hno).mono ?_
  rintro e w1 ⟨rfl, hb1⟩
  have r4 : RowAt w1 w.heap.size 44 #[.int .i64 k, .int .i64 n] := ((RowAt.new w 44 #[.int .i64 k, .int .i64 n]).alloc _).later hb1
  have r6 : RowAt w1 (w.heap.size + 1) 87 #[.int .i64 0, .string ⟨#[]⟩] := by
    have := (RowAt.new (w.alloc (.cells #[.int .i64 k, .int .i64 n] 44)) 87 #[.int .i64 0, .string ⟨#[]⟩]).later hb1
    rw [World.size_alloc] at this
    exact this
  have hb01 : Below w.heap.size w w1 := hbelow.trans (hb1.mono (by simp; omega))
  have a0 : w1.cell? ⟨w.heap.size, 0, none⟩ = some (.int .i64 k) := r4.cell rfl
  have a1 : w1.cell? ⟨w.heap.size, 1, none⟩ = some (.int .i64 n) := r4.cell rfl
  have d0 : w1.cell? ⟨w.heap.size + 1, 0, none⟩ = some (.int .i64 0) := r6.cell rfl
  have d1 : w1.cell? ⟨w.heap.size + 1, 1, none⟩ = some (.string ⟨#[]⟩) := r6.cell rfl
  have f0 := r6.frozen 0
  have f1 := r6.frozen 1
  go_wp2
  all_goals refine bodyPost_ret (results_cell_row_tmp rfl _ _ (w.heap.size + 1) 87 #[.int .i64 0, .string ⟨#[]⟩] (0, 0) _ rfl ((r6.set 0 _).set 1 _) Tryd.underlying87 rfl rfl) rfl ?_
  all_goals exact ⟨rfl, (hb01.setCell (p := ⟨w.heap.size + 1, 0, none⟩) (by simp) _).setCell (p := ⟨w.heap.size + 1, 1, none⟩) (by simp) _⟩

set_option maxRecDepth 100000 in
set_option maxHeartbeats 4000000 in
theorem At_obj (j : Nat) (id s : ByteArray) (w : World) (base h m : Nat) (cs : List ByteArray) (f : Store) (H : Hp w base h cs m f) (hj : cs[j]? = some s) :
    Calls Tryd.prog 44 #[.pointer (some ⟨h, 0, none⟩), val2 3 ((j : Int) + 1), .string id] w fun e w' => e = .returned (.tuple #[plc ((j : Int) + 1) id, .int .i64 0]) ∧ Below w.heap.size w w' := by
  have hlt := H.lt
  have hbelow : Below w.heap.size w ((w.alloc (.cells #[.int .i64 3, .int .i64 ((j : Int) + 1)] 44)).alloc (.cells #[.int .i64 0, .string ⟨#[]⟩] 87)) := ((Below.refl _ w).alloc (Nat.le_refl _) _).alloc (by simp) _
  go_enter Tryd.func44, Tryd.ntmps44
  go_wp2_with fail
  refine (Class_yes j s _ base h m cs f (H.later hbelow) hj).mono ?_
  rintro e w1 ⟨rfl, hb1⟩
  have r4 : RowAt w1 w.heap.size 44 #[.int .i64 3, .int .i64 ((j : Int) + 1)] := ((RowAt.new w 44 #[.int .i64 3, .int .i64 ((j : Int) + 1)]).alloc _).later hb1
  have r6 : RowAt w1 (w.heap.size + 1) 87 #[.int .i64 0, .string ⟨#[]⟩] := by
    have := (RowAt.new (w.alloc (.cells #[.int .i64 3, .int .i64 ((j : Int) + 1)] 44)) 87 #[.int .i64 0, .string ⟨#[]⟩]).later hb1
    rw [World.size_alloc] at this
    exact this
  have hb01 : Below w.heap.size w w1 := hbelow.trans (hb1.mono (by simp; omega))
  have a0 : w1.cell? ⟨w.heap.size, 0, none⟩ = some (.int .i64 3) := r4.cell rfl
  have a1 : w1.cell? ⟨w.heap.size, 1, none⟩ = some (.int .i64 ((j : Int) + 1)) := r4.cell rfl
  have d0 : w1.cell? ⟨w.heap.size + 1, 0, none⟩ = some (.int .i64 0) := r6.cell rfl
  have d1 : w1.cell? ⟨w.heap.size + 1, 1, none⟩ = some (.string ⟨#[]⟩) := r6.cell rfl
  have f0 := r6.frozen 0
  have f1 := r6.frozen 1
  go_wp2
  refine bodyPost_ret (results_cell_row_tmp rfl _ _ (w.heap.size + 1) 87 #[.int .i64 ((j : Int) + 1), .string id] (0, 0) _ rfl ((r6.set 0 _).set 1 _) Tryd.underlying87 rfl rfl) rfl ?_
  exact ⟨rfl, (hb01.setCell (p := ⟨w.heap.size + 1, 0, none⟩) (by simp) _).setCell (p := ⟨w.heap.size + 1, 1, none⟩) (by simp) _⟩

/-- The place that 'at' tells, and its error: the object's number, or 0; then why there is none. -/
def whereAt (len : Nat) (k n : Int) : Int × Int := if k = 3 ∧ 1 ≤ n ∧ n ≤ len then (n, 0) else if k = 0 ∨ k = 3 then (0, 220) else if k = 1 ∧ n = 0 then (0, 0) else (0, 1)
/-- The place of a field. -/
def plcOf (x : Int × Int) (id : ByteArray) : Value := if x.2 = 0 then plc x.1 id else plc 0 ⟨#[]⟩
theorem At_any (k n : Int) (id : ByteArray) (w : World) (base h m : Nat) (cs : List ByteArray) (f : Store) (H : Hp w base h cs m f) :
    Calls Tryd.prog 44 #[.pointer (some ⟨h, 0, none⟩), val2 k n, .string id] w fun e w' => e = .returned (.tuple #[plcOf (whereAt cs.length k n) id, .int .i64 (whereAt cs.length k n).2]) ∧ Below w.heap.size w w' := by
  by_cases ho : isObj cs.length k n
  · have hw : whereAt cs.length k n = (n, 0) := if_pos ho
    rw [hw]
    obtain ⟨rfl, h1, h2⟩ := ho
    obtain ⟨j, hj⟩ := Int.eq_ofNat_of_zero_le (show 0 ≤ n - 1 by omega)
    obtain rfl : n = (j : Int) + 1 := by omega
    exact At_obj j id (cs[j]'(by omega)) w base h m cs f H (List.getElem?_eq_getElem _)
  · have ho' : ¬ (k = 3 ∧ 1 ≤ n ∧ n ≤ (cs.length : Int)) := ho
    by_cases h03 : k = 0 ∨ k = 3
    · have hw : whereAt cs.length k n = (0, 220) := by unfold whereAt; rw [if_neg ho', if_pos h03]
      rw [hw]
      exact At_null k n id w base h m cs f H ho h03
    · by_cases h10 : k = 1 ∧ n = 0
      · have hw : whereAt cs.length k n = (0, 0) := by unfold whereAt; rw [if_neg ho', if_neg h03, if_pos h10]
        rw [hw]
        exact At_stat k n id w base h m cs f H ho h10
      · have hw : whereAt cs.length k n = (0, 1) := by unfold whereAt; rw [if_neg ho', if_neg h03, if_neg h10]
        rw [hw]
        exact At_bad k n id w base h m cs f H ho (fun e => h03 (.inl e)) (fun e => h03 (.inr e)) h10
end Go.Proofs.YtpaknaaainhgfaaDoor
