/-
  For the laws of heap: what touches no heap: First, Show, the document's First and Show, plain. Condition for Show: the table of the powers of ten holds them.
-/
import Derived.Test.YtpaknaaainhgfaaDoorShows
import Derived.Laws.Rows
import Derived.Laws.ResultCell
namespace Go.Proofs.YtpaknaaainhgfaaDoor
open Go.RowKit Go.Maps Go.WideMaps

/-- A value of the program's, or of the document's. -/
abbrev val2 (k n : Int) : Value := .agg #[.int .i64 k, .int .i64 n]
/-- What First tells: the kind alone. -/
def firstK (s : ByteArray) : Int := if (s.toList == [105, 110, 116]) = true then 1 else if (s.toList == [98, 111, 111, 108, 101, 97, 110]) = true then 2 else 0

theorem results_cell_row_tmp {P : Program} {fn : Func} {p u : Tmp} {ty : TypeId} (h : fn.results = #[.cell p ty, .tmp u]) (tmps : Array Value) (w : World) (g : Nat) (t : TypeId) (cs : Array Value) (fr : Nat × Nat) (d : TypeDesc)
    (hp : tmps.getD p undef = .pointer (some ⟨g, 0, none⟩)) (hg : w.heap[g]? = some (.cells cs t fr))
    (hu : P.underlying ty = some d) (hd : (match d with | .struct _ | .array _ _ => true | _ => false) = true) (hi : (P.info? ty).map (·.size) = some cs.size) :
    (results fn tmps).run P w = .ok (.tuple #[.agg cs, tmps.getD u undef]) w := by
  rw [results_cell_tmp h, hp]
  simp [asAddr, run_loadVar_row w g t ty cs fr d hg hu hd hi]

set_option maxRecDepth 100000 in
set_option maxHeartbeats 2000000 in
theorem First_any (s : ByteArray) (w : World) : Calls Tryd.prog 38 #[.string s] w fun e w' => e = .returned (val2 (firstK s) 0) ∧ Below w.heap.size w w' := by
  by_cases h1 : (s.toList == [105, 110, 116]) = true
  · have hk : firstK s = 1 := by unfold firstK; rw [if_pos h1]
    rw [hk]
    have Hk := Lib.hid hk; clear hk
    go_enter Tryd.func38, Tryd.ntmps38
    go_wp2
    refine bodyPost_ret (results_cell_row rfl _ _ w.heap.size 44 #[.int .i64 1, .int .i64 0] (0, 0) _ rfl (heap_alloc_new _ _) Tryd.underlying44 rfl rfl) rfl ?_
    exact ⟨rfl, (Below.refl _ _).alloc (Nat.le_refl _) _⟩
  · have h1' : (s.toList == [105, 110, 116]) = false := by simpa using h1
    by_cases h2 : (s.toList == [98, 111, 111, 108, 101, 97, 110]) = true
    · have hk : firstK s = 2 := by unfold firstK; rw [if_neg h1, if_pos h2]
      rw [hk]
      have Hk := Lib.hid hk; clear hk
      clear h1
      go_enter Tryd.func38, Tryd.ntmps38
      go_wp2
      refine bodyPost_ret (results_cell_row rfl _ _ w.heap.size 44 #[.int .i64 2, .int .i64 0] (0, 0) _ rfl (heap_alloc_new _ _) Tryd.underlying44 rfl rfl) rfl ?_
      exact ⟨rfl, (Below.refl _ _).alloc (Nat.le_refl _) _⟩
    · have hk : firstK s = 0 := by unfold firstK; rw [if_neg h1, if_neg h2]
      have h2' : (s.toList == [98, 111, 111, 108, 101, 97, 110]) = false := by simpa using h2
      rw [hk]
      have Hk := Lib.hid hk; clear hk
      clear h1 h2
      go_enter Tryd.func38, Tryd.ntmps38
      go_wp2
      refine bodyPost_ret (results_cell_row rfl _ _ w.heap.size 44 #[.int .i64 0, .int .i64 0] (0, 0) _ rfl (heap_alloc_new _ _) Tryd.underlying44 rfl rfl) rfl ?_
      exact ⟨rfl, (Below.refl _ _).alloc (Nat.le_refl _) _⟩

set_option maxRecDepth 100000 in
set_option maxHeartbeats 2000000 in
theorem RefFirst_any (s : ByteArray) (w : World) : Calls Tryd.prog 39 #[.string s] w fun e w' => e = .returned (val2 (firstK s) 0) ∧ Below w.heap.size w w' := by
  by_cases h1 : (s.toList == [105, 110, 116]) = true
  · have hk : firstK s = 1 := by unfold firstK; rw [if_pos h1]
    rw [hk]
    have Hk := Lib.hid hk; clear hk
    go_enter Tryd.func39, Tryd.ntmps39
    go_wp2
    refine bodyPost_ret (results_cell_row rfl _ _ w.heap.size 49 #[.int .i64 1, .int .i64 0] (0, 0) _ rfl (heap_alloc_new _ _) Tryd.underlying49 rfl rfl) rfl ?_
    exact ⟨rfl, (Below.refl _ _).alloc (Nat.le_refl _) _⟩
  · have h1' : (s.toList == [105, 110, 116]) = false := by simpa using h1
    by_cases h2 : (s.toList == [98, 111, 111, 108, 101, 97, 110]) = true
    · have hk : firstK s = 2 := by unfold firstK; rw [if_neg h1, if_pos h2]
      rw [hk]
      have Hk := Lib.hid hk; clear hk
      clear h1
      go_enter Tryd.func39, Tryd.ntmps39
      go_wp2
      refine bodyPost_ret (results_cell_row rfl _ _ w.heap.size 49 #[.int .i64 2, .int .i64 0] (0, 0) _ rfl (heap_alloc_new _ _) Tryd.underlying49 rfl rfl) rfl ?_
      exact ⟨rfl, (Below.refl _ _).alloc (Nat.le_refl _) _⟩
    · have hk : firstK s = 0 := by unfold firstK; rw [if_neg h1, if_neg h2]
      have h2' : (s.toList == [98, 111, 111, 108, 101, 97, 110]) = false := by simpa using h2
      rw [hk]
      have Hk := Lib.hid hk; clear hk
      clear h1 h2
      go_enter Tryd.func39, Tryd.ntmps39
      go_wp2
      refine bodyPost_ret (results_cell_row rfl _ _ w.heap.size 49 #[.int .i64 0, .int .i64 0] (0, 0) _ rfl (heap_alloc_new _ _) Tryd.underlying49 rfl rfl) rfl ?_
      exact ⟨rfl, (Below.refl _ _).alloc (Nat.le_refl _) _⟩

set_option maxRecDepth 100000 in
set_option maxHeartbeats 2000000 in
theorem plain_any (k n : Int) (w : World) : Calls Tryd.prog 28 #[val2 k n] w fun e w' => e = .returned (val2 k n) ∧ Below w.heap.size w w' := by
  go_enter Tryd.func28, Tryd.ntmps28
  go_wp2
  refine bodyPost_ret (results_cell_row rfl _ _ (w.heap.size + 1) 49 #[.int .i64 k, .int .i64 n] (0, 0) _ rfl (heap_alloc2_new _ _ _) Tryd.underlying49 rfl rfl) rfl ?_
  exact ⟨rfl, ((Below.refl _ _).alloc (Nat.le_refl _) _).alloc (by simp) _⟩

/-- What Show tells. -/
def showV (k n : Int) : ByteArray := if k = 1 then ⟨(Lib.itoa (wrap32 n)).toArray⟩ else if k = 2 then (if n = 1 then ⟨#[116, 114, 117, 101]⟩ else ⟨#[102, 97, 108, 115, 101]⟩) else if k = 3 then ⟨#[111, 98, 106, 101, 99, 116]⟩ else ⟨#[110, 117, 108, 108]⟩

set_option maxRecDepth 100000 in
set_option maxHeartbeats 2000000 in
theorem HShow_any (k n : Int) (w : World) (hp : Pow w) : Calls Tryd.prog 36 #[val2 k n] w fun e w' => e = .returned (.string (showV k n)) ∧ Below w.heap.size w w' := by
  by_cases h1 : k = 1
  · have hk : showV k n = ⟨(Lib.itoa (wrap32 n)).toArray⟩ := by unfold showV; rw [if_pos h1]
    rw [hk]
    subst h1
    clear hk
    go_enter Tryd.func36, Tryd.ntmps36
    go_wp2_with fail
    refine (Show_any n _ (pow_below hp ((Below.refl _ w).alloc (Nat.le_refl _) _))).mono ?_
    rintro e w1 ⟨rfl, hb⟩
    go_wp2
    go_ret
    exact ⟨rfl, ((Below.refl _ w).alloc (Nat.le_refl _) _).trans (hb.mono (by simp))⟩
  · have h1' : (k == 1) = false := by rw [beq_eq_false_iff_ne]; exact h1
    by_cases h2 : k = 2
    · by_cases hn : n = 1
      · have hk : showV k n = ⟨#[116, 114, 117, 101]⟩ := by unfold showV; rw [if_neg h1, if_pos h2, if_pos hn]
        rw [hk]
        subst h2 hn
        clear hk h1 h1'
        go_enter Tryd.func36, Tryd.ntmps36
        go_wp2
        go_ret
        exact ⟨rfl, (Below.refl _ w).alloc (Nat.le_refl _) _⟩
      · have hk : showV k n = ⟨#[102, 97, 108, 115, 101]⟩ := by unfold showV; rw [if_neg h1, if_pos h2, if_neg hn]
        have hn' : (n == 1) = false := by rw [beq_eq_false_iff_ne]; exact hn
        rw [hk]
        subst h2
        clear hk h1 h1' hn
        go_enter Tryd.func36, Tryd.ntmps36
        go_wp2
        go_ret
        exact ⟨rfl, (Below.refl _ w).alloc (Nat.le_refl _) _⟩
    · have h2' : (k == 2) = false := by rw [beq_eq_false_iff_ne]; exact h2
      by_cases h3 : k = 3
      · have hk : showV k n = ⟨#[111, 98, 106, 101, 99, 116]⟩ := by unfold showV; rw [if_neg h1, if_neg h2, if_pos h3]
        rw [hk]
        subst h3
        clear hk h1 h1' h2 h2'
        go_enter Tryd.func36, Tryd.ntmps36
        go_wp2
        go_ret
        exact ⟨rfl, (Below.refl _ w).alloc (Nat.le_refl _) _⟩
      · have hk : showV k n = ⟨#[110, 117, 108, 108]⟩ := by unfold showV; rw [if_neg h1, if_neg h2, if_neg h3]
        have h3' : (k == 3) = false := by rw [beq_eq_false_iff_ne]; exact h3
        rw [hk]
        clear hk h1 h2 h3
        go_enter Tryd.func36, Tryd.ntmps36
        go_wp2
        go_ret
        exact ⟨rfl, (Below.refl _ w).alloc (Nat.le_refl _) _⟩

set_option maxRecDepth 100000 in
set_option maxHeartbeats 2000000 in
theorem HRefShow_any (k n : Int) (w : World) (_hp : Pow w) : Calls Tryd.prog 37 #[val2 k n] w fun e w' => e = .returned (.string (showV k n)) ∧ Below w.heap.size w w' := by
  by_cases h1 : k = 1
  · have hk : showV k n = ⟨(Lib.itoa (wrap32 n)).toArray⟩ := by unfold showV; rw [if_pos h1]
    rw [hk]
    subst h1
    clear hk
    go_enter Tryd.func37, Tryd.ntmps37
    go_wp2_with fail
    refine (RefShow_any n _).mono ?_
    rintro e w1 ⟨rfl, hb⟩
    go_wp2
    go_ret
    exact ⟨rfl, ((Below.refl _ w).alloc (Nat.le_refl _) _).trans (hb.mono (by simp))⟩
  · have h1' : (k == 1) = false := by rw [beq_eq_false_iff_ne]; exact h1
    by_cases h2 : k = 2
    · by_cases hn : n = 1
      · have hk : showV k n = ⟨#[116, 114, 117, 101]⟩ := by unfold showV; rw [if_neg h1, if_pos h2, if_pos hn]
        rw [hk]
        subst h2 hn
        clear hk h1 h1'
        go_enter Tryd.func37, Tryd.ntmps37
        go_wp2
        go_ret
        exact ⟨rfl, (Below.refl _ w).alloc (Nat.le_refl _) _⟩
      · have hk : showV k n = ⟨#[102, 97, 108, 115, 101]⟩ := by unfold showV; rw [if_neg h1, if_pos h2, if_neg hn]
        have hn' : (n == 1) = false := by rw [beq_eq_false_iff_ne]; exact hn
        rw [hk]
        subst h2
        clear hk h1 h1' hn
        go_enter Tryd.func37, Tryd.ntmps37
        go_wp2
        go_ret
        exact ⟨rfl, (Below.refl _ w).alloc (Nat.le_refl _) _⟩
    · have h2' : (k == 2) = false := by rw [beq_eq_false_iff_ne]; exact h2
      by_cases h3 : k = 3
      · have hk : showV k n = ⟨#[111, 98, 106, 101, 99, 116]⟩ := by unfold showV; rw [if_neg h1, if_neg h2, if_pos h3]
        rw [hk]
        subst h3
        clear hk h1 h1' h2 h2'
        go_enter Tryd.func37, Tryd.ntmps37
        go_wp2
        go_ret
        exact ⟨rfl, (Below.refl _ w).alloc (Nat.le_refl _) _⟩
      · have hk : showV k n = ⟨#[110, 117, 108, 108]⟩ := by unfold showV; rw [if_neg h1, if_neg h2, if_neg h3]
        have h3' : (k == 3) = false := by rw [beq_eq_false_iff_ne]; exact h3
        rw [hk]
        clear hk h1 h2 h3
        go_enter Tryd.func37, Tryd.ntmps37
        go_wp2
        go_ret
        exact ⟨rfl, (Below.refl _ w).alloc (Nat.le_refl _) _⟩

end Go.Proofs.YtpaknaaainhgfaaDoor
