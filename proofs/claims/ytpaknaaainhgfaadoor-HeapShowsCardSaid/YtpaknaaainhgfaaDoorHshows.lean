/-
  For the law HeapShows: it returns true for every value and every text. Condition: the table of the powers of ten holds them.
-/
import Derived.Test.YtpaknaaainhgfaaDoorHwake
import Derived.Deep.RegionHeld3
namespace Go.Proofs.YtpaknaaainhgfaaDoor
open Go.RowKit Go.Maps Go.WideMaps

/-- What holds in every world of the law's one region. -/
def SS (w : World) (b : Nat) (k n : Int) (W : World) : Prop := RowAt W b 44 #[.int .i64 k, .int .i64 n] ∧ Pow W ∧ Below w.heap.size w W
theorem SS.later {w W W' : World} {b : Nat} {k n : Int} (h : SS w b k n W) (hb : Below W.heap.size W W') : SS w b k n W' :=
  ⟨h.1.later hb, pow_below h.2.1 hb, h.2.2.trans (hb.mono h.2.2.size)⟩
theorem SS.drew {w W : World} {b : Nat} {k n : Int} (h : SS w b k n W) : SS w b k n W.drew := h.later ⟨rfl, rfl, rfl, Nat.le_refl _, fun _ _ => rfl⟩
theorem SS.pow {w W : World} {b : Nat} {k n : Int} (h : SS w b k n W) : Pow W := h.2.1
theorem SS.all {w W : World} {b : Nat} {k n : Int} (h : SS w b k n W) : W.cell? ⟨b, 0, none⟩ = some (.int .i64 k) ∧ W.cell? ⟨b, 1, none⟩ = some (.int .i64 n) ∧ SS w b k n W := ⟨h.1.cell rfl, h.1.cell rfl, h⟩

set_option maxRecDepth 100000 in
set_option maxHeartbeats 8000000 in
theorem HeapShows_any (k n : Int) (s : ByteArray) (w : World) (hp : Pow w) : Calls Tryd.prog 9 #[val2 k n, .string s] w fun e w' => e = .returned (.bool true) ∧ Below w.heap.size w w' := by
  have bA : Below w.heap.size w (w.alloc (.cells #[.int .i64 k, .int .i64 n] 44)) := (Below.refl _ w).alloc (Nat.le_refl _) _
  go_enter Tryd.func9, Tryd.ntmps9
  go_wp2_with fail
  refine (hawake_any _ (pow_below hp bA)).mono ?_
  rintro e w1 ⟨rfl, b1⟩
  have r1 : RowAt w1 w.heap.size 44 #[.int .i64 k, .int .i64 n] := (RowAt.new w 44 #[.int .i64 k, .int .i64 n]).later b1
  have hb1 := bA.trans (b1.mono (by simp))
  clear b1 bA
  have hs : SS w w.heap.size k n w1 := ⟨r1, pow_below hp hb1, hb1⟩
  clear r1 hb1 hp
  obtain ⟨a0, a1, -⟩ := hs.all
  go_wp2_with fail
  go_region_held3 (fun W => W.cell? ⟨w.heap.size, 0, none⟩ = some (.int .i64 k) ∧ W.cell? ⟨w.heap.size, 1, none⟩ = some (.int .i64 n) ∧ SS w w.heap.size k n W)
    (first | exact SS.all (by assumption) | exact SS.all (SS.drew (by assumption)) | exact SS.all (SS.drew (And.right (And.right (by assumption)))))
    (first
      | (go_at_call 36; refine (HShow_any k n _ (SS.pow (And.right (And.right (by assumption))))).mono ?_; rintro e w' ⟨rfl, hb⟩; have hs' := SS.later (And.right (And.right (by assumption))) hb)
      | (go_at_call 37; refine (HRefShow_any k n _ (SS.pow (And.right (And.right (by assumption))))).mono ?_; rintro e w' ⟨rfl, hb⟩; have hs' := SS.later (And.right (And.right (by assumption))) hb)
      | (go_at_call 28; refine (plain_any _ _ _).mono ?_; rintro e w' ⟨rfl, hb⟩; have hs' := SS.later (And.right (And.right (by assumption))) hb)
      | (go_at_call 38; refine (First_any _ _).mono ?_; rintro e w' ⟨rfl, hb⟩; have hs' := SS.later (And.right (And.right (by assumption))) hb)
      | (go_at_call 39; refine (RefFirst_any _ _).mono ?_; rintro e w' ⟨rfl, hb⟩; have hs' := SS.later (And.right (And.right (by assumption))) hb))
  have hend := And.right (And.right (by assumption : _ ∧ _ ∧ SS w w.heap.size k n _))
  go_wp2
  go_ret
  exact ⟨rfl, hend.2.2⟩
end Go.Proofs.YtpaknaaainhgfaaDoor
