/-
  For the laws of report: a conflict, a request and an outcome as a text, by the document. Condition: at most 2 to the 40 bytes each.
-/
import Derived.Test.YtmklpanehnkfbaaDoorWord
import Derived.Deep.RegionHeld3
namespace Go.Proofs.YtmklpanehnkfbaaDoor
open Go.RowKit Go.Shelf

/-- A row of texts that was just laid reads as these texts. -/
theorem row_new (W : World) (l : Array Value) (L : List (List UInt8)) (h : l.toList = strV L) (hm : L.length ≤ 1000) : Strs (W.alloc (.cells l 9)) (.slice (some ⟨W.heap.size, 0, none⟩) L.length L.length) L := by
  refine ⟨_, _, rfl, Nat.le_refl _, by unfold maxLen; omega, fun k x hk => ⟨W.heap.size, 0, rfl, by simp, ?_⟩⟩
  rw [Lib.cell_of_heap (World.alloc_heap_new W _), Nat.zero_add]
  show l[k]? = _
  rw [← Array.getElem?_toList, h, strV, List.getElem?_map, hk]
  rfl
def refW : List (List UInt8) := [] :: conW
set_option maxRecDepth 100000 in
set_option maxHeartbeats 8000000 in
theorem words_any (w : World) : Calls Tryd.prog 22 #[] w fun e w' => (∃ v, e = .returned v ∧ Strs w' v refW) ∧ Below w.heap.size w w' := by
  go_enter Tryd.func22, Tryd.ntmps22
  go_wp2_with fail
  go_ret
  exact ⟨⟨_, rfl, row_new w _ refW rfl (by decide)⟩, (Below.refl _ _).alloc (Nat.le_refl _) _⟩
theorem refW_at {k : Int} {x : List UInt8} (h1 : 1 ≤ k) (h : conW[(k - 1).toNat]? = some x) : refW[k.toNat]? = some x := by
  rw [show k.toNat = (k - 1).toNat + 1 from by omega]
  exact h
set_option maxRecDepth 100000 in
set_option maxHeartbeats 8000000 in
theorem RefConflict_any (k : Int) (key : ByteArray) (w : World) (hs : key.size ≤ 1000000000000) : Calls Tryd.prog 11 #[.agg #[.int .i64 k, .string key]] w fun e w' => e = .returned (.string (bs (conOf k (tl key)))) ∧ Below w.heap.size w w' := by
  obtain ⟨r, hr⟩ : ∃ r, Hid (conOf k (tl key) = r) := ⟨_, Lib.hid rfl⟩
  rw [hr.out]
  obtain ⟨W2, hW2⟩ : ∃ W2, Hid (w.alloc (.cells #[.int .i64 k, .string key] 23) = W2) := ⟨_, Lib.hid rfl⟩
  have hb2 : Hid (Below w.heap.size w W2) := by rw [← hW2.out]; exact Lib.hid ((Below.refl _ w).alloc (Nat.le_refl _) _)
  have hbs := hb2.out.size
  have hk0 : Hid (W2.cell? ⟨w.heap.size, 0, none⟩ = some (.int .i64 k) ∧ W2.cell? ⟨w.heap.size, 1, none⟩ = some (.string key)) := by
    rw [← hW2.out]
    have h := World.alloc_heap_new w (.cells #[.int .i64 k, .string key] 23)
    exact Lib.hid ⟨by rw [Lib.cell_of_heap h]; rfl, by rw [Lib.cell_of_heap h]; rfl⟩
  have hlt2 : w.heap.size < W2.heap.size := by rw [← hW2.out]; simp
  have d0 := hk0.out.1
  have d1 := hk0.out.2
  have e0 : (w.alloc (.cells #[.int .i64 k, .string key] 23)).cell? ⟨w.heap.size, 0, none⟩ = some (.int .i64 k) := by rw [hW2.out]; exact d0
  by_cases h1 : k < 1
  · have k1 : decide (k < 1) = true := by simpa using h1
    obtain rfl : r = [] := by rw [← hr.out]; exact conOf_no (by omega)
    clear h1
    go_enter Tryd.func11, Tryd.ntmps11
    go_wp2_with fail
    go_ret
    exact ⟨rfl, by rw [hW2.out]; exact hb2.out⟩
  have k1 : decide (k < 1) = false := by simpa using h1
  by_cases h5 : 5 < k
  · have k5 : decide (5 < k) = true := by simpa using h5
    obtain rfl : r = [] := by rw [← hr.out]; exact conOf_no (by omega)
    clear h5 h1
    go_enter Tryd.func11, Tryd.ntmps11
    go_wp2_with fail
    go_ret
    exact ⟨rfl, by rw [hW2.out]; exact hb2.out⟩
  have k5 : decide (5 < k) = false := by simpa using h5
  obtain ⟨x, hx, hcon, x1, x2, x3⟩ := conOf_kind (k := k) (key := tl key) (by omega) (by omega)
  have hxr := refW_at (by omega) hx
  have hxl : x.length ≤ 10 := by
    have : ∀ w ∈ conW, w.length ≤ 10 := by decide
    exact this x (List.mem_of_getElem? hx)
  obtain ⟨n, rfl⟩ : ∃ n : Nat, k = n := ⟨k.toNat, by omega⟩
  have hres : Hid (withKey x (tl key) = r) := Lib.hid (by rw [← hr.out, hcon])
  rw [show ((n : Int)).toNat = n from by omega] at hxr
  have Hx := Lib.hid hxr
  clear hx hxr hcon x1 x2 x3
  go_enter Tryd.func11, Tryd.ntmps11
  go_wp2_with fail
  rw [hW2.out]
  have hlt3 : w.heap.size < W2.drew.heap.size := hlt2
  have hn5 : n < 6 := by omega
  have dd0 : W2.drew.cell? ⟨w.heap.size, 0, none⟩ = some (.int .i64 n) := d0
  have Hd := Lib.hid (And.intro dd0 (show W2.drew.cell? ⟨w.heap.size, 1, none⟩ = some (.string key) from d1))
  have Hbd : Hid (Below w.heap.size w W2.drew) := Lib.hid (below_draws hb2.out 1)
  clear e0 d0 d1
  go_region_with (first | (go_at_call 22; (with_reducible refine (words_any _).mono ?_); rintro e w3 ⟨⟨v, rfl, a, cap, rfl, hc, hm, hat⟩, b3⟩; have hc6 : 6 ≤ cap := hc; obtain ⟨bb, off, rfl, hbl, c9⟩ := hat n x Hx.out; have g0 := (b3.cell (p := ⟨w.heap.size, 0, none⟩) hlt3).trans Hd.out.1; have g1 := (b3.cell (p := ⟨w.heap.size, 1, none⟩) hlt3).trans Hd.out.2; have B3 := Lib.hid (Hbd.out.trans (b3.mono Hbd.out.size)); unfold maxLen at hm; clear hat b3; simp only [show refW.length = 6 from rfl]))
  all_goals
    by_cases hk : tl key = []
    · have hke : key.toList = [] := by rw [Lib.toList_data]; exact hk
      have hke2 : key.toList.isEmpty = true := by rw [hke]; rfl
      obtain rfl : r = x := by rw [← hres.out]; simp [withKey, hk]
      clear hk
      go_wp2_with fail
      go_ret
      exact ⟨rfl, B3.out⟩
    · have hke : ¬ key.toList = [] := by rw [Lib.toList_data]; exact hk
      have hke2 : key.toList.isEmpty = false := by simpa using hke
      have hsum : Hid (bs x ++ ⟨#[32]⟩ ++ key = bs r) := Lib.hid (by rw [← hres.out, bs_lit1, bs_app, app_bs]; simp [withKey, hk, tl])
      have z1 : (bs x).size = x.length := bs_size _
      have z2 : (bs x ++ ⟨#[32]⟩ : ByteArray).size = x.length + 1 := by rw [bs_lit1, bs_app, bs_size]; simp
      clear hk
      go_wp2_with fail
      go_ret
      exact ⟨ret_str hsum.out, B3.out⟩
def refOut : List (List UInt8) := [] :: outW
def refReq : List (List UInt8) := [[], [114, 101, 110, 97, 109, 101, 32], [109, 111, 118, 101, 45, 109, 101, 109, 98, 101, 114, 32], [109, 111, 118, 101, 45, 99, 108, 97, 115, 115, 32]]
set_option maxRecDepth 100000 in
set_option maxHeartbeats 8000000 in
theorem RefOutcome_any (k : Int) (w : World) : Calls Tryd.prog 13 #[.int .i64 k] w fun e w' => e = .returned (.string (bs (outOf k))) ∧ Below w.heap.size w w' := by
  obtain ⟨r, hr⟩ : ∃ r, Hid (outOf k = r) := ⟨_, Lib.hid rfl⟩
  rw [hr.out]
  obtain ⟨l, hl⟩ : ∃ l : Array Value, Hid (l = #[.string ⟨#[]⟩, .string ⟨#[109, 101, 114, 103, 101, 100]⟩, .string ⟨#[99, 111, 110, 102, 108, 105, 99, 116, 115]⟩, .string ⟨#[116, 101, 120, 116, 117, 97, 108]⟩, .string ⟨#[116, 111, 111, 32, 108, 97, 114, 103, 101]⟩]) := ⟨_, Lib.hid rfl⟩
  have hrow := row_new w l refOut (by rw [hl.out]; rfl) (by decide)
  have hb : Hid (Below w.heap.size w (w.alloc (.cells l 9))) := Lib.hid ((Below.refl _ w).alloc (Nat.le_refl _) _)
  by_cases h1 : k < 1
  · have k1 : decide (k < 1) = true := by simpa using h1
    obtain rfl : r = [] := by rw [← hr.out]; exact outOf_no (by omega)
    clear h1 hrow
    go_enter Tryd.func13, Tryd.ntmps13
    go_wp2_with fail
    rw [← hl.out]
    go_ret
    exact ⟨rfl, hb.out⟩
  have k1 : decide (k < 1) = false := by simpa using h1
  by_cases h5 : 4 < k
  · have k5 : decide (4 < k) = true := by simpa using h5
    obtain rfl : r = [] := by rw [← hr.out]; exact outOf_no (by omega)
    clear h5 h1 hrow
    go_enter Tryd.func13, Tryd.ntmps13
    go_wp2_with fail
    rw [← hl.out]
    go_ret
    exact ⟨rfl, hb.out⟩
  have k5 : decide (4 < k) = false := by simpa using h5
  obtain ⟨i, rfl⟩ : ∃ i : Nat, k = (i : Int) + 1 := ⟨(k - 1).toNat, by omega⟩
  obtain ⟨x, hx⟩ : ∃ x, outW[i]? = some x := ⟨_, List.getElem?_eq_getElem (by show i < 4; omega)⟩
  obtain rfl : r = x := by rw [← hr.out]; exact outOf_at hx
  have hx2 : refOut[i + 1]? = some r := hx
  obtain ⟨a, cap, e, hc, hm, hat⟩ := hrow
  obtain ⟨b, off, e2, hbl, c9⟩ := hat (i + 1) r hx2
  rw [hl.out] at c9
  cases e
  cases e2
  have hi : (i : Int) + 1 < 5 := by omega
  have hi0 : (0 : Int) ≤ (i : Int) + 1 := by omega
  have hi2 : ((i : Int) + 1).toNat = i + 1 := by omega
  have hi3 : i + 1 < 5 := by omega
  rw [Nat.zero_add] at c9
  clear hat hx hx2 hr
  go_enter Tryd.func13, Tryd.ntmps13
  go_wp2_with fail
  rw [← hl.out]
  go_ret
  exact ⟨rfl, hb.out⟩
end Go.Proofs.YtmklpanehnkfbaaDoor
