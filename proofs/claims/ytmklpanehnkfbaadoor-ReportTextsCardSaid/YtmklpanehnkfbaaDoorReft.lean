/-
  For the laws of report: all that is told of a merge, by the document. Condition: at most 1,000 requests and conflicts each, texts of at most 2,000,000 bytes.
-/
import Derived.Test.YtmklpanehnkfbaaDoorText2
import Derived.Test.YtmklpanehnkfbaaDoorRefw
namespace Go.Proofs.YtmklpanehnkfbaaDoor
open Go.RowKit Go.Shelf

theorem refReq_at {k : Int} {x : List UInt8} (h1 : 1 ≤ k) (h : reqW[(k - 1).toNat]? = some x) : refReq[k.toNat]? = some (x ++ [32]) := by
  obtain ⟨i, rfl⟩ : ∃ i : Nat, k = (i : Int) + 1 := ⟨(k - 1).toNat, by omega⟩
  rw [show ((i : Int) + 1 - 1).toNat = i from by omega] at h
  rw [show ((i : Int) + 1).toNat = i + 1 from by omega]
  have hi := (List.getElem?_eq_some_iff.1 h).1
  have h3 : reqW.length = 3 := rfl
  match i, hi with
  | 0, _ => cases h; rfl
  | 1, _ => cases h; rfl
  | 2, _ => cases h; rfl
  | n + 3, h => omega
set_option maxRecDepth 100000 in
set_option maxHeartbeats 8000000 in
theorem RefShow_any (k : Int) (id to : ByteArray) (w : World) (hs : id.size ≤ 1000000000000) (ht : to.size ≤ 1000000000000) : Calls Tryd.prog 26 #[.agg #[.int .i64 k, .string id, .string to]] w fun e w' => e = .returned (.string (bs (showOf k (tl id) (tl to)))) ∧ Below w.heap.size w w' := by
  obtain ⟨r, hr⟩ : ∃ r, Hid (showOf k (tl id) (tl to) = r) := ⟨_, Lib.hid rfl⟩
  rw [hr.out]
  obtain ⟨l, hl⟩ : ∃ l : Array Value, Hid (l = #[.string ⟨#[]⟩, .string ⟨#[114, 101, 110, 97, 109, 101, 32]⟩, .string ⟨#[109, 111, 118, 101, 45, 109, 101, 109, 98, 101, 114, 32]⟩, .string ⟨#[109, 111, 118, 101, 45, 99, 108, 97, 115, 115, 32]⟩]) := ⟨_, Lib.hid rfl⟩
  obtain ⟨W1, hW1⟩ : ∃ W1, Hid (w.alloc (.cells #[.int .i64 k, .string id, .string to] 33) = W1) := ⟨_, Lib.hid rfl⟩
  obtain ⟨W2, hW2⟩ : ∃ W2, Hid (W1.alloc (.cells l 9) = W2) := ⟨_, Lib.hid rfl⟩
  have hsz1 : W1.heap.size = w.heap.size + 1 := by rw [← hW1.out]; simp
  have Hsz1 := Lib.hid hsz1
  have hb2 : Hid (Below w.heap.size w W2) := by
    rw [← hW2.out, ← hW1.out]
    exact Lib.hid (((Below.refl _ w).alloc (Nat.le_refl _) _).alloc (by simp) _)
  have hk0 : Hid (W2.cell? ⟨w.heap.size, 0, none⟩ = some (.int .i64 k) ∧ W2.cell? ⟨w.heap.size, 1, none⟩ = some (.string id) ∧ W2.cell? ⟨w.heap.size, 2, none⟩ = some (.string to)) := by
    have h : RowAt W2 w.heap.size 33 #[.int .i64 k, .string id, .string to] := by
      rw [← hW2.out]
      refine RowAt.alloc ?_ _
      rw [← hW1.out]
      exact RowAt.new w 33 _
    exact Lib.hid ⟨h.cell (j := 0) rfl, h.cell (j := 1) rfl, h.cell (j := 2) rfl⟩
  have hrow : Strs W2 (.slice (some ⟨w.heap.size + 1, 0, none⟩) 4 4) refReq := by
    have := row_new W1 l refReq (by rw [hl.out]; rfl) (by decide)
    rw [hW2.out, hsz1] at this
    exact this
  clear hsz1
  have d0 := hk0.out.1
  have e0 : W1.cell? ⟨w.heap.size, 0, none⟩ = some (.int .i64 k) := by
    rw [← hW1.out]
    exact (RowAt.new w 33 #[.int .i64 k, .string id, .string to]).cell (j := 0) rfl
  by_cases h1 : k < 1
  · have k1 : decide (k < 1) = true := by simpa using h1
    obtain rfl : r = [] := by rw [← hr.out]; exact showOf_no (by omega)
    clear h1 hrow
    go_enter Tryd.func26, Tryd.ntmps26
    go_wp2_with fail
    go_ret
    refine ⟨rfl, ?_⟩
    rw [← hl.out, hW1.out, hW2.out]
    exact hb2.out
  have k1 : decide (k < 1) = false := by simpa using h1
  by_cases h5 : 3 < k
  · have k5 : decide (3 < k) = true := by simpa using h5
    obtain rfl : r = [] := by rw [← hr.out]; exact showOf_no (by omega)
    clear h5 h1 hrow
    go_enter Tryd.func26, Tryd.ntmps26
    go_wp2_with fail
    go_ret
    refine ⟨rfl, ?_⟩
    rw [← hl.out, hW1.out, hW2.out]
    exact hb2.out
  have k5 : decide (3 < k) = false := by simpa using h5
  obtain ⟨n, rfl⟩ : ∃ n : Nat, k = n := ⟨k.toNat, by omega⟩
  obtain ⟨x, hx⟩ : ∃ x, reqW[((n : Int) - 1).toNat]? = some x := ⟨_, List.getElem?_eq_getElem (by show _ < 3; omega)⟩
  have hxr := refReq_at (by omega) hx
  rw [show ((n : Int)).toNat = n from by omega] at hxr
  have hxl : x.length ≤ 20 := by
    have : ∀ w ∈ reqW, w.length ≤ 20 := by decide
    exact this x (List.mem_of_getElem? hx)
  have hres : Hid (x ++ [32] ++ tl id ++ [32, 116, 111, 32] ++ tl to = r) := Lib.hid (by
    rw [← hr.out]
    have := showOf_at (id := tl id) (to := tl to) hx
    rw [show ((((n : Int) - 1).toNat : Nat) : Int) + 1 = n from by omega] at this
    exact this.symm)
  obtain ⟨a, cap, e, hc, hm, hat⟩ := hrow
  obtain ⟨b, off, e2, hbl, c9⟩ := hat n _ hxr
  cases e
  cases e2
  rw [Nat.zero_add] at c9
  have d1 := hk0.out.2.1
  have d2 := hk0.out.2.2
  have hn4 : n < 4 := by omega
  have z1 : (bs (x ++ [32])).size = x.length + 1 := by rw [bs_size]; simp
  have z3 : (bs (x ++ [32]) ++ id : ByteArray).size = x.length + 1 + id.size := by rw [ByteArray.size_append, z1]
  have z4 : (bs (x ++ [32]) ++ id ++ ⟨#[32, 116, 111, 32]⟩ : ByteArray).size = x.length + 1 + id.size + 4 := by rw [ByteArray.size_append, z3]; rfl
  have hsum : Hid (bs (x ++ [32]) ++ id ++ ⟨#[32, 116, 111, 32]⟩ ++ to = bs r) := Lib.hid (by rw [← hres.out, bs_to, app_bs, bs_app, app_bs])
  clear hat hx hxr hr
  go_enter Tryd.func26, Tryd.ntmps26
  go_wp2_with fail
  rw [← hl.out, hW1.out, hW2.out]
  go_quiet (fail)
  go_wp2_with fail
  go_ret
  exact ⟨ret_str hsum.out, below_draws hb2.out _⟩
end Go.Proofs.YtmklpanehnkfbaaDoor
