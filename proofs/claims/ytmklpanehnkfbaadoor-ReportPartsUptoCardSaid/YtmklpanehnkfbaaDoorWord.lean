/-
  For the laws of report: a conflict, a request and an outcome as a text, by the program. Condition: at most 2 to the 40 bytes each; the program's tables are as they are laid.
-/
import Derived.Test.YtmklpanehnkfbaaDoorBase
import Derived.Test.YtmklpanehnkfbaaDoorPure
namespace Go.Proofs.YtmklpanehnkfbaaDoor
open Go.RowKit Go.Shelf

/-- The table L of words stands at g. -/
def Tab (W : World) (g : Nat) (L : List (List UInt8)) : Prop :=
  ∀ (i : Nat) (x : List UInt8), L[i]? = some x → W.cell? ⟨g, i * 2, none⟩ = some (.int .i64 ((i : Int) + 1)) ∧ W.cell? ⟨g, i * 2 + 1, none⟩ = some (.string (bs x))
structure RepW (W : World) : Prop where
  con : Tab W 0 conW
  out : Tab W 1 outW
  req : Tab W 2 reqW
  max : ∃ m, W.cell? ⟨3, 0, none⟩ = some (.int .i64 m)
  size : 4 ≤ W.heap.size
theorem Tab.below {W W' : World} {B g : Nat} {L : List (List UInt8)} (h : Tab W g L) (hb : Below B W W') (hB : g < B) : Tab W' g L := fun i x hx =>
  ⟨(hb.cell (p := ⟨g, i * 2, none⟩) hB).trans (h i x hx).1, (hb.cell (p := ⟨g, i * 2 + 1, none⟩) hB).trans (h i x hx).2⟩
theorem RepW.below {W W' : World} {B : Nat} (h : RepW W) (hb : Below B W W') (hB : 4 ≤ B) : RepW W' :=
  ⟨h.con.below hb (by omega), h.out.below hb (by omega), h.req.below hb (by omega), h.max.imp fun m hm => (hb.cell (p := ⟨3, 0, none⟩) (by show 3 < B; omega)).trans hm, Nat.le_trans h.size hb.size⟩
theorem bs_app (a b : List UInt8) : bs a ++ bs b = bs (a ++ b) := by
  rw [← bs_tl (bs a ++ bs b)]
  simp [tl]
theorem bs_lit1 : (⟨#[32]⟩ : ByteArray) = bs [32] := rfl
theorem bs_to : (⟨#[32, 116, 111, 32]⟩ : ByteArray) = bs [32, 116, 111, 32] := rfl
theorem app_bs (a : List UInt8) (s : ByteArray) : bs a ++ s = bs (a ++ tl s) := by rw [← bs_app, bs_tl]
theorem ret_str {a b : ByteArray} (h : a = b) : Ending.returned (.string a) = Ending.returned (.string b) := by rw [h]
set_option maxRecDepth 100000 in
set_option maxHeartbeats 8000000 in
theorem Conflict_any (k : Int) (key : ByteArray) (w : World) (hW : RepW w) (hs : key.size ≤ 1000000000000) : Calls Tryd.prog 10 #[.agg #[.int .i64 k, .string key]] w fun e w' => e = .returned (.string (bs (conOf k (tl key)))) ∧ Below w.heap.size w w' := by
  have HW := Lib.hid hW; clear hW
  have hW4 := HW.out.size
  obtain ⟨r, hr⟩ : ∃ r, Hid (conOf k (tl key) = r) := ⟨_, Lib.hid rfl⟩
  rw [hr.out]
  obtain ⟨W2, hW2⟩ : ∃ W2, Hid (w.alloc (.cells #[.int .i64 k, .string key] 23) = W2) := ⟨_, Lib.hid rfl⟩
  have hb2 : Hid (Below w.heap.size w W2) := by rw [← hW2.out]; exact Lib.hid ((Below.refl _ w).alloc (Nat.le_refl _) _)
  have hk0 : Hid (W2.cell? ⟨w.heap.size, 0, none⟩ = some (.int .i64 k) ∧ W2.cell? ⟨w.heap.size, 1, none⟩ = some (.string key)) := by
    rw [← hW2.out]
    have h := World.alloc_heap_new w (.cells #[.int .i64 k, .string key] 23)
    exact Lib.hid ⟨by rw [Lib.cell_of_heap h]; rfl, by rw [Lib.cell_of_heap h]; rfl⟩
  go_enter Tryd.func10, Tryd.ntmps10
  go_wp2_with fail
  rw [hW2.out]
  go_loopw [4] (fun c wr => ∃ i q : Nat, Hid (wr = W2.drewN q) ∧ c = .int .i64 i ∧ i ≤ 5 ∧ Hid (∀ j : Nat, j < i → (j : Int) + 1 ≠ k)) (fun c _ => 5 - (intOf c).toNat)
  case atStart => exact ⟨0, 0, Lib.hid rfl, rfl, by omega, Lib.hid (fun j h => by omega)⟩
  case round =>
    obtain ⟨i, q, hq, rfl, hi, hno⟩ := hrel
    by_cases hlt : i < 5
    · obtain ⟨x, hx, -, x1, x2, x3⟩ := conW_get hlt
      obtain ⟨c0, c1⟩ := HW.out.con i x hx
      have hbr : Hid (Below w.heap.size w wr) := Lib.hid (by rw [hq.out]; exact below_draws hb2.out q)
      have g0 : wr.cell? ⟨0, i * 2, none⟩ = some (.int .i64 ((i : Int) + 1)) := (hbr.out.cell (p := ⟨0, i * 2, none⟩) (by show 0 < w.heap.size; omega)).trans c0
      have g1 : wr.cell? ⟨0, i * 2 + 1, none⟩ = some (.string (bs x)) := (hbr.out.cell (p := ⟨0, i * 2 + 1, none⟩) (by show 0 < w.heap.size; omega)).trans c1
      have d0 : wr.cell? ⟨w.heap.size, 0, none⟩ = some (.int .i64 k) := by rw [hq.out]; exact hk0.out.1
      have d1 : wr.cell? ⟨w.heap.size, 1, none⟩ = some (.string key) := by rw [hq.out]; exact hk0.out.2
      have Hx := Lib.hid hx
      have hxl : x.length ≤ 10 := by
        have : ∀ w ∈ conW, w.length ≤ 10 := by decide
        exact this x (List.mem_of_getElem? hx)
      clear c0 c1 hx x1 x2 x3
      by_cases hik : (i : Int) + 1 = k
      · have hk1 : ((i : Int) + 1 != k) = false := by simp [hik]
        have hres : Hid (withKey x (tl key) = r) := Lib.hid (by rw [← hr.out, ← hik]; exact (conOf_at Hx.out).symm)
        clear hik
        by_cases hk : tl key = []
        · have hke : key.toList = [] := by rw [Lib.toList_data]; exact hk
          have hke2 : (key.toList == []) = true := by rw [hke]; rfl
          obtain rfl : r = x := by rw [← hres.out]; simp [withKey, hk]
          clear hk
          go_wp2_with fail
          go_quiet (fail)
          go_wp2_with fail
          go_ret
          exact ⟨rfl, below_draws hbr.out _⟩
        · have hke : ¬ key.toList = [] := by rw [Lib.toList_data]; exact hk
          have hke2 : (key.toList == []) = false := by simpa using hke
          have hsum : Hid (bs x ++ ⟨#[32]⟩ ++ key = bs r) := Lib.hid (by rw [← hres.out, bs_lit1, bs_app, app_bs]; simp [withKey, hk, tl])
          have z1 : (bs x).size = x.length := bs_size _
          have z2 : (bs x ++ ⟨#[32]⟩ : ByteArray).size = x.length + 1 := by rw [bs_lit1, bs_app, bs_size]; simp
          clear hk
          go_wp2_with fail
          go_quiet (fail)
          go_wp2_with fail
          go_quiet (fail)
          go_wp2_with fail
          go_ret
          exact ⟨ret_str hsum.out, below_draws (below_draws hbr.out _) _⟩
      · have hk1 : ((i : Int) + 1 != k) = true := by simpa using hik
        have hnx : Hid (∀ j : Nat, j < i + 1 → (j : Int) + 1 ≠ k) := Lib.hid (fun j hj => by
          rcases Nat.lt_or_ge j i with h | h
          · exact hno.out j h
          · obtain rfl : j = i := by omega
            exact hik)
        clear hik
        go_wp2_with fail
        go_quiet (fail)
        go_wp2_with fail
        exact ⟨⟨i + 1, q + nq, Lib.hid (by rw [hq.out, World.drewN_drewN]), by go_num, by omega, hnx⟩, by simp [intOf]; omega⟩
    · obtain rfl : i = 5 := by omega
      obtain rfl : r = [] := by
        rw [← hr.out]
        refine conOf_no fun h => ?_
        exact hno.out (k - 1).toNat (by omega) (by omega)
      go_wp2_with fail
      go_ret
      exact ⟨rfl, by rw [hq.out]; exact below_draws hb2.out q⟩
set_option maxRecDepth 100000 in
set_option maxHeartbeats 8000000 in
theorem Outcome_any (k : Int) (w : World) (hW : RepW w) : Calls Tryd.prog 12 #[.int .i64 k] w fun e w' => e = .returned (.string (bs (outOf k))) ∧ Below w.heap.size w w' := by
  have HW := Lib.hid hW; clear hW
  obtain ⟨r, hr⟩ : ∃ r, Hid (outOf k = r) := ⟨_, Lib.hid rfl⟩
  rw [hr.out]
  go_enter Tryd.func12, Tryd.ntmps12
  go_wp2_with fail
  go_loop [4] (fun c => ∃ i : Nat, c = .int .i64 i ∧ i ≤ 4 ∧ Hid (∀ j : Nat, j < i → (j : Int) + 1 ≠ k)) (fun c => 4 - (intOf c).toNat)
  case atStart => exact ⟨0, rfl, by omega, Lib.hid (fun j h => by omega)⟩
  case round =>
    obtain ⟨i, rfl, hi, hno⟩ := hrel
    by_cases hlt : i < 4
    · obtain ⟨x, hx⟩ : ∃ x, outW[i]? = some x := ⟨_, List.getElem?_eq_getElem hlt⟩
      obtain ⟨g0, g1⟩ := HW.out.out i x hx
      have Hx := Lib.hid hx
      clear hx
      by_cases hik : (i : Int) + 1 = k
      · have hk1 : ((i : Int) + 1 == k) = true := by simp [hik]
        obtain rfl : r = x := by rw [← hr.out, ← hik]; exact outOf_at Hx.out
        clear hik
        go_wp2_with fail
        go_ret
        exact ⟨rfl, Below.refl _ _⟩
      · have hk1 : ((i : Int) + 1 == k) = false := by simpa using hik
        have hnx : Hid (∀ j : Nat, j < i + 1 → (j : Int) + 1 ≠ k) := Lib.hid (fun j hj => by
          rcases Nat.lt_or_ge j i with h | h
          · exact hno.out j h
          · obtain rfl : j = i := by omega
            exact hik)
        clear hik
        go_wp2_with fail
        exact ⟨⟨i + 1, by go_num, by omega, hnx⟩, by simp [intOf]; omega⟩
    · obtain rfl : i = 4 := by omega
      obtain rfl : r = [] := by
        rw [← hr.out]
        refine outOf_no fun h => ?_
        exact hno.out (k - 1).toNat (by omega) (by omega)
      go_wp2_with fail
      go_ret
      exact ⟨rfl, Below.refl _ _⟩
set_option maxRecDepth 100000 in
set_option maxHeartbeats 8000000 in
theorem Show_any (k : Int) (id to : ByteArray) (w : World) (hW : RepW w) (hs : id.size ≤ 1000000000000) (ht : to.size ≤ 1000000000000) : Calls Tryd.prog 24 #[.agg #[.int .i64 k, .string id, .string to]] w fun e w' => e = .returned (.string (bs (showOf k (tl id) (tl to)))) ∧ Below w.heap.size w w' := by
  have HW := Lib.hid hW; clear hW
  have hW4 := HW.out.size
  obtain ⟨r, hr⟩ : ∃ r, Hid (showOf k (tl id) (tl to) = r) := ⟨_, Lib.hid rfl⟩
  rw [hr.out]
  obtain ⟨W2, hW2⟩ : ∃ W2, Hid (w.alloc (.cells #[.int .i64 k, .string id, .string to] 33) = W2) := ⟨_, Lib.hid rfl⟩
  have hb2 : Hid (Below w.heap.size w W2) := by rw [← hW2.out]; exact Lib.hid ((Below.refl _ w).alloc (Nat.le_refl _) _)
  have hk0 : Hid (W2.cell? ⟨w.heap.size, 0, none⟩ = some (.int .i64 k) ∧ W2.cell? ⟨w.heap.size, 1, none⟩ = some (.string id) ∧ W2.cell? ⟨w.heap.size, 2, none⟩ = some (.string to)) := by
    rw [← hW2.out]
    have h := World.alloc_heap_new w (.cells #[.int .i64 k, .string id, .string to] 33)
    exact Lib.hid ⟨by rw [Lib.cell_of_heap h]; rfl, by rw [Lib.cell_of_heap h]; rfl, by rw [Lib.cell_of_heap h]; rfl⟩
  go_enter Tryd.func24, Tryd.ntmps24
  go_wp2_with fail
  rw [hW2.out]
  go_loopw [4] (fun c wr => ∃ i q : Nat, Hid (wr = W2.drewN q) ∧ c = .int .i64 i ∧ i ≤ 3 ∧ Hid (∀ j : Nat, j < i → (j : Int) + 1 ≠ k)) (fun c _ => 3 - (intOf c).toNat)
  case atStart => exact ⟨0, 0, Lib.hid rfl, rfl, by omega, Lib.hid (fun j h => by omega)⟩
  case round =>
    obtain ⟨i, q, hq, rfl, hi, hno⟩ := hrel
    by_cases hlt : i < 3
    · obtain ⟨x, hx⟩ : ∃ x, reqW[i]? = some x := ⟨_, List.getElem?_eq_getElem hlt⟩
      obtain ⟨c0, c1⟩ := HW.out.req i x hx
      have hbr : Hid (Below w.heap.size w wr) := Lib.hid (by rw [hq.out]; exact below_draws hb2.out q)
      have g0 : wr.cell? ⟨2, i * 2, none⟩ = some (.int .i64 ((i : Int) + 1)) := (hbr.out.cell (p := ⟨2, i * 2, none⟩) (by show 2 < w.heap.size; omega)).trans c0
      have g1 : wr.cell? ⟨2, i * 2 + 1, none⟩ = some (.string (bs x)) := (hbr.out.cell (p := ⟨2, i * 2 + 1, none⟩) (by show 2 < w.heap.size; omega)).trans c1
      have d0 : wr.cell? ⟨w.heap.size, 0, none⟩ = some (.int .i64 k) := by rw [hq.out]; exact hk0.out.1
      have d1 : wr.cell? ⟨w.heap.size, 1, none⟩ = some (.string id) := by rw [hq.out]; exact hk0.out.2.1
      have d2 : wr.cell? ⟨w.heap.size, 2, none⟩ = some (.string to) := by rw [hq.out]; exact hk0.out.2.2
      have Hx := Lib.hid hx
      have hxl : x.length ≤ 20 := by
        have : ∀ w ∈ reqW, w.length ≤ 20 := by decide
        exact this x (List.mem_of_getElem? hx)
      clear c0 c1 hx
      by_cases hik : (i : Int) + 1 = k
      · have hk1 : ((i : Int) + 1 == k) = true := by simp [hik]
        have hres : Hid (x ++ [32] ++ tl id ++ [32, 116, 111, 32] ++ tl to = r) := Lib.hid (by rw [← hr.out, ← hik]; exact (showOf_at Hx.out).symm)
        have z1 : (bs x).size = x.length := bs_size _
        have z2 : (bs x ++ ⟨#[32]⟩ : ByteArray).size = x.length + 1 := by rw [bs_lit1, bs_app, bs_size]; simp
        have z3 : (bs x ++ ⟨#[32]⟩ ++ id : ByteArray).size = x.length + 1 + id.size := by rw [ByteArray.size_append, z2]
        have z4 : (bs x ++ ⟨#[32]⟩ ++ id ++ ⟨#[32, 116, 111, 32]⟩ : ByteArray).size = x.length + 1 + id.size + 4 := by rw [ByteArray.size_append, z3]; rfl
        have hsum : Hid (bs x ++ ⟨#[32]⟩ ++ id ++ ⟨#[32, 116, 111, 32]⟩ ++ to = bs r) := Lib.hid (by rw [← hres.out, bs_lit1, bs_to, bs_app, app_bs, bs_app, app_bs])
        clear hik
        go_wp2_with fail
        go_quiet (fail)
        go_wp2_with fail
        go_quiet (fail)
        go_wp2_with fail
        go_ret
        exact ⟨ret_str hsum.out, below_draws (below_draws hbr.out _) _⟩
      · have hk1 : ((i : Int) + 1 == k) = false := by simpa using hik
        have hnx : Hid (∀ j : Nat, j < i + 1 → (j : Int) + 1 ≠ k) := Lib.hid (fun j hj => by
          rcases Nat.lt_or_ge j i with h | h
          · exact hno.out j h
          · obtain rfl : j = i := by omega
            exact hik)
        clear hik
        go_wp2_with fail
        go_quiet (fail)
        go_wp2_with fail
        exact ⟨⟨i + 1, q + nq, Lib.hid (by rw [hq.out, World.drewN_drewN]), by go_num, by omega, hnx⟩, by simp [intOf]; omega⟩
    · obtain rfl : i = 3 := by omega
      obtain rfl : r = [] := by
        rw [← hr.out]
        refine showOf_no fun h => ?_
        exact hno.out (k - 1).toNat (by omega) (by omega)
      go_wp2_with fail
      go_ret
      exact ⟨rfl, by rw [hq.out]; exact below_draws hb2.out q⟩
end Go.Proofs.YtmklpanehnkfbaaDoor
