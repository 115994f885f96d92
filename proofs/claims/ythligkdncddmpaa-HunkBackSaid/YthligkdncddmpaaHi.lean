/-
  For the laws of hunk: the hunks the other way, and the document's. Condition: at most 1,000,000 hunks.
-/
import Derived.Test.YthligkdncddmpaaHk
namespace Go.Proofs.Ythligkdncddmpaa
open Go.RowKit

theorem rows_length (H : List Hk) : (H.flatMap Hk.row).length = H.length * 4 := by
  induction H with
  | nil => rfl
  | cons h H ih => rw [List.flatMap_cons, List.length_append, ih]; simp [Hk.row]; omega
theorem rows_get {H : List Hk} {k : Nat} {h : Hk} (hk : H[k]? = some h) (j : Nat) (hj : j < 4) : (H.flatMap Hk.row)[k * 4 + j]? = h.row[j]? := by
  induction H generalizing k with
  | nil => simp at hk
  | cons g H ih =>
    rw [List.flatMap_cons]
    cases k with
    | zero =>
      obtain rfl : g = h := by simpa using hk
      rw [List.getElem?_append_left (by simp [Hk.row]; omega)]
      simp
    | succ k =>
      rw [List.getElem?_append_right (by simp [Hk.row]; omega)]
      rw [← ih (by simpa using hk)]
      congr 1
      simp [Hk.row]
      omega
theorem own_hunks {W : World} {base n : Nat} {v : Value} {H : List Hk} (h : W.ownsRow base 50 4 v n (H.flatMap Hk.row)) : Hunks W v H := by
  have hl := h.1
  rw [rows_length] at hl
  obtain rfl : n = H.length := by omega
  rcases h.2 with ⟨rfl, h0⟩ | ⟨g, cap, cur, rfl, _, hg, h1, h2, h3, h4⟩
  · obtain rfl : H = [] := List.eq_nil_of_length_eq_zero h0
    exact ⟨none, 0, rfl, Nat.le_refl _, Nat.zero_le _, by simp⟩
  · refine ⟨_, cap, rfl, h1, h2, fun k h hk => ⟨g, 0, rfl, (Array.getElem?_eq_some_iff.1 hg).1, ?_⟩⟩
    have hc : ∀ j, j < 4 → W.cell? ⟨g, 0 + k * 4 + j, none⟩ = h.row[j]? := by
      intro j hj
      have hkl := (List.getElem?_eq_some_iff.1 hk).1
      rw [← rows_get hk j hj, ← h4, List.getElem?_take_of_lt (by omega)]
      simp [World.cell?, hg]
    exact ⟨hc 0 (by omega), hc 1 (by omega), hc 2 (by omega), hc 3 (by omega)⟩
theorem row_new (W : World) (h : Hk) (t : TypeId) : ∀ j u, h.row[j]? = some u → (W.alloc (.cells #[.int .i64 h.a, .int .i64 h.an, .int .i64 h.b, .int .i64 h.bn] t)).cell? ((⟨W.heap.size, 0, none⟩ : Addr).add j) = some u := by
  intro j u hj
  rw [add_flat, Nat.zero_add, (RowAt.new W t _).cell (v := u)]
  simpa [Hk.row] using hj
theorem row_one (h : Hk) : ∀ u ∈ h.row, u.oneCell' = true := by
  intro u hu
  simp [Hk.row] at hu
  rcases hu with rfl | rfl | rfl | rfl <;> rfl
theorem rows_next {G : List Hk} {k : Nat} {h : Hk} (hk : G[k]? = some h) : (G.take k).flatMap Hk.row ++ h.row = (G.take (k + 1)).flatMap Hk.row := by
  rw [take_more hk]
  simp
theorem row_new2 (W : World) (o : Obj) (h : Hk) (t : TypeId) : ∀ j u, h.row[j]? = some u → ((W.alloc o).alloc (.cells #[.int .i64 h.a, .int .i64 h.an, .int .i64 h.b, .int .i64 h.bn] t)).cell? ((⟨W.heap.size + 1, 0, none⟩ : Addr).add j) = some u := by
  have := row_new (W.alloc o) h t
  simpa using this
def Hk.turn (h : Hk) : Hk := ⟨h.b, h.bn, h.a, h.an⟩

theorem info50 : ∃ i0, Try.prog.info? 50 = some i0 ∧ i0.zero = some (.agg #[.int .i64 0, .int .i64 0, .int .i64 0, .int .i64 0]) ∧ i0.size = 4 ∧ i0.bytes = 32 := ⟨_, rfl, by kernel_rfl, by kernel_rfl, by kernel_rfl⟩

set_option maxRecDepth 100000 in
set_option maxHeartbeats 4000000 in
theorem Invert_any (v : Value) (H : List Hk) (w : World) (h1 : Hunks w v H) (hm0 : H.length ≤ 1000000) : Calls Try.prog 36 #[v] w fun e w' => (∃ v', e = .returned v' ∧ w'.ownsRow w.heap.size 50 4 v' H.length ((H.map Hk.turn).flatMap Hk.row)) ∧ Below w.heap.size w w' := by
  obtain ⟨a, cap, rfl, hc, hm, hat⟩ := h1
  have Hat := Lib.hid hat; clear hat
  obtain ⟨i0, hi0, hz0, hz1, hz2⟩ := info50
  obtain ⟨G, hG⟩ : ∃ G, Hid (H.map Hk.turn = G) := ⟨_, Lib.hid rfl⟩
  have hGl : G.length = H.length := by rw [← hG.out, List.length_map]
  rw [hG.out]
  unfold maxLen at hm
  go_enter Try.func36, Try.ntmps36
  go_wp2_with fail
  go_loopw [3, 8] (fun p c wr => ∃ k : Nat, k ≤ H.length ∧ c = .int .i64 k ∧ wr.ownsRow w.heap.size 50 4 p k ((G.take k).flatMap Hk.row) ∧ Below w.heap.size w wr) (fun _ c _ => H.length - (intOf c).toNat)
  case atStart => exact ⟨0, by omega, rfl, World.ownsRow_nil _ _ _ _, Below.refl _ _⟩
  case round =>
    obtain ⟨k, hk, rfl, hown, hB⟩ := hrel
    by_cases hlt : k < H.length
    · obtain ⟨h, hh⟩ : ∃ h, H[k]? = some h := ⟨_, List.getElem?_eq_getElem hlt⟩
      obtain ⟨b, off, rfl, hl, hat⟩ := Hat.out k h hh
      obtain ⟨c0, c1, c2, c3⟩ := hat.below hB hl
      clear hat
      have hn := rows_next (G := G) (h := h.turn) (k := k) (by rw [← hG.out, List.getElem?_map, hh]; rfl)
      have Hn := Lib.hid hn; clear hn
      have hbs := hB.size
      go_wp2_with (at_builtin; refine wpList_append_own _ rfl _ _ 37 rfl w.heap.size 50 i0 _ 4 32 Try.underlying37 hi0 hz0 hz1 hz2 rfl (by decide) _ _ _ rfl ((hown.alloc _).alloc _) ⟨wr.heap.size + 1, 0, none⟩ 1 1 h.turn.row rfl rfl (row_new2 wr _ h.turn _) (row_one _) (by unfold maxLen; omega) (by omega) (by simp; omega) ?_; intro v' w2 hown' hgrow _)
      rw [Hn.out] at hown'
      exact ⟨⟨k + 1, by omega, by go_num, hown', ((hB.alloc hbs _).alloc (by simp; omega) _).grown hgrow (by simp; omega) (fun k hk => (hown.lt k hk).1)⟩, by simp [intOf]; omega⟩
    · obtain rfl : k = H.length := by omega
      rw [← hGl, List.take_length] at hown
      have Hown := Lib.hid hown; clear hown
      go_wp2_with fail
      go_ret
      exact ⟨⟨_, rfl, by rw [← hGl]; exact Hown.out⟩, hB⟩
end Go.Proofs.Ythligkdncddmpaa
