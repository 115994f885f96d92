/-
  For the laws of hunk: the document's hunks the other way. Condition: at most 1,000,000 hunks.
-/
import Derived.Test.YthligkdncddmpaaHi
import Derived.Deep.RegionHeldLaw
import Derived.Deep.AppendLies
import Derived.BigQuiet
namespace Go.Proofs.Ythligkdncddmpaa
open Go.RowKit

theorem below_drew {B : Nat} {a w : World} (h : Below B a w) : Below B a w.drew := below_draws h 1

set_option maxRecDepth 100000 in
set_option maxHeartbeats 4000000 in
theorem RefInvert_any (v : Value) (H : List Hk) (w : World) (h1 : Hunks w v H) (hm0 : H.length ≤ 1000000) : Calls Try.prog 37 #[v] w fun e w' => (∃ v', e = .returned v' ∧ w'.ownsRow w.heap.size 50 4 v' H.length ((H.map Hk.turn).flatMap Hk.row)) ∧ Below w.heap.size w w' := by
  obtain ⟨a, cap, rfl, hc, hm, hat⟩ := h1
  have Hat := Lib.hid hat; clear hat
  obtain ⟨i0, hi0, hz0, hz1, hz2⟩ := info50
  obtain ⟨G, hG⟩ : ∃ G, Hid (H.map Hk.turn = G) := ⟨_, Lib.hid rfl⟩
  have hGl : G.length = H.length := by rw [← hG.out, List.length_map]
  rw [hG.out]
  unfold maxLen at hm
  go_enter Try.func37, Try.ntmps37
  go_wp2_with fail
  go_loopw [3, 4] (fun p c wr => ∃ k : Nat, k ≤ H.length ∧ c = .int .i64 k ∧ wr.ownsRow w.heap.size 50 4 p k ((G.take k).flatMap Hk.row) ∧ Below w.heap.size w wr) (fun _ c _ => H.length - (intOf c).toNat)
  case atStart => exact ⟨0, by omega, rfl, World.ownsRow_nil _ _ _ _, Below.refl _ _⟩
  case round =>
    obtain ⟨k, hk, rfl, hown, hB⟩ := hrel
    by_cases hlt : k < H.length
    · obtain ⟨h, hh⟩ : ∃ h, H[k]? = some h := ⟨_, List.getElem?_eq_getElem hlt⟩
      obtain ⟨b, off, rfl, hl, hat⟩ := Hat.out k h hh
      obtain ⟨c0, c1, c2, c3⟩ := hat.below hB hl
      have Hlies := Lib.hid hat; clear hat
      have hn := rows_next (G := G) (h := h.turn) (k := k) (by rw [← hG.out, List.getElem?_map, hh]; rfl)
      have Hn := Lib.hid hn; clear hn
      have hbs := hB.size
      go_wp2_with fail
      go_region_held_law (fun W => W.cell? ⟨b, off + k * 4, none⟩ = some (.int .i64 h.a) ∧ W.cell? ⟨b, off + k * 4 + 1, none⟩ = some (.int .i64 h.an) ∧ W.cell? ⟨b, off + k * 4 + 2, none⟩ = some (.int .i64 h.b) ∧ W.cell? ⟨b, off + k * 4 + 3, none⟩ = some (.int .i64 h.bn))
        (first | go_keep | exact Hlies.out.below HB2.out hl)
        ((refine step_append_lies _ (by rfl) _ _ _ (by rfl) w.heap.size 50 i0 _ 4 32 Try.underlying37 hi0 hz0 hz1 hz2 rfl (by decide) _ k _ (by rfl) (hown.alloc _) ⟨wr.heap.size, 0, none⟩ 1 1 h.turn.row (by rfl) rfl (fun j u hj => row_new wr h.turn 50 j u hj) (row_one _) (by omega) (by unfold maxLen; omega) (by omega) (by simp; omega) (wr.heap.size + 1) (by simp) ?_; intro g cap' w2 hown' hgrow _ _; have HB2 : Hid (Below w.heap.size w w2) := by first | exact Lib.hid (Below.grown (hB.alloc hbs _) hgrow (by simp; omega) (fun k hk => (hown.lt k hk).1)) | exact Lib.hid (Below.grown (below_drew (hB.alloc hbs _)) hgrow (by simp; omega) (fun k hk => (hown.lt k hk).1)) | exact Lib.hid (Below.grown ((below_drew hB).alloc hbs _) hgrow (by simp; omega) (fun k hk => (hown.lt k hk).1)) | exact Lib.hid (Below.grown (below_draws (hB.alloc hbs _) _) hgrow (by simp; omega) (fun k hk => (hown.lt k hk).1)) | exact Lib.hid (Below.grown ((below_draws hB _).alloc hbs _) hgrow (by simp; omega) (fun k hk => (hown.lt k hk).1)) | (trace_state; fail)))
      have Hown2 : Hid (w2.ownsRow w.heap.size 50 4 (.slice (some ⟨g, 0, none⟩) (k + 1) cap') (k + 1) ((G.take (k + 1)).flatMap Hk.row)) := by rw [← Hn.out]; exact Lib.hid hown'
      clear hown' hgrow hown hB
      go_wp2_with fail
      exact ⟨⟨k + 1, by omega, by go_num, Hown2.out, HB2.out⟩, by simp [intOf]; omega⟩
    · obtain rfl : k = H.length := by omega
      rw [← hGl, List.take_length] at hown
      have Hown := Lib.hid hown; clear hown
      go_wp2_with fail
      go_ret
      exact ⟨⟨_, rfl, by rw [← hGl]; exact Hown.out⟩, hB⟩
end Go.Proofs.Ythligkdncddmpaa
