/-
  For the laws of cells: a row of segments of a row of keys, each with its key and a line's end for text. Condition: at most 1,000 keys of at most 1,000 bytes.
-/
import Derived.Test.YtfjmhnnjgjcmeaaGreatDoorCs
namespace Go.Proofs.YtfjmhnnjgjcmeaaGreatDoor
open Go.RowKit Go.Shelf Go.Maps Go.WideMaps
set_option linter.unusedSimpArgs false
set_option linter.unusedVariables false

def segOf (s : ByteArray) : ByteArray × ByteArray := (s, s ++ ⟨#[10]⟩)
set_option maxRecDepth 100000 in
set_option maxHeartbeats 4000000 in
theorem rowK_any (v : Value) (xs : TL) (w : World) (h : L.Vals w v (xs.map .string)) (hl : xs.length ≤ 1000) (hs : ∀ s ∈ xs, s.size ≤ 1000) : Calls Tryz.prog 45 #[v] w fun e w' => ∃ v', e = .returned v' ∧ w'.ownsRow w.heap.size 49 2 v' xs.length (sv (xs.map segOf)) ∧ Below w.heap.size w w' := by
  obtain ⟨i0, hi0, hz0, hz1, hz2⟩ := info49
  obtain ⟨a, cap, rfl, hc, hm, hat⟩ := h.at
  rw [List.length_map] at hc ⊢
  unfold maxLen at hm
  obtain ⟨n, hn⟩ : ∃ n, Hid (xs.length = n) := ⟨_, Lib.hid rfl⟩
  rw [hn.out] at hc hl ⊢
  have Hat := Lib.hid hat
  have Hs := Lib.hid hs
  clear hat h hs
  go_enter Tryz.func45, Tryz.ntmps45
  go_wp2_with fail
  go_loopw [3, 4] (fun o i wr => ∃ k : Nat, k ≤ n ∧ i = .int .i64 k ∧ Hid (wr.ownsRow w.heap.size 49 2 o k (sv ((xs.take k).map segOf))) ∧ Hid (Below w.heap.size w wr)) (fun _ i _ => n - (intOf i).toNat)
  case atStart => exact ⟨0, Nat.zero_le _, rfl, Lib.hid (World.ownsRow_nil _ _ _ _), Lib.hid (Below.refl _ _)⟩
  case round =>
    obtain ⟨k, hk, rfl, hO, hB⟩ := hrel
    obtain ⟨wo, rfl⟩ : ∃ wo, wo = wr := ⟨wr, rfl⟩
    rcases Nat.lt_or_ge k n with hlt | hlt
    · obtain ⟨x, hx⟩ := get_lt (l := xs) (k := k) (by rw [hn.out]; exact hlt)
      obtain ⟨b, off, rfl, hbl, e0⟩ := Hat.out k (.string x) (by rw [List.getElem?_map, hx]; rfl)
      have hxs := Hs.out x (List.mem_of_getElem? hx)
      have hnx : Hid (sv ((xs.take (k + 1)).map segOf) = sv ((xs.take k).map segOf) ++ [.string x, .string (x ++ ⟨#[10]⟩)]) := Lib.hid (by
        rw [List.take_add_one, hx, List.map_append, sv_append]
        rfl)
      have Hl : Hid (∀ W', Below w.heap.size w W' → W'.cell? ⟨b, off + k, none⟩ = some (.string x)) := Lib.hid (fun W' hb => (hb.cell (p := ⟨b, off + k, none⟩) hbl).trans e0)
      have f1 := Hl.out wo hB.out
      have d1 : decide (k < n) = true := decide_eq_true hlt
      have d2 : (0 : Int) ≤ (k : Int) := by omega
      have d3 : (k : Int) < (n : Int) := by omega
      have hbs := hB.out.size
      clear hx e0
      obtain ⟨ao, co, rfl⟩ := own_form hO.out
      go_wp2_with fail
      go_region_held_law (fun W => W.cell? ⟨b, off + k, none⟩ = some (.string x))
        (first | go_keep | exact Hl.out _ HB2.out)
        ((refine step_append_lies _ (by rfl) _ _ _ (by rfl) w.heap.size 49 i0 _ 2 32 Tryz.underlying35 hi0 hz0 hz1 hz2 rfl (by decide) _ k _ (by rfl) (hO.out.alloc _) ⟨wo.heap.size, 0, none⟩ 1 1 [.string x, .string (x ++ ⟨#[10]⟩)] (by rfl) rfl (seg_new wo _ _) (by simp [Value.oneCell']) (by omega) (by unfold maxLen; omega) (by omega) (by simp; omega) (wo.heap.size + 1) (by simp) ?_; intro g cap' w2 hown' hgrow _ _; have HB2 : Hid (Below w.heap.size w w2) := by first | exact Lib.hid (Below.grown (hB.out.alloc hbs _) hgrow (by simp; omega) (fun k hk => (hO.out.lt k hk).1)) | exact Lib.hid (Below.grown (below_draws (hB.out.alloc hbs _) _) hgrow (by simp; omega) (fun k hk => (hO.out.lt k hk).1)) | exact Lib.hid (Below.grown ((below_draws hB.out _).alloc hbs _) hgrow (by simp; omega) (fun k hk => (hO.out.lt k hk).1)) | (trace_state; fail)))
      have hnew : Hid (w2.ownsRow w.heap.size 49 2 (.slice (some ⟨g, 0, none⟩) (k + 1) cap') (k + 1) (sv ((xs.take (k + 1)).map segOf))) := Lib.hid (by rw [hnx.out]; exact hown')
      clear hown' hgrow hO hB
      go_wp2_with fail
      exact ⟨⟨k + 1, by omega, by go_num, hnew, HB2⟩, by simp [intOf]; omega⟩
    · have d1 : decide (k < n) = false := decide_eq_false (by omega)
      obtain rfl : k = n := by omega
      have h := hO.out
      rw [List.take_of_length_le (by rw [hn.out]; exact Nat.le_refl _)] at h
      have hf := Lib.hid h
      clear h
      go_wp2_with fail
      go_ret
      exact ⟨_, rfl, hf.out, hB.out⟩
end Go.Proofs.YtfjmhnnjgjcmeaaGreatDoor
