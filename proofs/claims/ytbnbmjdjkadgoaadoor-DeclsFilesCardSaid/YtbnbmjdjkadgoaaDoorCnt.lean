/-
  For the laws of node: the reference's Count, Depth and Rows; the statements' few. Condition: at most 2,000,000 nodes.
-/
import Derived.Test.YtbnbmjdjkadgoaaDoorAll
import Derived.StillTailTactics
namespace Go.Proofs.YtbnbmjdjkadgoaaDoor
open Go.RowKit Go.Shelf
set_option linter.unusedSimpArgs false
set_option linter.unusedVariables false

mutual
theorem ht_cnt : ∀ t : Nd, t.ht ≤ t.cnt
  | .mk h ks => by rw [Nd.ht, Nd.cnt]; have := htL_cnt ks; omega
theorem htL_cnt : ∀ ks : List Nd, htL ks ≤ cntL ks
  | [] => by rw [htL]; omega
  | t :: ts => by rw [htL, cntL]; have := ht_cnt t; have := htL_cnt ts; omega
end
set_option maxRecDepth 100000 in
set_option maxHeartbeats 8000000 in
theorem RefDepth_at (w : World) : ∀ (t : Nd) (kv : Value), KidsAt w t.kids kv → ∀ W, Below w.heap.size w W → t.cnt ≤ 2000000 → Calls Tryd.prog 30 #[.agg #[.int .i64 t.hd.kind, .string (bs t.hd.text), .string (bs t.hd.type), .int .i64 t.hd.n, .int .i64 t.hd.fr, .int .i64 t.hd.to_, .int .i64 t.hd.at_, .int .i64 t.hd.tat, kv]] W fun e w' => e = .returned (.int .i64 (t.ht : Nat)) ∧ Below W.heap.size W w' := by
  refine kids_ind _ ?_
  intro t a cap hc hcap hK hx W hW hm
  have Hx := Lib.hid hx
  have HW := Lib.hid hW
  clear hx hK hW
  have hw0 := HW.out.size
  obtain ⟨T, hT⟩ : ∃ T, Hid (t.ht = T) := ⟨_, Lib.hid rfl⟩
  rw [hT.out]
  have hTk := ht_kids t
  have hTc := ht_cnt t
  rw [hT.out] at hTk hTc
  obtain ⟨ks, hks⟩ : ∃ ks, Hid (t.kids = ks) := ⟨_, Lib.hid rfl⟩
  have hcnt : cntL ks + 1 ≤ 2000000 := by rw [← hks.out, ← cnt_kids]; exact hm
  rw [hks.out] at hc Hx hTk
  rw [hks.out]
  have HTk := Lib.hid hTk
  clear hTk
  obtain ⟨n, hn⟩ : ∃ n, Hid (ks.length = n) := ⟨_, Lib.hid rfl⟩
  rw [hn.out] at hc
  rw [hn.out]
  obtain ⟨W1, hW1⟩ : ∃ W1, Hid (W.alloc (.cells #[.int .i64 t.hd.kind, .string (bs t.hd.text), .string (bs t.hd.type), .int .i64 t.hd.n, .int .i64 t.hd.fr, .int .i64 t.hd.to_, .int .i64 t.hd.at_, .int .i64 t.hd.tat, .slice a n cap] 55) = W1) := ⟨_, Lib.hid rfl⟩
  have R1 : Hid (RowAt W1 W.heap.size 55 (t.hd.vals (.slice a n cap))) := by rw [← hW1.out]; exact Lib.hid (RowAt.new W 55 _)
  have B1 : Hid (Below W.heap.size W W1) := by rw [← hW1.out]; exact Lib.hid ((Below.refl _ W).alloc (Nat.le_refl _) _)
  have BW1 := Lib.hid (HW.out.trans (B1.out.mono hw0))
  have hs1 := B1.out.size
  have hcap' := hcap
  unfold maxLen at hcap'
  go_enter Tryd.func30, Tryd.ntmps30
  go_wp2_with fail
  rw [hW1.out]
  go_loopw [3, 4] (fun u c wr => ∃ (k m : Nat), c = .int .i64 k ∧ k ≤ n ∧ u = .int .i64 m ∧ Hid (htL (ks.take k) = m) ∧ m ≤ 2000000 ∧ Hid (Below W1.heap.size W1 wr)) (fun _ c _ => n - (intOf c).toNat)
  case atStart => exact ⟨0, 0, rfl, by omega, rfl, Lib.hid (by simp [htL]), by omega, Lib.hid (Below.refl _ _)⟩
  case round =>
    obtain ⟨k, m, rfl, hk, rfl, hP, hmm, hB⟩ := hrel
    have hbs := hB.out.size
    have BWr := Lib.hid (BW1.out.trans (hB.out.mono (Nat.le_trans hw0 hs1)))
    have c8 : wr.cell? ⟨W.heap.size, 8, none⟩ = some (.slice a n cap) := (R1.out.later hB.out).cell (j := 8) rfl
    by_cases hlt : k < n
    · obtain ⟨x, hx⟩ : ∃ x, ks[k]? = some x := ⟨_, List.getElem?_eq_getElem (by rw [hn.out]; exact hlt)⟩
      obtain ⟨b, off, kv, rfl, cs, hk2, call⟩ := Hx.out k x hx
      obtain ⟨d0, d1, d2, d3, d4, d5, d6, d7, d8⟩ := cs.later BWr.out
      have hxc : x.cnt ≤ 2000000 := by have := cntL_mem (List.mem_of_getElem? hx); omega
      have Call := Lib.hid (call wr BWr.out hxc)
      have hxh := ht_cnt x
      have htk := htL_take hx
      obtain ⟨X, hX⟩ : ∃ X, Hid (x.ht = X) := ⟨_, Lib.hid rfl⟩
      rw [hX.out] at Call hxh htk
      rw [hP.out] at htk
      have hle : htL (ks.take (k + 1)) ≤ 2000000 := by
        have h1 := htL_cnt (ks.take (k + 1))
        have h2 := cntL_take_le ks (k + 1)
        omega
      have Htk := Lib.hid htk
      clear call cs hx hk2 htk
      go_wp2_with fail
      refine Call.out.mono ?_
      rintro e w2 ⟨rfl, b2⟩
      have B2 := Lib.hid (hB.out.trans (b2.mono hbs))
      clear b2
      go_wp2_with fail
      exact ⟨⟨k + 1, max m X, by go_num, by omega, by simp; omega, Lib.hid Htk.out, by omega, B2⟩, by simp [intOf]; omega⟩
    · obtain rfl : k = n := by omega
      have hfin : m + 1 = T := by rw [HTk.out, ← hP.out, ← hn.out, List.take_length]
      have Hfin := Lib.hid hfin
      clear hfin
      go_wp2_with fail
      go_ret
      exact ⟨by rw [← Hfin.out]; rfl, B1.out.trans (hB.out.mono hs1)⟩
end Go.Proofs.YtbnbmjdjkadgoaaDoor
