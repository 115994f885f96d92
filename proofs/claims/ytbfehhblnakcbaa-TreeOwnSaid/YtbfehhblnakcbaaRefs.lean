/-
  For the laws of tree: Get, Remove and Size, by the reference. Condition: at most 1,000,000 files.
-/
import Derived.Test.YtbfehhblnakcbaaSmall
import Derived.Test.YtbfehhblnakcbaaSort
namespace Go.Proofs.Ytbfehhblnakcbaa
open Go.RowKit Go.Shelf

set_option maxRecDepth 100000 in
set_option maxHeartbeats 8000000 in
theorem RefGet_any (v : Value) (L : List Fl) (q : ByteArray) (w : World) (h1 : Fls w v L) : Calls Try.prog 19 #[v, .string q] w fun e w' => e = .returned (match getT L (tl q) with | some t => .tuple #[.string (bs t), .bool true] | none => .tuple #[.string ⟨#[]⟩, .bool false]) ∧ Below w.heap.size w w' := by
  obtain ⟨a, cap, rfl, hc, hm, hat⟩ := h1
  have Hat := Lib.hid hat; clear hat
  unfold maxLen at hm
  obtain ⟨r, hr⟩ : ∃ r, Hid (getT L (tl q) = r) := ⟨_, Lib.hid rfl⟩
  rw [hr.out]
  go_enter Try.func19, Try.ntmps19
  go_wp2_with fail
  go_loopw [6] (fun c wr => ∃ k : Nat, c = .int .i64 k ∧ k ≤ L.length ∧ Hid (Below w.heap.size w wr) ∧ Hid (getT (L.drop k) (tl q) = r)) (fun c _ => L.length - (intOf c).toNat)
  case atStart => exact ⟨0, rfl, by omega, Lib.hid (Below.refl _ _), hr⟩
  case round =>
    obtain ⟨k, rfl, hk, hB, hg⟩ := hrel
    have hbs := hB.out.size
    by_cases hlt : k < L.length
    · obtain ⟨x, hx⟩ : ∃ x, L[k]? = some x := ⟨_, List.getElem?_eq_getElem hlt⟩
      obtain ⟨b, off, rfl, hbl, hl0, hl1⟩ := Hat.out k x hx
      have c0 : wr.cell? ⟨b, off + k * 2, none⟩ = some (.string (bs x.path)) := (hB.out.cell (p := ⟨b, off + k * 2, none⟩) hbl).trans hl0
      have c1 : wr.cell? ⟨b, off + k * 2 + 1, none⟩ = some (.string (bs x.text)) := (hB.out.cell (p := ⟨b, off + k * 2 + 1, none⟩) hbl).trans hl1
      have hd : L.drop k = x :: L.drop (k + 1) := by
        obtain ⟨hk, rfl⟩ := List.getElem?_eq_some_iff.1 hx
        exact List.drop_eq_getElem_cons hk
      have hg2 := hg.out
      rw [hd, getT] at hg2
      have f := bs_beq q x.path
      clear hl0 hl1 hx hd
      by_cases he : x.path = tl q
      · rw [decide_eq_true he] at f
        rw [if_pos he] at hg2
        subst hg2
        clear he
        go_wp2_with fail
        go_ret2
        exact ⟨rfl, hB.out⟩
      · rw [decide_eq_false he] at f
        rw [if_neg he] at hg2
        have Hg2 := Lib.hid hg2
        clear he hg2
        go_wp2_with fail
        exact ⟨⟨k + 1, by go_num, by omega, hB, Hg2⟩, by simp [intOf]; omega⟩
    · obtain rfl : k = L.length := by omega
      have hg2 := hg.out
      rw [List.drop_length] at hg2
      obtain rfl : none = r := hg2
      go_wp2_with fail
      go_ret2
      exact ⟨rfl, hB.out⟩
set_option maxRecDepth 100000 in
set_option maxHeartbeats 8000000 in
theorem RefRemove_any (v : Value) (L : List Fl) (q : ByteArray) (w : World) (h1 : Fls w v L) (hL : L.length ≤ 1000000) : Calls Try.prog 23 #[v, .string q] w fun e w' => (∃ v', e = .returned v' ∧ Fls w' v' (remF L (tl q))) ∧ Below w.heap.size w w' := by
  obtain ⟨a, cap, rfl, hc, hm, hat⟩ := h1
  have Hat := Lib.hid hat; clear hat
  unfold maxLen at hm
  obtain ⟨i0, hi0, hz0, hz1, hz2⟩ := info_parts infoFl
  go_enter Try.func23, Try.ntmps23
  go_wp2_with fail
  go_loopw [5, 6] (fun u c wr => ∃ k : Nat, c = .int .i64 k ∧ k ≤ L.length ∧ Hid (wr.ownsRow w.heap.size 43 2 u (remF (L.take k) (tl q)).length (fv (remF (L.take k) (tl q)))) ∧ Hid (Below w.heap.size w wr)) (fun _ c _ => L.length - (intOf c).toNat)
  case atStart => exact ⟨0, rfl, by omega, Lib.hid (World.ownsRow_nil _ _ _ _), Lib.hid (Below.refl _ _)⟩
  case round =>
    obtain ⟨k, rfl, hk, hown, hB⟩ := hrel
    have hbs := hB.out.size
    have hle : (remF (L.take k) (tl q)).length ≤ k := Nat.le_trans (rem_le _ _) (by rw [List.length_take]; omega)
    by_cases hlt : k < L.length
    · obtain ⟨x, hx⟩ : ∃ x, L[k]? = some x := ⟨_, List.getElem?_eq_getElem hlt⟩
      obtain ⟨b, off, rfl, hbl, hl0, hl1⟩ := Hat.out k x hx
      have c0 : wr.cell? ⟨b, off + k * 2, none⟩ = some (.string (bs x.path)) := (hB.out.cell (p := ⟨b, off + k * 2, none⟩) hbl).trans hl0
      have c1 : wr.cell? ⟨b, off + k * 2 + 1, none⟩ = some (.string (bs x.text)) := (hB.out.cell (p := ⟨b, off + k * 2 + 1, none⟩) hbl).trans hl1
      have Hnx := Lib.hid (rem_next (p := tl q) hx)
      have f := bs_beq q x.path
      clear hl0 hl1 hx
      by_cases he : x.path = tl q
      · rw [decide_eq_true he] at f
        have hn : Hid (remF (L.take (k + 1)) (tl q) = remF (L.take k) (tl q)) := Lib.hid (by rw [Hnx.out, if_neg (by simpa using he), List.append_nil])
        clear he
        go_wp2_with fail
        exact ⟨⟨k + 1, by go_num, by omega, by rw [hn.out]; exact hown, hB⟩, by simp [intOf]; omega⟩
      · rw [decide_eq_false he] at f
        have hn : Hid (remF (L.take (k + 1)) (tl q) = remF (L.take k) (tl q) ++ [x]) := Lib.hid (by rw [Hnx.out, if_pos he])
        clear he
        go_wp2_with (at_builtin; refine wpList_append_own _ rfl _ _ 22 rfl w.heap.size 43 i0 (.agg #[.string ⟨#[]⟩, .string ⟨#[]⟩]) 2 32 Try.underlying22 hi0 hz0 hz1 hz2 rfl (by decide) _ _ _ rfl (hown.out.alloc _) ⟨wr.heap.size, 0, none⟩ 1 1 (rowF x) rfl rfl (fl_new1 wr x _) (by simp [rowF, Value.oneCell']) (by unfold maxLen; omega) (by omega) (by simp; omega) ?_; intro v' w2 hown' hgrow _)
        have hB2 := Lib.hid ((hB.out.alloc hbs (.cells #[.string (bs x.path), .string (bs x.text)] 43)).grown hgrow (by simp; omega) (fun k hk => (hown.out.lt k hk).1))
        have ho2 : Hid (w2.ownsRow w.heap.size 43 2 v' (remF (L.take (k + 1)) (tl q)).length (fv (remF (L.take (k + 1)) (tl q)))) := Lib.hid (by
          rw [hn.out, fv_append, List.length_append]
          simpa [fv] using hown')
        exact ⟨⟨k + 1, by go_num, by omega, ho2, hB2⟩, by simp [intOf]; omega⟩
    · obtain rfl : k = L.length := by omega
      rw [List.take_length] at hown
      go_wp2_with fail
      go_ret
      exact ⟨⟨_, rfl, own_fls hown.out⟩, hB.out⟩
set_option maxRecDepth 100000 in
set_option maxHeartbeats 8000000 in
theorem RefSize_any (v : Value) (L : List Fl) (w : World) (h1 : Fls w v L) (hsum : sumT L ≤ 1000000000000000000) : Calls Try.prog 14 #[v] w fun e w' => e = .returned (.int .i64 (sumT L : Nat)) ∧ Below w.heap.size w w' := by
  obtain ⟨a, cap, rfl, hc, hm, hat⟩ := h1
  have Hat := Lib.hid hat; clear hat
  unfold maxLen at hm
  go_enter Try.func14, Try.ntmps14
  go_wp2_with fail
  go_loopw [3, 4] (fun s c wr => ∃ k : Nat, c = .int .i64 k ∧ k ≤ L.length ∧ s = .int .i64 (sumT (L.take k) : Nat) ∧ Hid (Below w.heap.size w wr)) (fun _ c _ => L.length - (intOf c).toNat)
  case atStart => exact ⟨0, rfl, by omega, rfl, Lib.hid (Below.refl _ _)⟩
  case round =>
    obtain ⟨k, rfl, hk, rfl, hB⟩ := hrel
    have hbs := hB.out.size
    have hle := sum_take L k
    by_cases hlt : k < L.length
    · obtain ⟨x, hx⟩ : ∃ x, L[k]? = some x := ⟨_, List.getElem?_eq_getElem hlt⟩
      obtain ⟨b, off, rfl, hbl, hl0, hl1⟩ := Hat.out k x hx
      have c1 : wr.cell? ⟨b, off + k * 2 + 1, none⟩ = some (.string (bs x.text)) := (hB.out.cell (p := ⟨b, off + k * 2 + 1, none⟩) hbl).trans hl1
      have hnx := sum_next hx
      have hle2 := sum_take L (k + 1)
      have g2 := bs_size x.text
      clear hl0 hl1 hx
      obtain ⟨S, hS⟩ : ∃ S, sumT (L.take k) = S := ⟨_, rfl⟩
      obtain ⟨S', hS'⟩ : ∃ S, sumT (L.take (k + 1)) = S := ⟨_, rfl⟩
      rw [hS'] at hnx hle2
      rw [hS] at hnx hle
      rw [hS]
      have HS' := Lib.hid hS'
      clear hS hS'
      have f1 : wrap64 ((S : Int) + (x.text.length : Int)) = ((S' : Nat) : Int) := by rw [Go.IntWalk.wrap64_in _ (by omega)]; omega
      have F1 := Lib.hid hnx
      clear hnx
      go_wp2_with fail
      exact ⟨⟨k + 1, by go_num, by omega, by rw [f1, HS'.out], hB⟩, by simp [intOf]; omega⟩
    · obtain rfl : k = L.length := by omega
      rw [List.take_length]
      go_wp2_with fail
      go_ret
      exact ⟨rfl, hB.out⟩
end Go.Proofs.Ytbfehhblnakcbaa
