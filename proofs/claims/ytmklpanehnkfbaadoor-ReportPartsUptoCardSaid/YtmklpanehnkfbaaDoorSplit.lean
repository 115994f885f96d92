/-
  For the law ReportParts: the lines of a text, by the document. Condition: at most 2 to the 34 bytes.
-/
import Derived.Test.YtmklpanehnkfbaaDoorText
namespace Go.Proofs.YtmklpanehnkfbaaDoor
open Go.RowKit Go.Shelf

/-- The whole lines among the first k bytes, and where the next one begins. -/
def lineTo (s : List UInt8) : Nat → List (List UInt8) × Nat
  | 0 => ([], 0)
  | k + 1 => if s[k]? = some 10 then ((lineTo s k).1 ++ [(s.take (k + 1)).drop (lineTo s k).2], k + 1) else lineTo s k
def linesOf (s : List UInt8) : List (List UInt8) := (lineTo s s.length).1 ++ if (lineTo s s.length).2 < s.length then [s.drop (lineTo s s.length).2] else []
theorem lineTo_yes {s : List UInt8} {k : Nat} (h : s[k]? = some 10) : lineTo s (k + 1) = ((lineTo s k).1 ++ [(s.take (k + 1)).drop (lineTo s k).2], k + 1) := by rw [lineTo, if_pos h]
theorem lineTo_no {s : List UInt8} {k : Nat} (h : s[k]? ≠ some 10) : lineTo s (k + 1) = lineTo s k := by rw [lineTo, if_neg h]
theorem lineTo_le (s : List UInt8) : ∀ k, (lineTo s k).2 ≤ k ∧ (lineTo s k).1.length ≤ k
  | 0 => by simp [lineTo]
  | k + 1 => by
    have := lineTo_le s k
    rw [lineTo]
    split
    · simp; omega
    · omega
theorem lineTo_run {s : List UInt8} {a : Nat} : ∀ {n : Nat}, (∀ j, j < n → s[a + j]? ≠ some 10) → lineTo s (a + n) = lineTo s a
  | 0, _ => rfl
  | n + 1, h => by
    rw [← Nat.add_assoc, lineTo_no (h n (by omega)), lineTo_run (fun j hj => h j (by omega))]
def ends (x : List UInt8) : List UInt8 := x ++ [10]
theorem lineTo_cuts (c : List (List UInt8)) (h : ∀ x ∈ c, 10 ∉ x) : ∀ n, n ≤ c.length → lineTo (c.flatMap ends) ((c.take n).flatMap ends).length = ((c.take n).map ends, ((c.take n).flatMap ends).length)
  | 0, _ => by simp [lineTo]
  | n + 1, hn => by
    have ih := lineTo_cuts c h n (by omega)
    obtain ⟨x, hx⟩ : ∃ x, c[n]? = some x := ⟨_, List.getElem?_eq_getElem (by omega)⟩
    have h10 := h x (List.mem_of_getElem? hx)
    have e : (c.take (n + 1)).flatMap ends = (c.take n).flatMap ends ++ ends x := flat_take hx
    have hall : ∃ r, c.flatMap ends = (c.take n).flatMap ends ++ (x ++ ([10] ++ r)) := by
      refine ⟨(c.drop (n + 1)).flatMap ends, ?_⟩
      conv => lhs; rw [← List.take_append_drop (n + 1) c, List.flatMap_append, e]
      simp [ends]
    obtain ⟨r, hr⟩ := hall
    have e2 : (c.take (n + 1)).map ends = (c.take n).map ends ++ [ends x] := by rw [List.take_add_one, hx]; simp
    rw [e, e2, List.length_append]
    generalize hp : (c.take n).flatMap ends = p at *
    rw [hr] at ih ⊢
    have hl : (ends x).length = x.length + 1 := by simp [ends]
    have hno : ∀ j, j < x.length → (p ++ (x ++ ([10] ++ r)))[p.length + j]? ≠ some 10 := by
      intro j hj
      rw [List.getElem?_append_right (by omega), Nat.add_sub_cancel_left, List.getElem?_append_left hj]
      intro hh
      exact h10 (List.mem_of_getElem? hh)
    have hrun := lineTo_run hno
    have hyes : (p ++ (x ++ ([10] ++ r)))[p.length + x.length]? = some 10 := by
      rw [List.getElem?_append_right (by omega), Nat.add_sub_cancel_left, List.getElem?_append_right (Nat.le_refl _), Nat.sub_self]
      rfl
    rw [hl, ← Nat.add_assoc, lineTo_yes hyes, hrun, ih]
    have e3 : p ++ (x ++ ([10] ++ r)) = (p ++ ends x) ++ r := by simp [ends]
    have e4 : ((p ++ (x ++ ([10] ++ r))).take (p.length + x.length + 1)).drop p.length = ends x := by
      rw [e3, List.take_append_of_le_length (by rw [List.length_append, hl]; omega), List.take_of_length_le (by rw [List.length_append, hl]; omega), List.drop_left]
    refine Prod.ext ?_ rfl
    show (c.take n).map ends ++ [((p ++ (x ++ ([10] ++ r))).take (p.length + x.length + 1)).drop p.length] = _
    rw [e4]
theorem lines_cuts {c : List (List UInt8)} (h : ∀ x ∈ c, 10 ∉ x) : linesOf (c.flatMap ends) = c.map ends := by
  have := lineTo_cuts c h c.length (Nat.le_refl _)
  rw [List.take_length] at this
  unfold linesOf
  rw [this]
  simp
set_option maxRecDepth 100000 in
set_option maxHeartbeats 8000000 in
theorem Split_any (s : ByteArray) (w : World) (hs : s.size ≤ 20000000000) : Calls Tryd.prog 19 #[.string s] w fun e w' => (∃ v, e = .returned v ∧ Strs w' v (linesOf (tl s))) ∧ Below w.heap.size w w' := by
  obtain ⟨i0, hi0, hz0, hz1, hz2⟩ := info_parts infoStr
  go_enter Tryd.func19, Tryd.ntmps19
  go_wp2_with fail
  go_loopw [3, 4, 5] (fun o f i wr => ∃ k : Nat, i = .int .i64 k ∧ k ≤ s.size ∧ f = .int .i64 ((lineTo (tl s) k).2 : Nat) ∧ Hid (wr.ownsRow w.heap.size 9 1 o (lineTo (tl s) k).1.length (strV (lineTo (tl s) k).1)) ∧ Below w.heap.size w wr) (fun _ _ i _ => s.size - (intOf i).toNat)
  case atStart => exact ⟨0, rfl, by omega, rfl, Lib.hid (World.ownsRow_nil _ _ _ _), Below.refl _ _⟩
  case round =>
    obtain ⟨k, rfl, hk, rfl, hown, hB⟩ := hrel
    have hle := lineTo_le (tl s) k
    have hbs := hB.size
    by_cases hlt : k < s.size
    · have hg := tl_get s hlt
      by_cases h10 : (s[k].toNat : Int) = 10
      · have hd : ((s[k].toNat : Int) == 10) = true := by simpa using h10
        have hst := lineTo_yes (s := tl s) (k := k) (by
          rw [hg]
          have : s[k] = 10 := by apply UInt8.toNat_inj.1; show _ = 10; omega
          rw [this])
        have Hst := Lib.hid hst
        have hcut : Hid (s.extract (lineTo (tl s) k).2 (k + 1) = bs (((tl s).take (k + 1)).drop (lineTo (tl s) k).2)) := Lib.hid (by rw [ext_bs, List.drop_take])
        obtain ⟨q, hq⟩ : ∃ q, Hid (lineTo (tl s) k = q) := ⟨_, Lib.hid rfl⟩
        rw [hq.out] at Hst hcut hle hown ⊢
        obtain ⟨xs, f⟩ := q
        simp only at Hst hcut hle hown ⊢
        have i1 : IntKind.i64.wrap ((k : Int) + 1) = (k : Int) + 1 := Go.IntWalk.i64_in _ (by omega)
        clear h10 hg hst
        go_wp2_with (at_builtin; refine wpList_append_own _ rfl _ _ 40 rfl w.heap.size 9 i0 (.string ⟨#[]⟩) 1 16 Tryd.underlying40 hi0 hz0 hz1 hz2 rfl (by decide) _ _ _ rfl (hown.out.alloc _) ⟨wr.heap.size, 0, none⟩ 1 1 [.string (s.extract f (k + 1))] rfl rfl (by intro j u hj; rw [add_flat, Nat.zero_add, Lib.cell_of_heap (World.alloc_heap_new wr _)]; simpa using hj) (by simp [Value.oneCell']) (by unfold maxLen; omega) (by omega) (by simp; omega) ?_; intro v' w1 hown' hgrow _)
        have hB1 := (hB.alloc hbs (.cells #[.string (s.extract f (k + 1))] 9)).grown hgrow (by simp; omega) (fun k hk => (hown.out.lt k hk).1)
        exact ⟨⟨k + 1, by go_num, by omega, by rw [Hst.out]; go_num, Lib.hid (by rw [Hst.out]; simpa [strV, hcut.out] using hown'), hB1⟩, by simp [intOf]; omega⟩
      · have hd : ((s[k].toNat : Int) == 10) = false := by simpa using h10
        have Hst := Lib.hid (lineTo_no (s := tl s) (k := k) (by
          rw [hg]
          intro e
          apply h10
          rw [Option.some.inj e]
          rfl))
        clear h10 hg
        go_wp2_with fail
        exact ⟨⟨k + 1, by go_num, by omega, by rw [Hst.out], by rw [Hst.out]; exact hown, hB⟩, by simp [intOf]; omega⟩
    · obtain rfl : k = s.size := by omega
      have hlen : (tl s).length = s.size := tl_length s
      have hlo : Hid (linesOf (tl s) = (lineTo (tl s) s.size).1 ++ if (lineTo (tl s) s.size).2 < s.size then [(tl s).drop (lineTo (tl s) s.size).2] else []) := Lib.hid (by unfold linesOf; rw [hlen])
      clear hlen
      obtain ⟨q, hq⟩ : ∃ q, Hid (lineTo (tl s) s.size = q) := ⟨_, Lib.hid rfl⟩
      rw [hq.out] at hle hown hlo ⊢
      obtain ⟨xs, f⟩ := q
      simp only at hle hown hlo ⊢
      by_cases hf : f < s.size
      · have hlo2 : Hid (linesOf (tl s) = xs ++ [(tl s).drop f]) := Lib.hid (by rw [hlo.out, if_pos hf])
        have d1 : decide ((f : Int) < (s.size : Int)) = true := by simp; omega
        have d2 : decide (f < s.size) = true := by simpa using hf
        have hcut : Hid (s.extract f s.size = bs ((tl s).drop f)) := Lib.hid (by rw [← bs_tl (s.extract f s.size)]; exact congrArg bs (Lib.extract_to_end s f))
        go_wp2_with (at_builtin; refine wpList_append_own _ rfl _ _ 40 rfl w.heap.size 9 i0 (.string ⟨#[]⟩) 1 16 Tryd.underlying40 hi0 hz0 hz1 hz2 rfl (by decide) _ _ _ rfl (hown.out.alloc _) ⟨wr.heap.size, 0, none⟩ 1 1 [.string (s.extract f s.size)] rfl rfl (by intro j u hj; rw [add_flat, Nat.zero_add, Lib.cell_of_heap (World.alloc_heap_new wr _)]; simpa using hj) (by simp [Value.oneCell']) (by unfold maxLen; omega) (by omega) (by simp; omega) ?_; intro v' w1 hown' hgrow _)
        have hB1 := (hB.alloc hbs (.cells #[.string (s.extract f s.size)] 9)).grown hgrow (by simp; omega) (fun k hk => (hown.out.lt k hk).1)
        go_ret
        exact ⟨⟨_, rfl, by rw [hlo2.out]; exact own_strs (n := xs.length + 1) (by simpa [strV, hcut.out] using hown')⟩, hB1⟩
      · have hlo2 : Hid (linesOf (tl s) = xs) := Lib.hid (by rw [hlo.out, if_neg hf, List.append_nil])
        have d1 : decide ((f : Int) < (s.size : Int)) = false := by simp; omega
        have d2 : decide (f < s.size) = false := by simpa using hf
        go_wp2_with fail
        go_ret
        exact ⟨⟨_, rfl, by rw [hlo2.out]; exact own_strs hown.out⟩, hB⟩
end Go.Proofs.YtmklpanehnkfbaaDoor
