/-
  For the laws on the parser: how tightly an operator binds. Condition: the tokens are a text's.
-/
import Derived.Test.YtbnbmjdjkadgoaaDoorXPm
namespace Go.Proofs.YtbnbmjdjkadgoaaDoor.X
open Go.RowKit Go.Shelf
set_option linter.unusedSimpArgs false
set_option linter.unusedVariables false

def opsL : List (List By) := [[[124, 124]], [[38, 38]], [[61, 61], [33, 61]], [[60], [60, 61], [62], [62, 61]], [[43], [45]], [[42], [47], [37]]]
def bindL (T : List Tk) (a : Nat) : Nat → List (List By) → Nat
  | _, [] => 0
  | i, r :: rs => if r.any (isT T a) then i + 1 else bindL T a (i + 1) rs
theorem or_ite {p q : Bool} {x y : Nat} : (if (p || q) = true then x else y) = if p = true then x else if q = true then x else y := by cases p <;> rfl
theorem binds_L (T : List Tk) (a : Nat) : bindsT T a = bindL T a 0 opsL := by
  unfold bindsT opsL
  simp only [bindL, List.any_cons, List.any_nil, Bool.or_false, or_ite]
set_option maxRecDepth 100000 in
set_option maxHeartbeats 8000000 in
theorem binds_any (v : Value) (T : List Tk) (a : Nat) (w : World) (h : Toks w v T) : Calls Tryd.prog 86 #[v, .int .i64 (a : Nat)] w fun e w' => e = .returned (.int .i64 (bindsT T a : Nat)) ∧ Below w.heap.size w w' := by
  rw [binds_L]
  obtain ⟨r, hr⟩ : ∃ r, Hid (bindL T a 0 opsL = r) := ⟨_, Lib.hid rfl⟩
  rw [hr.out]
  obtain ⟨W1, hW1⟩ : ∃ W1, Hid (((((((w.alloc (.cells #[.string ⟨#[124, 124]⟩] 9)).alloc (.cells #[.string ⟨#[38, 38]⟩] 9)).alloc (.cells #[.string ⟨#[61, 61]⟩, .string ⟨#[33, 61]⟩] 9)).alloc (.cells #[.string ⟨#[60]⟩, .string ⟨#[60, 61]⟩, .string ⟨#[62]⟩, .string ⟨#[62, 61]⟩] 9)).alloc (.cells #[.string ⟨#[43]⟩, .string ⟨#[45]⟩] 9)).alloc (.cells #[.string ⟨#[42]⟩, .string ⟨#[47]⟩, .string ⟨#[37]⟩] 9)).alloc (.cells #[.slice (some ⟨w.heap.size, 0, none⟩) 1 1, .slice (some ⟨w.heap.size + 1, 0, none⟩) 1 1, .slice (some ⟨w.heap.size + 1 + 1, 0, none⟩) 2 2, .slice (some ⟨w.heap.size + 1 + 1 + 1, 0, none⟩) 4 4, .slice (some ⟨w.heap.size + 1 + 1 + 1 + 1, 0, none⟩) 2 2, .slice (some ⟨w.heap.size + 1 + 1 + 1 + 1 + 1, 0, none⟩) 3 3] 22) = W1) := ⟨_, Lib.hid rfl⟩
  have B1 : Below w.heap.size w W1 := by
    rw [← hW1.out]
    exact (((((((Below.refl _ w).alloc (Nat.le_refl _) _).alloc (by simp) _).alloc (by simp; omega) _).alloc (by simp; omega) _).alloc (by simp; omega) _).alloc (by simp; omega) _).alloc (by simp; omega) _
  obtain ⟨G, hG⟩ : ∃ G, Hid (w.heap.size + 1 + 1 + 1 + 1 + 1 + 1 = G) := ⟨_, Lib.hid rfl⟩
  have H6 : Hid (∀ (i : Nat) (r : List By), opsL[i]? = some r → ∃ g, W1.cell? ⟨G, i, none⟩ = some (.slice (some ⟨g, 0, none⟩) r.length r.length) ∧ ∀ k s, r[k]? = some s → W1.cell? ⟨g, k, none⟩ = some (.string (bs s))) := Lib.hid (by
    have r0 : RowAt W1 w.heap.size 9 #[.string ⟨#[124, 124]⟩] := by rw [← hW1.out]; exact ((((((row_new rfl).alloc _).alloc _).alloc _).alloc _).alloc _).alloc _
    have r1 : RowAt W1 (w.heap.size + 1) 9 #[.string ⟨#[38, 38]⟩] := by rw [← hW1.out]; exact (((((row_new (by simp)).alloc _).alloc _).alloc _).alloc _).alloc _
    have r2 : RowAt W1 (w.heap.size + 1 + 1) 9 #[.string ⟨#[61, 61]⟩, .string ⟨#[33, 61]⟩] := by rw [← hW1.out]; exact ((((row_new (by simp)).alloc _).alloc _).alloc _).alloc _
    have r3 : RowAt W1 (w.heap.size + 1 + 1 + 1) 9 #[.string ⟨#[60]⟩, .string ⟨#[60, 61]⟩, .string ⟨#[62]⟩, .string ⟨#[62, 61]⟩] := by rw [← hW1.out]; exact (((row_new (by simp)).alloc _).alloc _).alloc _
    have r4 : RowAt W1 (w.heap.size + 1 + 1 + 1 + 1) 9 #[.string ⟨#[43]⟩, .string ⟨#[45]⟩] := by rw [← hW1.out]; exact ((row_new (by simp)).alloc _).alloc _
    have r5 : RowAt W1 (w.heap.size + 1 + 1 + 1 + 1 + 1) 9 #[.string ⟨#[42]⟩, .string ⟨#[47]⟩, .string ⟨#[37]⟩] := by rw [← hW1.out]; exact (row_new (by simp)).alloc _
    have r6 : RowAt W1 G 22 #[.slice (some ⟨w.heap.size, 0, none⟩) 1 1, .slice (some ⟨w.heap.size + 1, 0, none⟩) 1 1, .slice (some ⟨w.heap.size + 1 + 1, 0, none⟩) 2 2, .slice (some ⟨w.heap.size + 1 + 1 + 1, 0, none⟩) 4 4, .slice (some ⟨w.heap.size + 1 + 1 + 1 + 1, 0, none⟩) 2 2, .slice (some ⟨w.heap.size + 1 + 1 + 1 + 1 + 1, 0, none⟩) 3 3] := by rw [← hW1.out, ← hG.out]; exact row_new (by simp)
    have key : ∀ (i : Nat) (b : Nat) (L : List By) (vs : Array Value), RowAt W1 b 9 vs → vs.toList = L.map (fun s => Value.string (bs s)) → W1.cell? ⟨G, i, none⟩ = some (.slice (some ⟨b, 0, none⟩) L.length L.length) → ∃ g, W1.cell? ⟨G, i, none⟩ = some (.slice (some ⟨g, 0, none⟩) L.length L.length) ∧ ∀ k s, L[k]? = some s → W1.cell? ⟨g, k, none⟩ = some (.string (bs s)) := by
      intro i b L vs hr hv hc
      refine ⟨b, hc, fun k s hk => hr.cell ?_⟩
      rw [← Array.getElem?_toList, hv, List.getElem?_map, hk]
      rfl
    intro i r hi
    match i, hi with
    | 0, hi => obtain rfl := Option.some.inj hi; exact key 0 _ _ _ r0 rfl (r6.cell rfl)
    | 1, hi => obtain rfl := Option.some.inj hi; exact key 1 _ _ _ r1 rfl (r6.cell rfl)
    | 2, hi => obtain rfl := Option.some.inj hi; exact key 2 _ _ _ r2 rfl (r6.cell rfl)
    | 3, hi => obtain rfl := Option.some.inj hi; exact key 3 _ _ _ r3 rfl (r6.cell rfl)
    | 4, hi => obtain rfl := Option.some.inj hi; exact key 4 _ _ _ r4 rfl (r6.cell rfl)
    | 5, hi => obtain rfl := Option.some.inj hi; exact key 5 _ _ _ r5 rfl (r6.cell rfl)
    | n + 6, hi => simp [opsL] at hi)
  have HI := Lib.hid (fun s => is_any v T a s W1 (h.below B1))
  have HB := Lib.hid B1
  obtain ⟨av, cv, rfl, -⟩ := h.get
  obtain ⟨tl_, htl⟩ : ∃ n, Hid (T.length = n) := ⟨_, Lib.hid rfl⟩
  rw [htl.out] at HI ⊢
  clear h B1
  have hol : opsL.length = 6 := rfl
  have hrl : ∀ (i : Nat) (r : List By), opsL[i]? = some r → r.length ≤ 4 := by
    intro i r hi
    match i, hi with
    | 0, hi => obtain rfl := Option.some.inj hi; decide
    | 1, hi => obtain rfl := Option.some.inj hi; decide
    | 2, hi => obtain rfl := Option.some.inj hi; decide
    | 3, hi => obtain rfl := Option.some.inj hi; decide
    | 4, hi => obtain rfl := Option.some.inj hi; decide
    | 5, hi => obtain rfl := Option.some.inj hi; decide
    | n + 6, hi => simp [opsL] at hi
  have Hrl := Lib.hid hrl
  have Hol := Lib.hid hol
  clear hrl hol
  go_enter Tryd.func86, Tryd.ntmps86
  go_wp2_with fail
  rw [hW1.out, hG.out]
  clear hW1 hG
  go_loopw [6] (fun c wr => ∃ i : Nat, c = .int .i64 i ∧ i ≤ 6 ∧ Hid (bindL T a i (opsL.drop i) = r) ∧ wr = W1) (fun c _ => 6 - (intOf c).toNat)
  case atStart => exact ⟨0, rfl, by omega, hr, rfl⟩
  case round =>
    obtain ⟨i, rfl, hi, hb, rfl⟩ := hrel
    rcases Nat.lt_or_ge i 6 with hlt | hlt
    · obtain ⟨rw_, hrw⟩ : ∃ x, opsL[i]? = some x := ⟨_, List.getElem?_eq_getElem (by rw [Hol.out]; exact hlt)⟩
      obtain ⟨g, c0, ck⟩ := H6.out i rw_ hrw
      have hr4 := Hrl.out i rw_ hrw
      have Ck := Lib.hid ck
      have hd : opsL.drop i = rw_ :: opsL.drop (i + 1) := by
        obtain ⟨hl, he⟩ := List.getElem?_eq_some_iff.1 hrw
        rw [List.drop_eq_getElem_cons hl, he]
      have hb2 : Hid (bindL T a i (rw_ :: opsL.drop (i + 1)) = r) := Lib.hid (by rw [← hd]; exact hb.out)
      clear hb hd ck hrw
      obtain ⟨n, hn⟩ : ∃ n, Hid (rw_.length = n) := ⟨_, Lib.hid rfl⟩
      rw [hn.out] at c0 hr4
      have d1 : decide (i < 6) = true := decide_eq_true hlt
      have d2 : (0 : Int) ≤ (i : Int) := by omega
      have d3 : (i : Int) < 6 := by omega
      go_wp2_with fail
      go_loopw [7] (fun c wr2 => ∃ k : Nat, c = .int .i64 k ∧ k ≤ n ∧ Hid (∀ s ∈ rw_.take k, isT T a s = false) ∧ wr2 = wr) (fun c _ => n - (intOf c).toNat)
      case atStart => exact ⟨0, rfl, by omega, Lib.hid (by simp), rfl⟩
      case round =>
        obtain ⟨k, rfl, hk, hno, rfl⟩ := hrel
        rcases Nat.lt_or_ge k n with hkl | hkl
        · obtain ⟨s, hs⟩ : ∃ x, rw_[k]? = some x := ⟨_, List.getElem?_eq_getElem (by rw [hn.out]; exact hkl)⟩
          have c1 := Ck.out k s hs
          have e1 : decide (k < n) = true := decide_eq_true hkl
          have e2 : (0 : Int) ≤ (k : Int) := by omega
          have e3 : (k : Int) < (n : Int) := by omega
          obtain ⟨q, hq⟩ : ∃ q, isT T a s = q := ⟨_, rfl⟩
          have I1 := HI.out (bs s)
          rw [tl_bs, hq] at I1
          have I2 := Lib.hid I1
          have Hs := Lib.hid hs
          have Hq := Lib.hid hq
          clear I1 hs hq
          cases q with
          | true =>
            have hv : Hid (r = i + 1) := Lib.hid (by
              rw [← hb2.out, bindL, if_pos (List.any_eq_true.2 ⟨s, List.mem_of_getElem? Hs.out, Hq.out⟩)])
            go_wp2_with (first | (go_at_call 41; with_reducible refine I2.out.mono ?_; rintro e w' ⟨rfl, rfl⟩))
            go_ret
            exact ⟨by rw [hv.out]; rfl, HB.out⟩
          | false =>
            have hno2 : Hid (∀ s ∈ rw_.take (k + 1), isT T a s = false) := Lib.hid (by
              intro x hx
              rw [List.take_add_one, Hs.out] at hx
              rcases List.mem_append.1 hx with hx | hx
              · exact hno.out x hx
              · simp at hx; rw [hx]; exact Hq.out)
            go_wp2_with (first | (go_at_call 41; with_reducible refine I2.out.mono ?_; rintro e w' ⟨rfl, rfl⟩))
            exact ⟨⟨k + 1, by go_num, by omega, hno2, trivial⟩, by simp [intOf]; omega⟩
        · have e1 : decide (k < n) = false := decide_eq_false (by omega)
          have hb3 : Hid (bindL T a (i + 1) (opsL.drop (i + 1)) = r) := Lib.hid (by
            rw [← hb2.out, bindL, if_neg]
            rw [Bool.not_eq_true, List.any_eq_false]
            intro s hs
            rw [← List.take_of_length_le (l := rw_) (i := k) (by rw [hn.out]; exact hkl)] at hs
            rw [hno.out s hs]; decide)
          go_wp2_with fail
          exact ⟨⟨i + 1, by go_num, by omega, hb3, trivial⟩, by simp [intOf]; omega⟩
    · have d1 : decide (i < 6) = false := decide_eq_false (by omega)
      obtain rfl : i = 6 := by omega
      have hv : Hid (r = 0) := Lib.hid (by rw [← hb.out]; rfl)
      go_wp2_with fail
      go_ret
      exact ⟨by rw [hv.out]; rfl, HB.out⟩
end Go.Proofs.YtbnbmjdjkadgoaaDoor.X
