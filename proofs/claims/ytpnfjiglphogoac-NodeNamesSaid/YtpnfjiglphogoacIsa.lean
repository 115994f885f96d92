/-
  For the laws of node: whether two rows of whole numbers are the same; the document's example tree. Condition: at most 2,000,000 numbers.
-/
import Derived.Test.YtpnfjiglphogoacFol
namespace Go.Proofs.Ytpnfjiglphogoac
open Go.RowKit Go.Shelf
set_option linter.unusedSimpArgs false
set_option linter.unusedVariables false

theorem sl_of_way {w : World} {base : Nat} {v : Value} {L : List Nat} (h : w.ownsRow base 3 1 v L.length (nv L)) : SlI w v (L.map (fun (i : Nat) => (i : Int))) := by
  have hl : (L.map fun i : Nat => (i : Int)).length = L.length := List.length_map _
  rcases h.2 with ⟨rfl, h0⟩ | ⟨g, cap, cur, rfl, _, hg, h1, h2, h3, h4⟩
  · have : L = [] := List.length_eq_zero_iff.1 h0
    subst this
    exact ⟨none, 0, rfl, Nat.le_refl _, Nat.zero_le _, fun k i hk => by simp at hk⟩
  · refine ⟨_, cap, by rw [hl], by omega, h2, fun k i hk => ⟨g, 0, rfl, ?_⟩⟩
    rw [List.getElem?_map] at hk
    cases hx : L[k]? with
    | none => rw [hx] at hk; cases hk
    | some x =>
      rw [hx] at hk
      obtain rfl := Option.some.inj hk
      have hkl := (List.getElem?_eq_some_iff.1 hx).1
      have h5 : (nv L)[k]? = some (.int .i64 (x : Nat)) := by unfold nv; rw [List.getElem?_map, hx]; rfl
      rw [← h4, List.getElem?_take_of_lt (by omega)] at h5
      rw [Nat.zero_add]
      simp [World.cell?, hg]
      simpa using h5
set_option maxRecDepth 100000 in
set_option maxHeartbeats 8000000 in
theorem Ints_any (va vb : Value) (la lb : List Int) (w : World) (ha : SlI w va la) (hb : SlI w vb lb) (hl : la.length ≤ 2000000) :
    Calls Try.prog 16 #[va, vb] w fun e w' => CmpQ (la = lb) e ∧ Below w.heap.size w w' := by
  obtain ⟨a, cap, rfl, hc1, hc2, hx⟩ := ha
  obtain ⟨b, cap2, rfl, hd1, hd2, hy⟩ := hb
  have Hx := Lib.hid hx
  have Hy := Lib.hid hy
  clear hx hy
  obtain ⟨Q, hQ⟩ : ∃ Q : Prop, Hid ((la = lb) = Q) := ⟨_, Lib.hid rfl⟩
  rw [hQ.out]
  obtain ⟨n, hn⟩ : ∃ n, Hid (la.length = n) := ⟨_, Lib.hid rfl⟩
  obtain ⟨n2, hn2⟩ : ∃ n, Hid (lb.length = n) := ⟨_, Lib.hid rfl⟩
  rw [hn.out] at hc1 hl
  rw [hn2.out] at hd1
  rw [hn.out, hn2.out]
  have hc2' := hc2
  have hd2' := hd2
  unfold maxLen at hc2' hd2'
  by_cases el : n = n2
  rotate_left
  · have g : ((n : Int) == (n2 : Int)) = false := by rw [beq_eq_false_iff_ne]; omega
    have hne : Hid (¬ Q) := Lib.hid (fun h => by rw [← hQ.out] at h; rw [← hn.out, ← hn2.out, h] at el; exact el rfl)
    go_enter Try.func16, Try.ntmps16
    go_wp2_with fail
    go_ret
    exact ⟨CmpQ.no rfl hne.out, Below.refl _ _⟩
  subst el
  go_enter Try.func16, Try.ntmps16
  go_wp2_with fail
  go_loopw [5] (fun c wr => ∃ k : Nat, c = .int .i64 k ∧ k ≤ n ∧ Hid (la.take k = lb.take k) ∧ Hid (Below w.heap.size w wr)) (fun c _ => n - (intOf c).toNat)
  case atStart => exact ⟨0, rfl, by omega, Lib.hid rfl, Lib.hid (Below.refl _ _)⟩
  case round =>
    obtain ⟨k, rfl, hk, hP, hB⟩ := hrel
    by_cases hlt : k < n
    · obtain ⟨x, hxk⟩ : ∃ x, Hid (la[k]? = some x) := ⟨_, Lib.hid (List.getElem?_eq_getElem (by rw [hn.out]; exact hlt))⟩
      obtain ⟨y, hyk⟩ : ∃ y, Hid (lb[k]? = some y) := ⟨_, Lib.hid (List.getElem?_eq_getElem (by rw [hn2.out]; exact hlt))⟩
      obtain ⟨b1, o1, rfl, c1⟩ := Hx.out k x hxk.out
      obtain ⟨b2, o2, rfl, c2⟩ := Hy.out k y hyk.out
      have d1 : wr.cell? ⟨b1, o1 + k, none⟩ = some (.int .i64 x) := (hB.out.cell (p := ⟨b1, o1 + k, none⟩) (World.block_lt_of_cell? w _ c1)).trans c1
      have d2 : wr.cell? ⟨b2, o2 + k, none⟩ = some (.int .i64 y) := (hB.out.cell (p := ⟨b2, o2 + k, none⟩) (World.block_lt_of_cell? w _ c2)).trans c2
      have p0 : (k : Int) < (n : Int) := by omega
      have p1 : (0 : Int) ≤ (k : Int) := by omega
      clear c1 c2
      by_cases hxy : x = y
      · have hP2 : Hid (la.take (k + 1) = lb.take (k + 1)) := Lib.hid (by rw [List.take_add_one, List.take_add_one, hP.out, hxk.out, hyk.out, hxy])
        subst hxy
        go_wp2_with fail
        go_quiet (fail)
        go_wp2_with fail
        exact ⟨⟨k + 1, by go_num, by omega, hP2, Lib.hid (below_draws hB.out _)⟩, by simp [intOf]; omega⟩
      · have g1 : (x != y) = true := by rw [bne_iff_ne]; exact hxy
        have g0 : (x == y) = false := by rw [beq_eq_false_iff_ne]; exact hxy
        have hne : Hid (¬ Q) := Lib.hid (fun h => by
          rw [← hQ.out] at h
          have e1 := hxk.out
          rw [h, hyk.out] at e1
          exact hxy (Option.some.inj e1).symm)
        clear hxy
        go_wp2_with fail
        go_quiet (fail)
        go_wp2_with fail
        go_ret
        exact ⟨CmpQ.no rfl hne.out, below_draws hB.out _⟩
    · obtain rfl : k = n := by omega
      have hyes : Hid Q := Lib.hid (by
        have h := hP.out
        rw [List.take_of_length_le (by rw [hn.out]; exact Nat.le_refl _), List.take_of_length_le (by rw [hn2.out]; exact Nat.le_refl _)] at h
        rw [← hQ.out]; exact h)
      go_wp2_with fail
      go_ret
      exact ⟨CmpQ.yes rfl hyes.out, hB.out⟩
/-- The document's example. -/
def smp2 : Nd := .mk ⟨13, [], [], 7, 6, 7, 0, 0⟩ []
def smp1 : Nd := .mk ⟨11, [], [], 0, 4, 8, 0, 0⟩ [smp2]
def smp : Nd := .mk ⟨5, [], [], 0, 3, 9, -1, 0⟩ [smp1]
set_option maxRecDepth 100000 in
set_option maxHeartbeats 8000000 in
theorem sample_any (w : World) : Calls Try.prog 18 #[] w fun e w' => (∃ a c, e = .returned (smp.hd.agg (.slice a 1 c)) ∧ KidsAt w' smp.kids (.slice a 1 c)) ∧ Below w.heap.size w w' := by
  obtain ⟨W3, hW3⟩ : ∃ W3, Hid (((w.alloc (.cells #[.int .i64 5, .string ⟨#[]⟩, .string ⟨#[]⟩, .int .i64 0, .int .i64 3, .int .i64 9, .int .i64 (-1), .int .i64 0, .slice (some ⟨w.heap.size + 1 + 1, 0, none⟩) 1 1] 24)).alloc (.cells #[.int .i64 13, .string ⟨#[]⟩, .string ⟨#[]⟩, .int .i64 7, .int .i64 6, .int .i64 7, .int .i64 0, .int .i64 0, .slice none 0 0] 24)).alloc (.cells #[.int .i64 11, .string ⟨#[]⟩, .string ⟨#[]⟩, .int .i64 0, .int .i64 4, .int .i64 8, .int .i64 0, .int .i64 0, .slice (some ⟨w.heap.size + 1, 0, none⟩) 1 1] 24) = W3) := ⟨_, Lib.hid rfl⟩
  have R0 : RowAt W3 w.heap.size 24 #[.int .i64 5, .string ⟨#[]⟩, .string ⟨#[]⟩, .int .i64 0, .int .i64 3, .int .i64 9, .int .i64 (-1), .int .i64 0, .slice (some ⟨w.heap.size + 1 + 1, 0, none⟩) 1 1] := by
    rw [← hW3.out]; exact ((RowAt.new w 24 #[.int .i64 5, .string ⟨#[]⟩, .string ⟨#[]⟩, .int .i64 0, .int .i64 3, .int .i64 9, .int .i64 (-1), .int .i64 0, .slice (some ⟨w.heap.size + 1 + 1, 0, none⟩) 1 1]).alloc _).alloc _
  have R1 : RowAt W3 (w.heap.size + 1) 24 #[.int .i64 13, .string ⟨#[]⟩, .string ⟨#[]⟩, .int .i64 7, .int .i64 6, .int .i64 7, .int .i64 0, .int .i64 0, .slice none 0 0] := by
    rw [← hW3.out]
    have := (RowAt.new (w.alloc (.cells #[.int .i64 5, .string ⟨#[]⟩, .string ⟨#[]⟩, .int .i64 0, .int .i64 3, .int .i64 9, .int .i64 (-1), .int .i64 0, .slice (some ⟨w.heap.size + 1 + 1, 0, none⟩) 1 1] 24)) 24 #[.int .i64 13, .string ⟨#[]⟩, .string ⟨#[]⟩, .int .i64 7, .int .i64 6, .int .i64 7, .int .i64 0, .int .i64 0, .slice none 0 0]).alloc (.cells #[.int .i64 11, .string ⟨#[]⟩, .string ⟨#[]⟩, .int .i64 0, .int .i64 4, .int .i64 8, .int .i64 0, .int .i64 0, .slice (some ⟨w.heap.size + 1, 0, none⟩) 1 1] 24)
    rw [World.size_alloc] at this
    exact this
  have R2 : RowAt W3 (w.heap.size + 2) 24 #[.int .i64 11, .string ⟨#[]⟩, .string ⟨#[]⟩, .int .i64 0, .int .i64 4, .int .i64 8, .int .i64 0, .int .i64 0, .slice (some ⟨w.heap.size + 1, 0, none⟩) 1 1] := by
    rw [← hW3.out]
    have := RowAt.new ((w.alloc (.cells #[.int .i64 5, .string ⟨#[]⟩, .string ⟨#[]⟩, .int .i64 0, .int .i64 3, .int .i64 9, .int .i64 (-1), .int .i64 0, .slice (some ⟨w.heap.size + 1 + 1, 0, none⟩) 1 1] 24)).alloc (.cells #[.int .i64 13, .string ⟨#[]⟩, .string ⟨#[]⟩, .int .i64 7, .int .i64 6, .int .i64 7, .int .i64 0, .int .i64 0, .slice none 0 0] 24)) 24 #[.int .i64 11, .string ⟨#[]⟩, .string ⟨#[]⟩, .int .i64 0, .int .i64 4, .int .i64 8, .int .i64 0, .int .i64 0, .slice (some ⟨w.heap.size + 1, 0, none⟩) 1 1]
    rw [World.size_alloc, World.size_alloc] at this
    exact this
  have B3 : Below w.heap.size w W3 := by rw [← hW3.out]; exact (((Below.refl _ w).alloc (Nat.le_refl _) _).alloc (by simp) _).alloc (by simp; omega) _
  have k2 : KidsAt W3 [smp2] (.slice (some ⟨w.heap.size + 1, 0, none⟩) 1 1) := KidsAt.mk (ks := [smp2]) (Nat.le_refl _) (by unfold maxLen; omega) (fun k t hk => by
    have h0 : k = 0 := by have := (List.getElem?_eq_some_iff.1 hk).1; simp at this; omega
    subst h0
    obtain rfl := Option.some.inj hk
    exact ⟨_, 0, .slice none 0 0, rfl, (show Cells W3 (w.heap.size + 1) 0 smp2.hd (.slice none 0 0) from Cells.row R1), KidsAt.nil _⟩)
  have k1 : KidsAt W3 [smp1] (.slice (some ⟨w.heap.size + 1 + 1, 0, none⟩) 1 1) := KidsAt.mk (ks := [smp1]) (Nat.le_refl _) (by unfold maxLen; omega) (fun k t hk => by
    have h0 : k = 0 := by have := (List.getElem?_eq_some_iff.1 hk).1; simp at this; omega
    subst h0
    obtain rfl := Option.some.inj hk
    exact ⟨_, 0, .slice (some ⟨w.heap.size + 1, 0, none⟩) 1 1, rfl, (show Cells W3 (w.heap.size + 2) 0 smp1.hd (.slice (some ⟨w.heap.size + 1, 0, none⟩) 1 1) from Cells.row R2), k2⟩)
  have H0 := Lib.hid R0
  have HK := Lib.hid k1
  have HB := Lib.hid B3
  clear R0 R1 R2 k1 k2 B3
  go_enter Try.func18, Try.ntmps18
  go_wp2_with fail
  rw [hW3.out]
  refine bodyPost_ret (results_cell_row (P := Try.prog) rfl _ _ w.heap.size 24 #[.int .i64 5, .string ⟨#[]⟩, .string ⟨#[]⟩, .int .i64 0, .int .i64 3, .int .i64 9, .int .i64 (-1), .int .i64 0, .slice (some ⟨w.heap.size + 1 + 1, 0, none⟩) 1 1] (0, 0) _ rfl H0.out Try.underlying24 rfl rfl) rfl ?_
  exact ⟨⟨_, _, rfl, HK.out⟩, HB.out⟩
end Go.Proofs.Ytpnfjiglphogoac
