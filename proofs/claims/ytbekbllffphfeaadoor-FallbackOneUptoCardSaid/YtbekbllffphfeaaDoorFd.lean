/-
  For the laws of fallback: how long marks are to be for three texts, by the program and by the document. Condition: texts of at most 1,999 bytes.
-/
import Derived.Test.YtbekbllffphfeaaDoorFb
namespace Go.Proofs.YtbekbllffphfeaaDoor.K
open Go.RowKit Go.Shelf
set_option linter.unusedSimpArgs false
set_option linter.unusedVariables false

set_option maxRecDepth 100000 in
set_option maxHeartbeats 8000000 in
theorem Marks_of (s0 s1 s2 : ByteArray) (L : List Pt) (hl : L.length ≤ 20000) (hok : ∀ p ∈ L, okH p) (w : World) (CL : Calls Tryd.prog 20 #[.string s0, .string s1, .string s2] w fun e w' => ∃ v, e = .returned v ∧ Prts w' v L ∧ Below w.heap.size w w') :
    Calls Tryd.prog 11 #[.string s0, .string s1, .string s2] w fun e w' => e = .returned (.int .i64 (showN L : Nat)) ∧ Below w.heap.size w w' := by
  have HC := Lib.hid CL
  have Hok := Lib.hid hok
  clear CL hok
  obtain ⟨N, hN⟩ : ∃ N, Hid (showN L = N) := ⟨_, Lib.hid rfl⟩
  obtain ⟨i0, hi0, hz0, hz1, hz2⟩ := info_parts infoStr
  rw [hN.out]
  go_enter Tryd.func11, Tryd.ntmps11
  go_wp2_with fail
  refine HC.out.mono ?_
  rintro e w1 ⟨v, rfl, hv, b1⟩
  have B1 := Lib.hid b1
  obtain ⟨a, cap, rfl, hc, hcm, hat⟩ := hv
  unfold maxLen at hcm
  have Hat := Lib.hid hat
  clear hat b1 HC
  obtain ⟨n, hn⟩ : ∃ n, Hid (L.length = n) := ⟨_, Lib.hid rfl⟩
  rw [hn.out] at hc hl ⊢
  go_wp2_with fail
  go_loopw [7, 15] (fun u c wr => ∃ k : Nat, c = .int .i64 k ∧ k ≤ n ∧ Hid (wr.ownsRow w1.heap.size 9 1 u (tx3 (L.take k)).length (strV (tx3 (L.take k)))) ∧ Hid (Below w1.heap.size w1 wr)) (fun _ c _ => n - (intOf c).toNat)
  case atStart => exact ⟨0, rfl, by omega, Lib.hid (World.ownsRow_nil _ _ _ _), Lib.hid (Below.refl _ _)⟩
  case round =>
    obtain ⟨k, rfl, hk, hown, hB⟩ := hrel
    have hbs := hB.out.size
    rcases Nat.lt_or_ge k n with hlt | hlt
    · obtain ⟨p, hp⟩ : ∃ p, L[k]? = some p := ⟨_, List.getElem?_eq_getElem (by rw [hn.out]; exact hlt)⟩
      obtain ⟨b, off, rfl, hbl, l0, l1, l2, l3⟩ := Hat.out k p hp
      have c0 : wr.cell? ⟨b, off + k * 4, none⟩ = some (.bool p.clash) := (hB.out.cell (p := ⟨b, off + k * 4, none⟩) hbl).trans l0
      have c1 : wr.cell? ⟨b, off + k * 4 + 1, none⟩ = some (.string (bs p.o)) := (hB.out.cell (p := ⟨b, off + k * 4 + 1, none⟩) hbl).trans l1
      have c2 : wr.cell? ⟨b, off + k * 4 + 2, none⟩ = some (.string (bs p.a)) := (hB.out.cell (p := ⟨b, off + k * 4 + 2, none⟩) hbl).trans l2
      have c3 : wr.cell? ⟨b, off + k * 4 + 3, none⟩ = some (.string (bs p.b)) := (hB.out.cell (p := ⟨b, off + k * 4 + 3, none⟩) hbl).trans l3
      have hnx : Hid (tx3 (L.take (k + 1)) = tx3 (L.take k) ++ [p.o, p.a, p.b]) := Lib.hid (tx3_take hp)
      have hle : (tx3 (L.take k)).length ≤ 60000 := by rw [tx3_len, List.length_take]; omega
      have d1 : decide (k < n) = true := decide_eq_true hlt
      have d2 : (0 : Int) ≤ (k : Int) := by omega
      have d3 : (k : Int) < (n : Int) := by omega
      obtain ⟨m, hm⟩ : ∃ m, Hid ((tx3 (L.take k)).length = m) := ⟨_, Lib.hid rfl⟩
      rw [hm.out] at hown hle
      obtain ⟨au, cu, rfl⟩ := own_form hown.out
      clear l0 l1 l2 l3 hp
      go_wp2_with (at_builtin; refine wpList_append_own _ rfl _ _ 57 rfl w1.heap.size 9 i0 (.string ⟨#[]⟩) 1 16 Tryd.underlying57 hi0 hz0 hz1 hz2 rfl (by decide) _ _ _ rfl ((hown.out.alloc _).alloc _) ⟨wr.heap.size + 1, 0, none⟩ 3 3 [.string (bs p.o), .string (bs p.a), .string (bs p.b)] rfl rfl (three_new wr _ p.o p.a p.b _) (three_one _ _ _) (by unfold maxLen; omega) (by omega) (by simp; omega) ?_; intro v' w2 hown' hgrow _)
      have HB2 := Lib.hid (((hB.out.alloc hbs (.cells #[.bool p.clash, .string (bs p.o), .string (bs p.a), .string (bs p.b)] 52)).alloc (by simp; omega) (.cells #[.string (bs p.o), .string (bs p.a), .string (bs p.b)] 9)).grown hgrow (by simp; omega) (fun k hk => (hown.out.lt k hk).1))
      have ho2 : Hid (w2.ownsRow w1.heap.size 9 1 v' (tx3 (L.take (k + 1))).length (strV (tx3 (L.take (k + 1))))) := Lib.hid (by
        rw [hnx.out, strV_app, List.length_append, hm.out]
        exact hown')
      clear hown' hgrow
      go_wp2_with fail
      exact ⟨⟨k + 1, by go_num, by omega, ho2, HB2⟩, by simp [intOf]; omega⟩
    · have d1 : decide (k < n) = false := decide_eq_false (by omega)
      rw [List.take_of_length_le (by rw [hn.out]; exact hlt)] at hown
      have hs : Hid (Strz wr u7 ((tx3 L).map bs)) := Lib.hid (strz_tx3 hown.out)
      have CN := Lib.hid (Length_any _ _ (fun x hx => Nat.le_trans (tx3_mem Hok.out x hx) (by omega)) _ hs.out)
      rw [show lenL 7 (allL ((tx3 L).map bs)) = N from hN.out] at CN
      obtain ⟨au, cu, rfl⟩ := own_form hown.out
      go_wp2_with fail
      refine CN.out.mono ?_
      rintro e w2 ⟨rfl, b2⟩
      have HB1 := Lib.hid (B1.out.trans ((hB.out.trans (b2.mono hbs)).mono B1.out.size))
      clear b2
      go_wp2_with fail
      go_ret
      exact ⟨rfl, HB1.out⟩
end Go.Proofs.YtbekbllffphfeaaDoor.K
namespace Go.Proofs.YtbekbllffphfeaaDoor
open Go.RowKit Go.Shelf
theorem Marks_any (s0 s1 s2 : ByteArray) (w : World) (h1 : s0.size ≤ 2599) (h2 : s1.size ≤ 2599) (h3 : s2.size ≤ 2599) : Calls Tryd.prog 11 #[.string s0, .string s1, .string s2] w fun e w' => e = .returned (.int .i64 (markN (linesP s0 s1 s2) : Nat)) ∧ Below w.heap.size w w' := by
  obtain ⟨k1, k2, -⟩ := linesOk s0 s1 s2 h1 h2 h3
  refine K.Marks_of s0 s1 s2 ((linesP s0 s1 s2).map kp) (by rw [List.length_map]; exact k1) (okF_k k2) w ((Lines_any s0 s1 s2 w h1 h2 h3).mono ?_)
  rintro e w' ⟨v, rfl, hv, hb⟩
  exact ⟨v, rfl, prts_k hv, hb⟩
end Go.Proofs.YtbekbllffphfeaaDoor
