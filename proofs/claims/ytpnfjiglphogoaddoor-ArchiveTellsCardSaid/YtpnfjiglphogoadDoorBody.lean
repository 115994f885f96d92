/-
  For the laws of archive: a text's first line, and its first lines, by the program; a line's words. Condition: at most 1,000,000 bytes.
-/
import Derived.Test.YtpnfjiglphogoadDoorAmath
namespace Go.Proofs.YtpnfjiglphogoadDoor
open Go.RowKit Go.Shelf
set_option linter.unusedSimpArgs false

abbrev sp : ByteArray := ⟨#[32]⟩
theorem indexB_sp (s : ByteArray) : Lib.indexB s sp = Lib.indexByte (tl s) 32 := Lib.index_one (tl s) 32
theorem cnt0 {s : ByteArray} (h : (32 : UInt8) ∉ tl s) : Lib.countB s sp = 0 := Lib.countB_miss s sp ((indexB_sp s).trans (index_no h))
theorem tail_at {s : ByteArray} {a b : By} (h : tl s = a ++ 32 :: b) : s.extract (a.length + sp.size) s.size = bs b := by
  rw [ext_bs, h, show a ++ (32 : UInt8) :: b = (a ++ [32]) ++ b by simp]
  congr 1
  rw [List.drop_left' (by simp; rfl), List.take_of_length_le]
  have h1 := tl_length s
  rw [h] at h1
  have h2 : sp.size = 1 := rfl
  rw [h2]
  simp at h1 ⊢
  omega
theorem front_at {s : ByteArray} {a b : By} (h : tl s = a ++ 32 :: b) : s.extract 0 (a.length + 0) = bs a := by
  rw [ext_bs, h]
  simp
theorem cnt1 {s : ByteArray} {a b : By} (h : tl s = a ++ 32 :: b) (ha : (32 : UInt8) ∉ a) : Lib.countB s sp = 1 + Lib.countB (bs b) sp ∧ ∀ k, Lib.splitB sp 0 (k + 1) s = bs a :: Lib.splitB sp 0 k (bs b) := by
  have hi : Lib.indexB s sp = a.length := by rw [indexB_sp, h]; exact index_at b ha
  refine ⟨?_, fun k => ?_⟩
  · rw [Lib.countB_hit s sp a.length (by decide) hi, tail_at h]
  · rw [Lib.splitB_hit sp 0 k s a.length hi, tail_at h, front_at h]
theorem split3 (s : ByteArray) : (∃ x y z, three (tl s) = some (x, y, z) ∧ Lib.countB s sp = 2 ∧ Lib.splitB sp 0 2 s = [bs x, bs y, bs z] ∧ tl s = x ++ 32 :: (y ++ 32 :: z)) ∨ (three (tl s) = none ∧ Lib.countB s sp ≠ 2) := by
  rcases sepAt_cases 32 (tl s) with ⟨h1, h2⟩ | ⟨x, t, h1, h2, h3⟩
  · exact .inr ⟨by unfold three; rw [h2], by rw [cnt0 h1]; decide⟩
  · have c1 := cnt1 h1 h2
    rcases sepAt_cases 32 t with ⟨g1, g2⟩ | ⟨y, z, g1, g2, g3⟩
    · refine .inr ⟨by unfold three; rw [h3]; simp only; rw [g2], ?_⟩
      rw [c1.1, cnt0 (s := bs t) (by rw [tl_bs]; exact g1)]; decide
    · have c2 := cnt1 (s := bs t) (by rw [tl_bs]; exact g1) g2
      rcases sepAt_cases 32 z with ⟨k1, k2⟩ | ⟨u, v, k1, k2, k3⟩
      · refine .inl ⟨x, y, z, by unfold three; rw [h3]; simp only; rw [g3]; simp only; rw [k2], ?_, ?_, by rw [h1, g1]⟩
        · rw [c1.1, c2.1, cnt0 (s := bs z) (by rw [tl_bs]; exact k1)]
        · rw [c1.2 1, c2.2 0]; rfl
      · have c3 := cnt1 (s := bs z) (by rw [tl_bs]; exact k1) k2
        refine .inr ⟨by unfold three; rw [h3]; simp only; rw [g3]; simp only; rw [k3], ?_⟩
        rw [c1.1, c2.1, c3.1]; omega
theorem three_join {l x y z : By} (h : three l = some (x, y, z)) : l = x ++ 32 :: (y ++ 32 :: z) ∧ (32 : UInt8) ∉ x ∧ (32 : UInt8) ∉ y ∧ (32 : UInt8) ∉ z := by
  unfold three at h
  rcases sepAt_cases 32 l with ⟨h1, h2⟩ | ⟨a, t, h1, h2, h3⟩
  · rw [h2] at h; cases h
  · rw [h3] at h
    simp only at h
    rcases sepAt_cases 32 t with ⟨g1, g2⟩ | ⟨b, u, g1, g2, g3⟩
    · rw [g2] at h; cases h
    · rw [g3] at h
      simp only at h
      rcases sepAt_cases 32 u with ⟨k1, k2⟩ | ⟨c, v, k1, k2, k3⟩
      · rw [k2] at h
        simp only [Option.some.injEq, Prod.mk.injEq] at h
        obtain ⟨rfl, rfl, rfl⟩ := h
        exact ⟨by rw [h1, g1], h2, g2, k1⟩
      · rw [k3] at h; cases h
theorem three_of {x y z : By} (hx : (32 : UInt8) ∉ x) (hy : (32 : UInt8) ∉ y) (hz : (32 : UInt8) ∉ z) : three (x ++ 32 :: (y ++ 32 :: z)) = some (x, y, z) := by
  unfold three
  rw [sepAt_some _ hx]
  simp only
  rw [sepAt_some _ hy]
  simp only
  rw [sepAt_none hz]
set_option maxRecDepth 100000 in
set_option maxHeartbeats 8000000 in
theorem line_any (s : By) (hs : s.length ≤ 1000000) (w : World) : Calls Tryd.prog 28 #[.string (bs s)] w fun e w' => e = .returned (.tuple #[.string (bs (lineL s).1), .string (bs (lineL s).2)]) ∧ Below w.heap.size w w' := by
  have hn := headN_le s
  have hix := index_head s
  rw [line_take]
  obtain ⟨n, hnn⟩ : ∃ n, Hid (headN s = n) := ⟨_, Lib.hid rfl⟩
  rw [hnn.out] at hn hix
  rw [hnn.out]
  have h1 : (bs s).extract 0 n = bs (s.take n) := by rw [ext_bs, tl_bs]; simp
  have h2 : (bs s).extract n s.length = bs (s.drop n) := by
    rw [ext_bs, tl_bs, List.take_of_length_le (by simp)]
  have hi : Lib.indexByte s 10 = (n : Int) - 1 := by omega
  have p0 : (0 : Int) ≤ (n : Int) := by omega
  have p1 : (n : Int) ≤ (s.length : Int) := by omega
  have Hix := Lib.hid hix
  clear hix
  go_enter Tryd.func28, Tryd.ntmps28
  go_wp2_with fail
  refine (Tryd.strings_IndexByte (bs s) _ _).mono ?_
  rw [show Lib.indexByte (bs s).data.toList (10 : Int).toNat.toUInt8 = (n : Int) - 1 from hi]
  rintro e w' ⟨rfl, rfl⟩
  have p2 : IntKind.i64.wrap ((n : Int) - 1 + 1) = (n : Int) := by rw [Int.sub_add_cancel]; exact IntWalk.i64_in _ (by omega)
  clear hi
  go_wp2_with fail
  go_quiet (fail)
  go_wp2_with fail
  go_ret2
  exact ⟨rfl, below_draws (Below.refl _ _) _⟩
/-- What body answers. -/
def BodyIs (s : By) (k : Nat) (e : Ending) : Prop :=
  match bodyN s k with
  | some n => e = .returned (.tuple #[.string (bs (s.take n)), .string (bs (s.drop n)), .bool true])
  | none => e = .returned (.tuple #[.string ⟨#[]⟩, .string ⟨#[]⟩, .bool false])
theorem BodyIs.no {s : By} {k : Nat} {e : Ending} (h : bodyN s k = none) (he : e = .returned (.tuple #[.string ⟨#[]⟩, .string ⟨#[]⟩, .bool false])) : BodyIs s k e := by unfold BodyIs; rw [h]; exact he
theorem BodyIs.yes {s : By} {k n : Nat} {e : Ending} (h : bodyN s k = some n) (he : e = .returned (.tuple #[.string (bs (s.take n)), .string (bs (s.drop n)), .bool true])) : BodyIs s k e := by unfold BodyIs; rw [h]; exact he
set_option maxRecDepth 100000 in
set_option maxHeartbeats 8000000 in
theorem body_any (s : By) (hs : s.length ≤ 1000000) (many : Int) (w : World) : Calls Tryd.prog 34 #[.string (bs s), .int .i64 many] w fun e w' => BodyIs s many.toNat e ∧ Below w.heap.size w w' := by
  go_enter Tryd.func34, Tryd.ntmps34
  go_wp2_with fail
  go_loopw [7, 10] (fun a c wr => ∃ (k n : Nat), c = .int .i64 k ∧ k ≤ many.toNat ∧ k ≤ n ∧ a = .int .i64 n ∧ Hid (bodyN s k = some n) ∧ ∃ q, Hid (wr = w.drewN q)) (fun _ c _ => many.toNat - (intOf c).toNat)
  case atStart => exact ⟨0, 0, rfl, by omega, by omega, rfl, Lib.hid rfl, 0, Lib.hid rfl⟩
  case round =>
    obtain ⟨k, n, rfl, hk, hkn, rfl, hb, q, hq⟩ := hrel
    have hn := bodyN_le s k hb.out
    have p0 : (0 : Int) ≤ (n : Int) := by omega
    have p1 : (n : Int) ≤ (s.length : Int) := by omega
    have h2 : (bs s).extract n s.length = bs (s.drop n) := by
      rw [ext_bs, tl_bs, List.take_of_length_le (by simp)]
    by_cases hlt : (k : Int) < many
    · have f1 : decide ((k : Int) < many) = true := decide_eq_true hlt
      have hix := index_head (s.drop n)
      have hh := headN_le (s.drop n)
      rw [List.length_drop] at hh
      obtain ⟨m, hm⟩ : ∃ m, Hid (headN (s.drop n) = m) := ⟨_, Lib.hid rfl⟩
      rw [hm.out] at hix hh
      have hi : Lib.indexByte (s.drop n) 10 = (m : Int) - 1 := by omega
      clear hix
      go_wp2_with fail
      refine (Tryd.strings_IndexByte (bs (s.drop n)) _ _).mono ?_
      rw [show Lib.indexByte (bs (s.drop n)).data.toList (10 : Int).toNat.toUInt8 = (m : Int) - 1 from hi]
      rintro e w' ⟨rfl, rfl⟩
      have p2 : IntKind.i64.wrap ((m : Int) - 1 + 1) = (m : Int) := by rw [Int.sub_add_cancel]; exact IntWalk.i64_in _ (by omega)
      clear hi
      by_cases h0 : m = 0
      · have f2 : ((m : Int) == 0) = true := by simp [h0]
        have hno : Hid (bodyN s many.toNat = none) := Lib.hid (by
          have : many.toNat = (k + 1) + (many.toNat - (k + 1)) := by omega
          rw [this]
          exact bodyN_none s (by rw [bodyN, hb.out]; simp only; rw [if_pos (by rw [hm.out]; exact h0)]) _)
        clear h0
        go_wp2_with fail
        go_ret3
        exact ⟨BodyIs.no hno.out rfl, by rw [hq.out]; exact below_draws (Below.refl _ _) _⟩
      · have f2 : ((m : Int) == 0) = false := by rw [beq_eq_false_iff_ne]; omega
        have hnx : Hid (bodyN s (k + 1) = some (n + m)) := Lib.hid (by rw [bodyN, hb.out]; simp only; rw [if_neg (by rw [hm.out]; exact h0), hm.out])
        have hm1 : 1 ≤ m := by omega
        clear h0
        go_wp2_with fail
        clear p2 f1 f2 h2
        exact ⟨⟨k + 1, n + m, by go_num, by omega, by omega, by go_num, hnx, q, hq⟩, by simp [intOf]; omega⟩
    · have f1 : decide ((k : Int) < many) = false := decide_eq_false hlt
      have hfin : Hid (bodyN s many.toNat = some n) := Lib.hid (by rw [show many.toNat = k from by omega]; exact hb.out)
      have h1 : (bs s).extract 0 n = bs (s.take n) := by rw [ext_bs, tl_bs]; simp
      go_wp2_with fail
      go_quiet (fail)
      go_wp2_with fail
      go_ret3
      exact ⟨BodyIs.yes hfin.out rfl, by rw [hq.out]; exact below_draws (below_draws (Below.refl _ _) _) _⟩
end Go.Proofs.YtpnfjiglphogoadDoor
