/-
  For the laws of marker: a mark's line, a section, by the reference. Condition: texts of at most 100,000 bytes, marks of at most 100,000.
-/
import Derived.Test.YtbekbllffphfeaaGreatDoorKReflen
import Derived.Test.YtbekbllffphfeaaGreatDoorKPrint
namespace Go.Proofs.YtbekbllffphfeaaGreatDoor.K
open Go.RowKit Go.Shelf
set_option linter.unusedSimpArgs false

theorem rep_snoc (c : UInt8) (k : Nat) : bs (List.replicate k c) ++ bs [c] = bs (List.replicate (k + 1) c) := by
  rw [bs_app, List.replicate_succ']
set_option maxRecDepth 100000 in
set_option maxHeartbeats 8000000 in
theorem refmark_same (c : UInt8) (n : Nat) (hn : n ≤ 100000) (cut : Bool) (x : By) (hx : x.length ≤ 100) (w : World) : Calls Tryz.prog 60 #[.string (bs [c]), .int .i64 n, .bool cut, .string (bs x)] w fun e w' => e = .returned (.string (bs (mk c n cut x))) ∧ w' = w := by
  obtain ⟨r, hr⟩ : ∃ r, Hid (mk c n cut x = r) := ⟨_, Lib.hid rfl⟩
  rw [hr.out]
  go_enter Tryz.func60, Tryz.ntmps60
  go_wp2_with fail
  go_loopw [9, 10] (fun s i wr => ∃ k : Nat, i = .int .i64 k ∧ k ≤ n ∧ s = .string (bs (List.replicate k c)) ∧ Hid (wr = w)) (fun _ i _ => n - (intOf i).toNat)
  case atStart => exact ⟨0, rfl, by omega, rfl, Lib.hid rfl⟩
  case round =>
    obtain ⟨k, rfl, hk, rfl, hq⟩ := hrel
    obtain ⟨y, hy⟩ : ∃ y, Hid (List.replicate k c = y) := ⟨_, Lib.hid rfl⟩
    have hyl : y.length = k := by rw [← hy.out, List.length_replicate]
    rw [hy.out]
    have z0 : (bs y).size ≤ 100000 := by rw [bs_size]; omega
    by_cases hlt : k < n
    · have hnx : Hid (bs y ++ bs [c] = bs (List.replicate (k + 1) c)) := Lib.hid (by rw [← hy.out]; exact rep_snoc c k)
      have hyl2 : y.length ≤ 100000 := by omega
      clear hyl z0
      go_wp2_with fail
      exact ⟨⟨k + 1, by go_num, by omega, by first | rw [← hnx.out] | (congr 1; exact hnx.out), hq⟩, by simp [intOf]; omega⟩
    · obtain rfl : k = n := by omega
      have Hyl := Lib.hid hyl
      have hyl2 : y.length ≤ 100000 := by omega
      clear hyl z0
      have e10 : (⟨#[10]⟩ : ByteArray) = bs [10] := rfl
      have e32 : (⟨#[32]⟩ : ByteArray) = bs [32] := rfl
      have e33 : (⟨#[33]⟩ : ByteArray) = bs [33] := rfl
      by_cases hxe : x = []
      · have h0d : x.isEmpty = true := by simpa using hxe
        cases cut with
        | true =>
          have hsum : Hid (bs y ++ ⟨#[33]⟩ ++ ⟨#[10]⟩ = bs r) := Lib.hid (by
            rw [← hr.out, ← hy.out, hxe, e33, e10, bs_app, bs_app]; simp [mk])
          clear hxe e10 e32 e33
          go_wp2_with fail
          go_ret
          exact ⟨ret_str hsum.out, hq.out⟩
        | false =>
          have hsum : Hid (bs y ++ ⟨#[10]⟩ = bs r) := Lib.hid (by
            rw [← hr.out, ← hy.out, hxe, e10, bs_app]; simp [mk])
          clear hxe e10 e32 e33
          go_wp2_with fail
          go_ret
          exact ⟨ret_str hsum.out, hq.out⟩
      · have h0d : x.isEmpty = false := by simpa using hxe
        cases cut with
        | true =>
          have hsum : Hid (bs y ++ ⟨#[33]⟩ ++ ⟨#[32]⟩ ++ bs x ++ ⟨#[10]⟩ = bs r) := Lib.hid (by
            rw [← hr.out, ← hy.out, e33, e32, e10, bs_app, bs_app, bs_app, bs_app]; simp [mk, hxe])
          clear hxe e10 e32 e33
          go_wp2_with fail
          go_ret
          exact ⟨ret_str hsum.out, hq.out⟩
        | false =>
          have hsum : Hid (bs y ++ ⟨#[32]⟩ ++ bs x ++ ⟨#[10]⟩ = bs r) := Lib.hid (by
            rw [← hr.out, ← hy.out, e32, e10, bs_app, bs_app, bs_app]; simp [mk, hxe])
          clear hxe e10 e32 e33
          go_wp2_with fail
          go_ret
          exact ⟨ret_str hsum.out, hq.out⟩
end Go.Proofs.YtbekbllffphfeaaGreatDoor.K
