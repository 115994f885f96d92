/-
  For the laws of tree: Path, by the program. Condition: texts no longer than any Go string.
-/
import Derived.Test.YtpnfjiglphogoadDoorPath
namespace Go.Proofs.YtpnfjiglphogoadDoor
open Go.RowKit Go.Shelf

def okB (c : UInt8) : Bool := pathB c.toNat
def pathOk (s : By) : Bool := !(s == []) && decide (s.length ≤ 24) && !(Lib.hasPrefix s [47]) && !(Lib.hasSuffix s [47]) && s.all okB
set_option maxRecDepth 100000 in
set_option maxHeartbeats 8000000 in
theorem Path_any (s : ByteArray) (w : World) (hs : s.size ≤ maxLen) : Calls Tryd.prog 30 #[.string s] w fun e w' => e = .returned (.bool (pathOk (tl s))) ∧ w' = w := by
  unfold maxLen at hs
  have hl : (tl s).length = s.size := tl_length s
  obtain ⟨p, hp⟩ : ∃ p, Hid (pathOk (tl s) = p) := ⟨_, Lib.hid rfl⟩
  have hp2 := hp.out
  rw [pathOk, hl] at hp2
  rw [hp.out]
  by_cases h0 : tl s = []
  · have f0 : (s.toList == []) = true := by rw [Lib.toList_data]; simpa using h0
    rw [h0] at hp2
    obtain rfl : false = p := by rw [← hp2]; rfl
    clear hp hp2 h0
    go_enter Tryd.func30, Tryd.ntmps30
    go_wp2_with fail
    go_ret
    exact ⟨rfl, rfl⟩
  have f0 : (s.toList == []) = false := by rw [Lib.toList_data]; simpa using h0
  rw [show (tl s == []) = false by simpa using h0, Bool.not_false, Bool.true_and] at hp2
  clear h0
  rcases Nat.lt_or_ge 24 s.size with h1 | h1
  · have f1 : decide ((s.size : Int) > 24) = true := decide_eq_true (by omega)
    rw [decide_eq_false (by omega)] at hp2
    obtain rfl : false = p := by rw [← hp2]; simp
    clear hp hp2 h1
    go_enter Tryd.func30, Tryd.ntmps30
    go_wp2_with fail
    go_ret
    exact ⟨rfl, rfl⟩
  have f1 : decide ((s.size : Int) > 24) = false := decide_eq_false (by omega)
  rw [decide_eq_true h1, Bool.true_and] at hp2
  clear h1
  have P1 := Lib.hid (Tryd.strings_HasPrefix s ⟨#[47]⟩ w)
  have P2 := Lib.hid (Tryd.strings_HasSuffix s ⟨#[47]⟩ w (by omega))
  obtain ⟨b1, hb1⟩ : ∃ b, Hid (Lib.hasPrefix (tl s) [47] = b) := ⟨_, Lib.hid rfl⟩
  obtain ⟨b2, hb2⟩ : ∃ b, Hid (Lib.hasSuffix (tl s) [47] = b) := ⟨_, Lib.hid rfl⟩
  rw [hb1.out, hb2.out] at hp2
  cases b1 with
  | true =>
    obtain rfl : false = p := by rw [← hp2]; simp
    clear hp hp2
    go_enter Tryd.func30, Tryd.ntmps30
    go_wp2_with (go_at_call 42; refine P1.out.mono ?_; rw [show Lib.hasPrefix s.data.toList (⟨#[47]⟩ : ByteArray).data.toList = true from hb1.out]; rintro e w' ⟨rfl, rfl⟩)
    go_ret
    exact ⟨rfl, rfl⟩
  | false =>
    cases b2 with
    | true =>
      obtain rfl : false = p := by rw [← hp2]; simp
      clear hp hp2
      go_enter Tryd.func30, Tryd.ntmps30
      go_wp2_with (first | (go_at_call 42; refine P1.out.mono ?_; rw [show Lib.hasPrefix s.data.toList (⟨#[47]⟩ : ByteArray).data.toList = false from hb1.out]; rintro e w' ⟨rfl, rfl⟩) | (go_at_call 37; refine P2.out.mono ?_; rw [show Lib.hasSuffix s.data.toList (⟨#[47]⟩ : ByteArray).data.toList = true from hb2.out]; rintro e w' ⟨rfl, rfl⟩))
      go_ret
      exact ⟨rfl, rfl⟩
    | false =>
      rw [Bool.not_false, Bool.true_and, Bool.true_and] at hp2
      have Hp2 := Lib.hid hp2
      have Hl := Lib.hid hl
      clear hp hp2 hl
      go_enter Tryd.func30, Tryd.ntmps30
      go_wp2_with (first | (go_at_call 42; refine P1.out.mono ?_; rw [show Lib.hasPrefix s.data.toList (⟨#[47]⟩ : ByteArray).data.toList = false from hb1.out]; rintro e w' ⟨rfl, rfl⟩) | (go_at_call 37; refine P2.out.mono ?_; rw [show Lib.hasSuffix s.data.toList (⟨#[47]⟩ : ByteArray).data.toList = false from hb2.out]; rintro e w' ⟨rfl, rfl⟩))
      go_loopw [21] (fun c wr => ∃ k : Nat, c = .int .i64 k ∧ k ≤ s.size ∧ Hid (wr = w') ∧ Hid (((tl s).drop k).all okB = p)) (fun c _ => s.size - (intOf c).toNat)
      case atStart => exact ⟨0, rfl, by omega, Lib.hid rfl, Hp2⟩
      case round =>
        obtain ⟨k, rfl, hk, hw, hg⟩ := hrel
        obtain rfl := hw.out
        by_cases hlt : k < s.size
        · have hd : (tl s).drop k = s[k] :: (tl s).drop (k + 1) := by
            have h := tl_get s hlt
            obtain ⟨h1, h2⟩ := List.getElem?_eq_some_iff.1 h
            rw [List.drop_eq_getElem_cons h1, h2]
          have hg2 := hg.out
          rw [hd, List.all_cons] at hg2
          clear hd
          obtain ⟨b, hb⟩ : ∃ b, Hid (pathB s[k].toNat = b) := ⟨_, Lib.hid rfl⟩
          rw [show okB s[k] = b from hb.out] at hg2
          cases b with
          | true =>
            have Hg2 : Hid (((tl s).drop (k + 1)).all okB = p) := Lib.hid (by rw [← hg2, Bool.true_and])
            clear hg2
            go_wp2_with (go_at_call 43; refine (inPath_any s[k].toNat _).mono ?_; rw [hb.out]; rintro e w2 ⟨rfl, rfl⟩)
            exact ⟨⟨k + 1, by go_num, by omega, hw, Hg2⟩, by simp [intOf]; omega⟩
          | false =>
            obtain rfl : false = p := by rw [← hg2, Bool.false_and]
            clear hg2
            go_wp2_with (go_at_call 43; refine (inPath_any s[k].toNat _).mono ?_; rw [hb.out]; rintro e w2 ⟨rfl, rfl⟩)
            go_ret
            exact ⟨rfl, rfl⟩
        · obtain rfl : k = s.size := by omega
          have hg2 := hg.out
          rw [← Hl.out, List.drop_length] at hg2
          obtain rfl : true = p := hg2
          go_wp2_with fail
          go_ret
          exact ⟨rfl, rfl⟩
end Go.Proofs.YtpnfjiglphogoadDoor
