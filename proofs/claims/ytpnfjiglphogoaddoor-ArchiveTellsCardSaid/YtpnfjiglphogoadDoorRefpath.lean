/-
  For the laws of tree: whether a path may be by the reference; Check by the program and by the reference. Condition: at most 1,048,576 bytes of texts.
-/
import Derived.Test.YtpnfjiglphogoadDoorPathok
namespace Go.Proofs.YtpnfjiglphogoadDoor
open Go.RowKit Go.Shelf

theorem pre_head {l : List UInt8} {c : UInt8} (h : l[0]? = some c) : Lib.hasPrefix l [47] = (c == 47) := by
  cases l with
  | nil => simp at h
  | cons x l =>
    obtain rfl : x = c := by simpa using h
    unfold Lib.hasPrefix
    show ((47 == x) && List.isPrefixOf [] l) = (x == 47)
    rw [List.isPrefixOf_nil_left, Bool.and_true, Bool.eq_iff_iff, beq_iff_eq, beq_iff_eq]
    exact ⟨fun e => e.symm, fun e => e.symm⟩
theorem suf_last {l : List UInt8} {c : UInt8} (h : l[l.length - 1]? = some c) : Lib.hasSuffix l [47] = (c == 47) := by
  unfold Lib.hasSuffix List.isSuffixOf
  have h2 : l.reverse[0]? = some c := by
    have hl : 0 < l.length := by
      have := (List.getElem?_eq_some_iff.1 h).1; omega
    rw [List.getElem?_reverse (by omega), ← h]
    congr 1
  exact pre_head h2
theorem u8_eq47 (c : UInt8) : ((c.toNat : Int) == 47) = (c == 47) := by
  rw [Bool.eq_iff_iff, beq_iff_eq, beq_iff_eq]
  constructor
  · intro h
    exact UInt8.toNat_inj.1 (by have : (47 : UInt8).toNat = 47 := rfl; omega)
  · rintro rfl; rfl
theorem pathOk_not_head {s : List UInt8} {c : UInt8} (h : s[0]? = some c) (hc : (c == 47) = true) : pathOk s = false := by
  unfold pathOk
  rw [pre_head h, hc]
  simp
theorem pathOk_not_last {s : List UInt8} {c : UInt8} (h : s[s.length - 1]? = some c) (hc : (c == 47) = true) : pathOk s = false := by
  unfold pathOk
  rw [suf_last h, hc]
  simp
theorem pathOk_all {s : List UInt8} {c d : UInt8} (h : s[0]? = some c) (hd : s[s.length - 1]? = some d) (hc : (c == 47) = false) (hdd : (d == 47) = false) (hl : s.length ≤ 24) : pathOk s = s.all okB := by
  unfold pathOk
  rw [pre_head h, suf_last hd, hc, hdd, decide_eq_true hl]
  have : (s == []) = false := by cases s with | nil => simp at h | cons x l => rfl
  rw [this]
  simp
set_option maxRecDepth 100000 in
set_option maxHeartbeats 8000000 in
theorem RefPath_any (s : ByteArray) (w : World) (hs : s.size ≤ maxLen) : Calls Tryd.prog 17 #[.string s] w fun e w' => e = .returned (.bool (pathOk (tl s))) ∧ w' = w := by
  unfold maxLen at hs
  have hl : (tl s).length = s.size := tl_length s
  obtain ⟨p, hp⟩ : ∃ p, Hid (pathOk (tl s) = p) := ⟨_, Lib.hid rfl⟩
  rw [hp.out]
  by_cases h0 : s.size = 0
  · have f0 : decide ((s.size : Int) < 1) = true := decide_eq_true (by omega)
    have e0 : tl s = [] := List.eq_nil_of_length_eq_zero (by omega)
    obtain rfl : false = p := by rw [← hp.out, e0]; rfl
    clear hp e0 hl h0
    go_enter Tryd.func17, Tryd.ntmps17
    go_wp2_with fail
    go_ret
    exact ⟨rfl, rfl⟩
  have f0 : decide ((s.size : Int) < 1) = false := decide_eq_false (by omega)
  rcases Nat.lt_or_ge 24 s.size with h1 | h1
  · have f1 : decide ((s.size : Int) > 24) = true := decide_eq_true (by omega)
    obtain rfl : false = p := by rw [← hp.out, pathOk, decide_eq_false (by omega)]; simp
    clear hp hl h1
    go_enter Tryd.func17, Tryd.ntmps17
    go_wp2_with fail
    go_ret
    exact ⟨rfl, rfl⟩
  have f1 : decide ((s.size : Int) > 24) = false := decide_eq_false (by omega)
  have g0 : 0 < s.size := by omega
  have g1 : s.size - 1 < s.size := by omega
  have k0 : (tl s)[0]? = some s[0] := tl_get s g0
  have k1 : (tl s)[(tl s).length - 1]? = some s[s.size - 1] := by rw [hl]; exact tl_get s g1
  have t0 := u8_eq47 s[0]
  have t1 := u8_eq47 s[s.size - 1]
  have p0 : wrap64 ((s.size : Int) - 1) = ((s.size - 1 : Nat) : Int) := by rw [Go.IntWalk.wrap64_in _ (by omega)]; omega
  have Hl := Lib.hid hl
  clear hl h0
  cases hb0 : (s[0] == 47) with
  | true =>
    rw [hb0] at t0
    obtain rfl : false = p := by rw [← hp.out, pathOk_not_head k0 hb0]
    clear hp hb0 k0 k1 t1
    go_enter Tryd.func17, Tryd.ntmps17
    go_wp2_with fail
    go_ret
    exact ⟨rfl, rfl⟩
  | false =>
    rw [hb0] at t0
    cases hb1 : (s[s.size - 1] == 47) with
    | true =>
      rw [hb1] at t1
      obtain rfl : false = p := by rw [← hp.out, pathOk_not_last k1 hb1]
      clear hp hb0 hb1 k0 k1
      go_enter Tryd.func17, Tryd.ntmps17
      go_wp2_with fail
      go_ret
      exact ⟨rfl, rfl⟩
    | false =>
      rw [hb1] at t1
      have hp2 := hp.out
      rw [pathOk_all k0 k1 hb0 hb1 (by rw [Hl.out]; exact h1)] at hp2
      have Hp2 := Lib.hid hp2
      clear hp hp2 hb0 hb1 k0 k1
      go_enter Tryd.func17, Tryd.ntmps17
      go_wp2_with fail
      go_loopw [3, 4] (fun c _ wr => ∃ k : Nat, c = .int .i64 k ∧ k ≤ s.size ∧ Hid (wr = w) ∧ Hid (((tl s).drop k).all okB = p)) (fun c _ _ => s.size - (intOf c).toNat)
      case atStart => exact ⟨0, rfl, by omega, Lib.hid rfl, Hp2⟩
      case round =>
        obtain ⟨k, rfl, hk, hw, hg⟩ := hrel
        obtain rfl := hw.out
        by_cases hlt : k < s.size
        · have hd : (tl s).drop k = s[k] :: (tl s).drop (k + 1) := by
            have h := tl_get s hlt
            obtain ⟨h1, h2⟩ := List.getElem?_eq_some_iff.1 h
            rw [List.drop_eq_getElem_cons h1, h2]
          have hg2 := hg.out
          rw [hd, List.all_cons] at hg2
          clear hd t0 t1 p0 f0 f1 h1 Hp2
          have hok : okB s[k] = pathB s[k].toNat := rfl
          rw [hok] at hg2
          clear hok
          rcases (by omega : s[k].toNat < 46 ∨ s[k].toNat = 46 ∨ s[k].toNat = 47 ∨ (48 ≤ s[k].toNat ∧ s[k].toNat ≤ 57) ∨ (57 < s[k].toNat ∧ s[k].toNat < 65) ∨ (65 ≤ s[k].toNat ∧ s[k].toNat ≤ 90) ∨ (90 < s[k].toNat ∧ s[k].toNat < 95) ∨ s[k].toNat = 95 ∨ s[k].toNat = 96 ∨ (97 ≤ s[k].toNat ∧ s[k].toNat ≤ 122) ∨ 122 < s[k].toNat) with h | h | h | h | h | h | h | h | h | h | h
          all_goals
            first | have f3 : decide ((s[k].toNat : Int) < 97) = true := decide_eq_true (by omega) | have f3 : decide ((s[k].toNat : Int) < 97) = false := decide_eq_false (by omega)
            first | have f4 : decide ((s[k].toNat : Int) > 122) = true := decide_eq_true (by omega) | have f4 : decide ((s[k].toNat : Int) > 122) = false := decide_eq_false (by omega)
            first | have f5 : decide ((s[k].toNat : Int) < 65) = true := decide_eq_true (by omega) | have f5 : decide ((s[k].toNat : Int) < 65) = false := decide_eq_false (by omega)
            first | have f6 : decide ((s[k].toNat : Int) > 90) = true := decide_eq_true (by omega) | have f6 : decide ((s[k].toNat : Int) > 90) = false := decide_eq_false (by omega)
            first | have f7 : decide ((s[k].toNat : Int) < 48) = true := decide_eq_true (by omega) | have f7 : decide ((s[k].toNat : Int) < 48) = false := decide_eq_false (by omega)
            first | have f8 : decide ((s[k].toNat : Int) > 57) = true := decide_eq_true (by omega) | have f8 : decide ((s[k].toNat : Int) > 57) = false := decide_eq_false (by omega)
            first | have e0 : ((s[k].toNat : Int) != 46) = true := bne_iff_ne.2 (by omega) | have e0 : ((s[k].toNat : Int) != 46) = false := bne_eq_false_iff_eq.2 (by omega)
            first | have e1 : ((s[k].toNat : Int) != 95) = true := bne_iff_ne.2 (by omega) | have e1 : ((s[k].toNat : Int) != 95) = false := bne_eq_false_iff_eq.2 (by omega)
            first | have e2 : ((s[k].toNat : Int) != 47) = true := bne_iff_ne.2 (by omega) | have e2 : ((s[k].toNat : Int) != 47) = false := bne_eq_false_iff_eq.2 (by omega)
            first | (have fp : pathB s[k].toNat = true := by (simp [pathB]; omega)) | (have fp : pathB s[k].toNat = false := by (simp [pathB]; omega))
            rw [fp] at hg2
            clear fp h
            first
            | (have Hg2 : Hid (((tl s).drop (k + 1)).all okB = p) := Lib.hid ((Bool.true_and _).symm.trans hg2)
               clear hg2
               go_wp2_with fail
               exact ⟨⟨k + 1, by go_num, by omega, Lib.hid trivial, Hg2⟩, by simp [intOf]; omega⟩)
            | (obtain rfl : false = p := (Bool.false_and _).symm.trans hg2
               clear hg2
               go_wp2_with fail
               go_ret
               exact ⟨rfl, rfl⟩)
        · obtain rfl : k = s.size := by omega
          have hg2 := hg.out
          rw [← Hl.out, List.drop_length] at hg2
          obtain rfl : true = p := hg2
          go_wp2_with fail
          go_ret
          exact ⟨rfl, rfl⟩
end Go.Proofs.YtpnfjiglphogoadDoor
