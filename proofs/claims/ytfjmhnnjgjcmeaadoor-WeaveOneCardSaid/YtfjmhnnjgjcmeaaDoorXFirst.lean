/-
  For the laws of lex: the token that begins a text. Condition: the text has at least one byte and at most 2 to the 31; the library's own variables are as they are laid.
-/
import Derived.Test.YtfjmhnnjgjcmeaaDoorXSep
import Derived.Lib.SmallJoins
namespace Go.Proofs.YtfjmhnnjgjcmeaaDoor.X
open Go.RowKit Go.Shelf

def valF (n : Nat) (l : List UInt8) : Nat := l.foldl (fun n c => 10 * n + (c.toNat - 48)) n
theorem valF_ge (l : List UInt8) : ∀ n, n ≤ valF n l := by
  induction l with
  | nil => intro n; exact Nat.le_refl _
  | cons c l ih => intro n; have := ih (10 * n + (c.toNat - 48)); unfold valF at this ⊢; rw [List.foldl_cons]; omega
theorem dig_nat {c : UInt8} (h : dig c = true) : 48 ≤ c.toNat ∧ c.toNat ≤ 57 := by
  have := dig_true c h
  omega
theorem parseM (l : List UInt8) : ∀ (a : Nat), (∀ c ∈ l, dig c = true) → a ≤ 4294967295 →
    (valF a l ≤ 4294967295 → Lib.parseUintM 4294967295 a l = .ok (valF a l)) ∧ (4294967295 < valF a l → Lib.parseUintM 4294967295 a l = .range) := by
  induction l with
  | nil => intro a _ ha; exact ⟨fun _ => rfl, fun h => by simp [valF] at h; omega⟩
  | cons c l ih =>
    intro a hd ha
    have hc := dig_nat (hd c (by simp))
    have e : valF a (c :: l) = valF (a * 10 + (c.toNat - 48)) l := by simp [valF, Nat.mul_comm]
    rw [e, Lib.parseUintM, if_pos hc, if_neg (by omega)]
    by_cases hb : 4294967295 < a * 10 + (c.toNat - 48)
    · rw [if_pos hb]
      have := valF_ge l (a * 10 + (c.toNat - 48))
      exact ⟨fun h => by omega, fun _ => rfl⟩
    · rw [if_neg hb]
      exact ih _ (fun x hx => hd x (by simp [hx])) (by omega)
theorem parse_digits (l : List UInt8) (hne : l ≠ []) (hd : ∀ c ∈ l, dig c = true) :
    (valOf l ≤ 2147483647 → Lib.parseIntB 32 l = .ok (valOf l : Int)) ∧ (2147483647 < valOf l → Lib.parseIntB 32 l = .range) := by
  cases l with
  | nil => exact absurd rfl hne
  | cons c r =>
    have hc := dig_nat (hd c (by simp))
    have hv : valOf (c :: r) = valF 0 (c :: r) := rfl
    obtain ⟨p1, p2⟩ := parseM (c :: r) 0 hd (by omega)
    have hu : Lib.parseUintB 32 (c :: r) = Lib.parseUintM 4294967295 0 (c :: r) := by unfold Lib.parseUintB; rw [if_neg (by simp)]
    constructor
    · intro h
      unfold Lib.parseIntB
      simp only
      rw [if_neg (by omega), hu, p1 (by omega)]
      simp only
      rw [if_neg (by omega), if_neg (by omega), if_neg (by omega), ← hv]
    · intro h
      unfold Lib.parseIntB
      simp only
      rw [if_neg (by omega), hu]
      by_cases hb : 4294967295 < valF 0 (c :: r)
      · rw [p2 hb]
      · rw [p1 (by omega)]
        simp only
        rw [if_pos (by omega)]

theorem num_ok (d : ByteArray) (hs : d.size ≤ 9223372036854775806) (hne : tl d ≠ []) (hd : ∀ c ∈ tl d, dig c = true) (hv : valOf (tl d) ≤ 2147483647) (w : World) :
    Calls Tryd.prog 44 #[.string d, .int .i64 10, .int .i64 32] w fun e w' => e = .returned (.tuple #[.int .i64 (valOf (tl d) : Nat), .nilIface]) ∧ Below w.heap.size w w' := by
  refine (Tryd.strconv_ParseInt_10_at32_ok d hs _ ((parse_digits _ hne hd).1 hv) w).mono ?_
  rintro e w' ⟨rfl, hw⟩
  refine ⟨rfl, ?_⟩
  rcases hw with rfl | ⟨t, rfl⟩
  · exact Below.refl _ _
  · exact Joins.below_bytesWorld _ _ _ _ (Nat.le_refl _)
theorem num_range (d : ByteArray) (hs : d.size ≤ 281474976710656) (hne : tl d ≠ []) (hd : ∀ c ∈ tl d, dig c = true) (hv : 2147483647 < valOf (tl d)) (w : World) (hW : LexW w) :
    Calls Tryd.prog 44 #[.string d, .int .i64 10, .int .i64 32] w fun e w' => (∃ (N : Nat) (x : Int), e = .returned (.tuple #[.int .i64 x, .iface 116 (.pointer (some ⟨N, 0, none⟩))])) ∧ Below w.heap.size w w' := by
  obtain ⟨te, pe, h3⟩ := hW.rng
  refine (Tryd.strconv_ParseInt_10_at32_range d hs ((parse_digits _ hne hd).2 hv) _ w h3 (.inr ⟨_, _, rfl⟩)).mono ?_
  rintro e w' ⟨N, rfl, -, -, hb⟩
  exact ⟨⟨N, _, rfl⟩, hb⟩

theorem take_ext (s : ByteArray) (n : Nat) : tl (s.extract 0 n) = (tl s).take n := by
  show (s.extract 0 n).data.toList = _
  rw [Lib.extract_data]
  simp
def FirstGives (w : World) (l : List UInt8) (e : Ending) (w' : World) : Prop := e = .returned (.tuple #[.int .i64 (first l).1, .int .i64 ((first l).2.1 : Nat), .int .i64 (first l).2.2]) ∧ Below w.heap.size w w'

set_option maxRecDepth 100000 in
set_option maxHeartbeats 8000000 in
theorem first_any (s : ByteArray) (w : World) (hW : LexW w) (h0 : 0 < s.size) (hs : s.size ≤ 2000000000) : Calls Tryd.prog 33 #[.string s] w (FirstGives w (tl s)) := by
  have HW := Lib.hid hW; clear hW
  have hn1 := nameLen_le (tl s)
  have hn2 := numLen_le (tl s)
  have hn3 := markLen_le (tl s)
  rw [tl_length] at hn1 hn2 hn3
  have hmx : Hid (s.size ≤ maxLen) := Lib.hid (by unfold maxLen; omega)
  obtain ⟨F, hF⟩ : ∃ F, Hid (first (tl s) = F) := ⟨_, Lib.hid rfl⟩
  unfold FirstGives
  rw [hF.out]
  by_cases c1 : 0 < nameLen (tl s)
  · by_cases c2 : 20 < nameLen (tl s)
    · have hf : Hid (F = (0, 0, 2)) := Lib.hid (by rw [← hF.out, first, if_pos c1, if_pos c2])
      have d1 : decide (0 < nameLen (tl s)) = true := decide_eq_true c1
      have d2 : decide ((20 : Int) < (nameLen (tl s) : Int)) = true := by simp; omega
      go_enter Tryd.func33, Tryd.ntmps33
      go_wp2_with (go_at_call 41; refine (nameLength_any s _ hmx.out).mono ?_; rintro e w' ⟨rfl, rfl⟩)
      go_ret3
      exact ⟨by rw [hf.out]; rfl, Below.refl _ _⟩
    · have d1 : decide (0 < nameLen (tl s)) = true := decide_eq_true c1
      have d2 : decide ((20 : Int) < (nameLen (tl s) : Int)) = false := by simp; omega
      by_cases c3 : (tl s).take (nameLen (tl s)) ∈ keptL
      · have hf : Hid (F = (3, nameLen (tl s), 0)) := Lib.hid (by rw [← hF.out, first, if_pos c1, if_neg c2, if_pos c3])
        have hk : Hid (decide (tl (s.extract 0 (nameLen (tl s))) ∈ keptL) = true) := Lib.hid (by rw [take_ext]; exact decide_eq_true c3)
        clear c3
        go_enter Tryd.func33, Tryd.ntmps33
        go_wp2_with (first | (go_at_call 41; refine (nameLength_any s _ hmx.out).mono ?_; rintro e w' ⟨rfl, rfl⟩) | (go_at_call 42; refine (Kept_any _ _).mono ?_; rw [hk.out]; rintro e w' ⟨rfl, rfl⟩))
        go_ret3
        exact ⟨by rw [hf.out]; rfl, Below.refl _ _⟩
      · have hf : Hid (F = (1, nameLen (tl s), 0)) := Lib.hid (by rw [← hF.out, first, if_pos c1, if_neg c2, if_neg c3])
        have hk : Hid (decide (tl (s.extract 0 (nameLen (tl s))) ∈ keptL) = false) := Lib.hid (by rw [take_ext]; exact decide_eq_false c3)
        clear c3
        go_enter Tryd.func33, Tryd.ntmps33
        go_wp2_with (first | (go_at_call 41; refine (nameLength_any s _ hmx.out).mono ?_; rintro e w' ⟨rfl, rfl⟩) | (go_at_call 42; refine (Kept_any _ _).mono ?_; rw [hk.out]; rintro e w' ⟨rfl, rfl⟩))
        go_ret3
        exact ⟨by rw [hf.out]; rfl, Below.refl _ _⟩
  · have d1 : decide (0 < nameLen (tl s)) = false := decide_eq_false c1
    by_cases c2 : 0 < numLen (tl s)
    · have d2 : decide (0 < numLen (tl s)) = true := decide_eq_true c2
      have hds : Hid (tl (s.extract 0 (numLen (tl s))) = (tl s).take (numLen (tl s))) := Lib.hid (take_ext s _)
      have hdig : ∀ c ∈ (tl s).take (numLen (tl s)), dig c = true := by
        intro c hc
        have : (tl s).take (numLen (tl s)) = (tl s).takeWhile dig := by
          unfold numLen
          exact (List.prefix_iff_eq_take.1 (List.takeWhile_prefix dig)).symm
        rw [this] at hc
        exact List.all_takeWhile (p := dig) (l := tl s) |> fun h => (List.all_eq_true.1 h) c hc
      have hne : (tl s).take (numLen (tl s)) ≠ [] := by
        intro e
        have := congrArg List.length e
        rw [List.length_take, tl_length, List.length_nil] at this
        omega
      have hlen : ((tl s).take (numLen (tl s))).length = numLen (tl s) := by rw [List.length_take, tl_length]; omega
      have hhead : ((tl s).take (numLen (tl s))).head? = some s[0] := by
        rw [List.head?_take, if_neg (by omega), List.head?_eq_getElem?]
        exact tl_get s h0
      have hbad : Hid (badNum ((tl s).take (numLen (tl s))) = (decide (2147483647 < valOf ((tl s).take (numLen (tl s)))) || (decide (1 < numLen (tl s)) && s[0] == 48))) := by
        refine Lib.hid ?_
        unfold badNum
        rw [hlen, hhead]
        rfl
      have hsd : Hid ((s.extract 0 (numLen (tl s))).size ≤ 2000000000) := Lib.hid (by rw [ByteArray.size_extract]; omega)
      have hfst : Hid (first (tl s) = if badNum ((tl s).take (numLen (tl s))) = true then (0, 0, 31) else (2, numLen (tl s), 0)) := Lib.hid (by rw [first, if_neg c1, if_pos c2])
      have hb48 := byte_bd s[0]
      obtain ⟨z, hz⟩ : ∃ z : Bool, Hid ((s[0] == 48) = z) := ⟨_, Lib.hid rfl⟩
      have dz : ((s[0].toNat : Int) == 48) = z := by
        rw [← hz.out, Bool.eq_iff_iff, beq_iff_eq, beq_iff_eq, ← UInt8.toNat_inj]
        show _ ↔ s[0].toNat = 48
        omega
      rw [hz.out] at hbad
      rw [← hds.out] at hdig hne hbad
      have Hdig := Lib.hid hdig
      have Hne := Lib.hid hne
      clear hdig hne hlen hhead hz
      by_cases c3 : 2147483647 < valOf (tl (s.extract 0 (numLen (tl s))))
      · have hf : Hid (F = (0, 0, 31)) := Lib.hid (by rw [← hF.out, hfst.out, ← hds.out, hbad.out, decide_eq_true c3]; rfl)
        clear dz
        go_enter Tryd.func33, Tryd.ntmps33
        go_wp2_with (first | (go_at_call 41; refine (nameLength_any s _ hmx.out).mono ?_; rintro e w' ⟨rfl, rfl⟩) | (go_at_call 43; refine (numberLength_any s _ hmx.out).mono ?_; rintro e w' ⟨rfl, rfl⟩))
        refine (num_range _ (by have := hsd.out; omega) Hne.out Hdig.out c3 _ HW.out).mono ?_
        rintro e w1 ⟨⟨N, x, rfl⟩, b1⟩
        go_wp2_with fail
        go_ret3
        exact ⟨by rw [hf.out]; rfl, b1⟩
      · by_cases c4 : 1 < numLen (tl s) ∧ z = true
        · obtain ⟨c4, rfl⟩ := c4
          have hf : Hid (F = (0, 0, 31)) := Lib.hid (by rw [← hF.out, hfst.out, ← hds.out, hbad.out, decide_eq_false c3, decide_eq_true c4]; rfl)
          have d4 : decide ((1 : Int) < (numLen (tl s) : Int)) = true := by simp; omega
          go_enter Tryd.func33, Tryd.ntmps33
          go_wp2_with (first | (go_at_call 41; refine (nameLength_any s _ hmx.out).mono ?_; rintro e w' ⟨rfl, rfl⟩) | (go_at_call 43; refine (numberLength_any s _ hmx.out).mono ?_; rintro e w' ⟨rfl, rfl⟩))
          refine (num_ok _ (by have := hsd.out; omega) Hne.out Hdig.out (by omega) _).mono ?_
          rintro e w1 ⟨rfl, b1⟩
          go_wp2_with fail
          go_ret3
          exact ⟨by rw [hf.out]; rfl, b1⟩
        · have hf : Hid (F = (2, numLen (tl s), 0)) := Lib.hid (by
            rw [← hF.out, hfst.out, ← hds.out, hbad.out, decide_eq_false c3]
            have : (decide (1 < numLen (tl s)) && z) = false := by
              cases z with
              | true => rw [decide_eq_false (fun h => c4 ⟨h, rfl⟩)]; rfl
              | false => simp
            rw [this]
            rfl)
          have hc5 : (decide ((1 : Int) < (numLen (tl s) : Int)) = false) ∨ (decide ((1 : Int) < (numLen (tl s) : Int)) = true ∧ z = false) := by
            by_cases h : 1 < numLen (tl s)
            · right
              refine ⟨by simp; omega, ?_⟩
              cases z with
              | true => exact absurd ⟨h, rfl⟩ c4
              | false => rfl
            · left; simp; omega
          clear c4
          rcases hc5 with d4 | ⟨d4, rfl⟩
          all_goals
            go_enter Tryd.func33, Tryd.ntmps33
            go_wp2_with (first | (go_at_call 41; refine (nameLength_any s _ hmx.out).mono ?_; rintro e w' ⟨rfl, rfl⟩) | (go_at_call 43; refine (numberLength_any s _ hmx.out).mono ?_; rintro e w' ⟨rfl, rfl⟩))
            refine (num_ok _ (by have := hsd.out; omega) Hne.out Hdig.out (by omega) _).mono ?_
            rintro e w1 ⟨rfl, b1⟩
            go_wp2_with fail
            go_ret3
            exact ⟨by rw [hf.out]; rfl, b1⟩
    · have d2 : decide (0 < numLen (tl s)) = false := decide_eq_false c2
      by_cases c3 : 0 < markLen (tl s)
      · have hf : Hid (F = (4, markLen (tl s), 0)) := Lib.hid (by rw [← hF.out, first, if_neg c1, if_neg c2, if_pos c3])
        have d3 : decide (0 < markLen (tl s)) = true := decide_eq_true c3
        go_enter Tryd.func33, Tryd.ntmps33
        go_wp2_with (first | (go_at_call 41; refine (nameLength_any s _ hmx.out).mono ?_; rintro e w' ⟨rfl, rfl⟩) | (go_at_call 43; refine (numberLength_any s _ hmx.out).mono ?_; rintro e w' ⟨rfl, rfl⟩) | (go_at_call 45; refine (markLength_any s _ hmx.out).mono ?_; rintro e w' ⟨rfl, rfl⟩))
        go_ret3
        exact ⟨by rw [hf.out]; rfl, Below.refl _ _⟩
      · have hf : Hid (F = (0, 0, 30)) := Lib.hid (by rw [← hF.out, first, if_neg c1, if_neg c2, if_neg c3])
        have d3 : decide (0 < markLen (tl s)) = false := decide_eq_false c3
        go_enter Tryd.func33, Tryd.ntmps33
        go_wp2_with (first | (go_at_call 41; refine (nameLength_any s _ hmx.out).mono ?_; rintro e w' ⟨rfl, rfl⟩) | (go_at_call 43; refine (numberLength_any s _ hmx.out).mono ?_; rintro e w' ⟨rfl, rfl⟩) | (go_at_call 45; refine (markLength_any s _ hmx.out).mono ?_; rintro e w' ⟨rfl, rfl⟩))
        go_ret3
        exact ⟨by rw [hf.out]; rfl, Below.refl _ _⟩
end Go.Proofs.YtfjmhnnjgjcmeaaDoor.X
