/-
  For the laws of arith: what a number's text and a text's number are, of the program and of the document. Conditions: the texts are short; the table of the powers of ten holds them.
-/
import Derived.Test.YtpaknaaainhgfaaDoorRef
import Derived.Test.YtpaknaaainhgfaaDoorNums
import Derived.Lib.SlBytesRow
namespace Go.Proofs.YtpaknaaainhgfaaDoor
open Go.RowKit Go.Maps Go.WideMaps

theorem conv_digit (m : Nat) (W : World) : (convert 97 9 (.slice (some ⟨W.heap.size, 0, none⟩) 1 1)).run Tryd.prog (W.alloc (.cells #[.int .u8 (48 + (m : Int) % 10)] 5)) = .ok (.string ⟨#[UInt8.ofNat (48 + m % 10)]⟩) (W.alloc (.cells #[.int .u8 (48 + (m : Int) % 10)] 5)) := by
  have h := run_convert_bytes_arg (P := Tryd.prog) (W.alloc (.cells #[.int .u8 (48 + (m : Int) % 10)] 5)) 97 5 Tryd.underlying97 Tryd.underlying5 W.heap.size 0 1 1 [48 + (m : Int) % 10] rfl (fun i hi => by
    obtain rfl : i = 0 := by omega
    simp) 9 Tryd.underlying9
  rw [h]
  have e : (48 + (m : Int) % 10).toNat = 48 + m % 10 := by omega
  unfold strOfNums
  rw [List.map_cons, e]
  rfl
  /-  show [UInt8.ofNat (48 + (m : Int) % 10).toNat] -/

theorem nDigits_le : ∀ (k u : Nat), u < 10 ^ (k + 1) → Lib.nDigits u ≤ k + 1
  | 0, u, h => by rw [Lib.nDigits_small (by simpa using h)]; omega
  | k + 1, u, h => by
    by_cases h1 : u < 10
    · rw [Lib.nDigits_small h1]; omega
    · rw [Lib.nDigits_big h1]
      have := nDigits_le k (u / 10) (by rw [Nat.pow_succ] at h; omega)
      omega
theorem digit_ahead (k : Nat) (t : List UInt8) : ((⟨#[48 + UInt8.ofNat k]⟩ : ByteArray) ++ (⟨t.toArray⟩ : ByteArray)) = ⟨(UInt8.ofNat (48 + k) :: t).toArray⟩ := by
  apply ByteArray.ext
  apply Array.toList_inj.1
  simp

set_option maxRecDepth 100000 in
set_option maxHeartbeats 2000000 in
theorem digits_any (n : Nat) (hn : n ≤ 2147483648) (w : World) : Calls Tryd.prog 43 #[.int .i64 n] w fun e w' => e = .returned (.string ⟨(Lib.decDigits n).toArray⟩) ∧ Below w.heap.size w w' := by
  have kc := conv_digit
  have h10 : Lib.nDigits n ≤ 10 := nDigits_le 9 n (by omega)
  go_enter Tryd.func43, Tryd.ntmps43
  go_wp2
  go_loopw [0, 3] (fun a s wr => ∃ (m : Nat) (t : List UInt8), m ≤ n ∧ a = .int .i64 m ∧ s = .string ⟨t.toArray⟩ ∧ t.length + Lib.nDigits m = Lib.nDigits n ∧ Lib.decDigits n = Lib.decDigits m ++ t ∧ Below w.heap.size w wr)
    (fun a _ _ => (intOf a).toNat)
  case atStart => exact ⟨n, [], Nat.le_refl _, rfl, rfl, by simp, by simp, Below.refl _ _⟩
  case round =>
    obtain ⟨m, t, hm, rfl, rfl, hl, he, hB⟩ := hrel
    have hp := Lib.nDigits_pos m
    have hlen : ¬ 9223372036854775807 < 1 + t.length := by omega
    by_cases h : m < 10
    · have ht : ((m : Int) / 10 == 0) = true := by rw [beq_iff_eq]; omega
      have hd : Lib.decDigits n = UInt8.ofNat (48 + m % 10) :: t := by rw [he, Lib.decDigits_one h, Nat.mod_eq_of_lt h]; rfl
      have Hd := Lib.hid hd; clear hd
      have He := Lib.hid he; clear he
      have Hl := Lib.hid hl; clear hl
      go_wp2
      go_ret
      rw [digit_ahead, Hd.out]
      exact ⟨rfl, hB.alloc hB.size _⟩
    · have ht : ((m : Int) / 10 == 0) = false := by rw [beq_eq_false_iff_ne]; omega
      have hd : Lib.decDigits n = Lib.decDigits (m / 10) ++ UInt8.ofNat (48 + m % 10) :: t := by rw [he, Lib.decDigits, dif_neg h]; simp
      have hk : t.length + 1 + Lib.nDigits (m / 10) = Lib.nDigits n := by rw [← hl, Lib.nDigits_big h]; omega
      have Hd := Lib.hid hd; clear hd
      have Hk := Lib.hid hk; clear hk
      have He := Lib.hid he; clear he
      have Hl := Lib.hid hl; clear hl
      go_wp2
      rw [digit_ahead]
      exact ⟨⟨m / 10, UInt8.ofNat (48 + m % 10) :: t, by omega, by simp, rfl, by simpa using Hk.out, Hd.out, hB.alloc hB.size _⟩, by simp [intOf]; omega⟩

theorem itoa_of (a : Int) : Lib.itoa a = if a < 0 then 45 :: Lib.decDigits (-a).toNat else Lib.decDigits a.toNat := by
  unfold Lib.itoa
  split
  · rw [show a.natAbs = (-a).toNat by omega]
  · rfl
theorem minus_ahead (t : List UInt8) : ((⟨#[45]⟩ : ByteArray) ++ (⟨t.toArray⟩ : ByteArray)) = ⟨(45 :: t).toArray⟩ := by
  apply ByteArray.ext
  apply Array.toList_inj.1
  simp

set_option maxRecDepth 100000 in
set_option maxHeartbeats 2000000 in
theorem RefShow_any (a : Int) (w : World) : Calls Tryd.prog 23 #[.int .i64 a] w fun e w' => e = .returned (.string ⟨(Lib.itoa (wrap32 a)).toArray⟩) ∧ Below w.heap.size w w' := by
  have hr := w32_range a
  have hi := itoa_of (wrap32 a)
  obtain ⟨v, hv⟩ : ∃ v, Hid (wrap32 a = v) := ⟨_, rfl⟩
  rw [hv.out] at hr hi ⊢
  by_cases h : v < 0
  · rw [if_pos h] at hi
    obtain ⟨n, hn⟩ := Int.eq_ofNat_of_zero_le (show 0 ≤ -v by omega)
    rw [hn, Int.toNat_natCast] at hi
    have h10 : Lib.nDigits n ≤ 10 := nDigits_le 9 n (by omega)
    have hl := Lib.decDigits_length n
    have hlen : ¬ 9223372036854775807 < 1 + (Lib.decDigits n).length := by omega
    have Hi := Lib.hid hi; clear hi hl
    have Hn := Lib.hid hn; clear hn
    obtain rfl : v = -(n : Int) := by have := Hn.out; omega
    go_enter Tryd.func23, Tryd.ntmps23
    go_wp2_with fail
    refine (RefWrap_v a _ hv.out _).mono ?_
    rintro e w1 ⟨rfl, rfl⟩
    go_wp2_with fail
    refine (digits_any n (by omega) _).mono ?_
    rintro e w1 ⟨rfl, hb⟩
    go_wp2
    go_ret
    rw [minus_ahead, Hi.out]
    exact ⟨rfl, hb⟩
  · rw [if_neg h] at hi
    obtain ⟨n, rfl⟩ := Int.eq_ofNat_of_zero_le (show 0 ≤ v by omega)
    rw [Int.toNat_natCast] at hi
    have Hi := Lib.hid hi; clear hi
    go_enter Tryd.func23, Tryd.ntmps23
    go_wp2_with fail
    refine (RefWrap_v a _ hv.out _).mono ?_
    rintro e w1 ⟨rfl, rfl⟩
    go_wp2_with fail
    refine (digits_any n (by omega) _).mono ?_
    rintro e w1 ⟨rfl, hb⟩
    go_wp2
    go_ret
    rw [Hi.out]
    exact ⟨rfl, hb⟩


/-- The text spells no int32. -/
def NoNum (s : ByteArray) : Prop := ∀ v : Int, -2147483648 ≤ v → v ≤ 2147483647 → Lib.itoa v ≠ s.data.toList
theorem show_ne {s : ByteArray} (h : NoNum s) (v : Int) (h1 : -2147483648 ≤ v) (h2 : v ≤ 2147483647) : (Lib.itoa (wrap32 v) == s.toList) = false := by
  rw [beq_eq_false_iff_ne, Lib.toList_data, show wrap32 v = v by unfold wrap32; omega]
  exact h v h1 h2
theorem w32_id {v : Int} (h1 : -2147483648 ≤ v) (h2 : v ≤ 2147483647) : wrap32 v = v := by unfold wrap32; omega

set_option maxRecDepth 100000 in
set_option maxHeartbeats 2000000 in
/-- The document's Read of the empty text. -/
theorem RefRead_empty (s : ByteArray) (h0 : s.size = 0) (w : World) : Calls Tryd.prog 21 #[.string s] w fun e w' => e = .returned (.tuple #[.int .i64 0, .bool false]) ∧ Below w.heap.size w w' := by
  have hc : (Lib.itoa (wrap32 0) == s.toList) = false := by
    rw [Lib.toList_data]
    have : s.data.toList = [] := by
      apply List.eq_nil_of_length_eq_zero
      simpa using h0
    rw [this]
    decide +kernel
  go_enter Tryd.func21, Tryd.ntmps21
  go_wp2
  go_loop [6, 7] (fun n i => i = .int .i64 0 ∧ n = .int .i64 0)
    (fun _ i => s.size - (intOf i).toNat)
  case atStart => exact ⟨rfl, rfl⟩
  case round =>
    obtain ⟨rfl, rfl⟩ := hrel
    go_wp2_with fail
    refine (RefShow_any 0 _).mono ?_
    rintro e w1 ⟨rfl, hb⟩
    go_wp2
    go_ret2
    exact ⟨rfl, hb⟩

set_option maxRecDepth 100000 in
set_option maxHeartbeats 4000000 in
/-- The document's Read, of a text that spells no int32. -/
theorem RefRead_none_plain (s : ByteArray) (hs : s.size ≤ 50) (h0 : 0 < s.size) (h45 : ((s[0].toNat : Int) == 45) = false) (hno : NoNum s) (w : World) : Calls Tryd.prog 21 #[.string s] w fun e w' => e = .returned (.tuple #[.int .i64 0, .bool false]) ∧ Below w.heap.size w w' := by
  go_enter Tryd.func21, Tryd.ntmps21
  go_wp2
  go_loop [6, 7] (fun n i => ∃ (k : Nat) (v : Int), k ≤ s.size ∧ i = .int .i64 k ∧ n = .int .i64 v)
    (fun _ i => s.size - (intOf i).toNat)
  case atStart => exact ⟨0, 0, by omega, rfl, rfl⟩
  case round =>
    obtain ⟨k, v, hk, rfl, rfl⟩ := hrel
    by_cases hlt : k < s.size
    · by_cases hd : (48 ≤ (s[k].toNat : Int) ∧ (s[k].toNat : Int) ≤ 57) ∧ (s.size : Int) ≤ 11
      · obtain ⟨⟨d1, d2⟩, d3⟩ := hd
        go_wp2
        exact ⟨⟨k + 1, _, by omega, by go_num, rfl⟩, by simp [intOf]; omega⟩
      · go_wp2
        all_goals first
          | (exfalso; omega)
          | (go_ret2; exact ⟨rfl, Below.refl _ _⟩)
    · obtain rfl : k = s.size := by omega
      by_cases hr : -2147483648 ≤ v ∧ v ≤ 2147483647
      · have hc := show_ne hno (v) hr.1 hr.2
        obtain ⟨r1, r2⟩ := hr
        go_wp2_with fail
        refine (RefShow_any (v) _).mono ?_
        rintro e w1 ⟨rfl, hb⟩
        go_wp2
        go_ret2
        exact ⟨rfl, hb⟩
      · have hc := hno
        go_wp2
        all_goals first
          | (exfalso; omega)
          | (go_ret2; exact ⟨rfl, Below.refl _ _⟩)

set_option maxRecDepth 100000 in
set_option maxHeartbeats 4000000 in
/-- The document's Read, of a text that spells no int32. -/
theorem RefRead_none_minus (s : ByteArray) (hs : s.size ≤ 50) (h0 : 0 < s.size) (h45 : ((s[0].toNat : Int) == 45) = true) (hno : NoNum s) (w : World) : Calls Tryd.prog 21 #[.string s] w fun e w' => e = .returned (.tuple #[.int .i64 0, .bool false]) ∧ Below w.heap.size w w' := by
  go_enter Tryd.func21, Tryd.ntmps21
  go_wp2
  go_loop [6, 7] (fun n i => ∃ (k : Nat) (v : Int), k ≤ s.size ∧ i = .int .i64 k ∧ n = .int .i64 v)
    (fun _ i => s.size - (intOf i).toNat)
  case atStart => exact ⟨1, 0, by omega, rfl, rfl⟩
  case round =>
    obtain ⟨k, v, hk, rfl, rfl⟩ := hrel
    by_cases hlt : k < s.size
    · by_cases hd : (48 ≤ (s[k].toNat : Int) ∧ (s[k].toNat : Int) ≤ 57) ∧ (s.size : Int) ≤ 11
      · obtain ⟨⟨d1, d2⟩, d3⟩ := hd
        go_wp2
        exact ⟨⟨k + 1, _, by omega, by go_num, rfl⟩, by simp [intOf]; omega⟩
      · go_wp2
        all_goals first
          | (exfalso; omega)
          | (go_ret2; exact ⟨rfl, Below.refl _ _⟩)
    · obtain rfl : k = s.size := by omega
      by_cases hr : -2147483648 ≤ wrap64 (-v) ∧ wrap64 (-v) ≤ 2147483647
      · have hc := show_ne hno (wrap64 (-v)) hr.1 hr.2
        obtain ⟨r1, r2⟩ := hr
        go_wp2_with fail
        refine (RefShow_any (wrap64 (-v)) _).mono ?_
        rintro e w1 ⟨rfl, hb⟩
        go_wp2
        go_ret2
        exact ⟨rfl, hb⟩
      · have hc := hno
        go_wp2
        all_goals first
          | (exfalso; omega)
          | (go_ret2; exact ⟨rfl, Below.refl _ _⟩)

/-- One digit more. -/
theorem val_more {l : List UInt8} {j : Nat} {c : UInt8} (h : l[j]? = some c) : val (l.take (j + 1)) = val (l.take j) * 10 + (c.toNat - 48) := by
  rw [List.take_add_one, h]
  exact val_snoc _ _
theorem val_small {l : List UInt8} (hd : ∀ c ∈ l, Dig c) (hl : l.length ≤ 10) (j : Nat) : val (l.take j) < 10000000000 := by
  have h1 := val_lt (l.take j) (fun c hc => hd c (List.mem_of_mem_take hc))
  have h2 : (l.take j).length ≤ 10 := by rw [List.length_take]; omega
  have h3 : 10 ^ (l.take j).length ≤ 10 ^ 10 := Nat.pow_le_pow_right (by decide) h2
  omega
theorem dig_step {l : List UInt8} (hd : ∀ c ∈ l, Dig c) (hl : l.length ≤ 10) {j : Nat} {c : UInt8} (h : l[j]? = some c) :
    wrap64 (wrap64 (10 * (val (l.take j) : Int)) + ((c.toNat : Int) - 48)) = (val (l.take (j + 1)) : Int) ∧ 48 ≤ (c.toNat : Int) ∧ (c.toNat : Int) ≤ 57 := by
  have h1 := val_small hd hl j
  have h2 := hd c (List.mem_of_getElem? h)
  unfold Dig at h2
  rw [val_more h]
  unfold wrap64
  omega
theorem get_data {s : ByteArray} {k : Nat} (hk : k < s.size) : s.data.toList[k]? = some s[k] := by
  rw [List.getElem?_eq_getElem (by simpa using hk)]
  rfl

set_option maxRecDepth 100000 in
set_option maxHeartbeats 4000000 in
/-- The document's Read, of a text that spells an int32. -/
theorem RefRead_num_plain (s : ByteArray) (n : Nat) (hn : n ≤ 2147483647) (hs : s.data.toList = Lib.decDigits n) (hi : Lib.itoa ((n : Int)) = s.data.toList) (w : World) : Calls Tryd.prog 21 #[.string s] w fun e w' => e = .returned (.tuple #[.int .i64 ((n : Int)), .bool true]) ∧ Below w.heap.size w w' := by
  have hsz : s.size = (Lib.decDigits n).length + 0 := by
    have := congrArg List.length hs
    simpa using this
  have hl10 : (Lib.decDigits n).length ≤ 10 := by rw [Lib.decDigits_length]; exact nDigits_le 9 n (by omega)
  have hdg := dec_dig n
  have hval : val ((Lib.decDigits n).take (s.size - 0)) = n := by rw [show s.size - 0 = (Lib.decDigits n).length by omega, List.take_length]; exact dec_val n
  have hpos : 0 < (Lib.decDigits n).length := by rw [Lib.decDigits_length]; exact Lib.nDigits_pos n
  have h0 : 0 < s.size := by omega
  have hget : ∀ k (hk : k < s.size), 0 ≤ k → (Lib.decDigits n)[k - 0]? = some s[k] := by
    intro k hk h1
    have := get_data hk
    rw [hs] at this
    rw [← this]; rfl
  have h45 : ((s[0].toNat : Int) == 45) = false := by
    have h1 := get_data h0
    rw [hs] at h1
    have h2 := hget 0 h0 (Nat.le_refl _); have h3 := hdg _ (List.mem_of_getElem? h2); unfold Dig at h3; rw [beq_eq_false_iff_ne]; omega
  have hc : (Lib.itoa (wrap32 ((n : Int))) == s.toList) = true := by
    rw [beq_iff_eq, Lib.toList_data, w32_id (by omega) (by omega)]
    exact hi
  have Hc := Lib.hid hc; clear hc
  have Hs := Lib.hid hs; clear hs
  have Hi := Lib.hid hi; clear hi
  have Hv := Lib.hid hval; clear hval
  go_enter Tryd.func21, Tryd.ntmps21
  go_wp2
  go_loop [6, 7] (fun m i => ∃ (k : Nat), 0 ≤ k ∧ k ≤ s.size ∧ i = .int .i64 k ∧ m = .int .i64 (val ((Lib.decDigits n).take (k - 0)) : Nat))
    (fun _ i => s.size - (intOf i).toNat)
  case atStart => exact ⟨0, Nat.le_refl _, by omega, rfl, rfl⟩
  case round =>
    obtain ⟨k, hk1, hk, rfl, rfl⟩ := hrel
    by_cases hlt : k < s.size
    · obtain ⟨st, d1, d2⟩ := dig_step hdg hl10 (hget k hlt hk1)
      have d3 : (s.size : Int) ≤ 11 := by omega
      have St := Lib.hid st; clear st
      go_wp2
      refine ⟨⟨k + 1, by omega, by omega, by go_num, ?_⟩, by simp [intOf]; omega⟩
      rw [show k + 1 - 0 = k - 0 + 1 by omega, ← St.out]; rfl
    · obtain rfl : k = s.size := by omega
      rw [Hv.out]
      have e1 : wrap64 (-(n : Int)) = -(n : Int) := by unfold wrap64; omega
      have E1 := Lib.hid e1; clear e1
      have hc := Hc.out
      go_wp2_with fail
      refine (RefShow_any ((n : Int)) _).mono ?_
      rintro e w1 ⟨rfl, hb⟩
      go_wp2
      go_ret2
      exact ⟨rfl, hb⟩

set_option maxRecDepth 100000 in
set_option maxHeartbeats 4000000 in
/-- The document's Read, of a text that spells an int32. -/
theorem RefRead_num_minus (s : ByteArray) (n : Nat) (hn : n ≤ 2147483648) (hs : s.data.toList = 45 :: Lib.decDigits n) (hi : Lib.itoa (-(n : Int)) = s.data.toList) (w : World) : Calls Tryd.prog 21 #[.string s] w fun e w' => e = .returned (.tuple #[.int .i64 (-(n : Int)), .bool true]) ∧ Below w.heap.size w w' := by
  have hsz : s.size = (Lib.decDigits n).length + 1 := by
    have := congrArg List.length hs
    simpa using this
  have hl10 : (Lib.decDigits n).length ≤ 10 := by rw [Lib.decDigits_length]; exact nDigits_le 9 n (by omega)
  have hdg := dec_dig n
  have hval : val ((Lib.decDigits n).take (s.size - 1)) = n := by rw [show s.size - 1 = (Lib.decDigits n).length by omega, List.take_length]; exact dec_val n
  have hpos : 0 < (Lib.decDigits n).length := by rw [Lib.decDigits_length]; exact Lib.nDigits_pos n
  have h0 : 0 < s.size := by omega
  have hget : ∀ k (hk : k < s.size), 1 ≤ k → (Lib.decDigits n)[k - 1]? = some s[k] := by
    intro k hk h1
    have := get_data hk
    rw [hs] at this
    rw [← this]; obtain ⟨m, rfl⟩ : ∃ m, k = m + 1 := ⟨k - 1, by omega⟩; rfl
  have h45 : ((s[0].toNat : Int) == 45) = true := by
    have h1 := get_data h0
    rw [hs] at h1
    have h2 : s[0] = 45 := (Option.some.inj h1).symm; rw [h2]; decide
  have hc : (Lib.itoa (wrap32 (-(n : Int))) == s.toList) = true := by
    rw [beq_iff_eq, Lib.toList_data, w32_id (by omega) (by omega)]
    exact hi
  have Hc := Lib.hid hc; clear hc
  have Hs := Lib.hid hs; clear hs
  have Hi := Lib.hid hi; clear hi
  have Hv := Lib.hid hval; clear hval
  go_enter Tryd.func21, Tryd.ntmps21
  go_wp2
  go_loop [6, 7] (fun m i => ∃ (k : Nat), 1 ≤ k ∧ k ≤ s.size ∧ i = .int .i64 k ∧ m = .int .i64 (val ((Lib.decDigits n).take (k - 1)) : Nat))
    (fun _ i => s.size - (intOf i).toNat)
  case atStart => exact ⟨1, Nat.le_refl _, by omega, rfl, rfl⟩
  case round =>
    obtain ⟨k, hk1, hk, rfl, rfl⟩ := hrel
    by_cases hlt : k < s.size
    · obtain ⟨st, d1, d2⟩ := dig_step hdg hl10 (hget k hlt hk1)
      have d3 : (s.size : Int) ≤ 11 := by omega
      have St := Lib.hid st; clear st
      go_wp2
      refine ⟨⟨k + 1, by omega, by omega, by go_num, ?_⟩, by simp [intOf]; omega⟩
      rw [show k + 1 - 1 = k - 1 + 1 by omega, ← St.out]
    · obtain rfl : k = s.size := by omega
      rw [Hv.out]
      have e1 : wrap64 (-(n : Int)) = -(n : Int) := by unfold wrap64; omega
      have E1 := Lib.hid e1; clear e1
      have hc := Hc.out
      go_wp2_with fail
      refine (RefShow_any (-(n : Int)) _).mono ?_
      rintro e w1 ⟨rfl, hb⟩
      go_wp2
      go_ret2
      exact ⟨rfl, hb⟩

/-- The two variables of errors, as ParseInt reads them. -/
def Errs (w : World) : Prop := ∃ t p t' p', w.var? Tryd.prog "strconv.ErrSyntax" = some #[.iface t p] ∧ w.var? Tryd.prog "strconv.ErrRange" = some #[.iface t' p']
theorem gES : Tryd.prog.globalNamed "strconv.ErrSyntax" = some 0 := by kernel_rfl
theorem gER : Tryd.prog.globalNamed "strconv.ErrRange" = some 1 := by kernel_rfl
theorem var_below {w w' : World} {n : String} {g : Nat} {x : Array Value} (hg : Tryd.prog.globalNamed n = some g) (h : w.var? Tryd.prog n = some x) (hb : Below w.heap.size w w') : w'.var? Tryd.prog n = some x := by
  unfold World.var? at h ⊢
  rw [hg] at h ⊢
  simp only [Option.bind_some] at h ⊢
  have hlt : g < w.heap.size := by
    rcases Nat.lt_or_ge g w.heap.size with h' | h'
    · exact h'
    · rw [Array.getElem?_eq_none h'] at h; cases h
  rw [hb.block g hlt]
  exact h
theorem errs_below {w w' : World} (h : Errs w) (hb : Below w.heap.size w w') : Errs w' := by
  obtain ⟨t, p, t', p', h1, h2⟩ := h
  exact ⟨t, p, t', p', var_below gES h1 hb, var_below gER h2 hb⟩

set_option maxRecDepth 100000 in
set_option maxHeartbeats 2000000 in
/-- The program's Read, of a text that spells no int32. -/
theorem Read_none (s : ByteArray) (hs : s.size ≤ 50) (hno : NoNum s) (w : World) (hp : Pow w) (he : Errs w) : Calls Tryd.prog 20 #[.string s] w fun e w' => e = .returned (.tuple #[.int .i64 0, .bool false]) ∧ Below w.heap.size w w' := by
  obtain ⟨t, p, t', p', v1, v2⟩ := he
  cases h : Lib.parseIntB 32 s.data.toList
  case ok v =>
    have hr := parse_range _ _ h
    have hc := show_ne hno v hr.1 hr.2
    go_enter Tryd.func20, Tryd.ntmps20
    go_wp2_with fail
    refine (Tryd.strconv_ParseInt_10_at32_ok s (by omega) v h w).mono ?_
    rintro e w1 ⟨rfl, hw⟩
    have hb1 : Below w.heap.size w w1 := by
      rcases hw with rfl | ⟨t, rfl⟩
      · exact Below.refl _ _
      · exact Joins.below_bytesWorld _ _ _ _ (Nat.le_refl _)
    clear hw
    have hp1 := pow_below hp hb1
    go_wp2_with fail
    refine (Show_any v w1 hp1).mono ?_
    rintro e w2 ⟨rfl, hb2⟩
    have hb02 := hb1.trans (hb2.mono hb1.size)
    go_wp2
    go_ret2
    exact ⟨rfl, hb02⟩
  case range =>
    go_enter Tryd.func20, Tryd.ntmps20
    go_wp2_with fail
    refine (Tryd.strconv_ParseInt_10_at32_range_var s (by omega) h t' p' w v2).mono ?_
    rintro e w1 ⟨N, rfl, -, -, hb⟩
    go_wp2
    go_ret2
    exact ⟨rfl, hb⟩
  all_goals
    go_enter Tryd.func20, Tryd.ntmps20
    go_wp2_with fail
    refine (Tryd.strconv_ParseInt_10_at32_syntax_var s (by omega) h t p w v1).mono ?_
    rintro e w1 ⟨N, rfl, -, -, hb⟩
    go_wp2
    go_ret2
    exact ⟨rfl, hb⟩

/-- The program's Read, of a number's text. -/
theorem Read_num (s : ByteArray) (v : Int) (h1 : -2147483648 ≤ v) (h2 : v ≤ 2147483647) (hi : Lib.itoa v = s.data.toList) (w : World) (hp : Pow w) : Calls Tryd.prog 20 #[.string s] w fun e w' => e = .returned (.tuple #[.int .i64 v, .bool true]) ∧ Below w.heap.size w w' := by
  have hl := itoa_len v h1 h2
  have hz : s.size ≤ 11 := by rw [hi] at hl; simpa using hl
  exact Read_ok s (by omega) v (by rw [← hi]; exact parse_itoa v h1 h2) (by rw [beq_iff_eq, Lib.toList_data, w32_id h1 h2]; exact hi) w hp

/-- The document's Read, of a number's text. -/
theorem RefRead_num (s : ByteArray) (v : Int) (h1 : -2147483648 ≤ v) (h2 : v ≤ 2147483647) (hi : Lib.itoa v = s.data.toList) (w : World) : Calls Tryd.prog 21 #[.string s] w fun e w' => e = .returned (.tuple #[.int .i64 v, .bool true]) ∧ Below w.heap.size w w' := by
  have he := itoa_of v
  by_cases h : v < 0
  · obtain ⟨n, hn⟩ := Int.eq_ofNat_of_zero_le (show 0 ≤ -v by omega)
    obtain rfl : v = -(n : Int) := by omega
    rw [if_pos h, hn, Int.toNat_natCast] at he
    exact RefRead_num_minus s n (by omega) (by rw [← hi, he]) hi w
  · obtain ⟨n, rfl⟩ := Int.eq_ofNat_of_zero_le (show 0 ≤ v by omega)
    rw [if_neg h, Int.toNat_natCast] at he
    exact RefRead_num_plain s n (by omega) (by rw [← hi, he]) hi w
theorem RefRead_none (s : ByteArray) (hs : s.size ≤ 50) (hno : NoNum s) (w : World) : Calls Tryd.prog 21 #[.string s] w fun e w' => e = .returned (.tuple #[.int .i64 0, .bool false]) ∧ Below w.heap.size w w' := by
  by_cases h0 : s.size = 0
  · exact RefRead_empty s h0 w
  · by_cases h45 : ((s[0].toNat : Int) == 45) = true
    · exact RefRead_none_minus s hs (by omega) h45 hno w
    · exact RefRead_none_plain s hs (by omega) (by simpa using h45) hno w

set_option maxRecDepth 100000 in
set_option maxHeartbeats 2000000 in
theorem Shows_any (a : Int) (s : ByteArray) (w : World) (hp : Pow w) (he : Errs w) : Calls Tryd.prog 4 #[.int .i64 a, .string s] w fun e w' => e = .returned (.bool true) ∧ Below w.heap.size w w' := by
  by_cases hbig : 50 < s.size
  · go_enter Tryd.func4, Tryd.ntmps4
    go_wp2_with fail
    refine (awake_any _ hp).mono ?_
    rintro e w1 ⟨rfl, hb⟩
    go_wp2
    go_ret
    exact ⟨rfl, hb⟩
  · have hd0 : decide ((50 : Int) < (s.size : Int)) = false := by simp; omega
    have hs : s.size ≤ 50 := by omega
    have hr := w32_range a
    clear hbig
    have both : ∃ (x : Int) (b : Bool), (∀ W, Pow W → Errs W → Calls Tryd.prog 20 #[.string s] W fun e w' => e = .returned (.tuple #[.int .i64 x, .bool b]) ∧ Below W.heap.size W w') ∧ (∀ W, Calls Tryd.prog 21 #[.string s] W fun e w' => e = .returned (.tuple #[.int .i64 x, .bool b]) ∧ Below W.heap.size W w') := by
      by_cases hn : NoNum s
      · exact ⟨0, false, fun W h1 h2 => Read_none s hs hn W h1 h2, fun W => RefRead_none s hs hn W⟩
      · obtain ⟨v, h1, h2, h3⟩ : ∃ v : Int, -2147483648 ≤ v ∧ v ≤ 2147483647 ∧ Lib.itoa v = s.data.toList := by
          apply Classical.byContradiction
          intro hh
          exact hn fun v h1 h2 h3 => hh ⟨v, h1, h2, h3⟩
        exact ⟨v, true, fun W h4 h5 => Read_num s v h1 h2 h3 W h4, fun W => RefRead_num s v h1 h2 h3 W⟩
    obtain ⟨x, b, c1, c2⟩ := both
    go_enter Tryd.func4, Tryd.ntmps4
    go_wp2_with fail
    refine (awake_any _ hp).mono ?_
    rintro e w1 ⟨rfl, hb1⟩
    go_wp2_with fail
    refine (c1 _ (pow_below hp hb1) (errs_below he hb1)).mono ?_
    rintro e w2 ⟨rfl, hb2⟩
    have hb02 := hb1.trans (hb2.mono hb1.size)
    clear hb1 hb2
    go_wp2_with fail
    refine (c2 _).mono ?_
    rintro e w3 ⟨rfl, hb3⟩
    have hb03 := hb02.trans (hb3.mono hb02.size)
    clear hb02 hb3
    go_wp2_with fail
    refine (Show_any a _ (pow_below hp hb03)).mono ?_
    rintro e w4 ⟨rfl, hb4⟩
    have hb04 := hb03.trans (hb4.mono hb03.size)
    clear hb03 hb4
    go_wp2_with fail
    refine (Read_num ⟨(Lib.itoa (wrap32 a)).toArray⟩ (wrap32 a) hr.1 hr.2 rfl _ (pow_below hp hb04)).mono ?_
    rintro e w5 ⟨rfl, hb5⟩
    have hb05 := hb04.trans (hb5.mono hb04.size)
    clear hb04 hb5
    go_wp2_with fail
    refine (Show_any a _ (pow_below hp hb05)).mono ?_
    rintro e w6 ⟨rfl, hb6⟩
    have hb06 := hb05.trans (hb6.mono hb05.size)
    clear hb05 hb6
    go_wp2_with fail
    refine (RefShow_any a _).mono ?_
    rintro e w7 ⟨rfl, hb7⟩
    have hb07 := hb06.trans (hb7.mono hb06.size)
    clear hb06 hb7
    go_wp2_with fail
    refine (Wrap_any a _).mono ?_
    rintro e w8 ⟨rfl, rfl⟩
    go_wp2
    go_ret
    exact ⟨rfl, hb07⟩
end Go.Proofs.YtpaknaaainhgfaaDoor
