/-
  For the law ReportBack. Condition: the program's tables are as they are laid.
-/
import Derived.Test.YtmklpanehnkfbaaDoorWake
namespace Go.Proofs.YtmklpanehnkfbaaDoor
open Go.RowKit Go.Shelf

theorem conOf_ne {k : Int} {key : List UInt8} (h1 : 1 ≤ k) (h2 : k ≤ 5) : conOf k key ≠ [] := by
  obtain ⟨w, -, e, -, -, hw⟩ := conOf_kind (key := key) h1 h2
  rw [e]
  unfold withKey
  split
  · exact hw
  · simp
theorem reads_of {k : Int} {key : List UInt8} : (∃ k' key', Reads (conOf k key) k' key') → 1 ≤ k ∧ k ≤ 5 ∧ 10 ∉ key := by
  rintro ⟨k', key', h⟩
  by_cases hk : 1 ≤ k ∧ k ≤ 5
  · obtain ⟨rfl, rfl⟩ := h.same hk.1 hk.2 rfl
    exact ⟨hk.1, hk.2, h.2.2.2⟩
  · exact absurd (h.2.2.1.trans (conOf_no hk)) (conOf_ne h.1 h.2.1)
theorem take_nl {l : List UInt8} {i : Nat} {c : UInt8} (h : l[i]? = some c) : decide (10 ∉ l.take (i + 1)) = (decide (10 ∉ l.take i) && decide (c ≠ 10)) := by
  rw [List.take_add_one, h]
  simp only [Option.toList_some, List.mem_append, List.mem_singleton, not_or]
  by_cases h1 : 10 ∈ l.take i <;> by_cases h2 : c = 10 <;> simp [h1, h2, eq_comm]
set_option maxRecDepth 100000 in
set_option maxHeartbeats 16000000 in
theorem reportBack_any (k : Int) (key s : ByteArray) (w : World) (hW : RepW w) : Calls Tryd.prog 5 #[.agg #[.int .i64 k, .string key], .string s] w fun e w' => e = .returned (.bool true) ∧ Below w.heap.size w w' := by
  have HW := Lib.hid hW; clear hW
  have hW4 := HW.out.size
  obtain ⟨W1, hW1⟩ : ∃ W1, Hid (w.alloc (.cells #[.int .i64 k, .string key] 23) = W1) := ⟨_, Lib.hid rfl⟩
  have hb1 : Hid (Below w.heap.size w W1) := by rw [← hW1.out]; exact Lib.hid ((Below.refl _ w).alloc (Nat.le_refl _) _)
  have hc1 : Hid (RowAt W1 w.heap.size 23 #[.int .i64 k, .string key]) := by rw [← hW1.out]; exact Lib.hid (RowAt.new w 23 _)
  have hs1 : w.heap.size + 1 ≤ W1.heap.size := by rw [← hW1.out]; simp
  go_enter Tryd.func5, Tryd.ntmps5
  go_wp2_with fail
  rw [hW1.out]
  refine (awake_any _ (HW.out.below hb1.out hW4)).mono ?_
  rintro e w2 ⟨rfl, b2⟩
  have hB2 := Lib.hid (hb1.out.trans (b2.mono (by omega)))
  have hc2 := Lib.hid (hc1.out.later b2)
  have hs2 : w.heap.size + 1 ≤ w2.heap.size := by have := b2.size; omega
  clear b2
  have c0 := hc2.out.cell (j := 0) rfl
  have c1 := hc2.out.cell (j := 1) rfl
  by_cases hk200 : 200 < key.size
  · have hd : decide ((200 : Int) < (key.size : Int)) = true := by simp; omega
    go_wp2_with fail
    go_ret
    exact ⟨rfl, hB2.out⟩
  have hd : decide ((200 : Int) < (key.size : Int)) = false := by simp; omega
  by_cases hs200 : 200 < s.size
  · have hd2 : decide ((200 : Int) < (s.size : Int)) = true := by simp; omega
    go_wp2_with fail
    go_ret
    exact ⟨rfl, hB2.out⟩
  have hd2 : decide ((200 : Int) < (s.size : Int)) = false := by simp; omega
  go_wp2_with fail
  go_loop [6, 7] (fun p c => ∃ i : Nat, c = .int .i64 i ∧ i ≤ key.size ∧ p = .bool (decide (10 ∉ (tl key).take i))) (fun _ c => key.size - (intOf c).toNat)
  case atStart => exact ⟨0, rfl, by omega, by simp⟩
  case round =>
    obtain ⟨i, rfl, hi, rfl⟩ := hrel
    by_cases hlt : i < key.size
    · have hg := tl_get key hlt
      have hnx := take_nl hg
      have Hnx := Lib.hid hnx
      clear hnx hg
      obtain ⟨pb, hpb⟩ : ∃ pb, Hid (decide (10 ∉ (tl key).take i) = pb) := ⟨_, Lib.hid rfl⟩
      rw [hpb.out] at Hnx ⊢
      cases pb with
      | false =>
        have hn : Hid (decide (10 ∉ (tl key).take (i + 1)) = false) := Lib.hid (by rw [Hnx.out]; rfl)
        go_wp2_with fail
        exact ⟨⟨i + 1, by go_num, by omega, by rw [hn.out]⟩, by simp [intOf]; omega⟩
      | true =>
        by_cases h10 : (key[i].toNat : Int) = 10
        · have hd3 : ((key[i].toNat : Int) != 10) = false := by simp [h10]
          have hn : Hid (decide (10 ∉ (tl key).take (i + 1)) = false) := Lib.hid (by
            rw [Hnx.out]
            have : key[i] = 10 := by apply UInt8.toNat_inj.1; show _ = 10; omega
            simp [this])
          clear h10
          go_wp2_with fail
          exact ⟨⟨i + 1, by go_num, by omega, by rw [hn.out]⟩, by simp [intOf]; omega⟩
        · have hd3 : ((key[i].toNat : Int) != 10) = true := by simpa using h10
          have hn : Hid (decide (10 ∉ (tl key).take (i + 1)) = true) := Lib.hid (by
            rw [Hnx.out]
            have : key[i] ≠ 10 := fun e => h10 (by rw [e]; rfl)
            simp [this])
          clear h10
          go_wp2_with fail
          exact ⟨⟨i + 1, by go_num, by omega, by rw [hn.out]⟩, by simp [intOf]; omega⟩
    · obtain rfl : i = key.size := by omega
      have hfull : (tl key).take key.size = tl key := List.take_of_length_le (by rw [tl_length]; omega)
      rw [hfull]
      clear hfull
      obtain ⟨pl, hpl⟩ : ∃ pl, Hid (decide (10 ∉ tl key) = pl) := ⟨_, Lib.hid rfl⟩
      rw [hpl.out]
      obtain ⟨r, hr⟩ : ∃ r, Hid (conOf k (tl key) = r) := ⟨_, Lib.hid rfl⟩
      have hrl := conOf_le k (tl key)
      rw [hr.out, tl_length] at hrl
      go_wp2_with fail
      refine (Conflict_any k key _ (HW.out.below hB2.out hW4) (by omega)).mono ?_
      rw [hr.out]
      rintro e w3 ⟨rfl, b3⟩
      have hB3 := Lib.hid (hB2.out.trans (b3.mono (by omega)))
      have hc3 := Lib.hid (hc2.out.later b3)
      have hs3 := b3.size
      clear b3 c0 c1
      go_wp2_with fail
      refine (Read_any (bs r) _ (HW.out.below hB3.out hW4) (by rw [bs_size]; omega)).mono ?_
      unfold ReadGives
      rw [tl_bs]
      rintro e w4 ⟨hX, b4⟩
      have hB4 := Lib.hid (hB3.out.trans (b4.mono (by omega)))
      have hc4 := Lib.hid (hc3.out.later b4)
      have hs4 := b4.size
      clear b4
      -- what Read(Conflict(c)) answers
      obtain ⟨isX, xk, xkey, hxe, hxg⟩ : ∃ (isX : Bool) (xk : Int) (xkey : ByteArray), e = .returned (.tuple #[.agg #[.int .i64 xk, .string xkey], .bool isX]) ∧ Hid ((isX = true ↔ (1 ≤ k ∧ k ≤ 5 ∧ 10 ∉ tl key)) ∧ (isX = true → xk = k ∧ xkey = key)) := by
        rcases hX with ⟨k', key', h, rfl⟩ | ⟨hno, rfl⟩
        · have hg := reads_of (k := k) (key := tl key) ⟨k', tl key', by rw [hr.out]; exact h⟩
          obtain ⟨e1, e2⟩ := h.same hg.1 hg.2.1 hr.out
          exact ⟨true, k', key', rfl, Lib.hid ⟨⟨fun _ => hg, fun _ => rfl⟩, fun _ => ⟨e1.symm, by rw [← bs_tl key', ← e2, bs_tl]⟩⟩⟩
        · refine ⟨false, 0, ⟨#[]⟩, rfl, Lib.hid ⟨⟨(fun h => by cases h), (fun h => ?_)⟩, (fun h => by cases h)⟩⟩
          exact absurd ⟨h.1, h.2.1, hr.out, h.2.2⟩ (hno k (tl key))
      subst hxe
      clear hX
      have hx5 := Lib.hid (RowAt.new w4 23 #[.int .i64 xk, .string xkey])
      have hB5 := Lib.hid (hB4.out.alloc (by omega) (.cells #[.int .i64 xk, .string xkey] 23))
      have hc5 := Lib.hid (hc4.out.alloc (.cells #[.int .i64 xk, .string xkey] 23))
      go_wp2_with fail
      refine (Read_any s _ (HW.out.below hB5.out hW4) (by omega)).mono ?_
      rintro e w6 ⟨hY, b6⟩
      have hB6 := Lib.hid (hB5.out.trans (b6.mono (by simp; omega)))
      have hc6 := Lib.hid (hc5.out.later b6)
      have hx6 := Lib.hid (hx5.out.later b6)
      have hs6 := b6.size
      rw [World.size_alloc] at hs6
      clear b6
      obtain ⟨isY, yk, ykey, hye, hyg⟩ : ∃ (isY : Bool) (yk : Int) (ykey : ByteArray), e = .returned (.tuple #[.agg #[.int .i64 yk, .string ykey], .bool isY]) ∧ Hid (ykey.size ≤ 1000000 ∧ (isY = true → conOf yk (tl ykey) = tl s)) := by
        rcases hY with ⟨k', key', h, rfl⟩ | ⟨hno, rfl⟩
        · refine ⟨true, k', key', rfl, Lib.hid ⟨?_, fun _ => h.2.2.1⟩⟩
          have := h.cut.2
          rw [← tl_length, ← this]
          unfold cutB
          rw [List.length_drop, tl_length]; omega
        · exact ⟨false, 0, ⟨#[]⟩, rfl, Lib.hid ⟨by decide, (fun h => by cases h)⟩⟩
      subst hye
      clear hY
      have hyl := hyg.out.1
      have hy7 := Lib.hid (RowAt.new w6 23 #[.int .i64 yk, .string ykey])
      have hB7 := Lib.hid (hB6.out.alloc (by omega) (.cells #[.int .i64 yk, .string ykey] 23))
      have hc7 := Lib.hid (hc6.out.alloc (.cells #[.int .i64 yk, .string ykey] 23))
      have hx7 := Lib.hid (hx6.out.alloc (.cells #[.int .i64 yk, .string ykey] 23))
      have hs7 : w6.heap.size + 1 ≤ (w6.alloc (.cells #[.int .i64 yk, .string ykey] 23)).heap.size := by simp
      have fin : ∀ (W : World), Below w.heap.size w W → RowAt W w.heap.size 23 #[.int .i64 k, .string key] → RowAt W w4.heap.size 23 #[.int .i64 xk, .string xkey] → True := fun _ _ _ _ => trivial
      clear fin
      cases isY with
      | true =>
        have f2 := bs_beq s (conOf yk (tl ykey))
        rw [decide_eq_true (hyg.out.2 rfl)] at f2
        have y0 := hy7.out.cell (j := 0) rfl
        have y1 := hy7.out.cell (j := 1) rfl
        go_wp2_with fail
        refine (Conflict_any yk ykey _ (HW.out.below hB7.out hW4) (by omega)).mono ?_
        rintro e w8 ⟨rfl, b8⟩
        have hB8 := Lib.hid (hB7.out.trans (b8.mono (by simp; omega)))
        have hc8 := Lib.hid (hc7.out.later b8)
        have hx8 := Lib.hid (hx7.out.later b8)
        clear b8 y0 y1
        obtain ⟨rr, hrr⟩ : ∃ rr, Hid (conOf yk (tl ykey) = rr) := ⟨_, Lib.hid rfl⟩
        rw [hrr.out] at f2 ⊢
        have c0 := hc8.out.cell (j := 0) rfl
        have c1 := hc8.out.cell (j := 1) rfl
        have x0 := hx8.out.cell (j := 0) rfl
        have x1 := hx8.out.cell (j := 1) rfl
        by_cases k1 : k < 1
        · have d1 : decide (k < 1) = true := by simpa using k1
          obtain rfl : isX = false := by
            cases isX with
            | false => rfl
            | true => exact absurd (hxg.out.1.1 rfl).1 (by omega)
          clear k1
          go_wp2_with fail
          go_ret
          exact ⟨rfl, hB8.out⟩
        have d1 : decide (k < 1) = false := by simpa using k1
        by_cases k5 : 5 < k
        · have d5 : decide (5 < k) = true := by simpa using k5
          obtain rfl : isX = false := by
            cases isX with
            | false => rfl
            | true => exact absurd (hxg.out.1.1 rfl).2.1 (by omega)
          clear k1 k5
          go_wp2_with fail
          go_ret
          exact ⟨rfl, hB8.out⟩
        have d5 : decide (5 < k) = false := by simpa using k5
        cases pl with
        | false =>
          obtain rfl : isX = false := by
            cases isX with
            | false => rfl
            | true => exact absurd (hxg.out.1.1 rfl).2.2 (by have := hpl.out; simpa using this)
          clear k1 k5
          go_wp2_with fail
          go_ret
          exact ⟨rfl, hB8.out⟩
        | true =>
          have hyes : isX = true := hxg.out.1.2 ⟨by omega, by omega, by have := hpl.out; simpa using this⟩
          obtain ⟨e1, e2⟩ := hxg.out.2 hyes
          subst hyes e1 e2
          clear k1 k5
          go_wp2_with fail
          go_ret
          exact ⟨rfl, hB8.out⟩
      | false =>
        have c0 := hc7.out.cell (j := 0) rfl
        have c1 := hc7.out.cell (j := 1) rfl
        have x0 := hx7.out.cell (j := 0) rfl
        have x1 := hx7.out.cell (j := 1) rfl
        by_cases k1 : k < 1
        · have d1 : decide (k < 1) = true := by simpa using k1
          obtain rfl : isX = false := by
            cases isX with
            | false => rfl
            | true => exact absurd (hxg.out.1.1 rfl).1 (by omega)
          clear k1
          go_wp2_with fail
          go_ret
          exact ⟨rfl, hB7.out⟩
        have d1 : decide (k < 1) = false := by simpa using k1
        by_cases k5 : 5 < k
        · have d5 : decide (5 < k) = true := by simpa using k5
          obtain rfl : isX = false := by
            cases isX with
            | false => rfl
            | true => exact absurd (hxg.out.1.1 rfl).2.1 (by omega)
          clear k1 k5
          go_wp2_with fail
          go_ret
          exact ⟨rfl, hB7.out⟩
        have d5 : decide (5 < k) = false := by simpa using k5
        cases pl with
        | false =>
          obtain rfl : isX = false := by
            cases isX with
            | false => rfl
            | true => exact absurd (hxg.out.1.1 rfl).2.2 (by have := hpl.out; simpa using this)
          clear k1 k5
          go_wp2_with fail
          go_ret
          exact ⟨rfl, hB7.out⟩
        | true =>
          have hyes : isX = true := hxg.out.1.2 ⟨by omega, by omega, by have := hpl.out; simpa using this⟩
          obtain ⟨e1, e2⟩ := hxg.out.2 hyes
          subst hyes e1 e2
          clear k1 k5
          go_wp2_with fail
          go_ret
          exact ⟨rfl, hB7.out⟩
end Go.Proofs.YtmklpanehnkfbaaDoor
