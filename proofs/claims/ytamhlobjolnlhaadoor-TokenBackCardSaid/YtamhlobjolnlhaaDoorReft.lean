/-
  For the law LexTells: the token that begins at a place. Condition: the text has at most 2,000,000,000 bytes.
-/
import Derived.Test.YtamhlobjolnlhaaDoorRefg
import Derived.Test.YtamhlobjolnlhaaDoorRefb
namespace Go.Proofs.YtamhlobjolnlhaaDoor
open Go.RowKit Go.Shelf

theorem valOf_ge {l : List UInt8} {c : UInt8} (h0 : l[0]? = some c) (h : 49 ≤ c.toNat) : ∀ k, k < l.length → 10 ^ k ≤ valOf (l.take (k + 1))
  | 0, _ => by
    rw [valOf_next h0]
    simp [valOf]
    omega
  | k + 1, hk => by
    have ih := valOf_ge h0 h k (by omega)
    rw [valOf_next (List.getElem?_eq_getElem (l := l) (i := k + 1) (by omega)), Nat.pow_succ]
    omega
theorem great_bad {l : List UInt8} {c : UInt8} (h0 : l[0]? = some c) (hd : ∀ c ∈ l, dig c = true) : (greatL l || (decide (1 < l.length) && c == 48)) = badNum l := by
  have hh : (l.head? == some 48) = (c == 48) := by
    cases l with
    | nil => simp at h0
    | cons d r =>
      obtain rfl : d = c := by simpa using h0
      simp
  unfold badNum greatL
  rw [hh]
  by_cases h10 : 10 < l.length
  · rw [decide_eq_true h10, decide_eq_true (p := 1 < l.length) (by omega)]
    by_cases h48 : c = 48
    · subst h48; simp
    · have hc := dig_true c (hd c (List.mem_of_getElem? h0))
      have h49 : 49 ≤ c.toNat := by
        have : c.toNat ≠ 48 := fun e => h48 (UInt8.toNat_inj.1 (by show c.toNat = 48; exact e))
        omega
      have h1 := valOf_ge h0 h49 (l.length - 1) (by omega)
      rw [show l.length - 1 + 1 = l.length from by omega, List.take_length] at h1
      have h2 : 10 ^ 10 ≤ 10 ^ (l.length - 1) := Nat.pow_le_pow_right (by omega) (by omega)
      rw [decide_eq_true (p := 2147483647 < valOf l) (by omega)]
      simp
  · rw [decide_eq_false h10]
    simp
theorem dig_not {c : UInt8} (h : dig c = true) : ltr c = false := by
  have := dig_true c h
  rw [ltr_iff]
  simp
  omega
theorem tw_head {p : UInt8 → Bool} {c : UInt8} {r : List UInt8} (h : p c = true) : 0 < ((c :: r).takeWhile p).length := by
  rw [List.takeWhile_cons, if_pos h]; simp
theorem first_num {c : UInt8} {r : List UInt8} (h : dig c = true) : first (c :: r) = if badNum ((c :: r).take (numLen (c :: r))) = true then (0, 0, 31) else (2, numLen (c :: r), 0) := by
  have h1 : nameLen (c :: r) = 0 := by rw [nameLen, if_neg (by rw [dig_not h]; simp)]
  have h2 : 0 < numLen (c :: r) := tw_head h
  unfold first
  rw [if_neg (by omega), if_pos h2]
theorem first_name {c : UInt8} {r : List UInt8} (h : ltr c = true) : nameLen (c :: r) = ((c :: r).takeWhile aln).length ∧ first (c :: r) = if 20 < nameLen (c :: r) then (0, 0, 2) else if (c :: r).take (nameLen (c :: r)) ∈ keptL then (3, nameLen (c :: r), 0) else (1, nameLen (c :: r), 0) := by
  have h1 : nameLen (c :: r) = ((c :: r).takeWhile aln).length := by rw [nameLen, if_pos h, List.takeWhile_cons, if_pos (by rw [aln_of, h]; simp)]; rfl
  refine ⟨h1, ?_⟩
  have h2 : 0 < nameLen (c :: r) := by rw [nameLen, if_pos h]; omega
  unfold first
  rw [if_pos h2]
theorem first_mark {c : UInt8} {r : List UInt8} (h : dig c = false) (h' : ltr c = false) : first (c :: r) = if 0 < markLen (c :: r) then (4, markLen (c :: r), 0) else (0, 0, 30) := by
  have h1 : nameLen (c :: r) = 0 := by rw [nameLen, if_neg (by rw [h']; simp)]
  have h2 : numLen (c :: r) = 0 := by unfold numLen; rw [List.takeWhile_cons, if_neg (by rw [h]; simp)]; rfl
  unfold first
  rw [if_neg (by omega), if_neg (by omega)]
set_option maxRecDepth 100000 in
set_option maxHeartbeats 8000000 in
theorem token_any (s : ByteArray) (k : Nat) (w : World) (hs : s.size ≤ 2000000000) (hk : k < s.size) :
    Calls Tryd.prog 35 #[.string s, .int .i64 k] w fun e w' => e = .returned (.tuple #[.int .i64 (first ((tl s).drop k)).1, .int .i64 ((first ((tl s).drop k)).2.1 : Nat), .int .i64 (first ((tl s).drop k)).2.2]) ∧ Below w.heap.size w w' := by
  have hl := tl_length s
  obtain ⟨F, hF⟩ : ∃ F, Hid (first ((tl s).drop k) = F) := ⟨_, Lib.hid rfl⟩
  rw [hF.out]
  obtain ⟨f1, f2, f3⟩ := F
  obtain ⟨c, hc⟩ : ∃ c, s[k] = c := ⟨_, rfl⟩
  have Hx := Lib.hid (drop_at hk hc)
  generalize hr : (tl s).drop (k + 1) = r at Hx
  have hlen : (c :: r).length = s.size - k := by rw [← Hx.out, List.length_drop, hl]
  have hat : ∀ n d, (h : k + n < s.size) → s[k + n] = d → (c :: r)[n]? = some d := fun n d h e => by
    rw [← Hx.out, List.getElem?_drop, tl_get s h, e]
  have Hat := Lib.hid hat
  have Hr := Lib.hid hr
  clear hat hr
  simp only
  go_enter Tryd.func35, Tryd.ntmps35
  go_wp2_with fail
  refine (digit_any c _).mono ?_
  rintro e w' ⟨rfl, rfl⟩
  obtain ⟨b0, hb0⟩ : ∃ b, Hid (dig c = b) := ⟨_, Lib.hid rfl⟩
  rw [hb0.out]
  cases b0 with
  | true =>
    have hF2 := hF.out
    rw [Hx.out, first_num hb0.out] at hF2
    have HF2 := Lib.hid hF2; clear hF2
    have hnl : numLen (c :: r) ≤ s.size - k := by rw [← hlen]; exact numLen_le _
    go_wp2_with fail
    go_loop [7] (fun x => ∃ n : Nat, x = .int .i64 n ∧ n ≤ numLen (c :: r)) (fun x => s.size - (intOf x).toNat)
    case atStart => exact ⟨0, rfl, Nat.zero_le _⟩
    case round =>
      obtain ⟨n, rfl, hn⟩ := hrel
      by_cases hlt : k + n < s.size
      · obtain ⟨d, hd⟩ : ∃ d, s[k + n] = d := ⟨_, rfl⟩
        have hg := Hat.out n d hlt hd
        have hnx := run_next hn hg
        have Hnx := Lib.hid hnx
        clear hnx hg
        have j5 : ((k : Int) + (n : Int)).toNat = k + n := by omega
        have j0 : (0 : Int) ≤ (k : Int) + (n : Int) := by omega
        have j1 : (k : Int) + (n : Int) < (s.size : Int) := by omega
        go_wp2_with fail
        refine (digit_any d _).mono ?_
        rintro e w' ⟨rfl, rfl⟩
        obtain ⟨b1, hb1⟩ : ∃ b, Hid (dig d = b) := ⟨_, Lib.hid rfl⟩
        rw [hb1.out]
        cases b1 with
        | true =>
          have hn2 : Hid (n + 1 ≤ numLen (c :: r)) := Lib.hid (Hnx.out.1 hb1.out)
          clear Hnx
          go_wp2_with fail
          exact ⟨⟨n + 1, by go_num, hn2.out⟩, by simp [intOf]; omega⟩
        | false =>
          have hfin : Hid (n = numLen (c :: r)) := Lib.hid (Hnx.out.2 hb1.out)
          clear Hnx
          have i5 : ((k : Int) + (n : Int)).toNat = k + n := by omega
          have i1 : (k : Int) ≤ (k : Int) + (n : Int) := by omega
          have i2 : (k : Int) + (n : Int) ≤ (s.size : Int) := by omega
          have hcut : tl (s.extract k (k + n)) = (c :: r).take n := by rw [ext_bs, tl_bs, Hx.out, show k + n - k = n from by omega]
          have hdg : ∀ x ∈ (c :: r).take n, dig x = true := by
            intro x hx
            rw [hfin.out, numLen, tw_take] at hx
            exact tw_all hx
          have Hcut := Lib.hid hcut
          have Hdg := Lib.hid hdg
          clear hcut hdg
          go_wp2_with fail
          refine (great_any (s.extract k (k + n)) _ (by rw [Hcut.out]; exact Hdg.out)).mono ?_
          rw [Hcut.out]
          rintro e w' ⟨rfl, rfl⟩
          have hn0 : 0 < n := by rw [hfin.out]; exact tw_head hb0.out
          have hbad := great_bad (l := (c :: r).take n) (c := c) (by rw [List.getElem?_take, if_pos hn0]; rfl) Hdg.out
          have hF2 := HF2.out
          rw [← hfin.out, ← hbad, List.length_take, hlen, Nat.min_eq_left (by omega)] at hF2
          obtain ⟨g, hg⟩ : ∃ g, Hid (greatL ((c :: r).take n) = g) := ⟨_, Lib.hid rfl⟩
          rw [hg.out] at hF2 ⊢
          have HF3 := Lib.hid hF2
          clear hF2 hbad HF2
          cases g with
          | true =>
            have he := HF3.out
            simp only [Bool.true_or, if_true, Prod.mk.injEq] at he
            obtain ⟨rfl, rfl, rfl⟩ := he
            clear HF3
            go_wp2_with fail
            go_ret3
            exact ⟨rfl, Below.refl _ _⟩
          | false =>
            by_cases h1 : 1 < n
            · have d1 : decide ((1 : Int) < (n : Int)) = true := by simp; omega
              by_cases h48 : c = 48
              · have he := HF3.out
                rw [decide_eq_true h1, h48] at he
                simp only [beq_self_eq_true, Bool.and_self, Bool.or_true, if_true, Prod.mk.injEq] at he
                obtain ⟨rfl, rfl, rfl⟩ := he
                subst h48
                clear HF3
                go_wp2_with fail
                go_ret3
                exact ⟨rfl, Below.refl _ _⟩
              · have he := HF3.out
                have p48 : ¬ (c.toNat : Int) = 48 := fun h => h48 (UInt8.toNat_inj.1 (by show c.toNat = 48; omega))
                have q48 : ((c.toNat : Int) == 48) = false := by simpa using p48
                have h48' : (c == 48) = false := by simpa using h48
                rw [h48'] at he
                simp only [Bool.and_false, Bool.or_false, Bool.false_eq_true, if_false, Prod.mk.injEq] at he
                obtain ⟨rfl, rfl, rfl⟩ := he
                clear HF3
                go_wp2_with fail
                go_ret3
                exact ⟨rfl, Below.refl _ _⟩
            · have d1 : decide ((1 : Int) < (n : Int)) = false := by simp; omega
              have he := HF3.out
              rw [decide_eq_false h1] at he
              simp only [Bool.false_and, Bool.or_false, Bool.false_eq_true, if_false, Prod.mk.injEq] at he
              obtain ⟨rfl, rfl, rfl⟩ := he
              clear HF3
              go_wp2_with fail
              go_ret3
              exact ⟨rfl, Below.refl _ _⟩
      · have hfin : Hid (n = numLen (c :: r)) := Lib.hid (by omega)
        have j1 : decide ((k : Int) + (n : Int) < (s.size : Int)) = false := by simp; omega
        have i5 : ((k : Int) + (n : Int)).toNat = k + n := by omega
        have i1 : (k : Int) ≤ (k : Int) + (n : Int) := by omega
        have i2 : (k : Int) + (n : Int) ≤ (s.size : Int) := by omega
        have hcut : tl (s.extract k (k + n)) = (c :: r).take n := by rw [ext_bs, tl_bs, Hx.out, show k + n - k = n from by omega]
        have hdg : ∀ x ∈ (c :: r).take n, dig x = true := by
          intro x hx
          rw [hfin.out, numLen, tw_take] at hx
          exact tw_all hx
        have Hcut := Lib.hid hcut
        have Hdg := Lib.hid hdg
        clear hcut hdg
        go_wp2_with fail
        refine (great_any (s.extract k (k + n)) _ (by rw [Hcut.out]; exact Hdg.out)).mono ?_
        rw [Hcut.out]
        rintro e w' ⟨rfl, rfl⟩
        have hn0 : 0 < n := by rw [hfin.out]; exact tw_head hb0.out
        have hbad := great_bad (l := (c :: r).take n) (c := c) (by rw [List.getElem?_take, if_pos hn0]; rfl) Hdg.out
        have hF2 := HF2.out
        rw [← hfin.out, ← hbad, List.length_take, hlen, Nat.min_eq_left (by omega)] at hF2
        obtain ⟨g, hg⟩ : ∃ g, Hid (greatL ((c :: r).take n) = g) := ⟨_, Lib.hid rfl⟩
        rw [hg.out] at hF2 ⊢
        have HF3 := Lib.hid hF2
        clear hF2 hbad HF2
        cases g with
        | true =>
          have he := HF3.out
          simp only [Bool.true_or, if_true, Prod.mk.injEq] at he
          obtain ⟨rfl, rfl, rfl⟩ := he
          clear HF3
          go_wp2_with fail
          go_ret3
          exact ⟨rfl, Below.refl _ _⟩
        | false =>
          by_cases h1 : 1 < n
          · have d1 : decide ((1 : Int) < (n : Int)) = true := by simp; omega
            by_cases h48 : c = 48
            · have he := HF3.out
              rw [decide_eq_true h1, h48] at he
              simp only [beq_self_eq_true, Bool.and_self, Bool.or_true, if_true, Prod.mk.injEq] at he
              obtain ⟨rfl, rfl, rfl⟩ := he
              subst h48
              clear HF3
              go_wp2_with fail
              go_ret3
              exact ⟨rfl, Below.refl _ _⟩
            · have he := HF3.out
              have p48 : ¬ (c.toNat : Int) = 48 := fun h => h48 (UInt8.toNat_inj.1 (by show c.toNat = 48; omega))
              have q48 : ((c.toNat : Int) == 48) = false := by simpa using p48
              have h48' : (c == 48) = false := by simpa using h48
              rw [h48'] at he
              simp only [Bool.and_false, Bool.or_false, Bool.false_eq_true, if_false, Prod.mk.injEq] at he
              obtain ⟨rfl, rfl, rfl⟩ := he
              clear HF3
              go_wp2_with fail
              go_ret3
              exact ⟨rfl, Below.refl _ _⟩
          · have d1 : decide ((1 : Int) < (n : Int)) = false := by simp; omega
            have he := HF3.out
            rw [decide_eq_false h1] at he
            simp only [Bool.false_and, Bool.or_false, Bool.false_eq_true, if_false, Prod.mk.injEq] at he
            obtain ⟨rfl, rfl, rfl⟩ := he
            clear HF3
            go_wp2_with fail
            go_ret3
            exact ⟨rfl, Below.refl _ _⟩
  | false =>
    go_wp2_with fail
    refine (letter_any c _).mono ?_
    rintro e w' ⟨rfl, rfl⟩
    obtain ⟨b9, hb9⟩ : ∃ b, Hid (ltr c = b) := ⟨_, Lib.hid rfl⟩
    rw [hb9.out]
    cases b9 with
    | true =>
      obtain ⟨hN, hF0⟩ := first_name (r := r) hb9.out
      have hF2 := hF.out
      rw [Hx.out, hF0] at hF2
      have HF2 := Lib.hid hF2; clear hF2 hF0
      have hnl : ((c :: r).takeWhile aln).length ≤ s.size - k := by rw [← hlen]; exact (List.takeWhile_sublist aln).length_le
      go_wp2_with fail
      go_loop [7] (fun x => ∃ n : Nat, x = .int .i64 n ∧ n ≤ ((c :: r).takeWhile aln).length) (fun x => s.size - (intOf x).toNat)
      case atStart => exact ⟨0, rfl, Nat.zero_le _⟩
      case round =>
        obtain ⟨n, rfl, hn⟩ := hrel
        by_cases hlt : k + n < s.size
        · obtain ⟨d, hd⟩ : ∃ d, s[k + n] = d := ⟨_, rfl⟩
          have hg := Hat.out n d hlt hd
          have hnx := run_next hn hg
          have Hnx := Lib.hid hnx
          clear hnx hg
          have j5 : ((k : Int) + (n : Int)).toNat = k + n := by omega
          have j0 : (0 : Int) ≤ (k : Int) + (n : Int) := by omega
          have j1 : (k : Int) + (n : Int) < (s.size : Int) := by omega
          go_wp2_with fail
          refine (letter_any d _).mono ?_
          rintro e w' ⟨rfl, rfl⟩
          obtain ⟨b1, hb1⟩ : ∃ b, Hid (ltr d = b) := ⟨_, Lib.hid rfl⟩
          rw [hb1.out]
          cases b1 with
          | true =>
            have hn2 : Hid (n + 1 ≤ ((c :: r).takeWhile aln).length) := Lib.hid (Hnx.out.1 (by rw [aln_of, hb1.out]; simp))
            clear Hnx
            go_wp2_with fail
            exact ⟨⟨n + 1, by go_num, hn2.out⟩, by simp [intOf]; omega⟩
          | false =>
            go_wp2_with fail
            refine (digit_any d _).mono ?_
            rintro e w' ⟨rfl, rfl⟩
            obtain ⟨b2, hb2⟩ : ∃ b, Hid (dig d = b) := ⟨_, Lib.hid rfl⟩
            rw [hb2.out]
            cases b2 with
            | true =>
              have hn2 : Hid (n + 1 ≤ ((c :: r).takeWhile aln).length) := Lib.hid (Hnx.out.1 (by rw [aln_of, hb2.out]; simp))
              clear Hnx
              go_wp2_with fail
              exact ⟨⟨n + 1, by go_num, hn2.out⟩, by simp [intOf]; omega⟩
            | false =>
              have hfin : Hid (n = ((c :: r).takeWhile aln).length) := Lib.hid (Hnx.out.2 (by rw [aln_of, hb1.out, hb2.out]; rfl))
              clear Hnx
              have hd20 : decide ((20 : Int) < (n : Int)) = decide (20 < n) := by rw [Bool.eq_iff_iff]; simp; omega
              have hF2 := HF2.out
              rw [hN, ← hfin.out] at hF2
              have HF3 := Lib.hid hF2
              clear hF2 HF2
              by_cases h20 : 20 < n
              · rw [decide_eq_true h20] at hd20
                have he := HF3.out
                rw [if_pos h20] at he
                simp only [Prod.mk.injEq] at he
                obtain ⟨rfl, rfl, rfl⟩ := he
                clear HF3
                go_wp2_with fail
                go_ret3
                exact ⟨rfl, Below.refl _ _⟩
              · rw [decide_eq_false h20] at hd20
                have he := HF3.out
                rw [if_neg h20] at he
                have HF4 := Lib.hid he
                clear he HF3
                have i5 : ((k : Int) + (n : Int)).toNat = k + n := by omega
                have i1 : (k : Int) ≤ (k : Int) + (n : Int) := by omega
                have i2 : (k : Int) + (n : Int) ≤ (s.size : Int) := by omega
                have hcut : tl (s.extract k (k + n)) = (c :: r).take n := by rw [ext_bs, tl_bs, Hx.out, show k + n - k = n from by omega]
                have Hcut := Lib.hid hcut
                clear hcut
                go_wp2_with fail
                refine (RefKept_any (s.extract k (k + n)) _).mono ?_
                rw [Hcut.out]
                rintro e w5 ⟨rfl, b5⟩
                by_cases hm : (c :: r).take n ∈ keptL
                · have he := HF4.out
                  rw [if_pos hm] at he
                  simp only [Prod.mk.injEq] at he
                  obtain ⟨rfl, rfl, rfl⟩ := he
                  rw [decide_eq_true hm]
                  clear HF4 hm
                  go_wp2_with fail
                  go_ret3
                  exact ⟨rfl, b5⟩
                · have he := HF4.out
                  rw [if_neg hm] at he
                  simp only [Prod.mk.injEq] at he
                  obtain ⟨rfl, rfl, rfl⟩ := he
                  rw [decide_eq_false hm]
                  clear HF4 hm
                  go_wp2_with fail
                  go_ret3
                  exact ⟨rfl, b5⟩
        · have hfin : Hid (n = ((c :: r).takeWhile aln).length) := Lib.hid (by omega)
          have j1 : decide ((k : Int) + (n : Int) < (s.size : Int)) = false := by simp; omega
          have hd20 : decide ((20 : Int) < (n : Int)) = decide (20 < n) := by rw [Bool.eq_iff_iff]; simp; omega
          have hF2 := HF2.out
          rw [hN, ← hfin.out] at hF2
          have HF3 := Lib.hid hF2
          clear hF2 HF2
          by_cases h20 : 20 < n
          · rw [decide_eq_true h20] at hd20
            have he := HF3.out
            rw [if_pos h20] at he
            simp only [Prod.mk.injEq] at he
            obtain ⟨rfl, rfl, rfl⟩ := he
            clear HF3
            go_wp2_with fail
            go_ret3
            exact ⟨rfl, Below.refl _ _⟩
          · rw [decide_eq_false h20] at hd20
            have he := HF3.out
            rw [if_neg h20] at he
            have HF4 := Lib.hid he
            clear he HF3
            have i5 : ((k : Int) + (n : Int)).toNat = k + n := by omega
            have i1 : (k : Int) ≤ (k : Int) + (n : Int) := by omega
            have i2 : (k : Int) + (n : Int) ≤ (s.size : Int) := by omega
            have hcut : tl (s.extract k (k + n)) = (c :: r).take n := by rw [ext_bs, tl_bs, Hx.out, show k + n - k = n from by omega]
            have Hcut := Lib.hid hcut
            clear hcut
            go_wp2_with fail
            refine (RefKept_any (s.extract k (k + n)) _).mono ?_
            rw [Hcut.out]
            rintro e w5 ⟨rfl, b5⟩
            by_cases hm : (c :: r).take n ∈ keptL
            · have he := HF4.out
              rw [if_pos hm] at he
              simp only [Prod.mk.injEq] at he
              obtain ⟨rfl, rfl, rfl⟩ := he
              rw [decide_eq_true hm]
              clear HF4 hm
              go_wp2_with fail
              go_ret3
              exact ⟨rfl, b5⟩
            · have he := HF4.out
              rw [if_neg hm] at he
              simp only [Prod.mk.injEq] at he
              obtain ⟨rfl, rfl, rfl⟩ := he
              rw [decide_eq_false hm]
              clear HF4 hm
              go_wp2_with fail
              go_ret3
              exact ⟨rfl, b5⟩
    | false =>
      have hF2 := hF.out
      rw [Hx.out, first_mark hb0.out hb9.out] at hF2
      have HF2 := Lib.hid hF2; clear hF2
      go_wp2_with fail
      refine (mark_any s k _ hs hk).mono ?_
      rw [Hx.out]
      rintro e w5 ⟨rfl, b5⟩
      have hml := HF2.out
      generalize markLen (c :: r) = m at hml
      by_cases hm : 0 < m
      · have hm0 : ((m : Int) == 0) = false := by rw [beq_eq_false_iff_ne]; omega
        rw [if_pos hm] at hml
        simp only [Prod.mk.injEq] at hml
        obtain ⟨rfl, rfl, rfl⟩ := hml
        go_wp2_with fail
        go_ret3
        exact ⟨rfl, b5⟩
      · obtain rfl : m = 0 := by omega
        rw [if_neg hm] at hml
        simp only [Prod.mk.injEq] at hml
        obtain ⟨rfl, rfl, rfl⟩ := hml
        go_wp2_with fail
        go_ret3
        exact ⟨rfl, b5⟩
end Go.Proofs.YtamhlobjolnlhaaDoor
