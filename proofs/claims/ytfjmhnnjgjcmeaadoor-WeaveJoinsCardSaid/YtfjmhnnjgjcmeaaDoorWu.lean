/-
  For the laws of weave: WeaveJoins returns true. Condition: the lexer's world.
-/
import Derived.Test.YtfjmhnnjgjcmeaaDoorWt
import Derived.Test.YtfjmhnnjgjcmeaaDoorWb
import Derived.Deep.QuietTactic
import Derived.BigQuiet
namespace Go.Proofs.YtfjmhnnjgjcmeaaDoor
open Go.RowKit Go.Shelf
set_option linter.unusedSimpArgs false
set_option linter.unusedVariables false

theorem few_okS {p : Pt} (h : fewB (bs p.o) (bs p.a) (bs p.b) = true) : okS p := by
  obtain ⟨h1, h2, h3⟩ := few_sizes h
  rw [bs_size] at h1 h2 h3
  exact ⟨by omega, by omega, by omega⟩
set_option maxRecDepth 100000 in
set_option maxHeartbeats 8000000 in
theorem weaveJoins_any (v : Value) (L : List Pt) (m : Int) (w : World) (hv : Prts w v L) (hW : X.LexW w) : Calls Tryd.prog 3 #[v, .int .i64 m] w fun e w' => e = .returned (.bool true) ∧ Below w.heap.size w w' := by
  have hs : 4 ≤ w.heap.size := hW.size
  have CA := Lib.hid (awake_any w hW hs)
  have HV := Lib.hid hv
  obtain ⟨a, cap, rfl, hc, hm, hx⟩ := prts_at hv
  have HX := Lib.hid hx
  clear hx hv
  unfold maxLen at hm
  obtain ⟨n, hn⟩ : ∃ n, Hid (L.length = n) := ⟨_, Lib.hid rfl⟩
  rw [hn.out] at hc HV ⊢
  rcases Nat.lt_or_ge 50 n with hbig | hsm
  · have d0 : decide ((n : Int) > 50) = true := decide_eq_true (by omega)
    go_enter Tryd.func3, Tryd.ntmps3
    go_wp2_with fail
    refine CA.out.mono ?_
    rintro e w1 ⟨rfl, b1⟩
    have B1 := Lib.hid b1
    clear b1
    go_wp2_with fail
    go_ret
    exact ⟨rfl, B1.out⟩
  · have d0 : decide ((n : Int) > 50) = false := decide_eq_false (by omega)
    go_enter Tryd.func3, Tryd.ntmps3
    go_wp2_with fail
    refine CA.out.mono ?_
    rintro e w1 ⟨rfl, b1⟩
    have B1 := Lib.hid b1
    clear b1
    go_wp2_with fail
    go_loopw [6] (fun c wr => ∃ k : Nat, c = .int .i64 k ∧ k ≤ n ∧ Hid (∀ p ∈ L.take k, okS p) ∧ Hid (Below w.heap.size w wr)) (fun c _ => n + 1 - (intOf c).toNat)
    case atStart => exact ⟨0, rfl, Nat.zero_le _, Lib.hid (by simp), B1⟩
    case round =>
      obtain ⟨k, rfl, hk, hP, hB⟩ := hrel
      rcases Nat.lt_or_ge k n with hkn | hkn
      · obtain ⟨p, hp⟩ := get_lt (l := L) (k := k) (by rw [hn.out]; exact hkn)
        obtain ⟨b, off, rfl, e0, e1, e2, e3⟩ := HX.out wr hB.out k p hp
        have d1 : decide ((k : Int) < (n : Int)) = true := decide_eq_true (by omega)
        have d2 : (0 : Int) ≤ (k : Int) := by omega
        have d3 : (k : Int) < (n : Int) := by omega
        have Hp := Lib.hid hp
        clear hp e0
        have hnx : Hid (fewB (bs p.o) (bs p.a) (bs p.b) = true → ∀ q ∈ L.take (k + 1), okS q) := Lib.hid (fun hf q hq => by
          rw [List.take_add_one, Hp.out] at hq
          rcases List.mem_append.1 hq with hq | hq
          · exact hP.out q hq
          · obtain rfl : q = p := by simpa using hq
            exact few_okS hf)
        have CF := Lib.hid (fun W => few_any (bs p.o) (bs p.a) (bs p.b) W)
        obtain ⟨cb, hcb⟩ : ∃ cb, Hid (fewB (bs p.o) (bs p.a) (bs p.b) = cb) := ⟨_, Lib.hid rfl⟩
        rw [hcb.out] at CF hnx
        go_wp2_with fail
        go_quiet ((go_at_call 7; exact Calls.quiet_of_same (CF.out _)))
        cases cb with
        | false =>
          go_wp2_with fail
          go_ret
          exact ⟨rfl, below_draws hB.out nq⟩
        | true =>
          go_wp2_with fail
          exact ⟨⟨k + 1, by go_num, by omega, Lib.hid (hnx.out rfl), Lib.hid (below_draws hB.out nq)⟩, by simp [intOf]; omega⟩
      · have d1 : decide ((k : Int) < (n : Int)) = false := decide_eq_false (by omega)
        have hok : Hid (∀ p ∈ L, okS p) := Lib.hid (by have h1 := hP.out; rwa [List.take_of_length_le (by rw [hn.out]; exact hkn)] at h1)
        have hL : L.length ≤ 100000 := by rw [hn.out]; omega
        have hv1 : Hid (Prts wr (.slice a n cap) L) := Lib.hid (HV.out.below hB.out)
        have CJ := Lib.hid (Join_any _ L hL hok.out wr hv1.out)
        have CR := Lib.hid (fun W (h : Below wr.heap.size wr W) => RefJoin_any _ L hL hok.out W (hv1.out.below h))
        have CS := Lib.hid (fun W (h : Below wr.heap.size wr W) => Side_any _ L m hL hok.out W (hv1.out.below h))
        have CT := Lib.hid (fun W (h : Below wr.heap.size wr W) => RefSide_any _ L m hL hok.out W (hv1.out.below h))
        obtain ⟨⟨J, j⟩, hJ⟩ : ∃ J, Hid (joinP L = J) := ⟨_, Lib.hid rfl⟩
        obtain ⟨S, hS⟩ : ∃ S, Hid (sideP L m = S) := ⟨_, Lib.hid rfl⟩
        rw [hJ.out] at CJ CR
        rw [hS.out] at CS CT
        dsimp only at CJ CR
        have q1 : ((bs J).toList == (bs J).toList) = true := yes _
        have q2 : ((bs S).toList == (bs S).toList) = true := yes _
        have q3 : (j == j) = true := beq_self_eq_true j
        go_wp2_with fail
        refine CJ.out.mono ?_
        rintro e w2 ⟨rfl, b2⟩
        have B2 := Lib.hid b2
        clear b2
        go_wp2_with fail
        refine (CR.out _ B2.out).mono ?_
        rintro e w3 ⟨rfl, b3⟩
        have B3 := Lib.hid (B2.out.trans (b3.mono B2.out.size))
        clear b3
        go_wp2_with fail
        refine (CS.out _ B3.out).mono ?_
        rintro e w4 ⟨rfl, b4⟩
        have B4 := Lib.hid (B3.out.trans (b4.mono B3.out.size))
        clear b4
        go_wp2_with fail
        refine (CT.out _ B4.out).mono ?_
        rintro e w5 ⟨rfl, b5⟩
        have B5 := Lib.hid (B4.out.trans (b5.mono B4.out.size))
        clear b5
        go_wp2_with fail
        go_ret
        exact ⟨rfl, hB.out.trans (B5.out.mono hB.out.size)⟩
end Go.Proofs.YtfjmhnnjgjcmeaaDoor
