/-
  For the laws of fallback: three texts as one, of which each may not be there, by the document; how long marks are to be, by both. Condition: marker's table is as it is laid; texts of at most 1,999 bytes.
-/
import Derived.Test.YtbekbllffphfeaaGreatDoorFb
namespace Go.Proofs.YtbekbllffphfeaaGreatDoor
open Go.RowKit Go.Shelf
set_option linter.unusedSimpArgs false
set_option linter.unusedVariables false

theorem nz_true (s : ByteArray) : nz s true = s := rfl
theorem nz_false (s : ByteArray) : nz s false = ⟨#[]⟩ := rfl
theorem fileU_both (x0 x1 x2 : ByteArray) (p old : Bool) : fileU x0 x1 x2 p true true old = (bs (showS (linesP x0 x1 x2) old), true, clashI (linesP x0 x1 x2)) := rfl
theorem clash_no {l : List Pt} {k : Nat} {p : Pt} (h : l[k]? = some p) (h1 : clashP (l.take k) = false) (h2 : p.clash = false) : clashP (l.take (k + 1)) = false := by
  unfold clashP at h1 ⊢
  rw [List.take_add_one, h, List.any_append, h1]
  simp [h2]
set_option maxRecDepth 100000 in
set_option maxHeartbeats 4000000 in
theorem RefClash_any (v : Value) (L : List Pt) (w : World) (h : Prts w v L) : Calls Tryz.prog 24 #[v] w fun e w' => e = .returned (.bool (clashP L)) ∧ w' = w := by
  obtain ⟨a, cap, rfl, hc, hm, hx⟩ := prts_at h
  have HX := Lib.hid hx
  clear hx h
  unfold maxLen at hm
  obtain ⟨n, hn⟩ : ∃ n, Hid (L.length = n) := ⟨_, Lib.hid rfl⟩
  rw [hn.out] at hc ⊢
  go_enter Tryz.func24, Tryz.ntmps24
  go_wp2_with fail
  go_loop [3] (fun c => ∃ k : Nat, c = .int .i64 k ∧ k ≤ n ∧ Hid (clashP (L.take k) = false)) (fun c => n + 1 - (intOf c).toNat)
  case atStart => exact ⟨0, rfl, Nat.zero_le _, Lib.hid rfl⟩
  case round =>
    obtain ⟨k, rfl, hk, hP⟩ := hrel
    rcases Nat.lt_or_ge k n with hkn | hkn
    · obtain ⟨p, hp⟩ := get_lt (l := L) (k := k) (by rw [hn.out]; exact hkn)
      obtain ⟨b, off, rfl, e0, e1, e2, e3⟩ := HX.out w (Below.refl _ _) k p hp
      have d1 : decide (k < n) = true := decide_eq_true hkn
      have d2 : (0 : Int) ≤ (k : Int) := by omega
      have d3 : (k : Int) < (n : Int) := by omega
      have Hp := Lib.hid hp
      clear hp
      cases hcl : p.clash with
      | true =>
        rw [hcl] at e0
        have hall : Hid (clashP L = true) := Lib.hid (by unfold clashP; rw [List.any_eq_true]; exact ⟨p, List.mem_of_getElem? Hp.out, hcl⟩)
        go_wp2_with fail
        go_ret
        exact ⟨by rw [hall.out]; rfl, rfl⟩
      | false =>
        rw [hcl] at e0
        have hnx : Hid (clashP (L.take (k + 1)) = false) := Lib.hid (clash_no Hp.out hP.out hcl)
        go_wp2_with fail
        go_round
        case rel => exact ⟨k + 1, by go_num, by omega, hnx⟩
        case measure => simp [intOf]; omega
    · have d1 : decide (k < n) = false := decide_eq_false (by omega)
      have hall : Hid (clashP L = false) := Lib.hid (by have h := hP.out; rwa [List.take_of_length_le (by rw [hn.out]; exact hkn)] at h)
      go_wp2_with fail
      go_ret
      exact ⟨by rw [hall.out]; rfl, rfl⟩
theorem app_e (s : ByteArray) : s ++ (⟨#[]⟩ : ByteArray) = s := by
  rw [← bs_tl (s ++ _)]
  conv => rhs; rw [← bs_tl s]
  congr 1
  simp [tl]
theorem e_app (s : ByteArray) : (⟨#[]⟩ : ByteArray) ++ s = s := by
  rw [← bs_tl (_ ++ s)]
  conv => rhs; rw [← bs_tl s]
  congr 1
/-- A call of the reference's Show on parts of three texts. -/
theorem RefLinesOk (x0 x1 x2 : ByteArray) (h1 : x0.size ≤ 2599) (h2 : x1.size ≤ 2599) (h3 : x2.size ≤ 2599) (w : World) : Calls Tryz.prog 18 #[.string x0, .string x1, .string x2] w (Gives2 w (linesP x0 x1 x2)) := RefLines_any x0 x1 x2 w h1 h2 h3
set_option maxRecDepth 100000 in
set_option maxHeartbeats 16000000 in
theorem RefFile000 (s0 s1 s2 : ByteArray) (old : Bool) (w : World) (h1 : s0.size ≤ 2599) (h2 : s1.size ≤ 2599) (h3 : s2.size ≤ 2599) : Calls Tryz.prog 8 #[.string s0, .string s1, .string s2, .bool false, .bool false, .bool false, .bool old] w fun e w' => e = .returned (.tuple #[.string (fileP s0 s1 s2 false false false old).1, .bool (fileP s0 s1 s2 false false false old).2.1, .int .i64 (fileP s0 s1 s2 false false false old).2.2]) ∧ Below w.heap.size w w' := by
  obtain ⟨R, hR⟩ : ∃ R, Hid (fileP s0 s1 s2 false false false old = R) := ⟨_, Lib.hid rfl⟩
  have hP : Hid (R = fileU (⟨#[]⟩ : ByteArray) (⟨#[]⟩ : ByteArray) (⟨#[]⟩ : ByteArray) false false false old) := Lib.hid (by rw [← hR.out]; unfold fileP; simp only [nz_true, nz_false])
  rw [hR.out]
  clear hR
  have hP2 : Hid (R = (⟨#[]⟩, false, 0)) := Lib.hid hP.out
  rw [hP2.out]
  clear hP hP2
  go_enter Tryz.func8, Tryz.ntmps8
  go_wp2_with fail
  go_ret3
  exact ⟨rfl, Below.refl _ _⟩
set_option maxRecDepth 100000 in
set_option maxHeartbeats 16000000 in
theorem RefFile001 (s0 s1 s2 : ByteArray) (old : Bool) (w : World) (h1 : s0.size ≤ 2599) (h2 : s1.size ≤ 2599) (h3 : s2.size ≤ 2599) : Calls Tryz.prog 8 #[.string s0, .string s1, .string s2, .bool false, .bool false, .bool true, .bool old] w fun e w' => e = .returned (.tuple #[.string (fileP s0 s1 s2 false false true old).1, .bool (fileP s0 s1 s2 false false true old).2.1, .int .i64 (fileP s0 s1 s2 false false true old).2.2]) ∧ Below w.heap.size w w' := by
  obtain ⟨R, hR⟩ : ∃ R, Hid (fileP s0 s1 s2 false false true old = R) := ⟨_, Lib.hid rfl⟩
  have hP : Hid (R = fileU (⟨#[]⟩ : ByteArray) (⟨#[]⟩ : ByteArray) s2 false false true old) := Lib.hid (by rw [← hR.out]; unfold fileP; simp only [nz_true, nz_false])
  rw [hR.out]
  clear hR
  have hP2 : Hid (R = (s2, true, 0)) := Lib.hid hP.out
  rw [hP2.out]
  clear hP hP2
  have ap := e_app s2
  go_enter Tryz.func8, Tryz.ntmps8
  go_wp2_with fail
  go_ret3
  exact ⟨by simp [ap], Below.refl _ _⟩
set_option maxRecDepth 100000 in
set_option maxHeartbeats 16000000 in
theorem RefFile010 (s0 s1 s2 : ByteArray) (old : Bool) (w : World) (h1 : s0.size ≤ 2599) (h2 : s1.size ≤ 2599) (h3 : s2.size ≤ 2599) : Calls Tryz.prog 8 #[.string s0, .string s1, .string s2, .bool false, .bool true, .bool false, .bool old] w fun e w' => e = .returned (.tuple #[.string (fileP s0 s1 s2 false true false old).1, .bool (fileP s0 s1 s2 false true false old).2.1, .int .i64 (fileP s0 s1 s2 false true false old).2.2]) ∧ Below w.heap.size w w' := by
  obtain ⟨R, hR⟩ : ∃ R, Hid (fileP s0 s1 s2 false true false old = R) := ⟨_, Lib.hid rfl⟩
  have hP : Hid (R = fileU (⟨#[]⟩ : ByteArray) s1 (⟨#[]⟩ : ByteArray) false true false old) := Lib.hid (by rw [← hR.out]; unfold fileP; simp only [nz_true, nz_false])
  rw [hR.out]
  clear hR
  have hP2 : Hid (R = (s1, true, 0)) := Lib.hid hP.out
  rw [hP2.out]
  clear hP hP2
  have ap := app_e s1
  go_enter Tryz.func8, Tryz.ntmps8
  go_wp2_with fail
  go_ret3
  exact ⟨by simp [ap], Below.refl _ _⟩
set_option maxRecDepth 100000 in
set_option maxHeartbeats 16000000 in
theorem RefFile011 (s0 s1 s2 : ByteArray) (old : Bool) (w : World) (h1 : s0.size ≤ 2599) (h2 : s1.size ≤ 2599) (h3 : s2.size ≤ 2599) : Calls Tryz.prog 8 #[.string s0, .string s1, .string s2, .bool false, .bool true, .bool true, .bool old] w fun e w' => e = .returned (.tuple #[.string (fileP s0 s1 s2 false true true old).1, .bool (fileP s0 s1 s2 false true true old).2.1, .int .i64 (fileP s0 s1 s2 false true true old).2.2]) ∧ Below w.heap.size w w' := by
  obtain ⟨R, hR⟩ : ∃ R, Hid (fileP s0 s1 s2 false true true old = R) := ⟨_, Lib.hid rfl⟩
  have hP : Hid (R = fileU (⟨#[]⟩ : ByteArray) s1 s2 false true true old) := Lib.hid (by rw [← hR.out]; unfold fileP; simp only [nz_true, nz_false])
  rw [hR.out]
  clear hR
  have Z : (⟨#[]⟩ : ByteArray).size ≤ 2599 := Nat.zero_le _
  have CL := Lib.hid (fun W => RefLines_any (⟨#[]⟩ : ByteArray) s1 s2 W Z h2 h3)
  obtain ⟨k1, k2, -⟩ := linesOk (⟨#[]⟩ : ByteArray) s1 s2 Z h2 h3
  have K2 := Lib.hid k2
  obtain ⟨L, hL⟩ : ∃ L, linesP (⟨#[]⟩ : ByteArray) s1 s2 = L := ⟨_, rfl⟩
  have hP2 : Hid (R = (bs (showS (linesP (⟨#[]⟩ : ByteArray) s1 s2) old), true, clashI (linesP (⟨#[]⟩ : ByteArray) s1 s2))) := Lib.hid (hP.out.trans (fileU_both _ _ _ _ _))
  rw [hL] at CL K2 k1 hP2
  rw [hP2.out]
  clear k2 hL hP hP2 h1 h2 h3 Z
  obtain ⟨n, hn⟩ : ∃ n, Hid (L.length = n) := ⟨_, Lib.hid rfl⟩
  go_enter Tryz.func8, Tryz.ntmps8
  go_wp2_with fail
  refine (CL.out w).mono ?_
  rintro e w2 ⟨v, rfl, hv, b2⟩
  have B2 := Lib.hid b2
  have CS := Lib.hid (RefShowF_any v L old k1 K2.out w2 hv)
  have CJ := Lib.hid (fun W (hB : Below w2.heap.size w2 W) => RefClash_any v L W (hv.below hB))
  obtain ⟨a, c, rfl, -⟩ := hv
  rw [hn.out] at CS CJ ⊢
  clear b2 CL K2 k1
  go_wp2_with fail
  refine CS.out.mono ?_
  rintro e w3 ⟨rfl, b3⟩
  have B3 := Lib.hid b3
  clear b3 CS
  go_wp2_with fail
  refine (CJ.out w3 B3.out).mono ?_
  rintro e w4 ⟨rfl, rfl⟩
  have B4 := Lib.hid (B2.out.trans (B3.out.mono B2.out.size))
  clear CJ
  cases hc : clashP L with
  | true =>
    have e2 : Hid (clashI L = 1) := Lib.hid (by unfold clashI; rw [if_pos hc])
    clear hc
    go_wp2_with fail
    go_ret3
    exact ⟨by rw [e2.out]; rfl, B4.out⟩
  | false =>
    have e2 : Hid (clashI L = 0) := Lib.hid (by unfold clashI; rw [if_neg (by rw [hc]; decide)])
    clear hc
    go_wp2_with fail
    go_ret3
    exact ⟨by rw [e2.out]; rfl, B4.out⟩
set_option maxRecDepth 100000 in
set_option maxHeartbeats 16000000 in
theorem RefFile100 (s0 s1 s2 : ByteArray) (old : Bool) (w : World) (h1 : s0.size ≤ 2599) (h2 : s1.size ≤ 2599) (h3 : s2.size ≤ 2599) : Calls Tryz.prog 8 #[.string s0, .string s1, .string s2, .bool true, .bool false, .bool false, .bool old] w fun e w' => e = .returned (.tuple #[.string (fileP s0 s1 s2 true false false old).1, .bool (fileP s0 s1 s2 true false false old).2.1, .int .i64 (fileP s0 s1 s2 true false false old).2.2]) ∧ Below w.heap.size w w' := by
  obtain ⟨R, hR⟩ : ∃ R, Hid (fileP s0 s1 s2 true false false old = R) := ⟨_, Lib.hid rfl⟩
  have hP : Hid (R = fileU s0 (⟨#[]⟩ : ByteArray) (⟨#[]⟩ : ByteArray) true false false old) := Lib.hid (by rw [← hR.out]; unfold fileP; simp only [nz_true, nz_false])
  rw [hR.out]
  clear hR
  have hP2 : Hid (R = (⟨#[]⟩, false, 0)) := Lib.hid hP.out
  rw [hP2.out]
  clear hP hP2
  go_enter Tryz.func8, Tryz.ntmps8
  go_wp2_with fail
  go_ret3
  exact ⟨rfl, Below.refl _ _⟩
set_option maxRecDepth 100000 in
set_option maxHeartbeats 16000000 in
theorem RefFile101 (s0 s1 s2 : ByteArray) (old : Bool) (w : World) (h1 : s0.size ≤ 2599) (h2 : s1.size ≤ 2599) (h3 : s2.size ≤ 2599) : Calls Tryz.prog 8 #[.string s0, .string s1, .string s2, .bool true, .bool false, .bool true, .bool old] w fun e w' => e = .returned (.tuple #[.string (fileP s0 s1 s2 true false true old).1, .bool (fileP s0 s1 s2 true false true old).2.1, .int .i64 (fileP s0 s1 s2 true false true old).2.2]) ∧ Below w.heap.size w w' := by
  obtain ⟨R, hR⟩ : ∃ R, Hid (fileP s0 s1 s2 true false true old = R) := ⟨_, Lib.hid rfl⟩
  have hP : Hid (R = fileU s0 (⟨#[]⟩ : ByteArray) s2 true false true old) := Lib.hid (by rw [← hR.out]; unfold fileP; simp only [nz_true, nz_false])
  rw [hR.out]
  clear hR
  have ap := e_app s2
  have Z : (⟨#[]⟩ : ByteArray).size ≤ 2599 := Nat.zero_le _
  have CS := Lib.hid (fun W (hv : Prts W (.slice (some ⟨w.heap.size, 0, none⟩) 1 1) [⟨true, tl s0, tl (⟨#[]⟩ : ByteArray), tl s2⟩]) => RefShowF_any _ [⟨true, tl s0, tl (⟨#[]⟩ : ByteArray), tl s2⟩] old (by show 1 ≤ 20000; omega) (by
    intro p hp
    rw [List.mem_singleton] at hp
    subst hp
    have k1 : (tl s0).length = s0.size := by simp [tl]
    have k2 : (tl s2).length = s2.size := by simp [tl]
    have k3 : (tl (⟨#[]⟩ : ByteArray)).length = 0 := rfl
    refine ⟨?_, ?_, ?_⟩
    · show (tl s0).length ≤ _; omega
    · show (tl (⟨#[]⟩ : ByteArray)).length ≤ _; omega
    · show (tl s2).length ≤ _; omega) W hv)
  by_cases he : s2 = s0
  · have hP2 : Hid (R = (⟨#[]⟩, false, 0)) := Lib.hid (by rw [hP.out]; unfold fileU; simp [he])
    have g1 : (s2.toList == s0.toList) = true := by rw [eqB, decide_eq_true he]
    have g2 : (((⟨#[]⟩ : ByteArray) ++ s2).toList == s0.toList) = true := by rw [ap]; exact g1
    rw [hP2.out]
    clear hP hP2 he CS
    go_enter Tryz.func8, Tryz.ntmps8
    go_wp2_with fail
    go_ret3
    exact ⟨rfl, Below.refl _ _⟩
  · have hP2 : Hid (R = (bs (showS [⟨true, tl s0, tl (⟨#[]⟩ : ByteArray), tl s2⟩] old), true, 3)) := Lib.hid (by rw [hP.out]; unfold fileU; simp [he])
    have g1 : (s2.toList == s0.toList) = false := by rw [eqB, decide_eq_false he]
    have g2 : (((⟨#[]⟩ : ByteArray) ++ s2).toList == s0.toList) = false := by rw [ap]; exact g1
    rw [hP2.out]
    clear hP hP2 he
    go_enter Tryz.func8, Tryz.ntmps8
    go_wp2_with fail
    refine calls_gen (fun W => Below w.heap.size w W ∧ RowAt W w.heap.size 53 #[.bool true, .string s0, .string (⟨#[]⟩ : ByteArray), .string s2]) ⟨(Below.refl _ _).alloc (Nat.le_refl _) _, row_new rfl⟩ ?_
    rintro W3 ⟨b3, r3⟩
    refine (CS.out W3 (kprts_one r3)).mono ?_
    rintro e w4 ⟨rfl, b4⟩
    have B4 := Lib.hid (b3.trans (b4.mono b3.size))
    clear b3 r3 b4 CS
    go_wp2_with fail
    go_ret3
    exact ⟨rfl, B4.out⟩
set_option maxRecDepth 100000 in
set_option maxHeartbeats 16000000 in
theorem RefFile110 (s0 s1 s2 : ByteArray) (old : Bool) (w : World) (h1 : s0.size ≤ 2599) (h2 : s1.size ≤ 2599) (h3 : s2.size ≤ 2599) : Calls Tryz.prog 8 #[.string s0, .string s1, .string s2, .bool true, .bool true, .bool false, .bool old] w fun e w' => e = .returned (.tuple #[.string (fileP s0 s1 s2 true true false old).1, .bool (fileP s0 s1 s2 true true false old).2.1, .int .i64 (fileP s0 s1 s2 true true false old).2.2]) ∧ Below w.heap.size w w' := by
  obtain ⟨R, hR⟩ : ∃ R, Hid (fileP s0 s1 s2 true true false old = R) := ⟨_, Lib.hid rfl⟩
  have hP : Hid (R = fileU s0 s1 (⟨#[]⟩ : ByteArray) true true false old) := Lib.hid (by rw [← hR.out]; unfold fileP; simp only [nz_true, nz_false])
  rw [hR.out]
  clear hR
  have ap := app_e s1
  have Z : (⟨#[]⟩ : ByteArray).size ≤ 2599 := Nat.zero_le _
  have CS := Lib.hid (fun W (hv : Prts W (.slice (some ⟨w.heap.size, 0, none⟩) 1 1) [⟨true, tl s0, tl s1, tl (⟨#[]⟩ : ByteArray)⟩]) => RefShowF_any _ [⟨true, tl s0, tl s1, tl (⟨#[]⟩ : ByteArray)⟩] old (by show 1 ≤ 20000; omega) (by
    intro p hp
    rw [List.mem_singleton] at hp
    subst hp
    have k1 : (tl s0).length = s0.size := by simp [tl]
    have k2 : (tl s1).length = s1.size := by simp [tl]
    have k3 : (tl (⟨#[]⟩ : ByteArray)).length = 0 := rfl
    refine ⟨?_, ?_, ?_⟩
    · show (tl s0).length ≤ _; omega
    · show (tl s1).length ≤ _; omega
    · show (tl (⟨#[]⟩ : ByteArray)).length ≤ _; omega) W hv)
  by_cases he : s1 = s0
  · have hP2 : Hid (R = (⟨#[]⟩, false, 0)) := Lib.hid (by rw [hP.out]; unfold fileU; simp [he])
    have g1 : (s1.toList == s0.toList) = true := by rw [eqB, decide_eq_true he]
    have g2 : ((s1 ++ (⟨#[]⟩ : ByteArray)).toList == s0.toList) = true := by rw [ap]; exact g1
    rw [hP2.out]
    clear hP hP2 he CS
    go_enter Tryz.func8, Tryz.ntmps8
    go_wp2_with fail
    go_ret3
    exact ⟨rfl, Below.refl _ _⟩
  · have hP2 : Hid (R = (bs (showS [⟨true, tl s0, tl s1, tl (⟨#[]⟩ : ByteArray)⟩] old), true, 3)) := Lib.hid (by rw [hP.out]; unfold fileU; simp [he])
    have g1 : (s1.toList == s0.toList) = false := by rw [eqB, decide_eq_false he]
    have g2 : ((s1 ++ (⟨#[]⟩ : ByteArray)).toList == s0.toList) = false := by rw [ap]; exact g1
    rw [hP2.out]
    clear hP hP2 he
    go_enter Tryz.func8, Tryz.ntmps8
    go_wp2_with fail
    refine calls_gen (fun W => Below w.heap.size w W ∧ RowAt W w.heap.size 53 #[.bool true, .string s0, .string s1, .string (⟨#[]⟩ : ByteArray)]) ⟨(Below.refl _ _).alloc (Nat.le_refl _) _, row_new rfl⟩ ?_
    rintro W3 ⟨b3, r3⟩
    refine (CS.out W3 (kprts_one r3)).mono ?_
    rintro e w4 ⟨rfl, b4⟩
    have B4 := Lib.hid (b3.trans (b4.mono b3.size))
    clear b3 r3 b4 CS
    go_wp2_with fail
    go_ret3
    exact ⟨rfl, B4.out⟩
set_option maxRecDepth 100000 in
set_option maxHeartbeats 16000000 in
theorem RefFile111 (s0 s1 s2 : ByteArray) (old : Bool) (w : World) (h1 : s0.size ≤ 2599) (h2 : s1.size ≤ 2599) (h3 : s2.size ≤ 2599) : Calls Tryz.prog 8 #[.string s0, .string s1, .string s2, .bool true, .bool true, .bool true, .bool old] w fun e w' => e = .returned (.tuple #[.string (fileP s0 s1 s2 true true true old).1, .bool (fileP s0 s1 s2 true true true old).2.1, .int .i64 (fileP s0 s1 s2 true true true old).2.2]) ∧ Below w.heap.size w w' := by
  obtain ⟨R, hR⟩ : ∃ R, Hid (fileP s0 s1 s2 true true true old = R) := ⟨_, Lib.hid rfl⟩
  have hP : Hid (R = fileU s0 s1 s2 true true true old) := Lib.hid (by rw [← hR.out]; unfold fileP; simp only [nz_true, nz_false])
  rw [hR.out]
  clear hR
  have Z : (⟨#[]⟩ : ByteArray).size ≤ 2599 := Nat.zero_le _
  have CL := Lib.hid (fun W => RefLines_any s0 s1 s2 W h1 h2 h3)
  obtain ⟨k1, k2, -⟩ := linesOk s0 s1 s2 h1 h2 h3
  have K2 := Lib.hid k2
  obtain ⟨L, hL⟩ : ∃ L, linesP s0 s1 s2 = L := ⟨_, rfl⟩
  have hP2 : Hid (R = (bs (showS (linesP s0 s1 s2) old), true, clashI (linesP s0 s1 s2))) := Lib.hid (hP.out.trans (fileU_both _ _ _ _ _))
  rw [hL] at CL K2 k1 hP2
  rw [hP2.out]
  clear k2 hL hP hP2 h1 h2 h3 Z
  obtain ⟨n, hn⟩ : ∃ n, Hid (L.length = n) := ⟨_, Lib.hid rfl⟩
  go_enter Tryz.func8, Tryz.ntmps8
  go_wp2_with fail
  refine (CL.out w).mono ?_
  rintro e w2 ⟨v, rfl, hv, b2⟩
  have B2 := Lib.hid b2
  have CS := Lib.hid (RefShowF_any v L old k1 K2.out w2 hv)
  have CJ := Lib.hid (fun W (hB : Below w2.heap.size w2 W) => RefClash_any v L W (hv.below hB))
  obtain ⟨a, c, rfl, -⟩ := hv
  rw [hn.out] at CS CJ ⊢
  clear b2 CL K2 k1
  go_wp2_with fail
  refine CS.out.mono ?_
  rintro e w3 ⟨rfl, b3⟩
  have B3 := Lib.hid b3
  clear b3 CS
  go_wp2_with fail
  refine (CJ.out w3 B3.out).mono ?_
  rintro e w4 ⟨rfl, rfl⟩
  have B4 := Lib.hid (B2.out.trans (B3.out.mono B2.out.size))
  clear CJ
  cases hc : clashP L with
  | true =>
    have e2 : Hid (clashI L = 1) := Lib.hid (by unfold clashI; rw [if_pos hc])
    clear hc
    go_wp2_with fail
    go_ret3
    exact ⟨by rw [e2.out]; rfl, B4.out⟩
  | false =>
    have e2 : Hid (clashI L = 0) := Lib.hid (by unfold clashI; rw [if_neg (by rw [hc]; decide)])
    clear hc
    go_wp2_with fail
    go_ret3
    exact ⟨by rw [e2.out]; rfl, B4.out⟩
theorem RefFile_any (s0 s1 s2 : ByteArray) (p q r old : Bool) (w : World) (h1 : s0.size ≤ 2599) (h2 : s1.size ≤ 2599) (h3 : s2.size ≤ 2599) : Calls Tryz.prog 8 #[.string s0, .string s1, .string s2, .bool p, .bool q, .bool r, .bool old] w fun e w' => e = .returned (.tuple #[.string (fileP s0 s1 s2 p q r old).1, .bool (fileP s0 s1 s2 p q r old).2.1, .int .i64 (fileP s0 s1 s2 p q r old).2.2]) ∧ Below w.heap.size w w' := by
  cases p <;> cases q <;> cases r
  · exact RefFile000 s0 s1 s2 old w h1 h2 h3
  · exact RefFile001 s0 s1 s2 old w h1 h2 h3
  · exact RefFile010 s0 s1 s2 old w h1 h2 h3
  · exact RefFile011 s0 s1 s2 old w h1 h2 h3
  · exact RefFile100 s0 s1 s2 old w h1 h2 h3
  · exact RefFile101 s0 s1 s2 old w h1 h2 h3
  · exact RefFile110 s0 s1 s2 old w h1 h2 h3
  · exact RefFile111 s0 s1 s2 old w h1 h2 h3
end Go.Proofs.YtbekbllffphfeaaGreatDoor
