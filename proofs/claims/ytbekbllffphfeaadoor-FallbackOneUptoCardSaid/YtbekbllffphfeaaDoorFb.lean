/-
  For the laws of fallback: three texts as one, of which each may not be there, by the program. Condition: marker's table is as it is laid; texts of at most 1,999 bytes.
-/
import Derived.Test.YtbekbllffphfeaaDoorFa
namespace Go.Proofs.YtbekbllffphfeaaDoor
open Go.RowKit Go.Shelf
set_option linter.unusedSimpArgs false
set_option linter.unusedVariables false

/-- What a round of the loop over the three texts leaves. -/
def txR (s0 s1 s2 : ByteArray) (p q r : Bool) : Nat → Array Value
  | 0 => #[.string s0, .string s1, .string s2]
  | 1 => #[.string (nz s0 p), .string s1, .string s2]
  | 2 => #[.string (nz s0 p), .string (nz s1 q), .string s2]
  | _ => #[.string (nz s0 p), .string (nz s1 q), .string (nz s2 r)]
theorem kprts_one {W : World} {b : Nat} {x y z : ByteArray} (h : RowAt W b 52 #[.bool true, .string x, .string y, .string z]) : Prts W (.slice (some ⟨b, 0, none⟩) 1 1) [⟨true, tl x, tl y, tl z⟩] :=
  prts_of_k (K.prts_one (x := ⟨true, tl x, tl y, tl z⟩) (t := 52) (by show W.heap[b]? = _; rw [show K.bs (tl x) = x from bs_tl x, show K.bs (tl y) = y from bs_tl y, show K.bs (tl z) = z from bs_tl z]; exact h))
set_option maxRecDepth 100000 in
set_option maxHeartbeats 16000000 in
theorem File_any (s0 s1 s2 : ByteArray) (p q r old : Bool) (w : World) (hW : K.MkW w) (h1 : s0.size ≤ 2599) (h2 : s1.size ≤ 2599) (h3 : s2.size ≤ 2599) : Calls Tryd.prog 9 #[.string s0, .string s1, .string s2, .agg #[.bool p, .bool q, .bool r], .bool old] w fun e w' => e = .returned (.tuple #[.string (fileP s0 s1 s2 p q r old).1, .bool (fileP s0 s1 s2 p q r old).2.1, .int .i64 (fileP s0 s1 s2 p q r old).2.2]) ∧ Below w.heap.size w w' := by
  have HW := Lib.hid hW
  have hs := hW.size
  have n1 := Lib.hid (nz_le (t := p) h1)
  have n2 := Lib.hid (nz_le (t := q) h2)
  have n3 := Lib.hid (nz_le (t := r) h3)
  obtain ⟨R, hR⟩ : ∃ R, Hid (fileP s0 s1 s2 p q r old = R) := ⟨_, Lib.hid rfl⟩
  rw [hR.out]
  clear hW h1 h2 h3
  go_enter Tryd.func9, Tryd.ntmps9
  go_wp2_with fail
  obtain ⟨W2, hW2⟩ : ∃ W2, Hid ((w.alloc (.cells #[.bool p, .bool q, .bool r] 32)).alloc (.cells #[.string s0, .string s1, .string s2] 35) = W2) := ⟨_, Lib.hid rfl⟩
  have T1 : Hid (RowAt W2 w.heap.size 32 #[.bool p, .bool q, .bool r]) := Lib.hid (by rw [← hW2.out]; exact (RowAt.new w 32 _).alloc _)
  have T2 : Hid (RowAt W2 (w.heap.size + 1) 35 (txR s0 s1 s2 p q r 0)) := Lib.hid (by rw [← hW2.out]; exact row_new (by simp))
  have B2 : Hid (Below w.heap.size w W2) := Lib.hid (by rw [← hW2.out]; exact ((Below.refl _ w).alloc (Nat.le_refl _) _).alloc (by simp) _)
  rw [hW2.out]
  go_loopw [22] (fun i wr => ∃ j : Nat, j ≤ 3 ∧ i = .int .i64 j ∧ Hid (RowAt wr w.heap.size 32 #[.bool p, .bool q, .bool r]) ∧ Hid (RowAt wr (w.heap.size + 1) 35 (txR s0 s1 s2 p q r j)) ∧ Hid (Below w.heap.size w wr)) (fun i _ => 3 - (intOf i).toNat)
  case atStart => exact ⟨0, Nat.zero_le _, rfl, T1, T2, B2⟩
  case round =>
    obtain ⟨j, hj, rfl, t1, t2, bw⟩ := hrel
    clear T1 T2 B2 hW2
    obtain rfl | rfl | rfl | rfl : j = 0 ∨ j = 1 ∨ j = 2 ∨ j = 3 := by omega
    · have e0 : wr.cell? ⟨w.heap.size, 0, none⟩ = some (.bool p) := t1.out.cell rfl
      have u0 : wr.cell? ⟨w.heap.size + 1, 0, none⟩ = some (.string s0) := t2.out.cell rfl
      have v0 : wr.frozen? ⟨w.heap.size + 1, 0, none⟩ = false := t2.out.frozen _
      cases p with
      | true =>
        go_wp2_with fail
        exact ⟨⟨1, by omega, rfl, t1, t2, bw⟩, by simp [intOf]⟩
      | false =>
        go_wp2_with fail
        exact ⟨⟨1, by omega, rfl, Lib.hid (t1.out.other (by omega) _ _), Lib.hid (t2.out.set 0 _), Lib.hid (bw.out.setCell (p := ⟨w.heap.size + 1, 0, none⟩) (Nat.le_succ _) _)⟩, by simp [intOf]⟩
    · have e0 : wr.cell? ⟨w.heap.size, 1, none⟩ = some (.bool q) := t1.out.cell rfl
      have u0 : wr.cell? ⟨w.heap.size + 1, 1, none⟩ = some (.string s1) := t2.out.cell rfl
      have v0 : wr.frozen? ⟨w.heap.size + 1, 1, none⟩ = false := t2.out.frozen _
      cases q with
      | true =>
        go_wp2_with fail
        exact ⟨⟨2, by omega, rfl, t1, t2, bw⟩, by simp [intOf]⟩
      | false =>
        go_wp2_with fail
        exact ⟨⟨2, by omega, rfl, Lib.hid (t1.out.other (by omega) _ _), Lib.hid (t2.out.set 1 _), Lib.hid (bw.out.setCell (p := ⟨w.heap.size + 1, 1, none⟩) (Nat.le_succ _) _)⟩, by simp [intOf]⟩
    · have e0 : wr.cell? ⟨w.heap.size, 2, none⟩ = some (.bool r) := t1.out.cell rfl
      have u0 : wr.cell? ⟨w.heap.size + 1, 2, none⟩ = some (.string s2) := t2.out.cell rfl
      have v0 : wr.frozen? ⟨w.heap.size + 1, 2, none⟩ = false := t2.out.frozen _
      cases r with
      | true =>
        go_wp2_with fail
        exact ⟨⟨3, by omega, rfl, t1, t2, bw⟩, by simp [intOf]⟩
      | false =>
        go_wp2_with fail
        exact ⟨⟨3, by omega, rfl, Lib.hid (t1.out.other (by omega) _ _), Lib.hid (t2.out.set 2 _), Lib.hid (bw.out.setCell (p := ⟨w.heap.size + 1, 2, none⟩) (Nat.le_succ _) _)⟩, by simp [intOf]⟩
    · have hP : Hid (R = fileU (nz s0 p) (nz s1 q) (nz s2 r) p q r old) := Lib.hid hR.out.symm
      have t2 : Hid (RowAt wr (w.heap.size + 1) 35 #[.string (nz s0 p), .string (nz s1 q), .string (nz s2 r)]) := t2
      obtain ⟨x0, hx0⟩ : ∃ x, nz s0 p = x := ⟨_, rfl⟩
      obtain ⟨x1, hx1⟩ : ∃ x, nz s1 q = x := ⟨_, rfl⟩
      obtain ⟨x2, hx2⟩ : ∃ x, nz s2 r = x := ⟨_, rfl⟩
      rw [hx0] at n1 hP t2
      rw [hx1] at n2 hP t2
      rw [hx2] at n3 hP t2
      clear hx0 hx1 hx2 hR hj
      have e0 : wr.cell? ⟨w.heap.size, 0, none⟩ = some (.bool p) := t1.out.cell rfl
      have e1 : wr.cell? ⟨w.heap.size, 1, none⟩ = some (.bool q) := t1.out.cell rfl
      have e2 : wr.cell? ⟨w.heap.size, 2, none⟩ = some (.bool r) := t1.out.cell rfl
      have y0 : wr.cell? ⟨w.heap.size + 1, 0, none⟩ = some (.string x0) := t2.out.cell rfl
      have y1 : wr.cell? ⟨w.heap.size + 1, 1, none⟩ = some (.string x1) := t2.out.cell rfl
      have y2 : wr.cell? ⟨w.heap.size + 1, 2, none⟩ = some (.string x2) := t2.out.cell rfl
      have CW := Lib.hid (wovenF_any x0 x1 x2 old wr (HW.out.below bw.out hs) n1.out n2.out n3.out)
      have CS := Lib.hid (fun W (hB : Below wr.heap.size wr W) (hv : Prts W (.slice (some ⟨wr.heap.size, 0, none⟩) 1 1) [⟨true, tl x0, tl x1, tl x2⟩]) => ShowF_any _ [⟨true, tl x0, tl x1, tl x2⟩] old (by show 1 ≤ 20000; omega) (by
        intro p hp
        rw [List.mem_singleton] at hp
        subst hp
        have g1 := n1.out
        have g2 := n2.out
        have g3 := n3.out
        have k1 : (tl x0).length = x0.size := by simp [tl]
        have k2 : (tl x1).length = x1.size := by simp [tl]
        have k3 : (tl x2).length = x2.size := by simp [tl]
        refine ⟨?_, ?_, ?_⟩
        · show (tl x0).length ≤ _; omega
        · show (tl x1).length ≤ _; omega
        · show (tl x2).length ≤ _; omega) W (HW.out.below (bw.out.trans (hB.mono bw.out.size)) hs) hv)
      have hws := bw.out.size
      clear t1 t2 n1 n2 n3
      cases q with
      | true =>
        cases r with
        | true =>
          have hP2 : Hid (R = (bs (showS (linesP x0 x1 x2) old), true, clashI (linesP x0 x1 x2))) := Lib.hid hP.out
          clear hP CS
          go_wp2_with fail
          refine CW.out.mono ?_
          rintro e w3 ⟨rfl, b3⟩
          have B3 := Lib.hid (bw.out.trans (b3.mono bw.out.size))
          clear b3
          go_wp2_with fail
          go_ret3
          exact ⟨by rw [hP2.out]; rfl, B3.out⟩
        | false =>
          clear CW
          cases p with
          | false =>
            have hP2 : Hid (R = (x1, true, 0)) := Lib.hid hP.out
            clear hP CS
            go_wp2_with fail
            go_ret3
            exact ⟨by rw [hP2.out]; rfl, bw.out⟩
          | true =>
            by_cases he : x1 = x0
            · have hP2 : Hid (R = (⟨#[]⟩, false, 0)) := Lib.hid (by rw [hP.out]; unfold fileU; simp [he])
              have g1 : (x1.toList == x0.toList) = true := by rw [eqB, decide_eq_true he]
              clear hP he CS
              go_wp2_with fail
              go_ret3
              exact ⟨by rw [hP2.out]; rfl, bw.out⟩
            · have hP2 : Hid (R = (bs (showS [⟨true, tl x0, tl x1, tl x2⟩] old), true, 3)) := Lib.hid (by rw [hP.out]; unfold fileU; simp [he])
              have g1 : (x1.toList == x0.toList) = false := by rw [eqB, decide_eq_false he]
              clear hP he
              go_wp2_with fail
              refine calls_gen (fun W => Below wr.heap.size wr W ∧ RowAt W wr.heap.size 52 #[.bool true, .string x0, .string x1, .string x2]) ⟨(Below.refl _ _).alloc (Nat.le_refl _) _, row_new rfl⟩ ?_
              rintro W3 ⟨b3, r3⟩
              refine (CS.out W3 b3 (kprts_one r3)).mono ?_
              rintro e w4 ⟨rfl, b4⟩
              have B4 := Lib.hid (bw.out.trans ((b3.trans (b4.mono b3.size)).mono bw.out.size))
              clear b3 r3 b4 CS
              go_wp2_with fail
              go_ret3
              exact ⟨by rw [hP2.out]; rfl, B4.out⟩
      | false =>
        clear CW
        cases r with
        | false =>
          have hP2 : Hid (R = (⟨#[]⟩, false, 0)) := Lib.hid hP.out
          clear hP CS
          go_wp2_with fail
          go_ret3
          exact ⟨by rw [hP2.out]; rfl, bw.out⟩
        | true =>
          cases p with
          | false =>
            have hP2 : Hid (R = (x2, true, 0)) := Lib.hid hP.out
            clear hP CS
            go_wp2_with fail
            go_ret3
            exact ⟨by rw [hP2.out]; rfl, bw.out⟩
          | true =>
            by_cases he : x2 = x0
            · have hP2 : Hid (R = (⟨#[]⟩, false, 0)) := Lib.hid (by rw [hP.out]; unfold fileU; simp [he])
              have g1 : (x2.toList == x0.toList) = true := by rw [eqB, decide_eq_true he]
              clear hP he CS
              go_wp2_with fail
              go_ret3
              exact ⟨by rw [hP2.out]; rfl, bw.out⟩
            · have hP2 : Hid (R = (bs (showS [⟨true, tl x0, tl x1, tl x2⟩] old), true, 3)) := Lib.hid (by rw [hP.out]; unfold fileU; simp [he])
              have g1 : (x2.toList == x0.toList) = false := by rw [eqB, decide_eq_false he]
              clear hP he
              go_wp2_with fail
              refine calls_gen (fun W => Below wr.heap.size wr W ∧ RowAt W wr.heap.size 52 #[.bool true, .string x0, .string x1, .string x2]) ⟨(Below.refl _ _).alloc (Nat.le_refl _) _, row_new rfl⟩ ?_
              rintro W3 ⟨b3, r3⟩
              refine (CS.out W3 b3 (kprts_one r3)).mono ?_
              rintro e w4 ⟨rfl, b4⟩
              have B4 := Lib.hid (bw.out.trans ((b3.trans (b4.mono b3.size)).mono bw.out.size))
              clear b3 r3 b4 CS
              go_wp2_with fail
              go_ret3
              exact ⟨by rw [hP2.out]; rfl, B4.out⟩
end Go.Proofs.YtbekbllffphfeaaDoor
