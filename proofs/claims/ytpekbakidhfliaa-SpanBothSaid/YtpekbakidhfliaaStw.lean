/-
  For the laws of span: edits put in order, and those that are alike as they came, by the program. Condition: at most 160 edits.
-/
import Derived.Test.YtpekbakidhfliaaStb
namespace Go.Proofs.Ytpekbakidhfliaa
open Go.RowKit Go.Shelf Go.Sort
set_option linter.unusedSimpArgs false

theorem isort_sw (L : List Ed) (blk cap n a b : Nat) (d0 d : Array Nat) (w0 W : World) (R : RowK (encL L) 3 w0 blk 0 d0) (hs : n = d0.size) (hd : d.size = n) (S : SWK (encL L) 3 w0 blk 0 d W) (hab : a ≤ b) (hb : b ≤ n) (hsz : n < 1000000) :
    Calls Try.prog 38 #[.slice (some ⟨blk, 0, none⟩) n cap, .int .i64 a, .int .i64 b, .func (.func 29) #[] #[]] W fun e w' => e = .returned (.tuple #[]) ∧ SWK (encL L) 3 w0 blk 0 (insertionSort (ltOf (cfL L)) d a b) w' := by
  have h := isort_any L blk cap a b d W (S.holds R.hblk R.hH (by omega)) (S.lt R.hblk) hab (by omega) (by omega)
  rw [hd] at h
  refine h.mono ?_
  rintro e w' ⟨he, m, os, rfl⟩
  exact ⟨he, S.on R.hblk m _ os (insertionSort_holds (lt := kl L) (swo_k L) d a b hab (by omega)).1.1⟩
def StabR (L : List Ed) (w0 : World) (blk n : Nat) (e : Ending) (w' : World) : Prop := (∃ v, e = .returned v) ∧ ∃ d' : Array Nat, SWK (encL L) 3 w0 blk 0 d' w' ∧ PermIn 0 n (Array.range n) d' ∧ SortedIn (sl L) 0 n d'
theorem b4 {B n : Nat} (h : B = 20 ∨ B = 40 ∨ B = 80 ∨ B = 160) (hn : B < n) (h160 : n ≤ 160) : B4 B := by unfold B4; omega
set_option maxRecDepth 100000 in
set_option maxHeartbeats 16000000 in
theorem stable_any (L : List Ed) (blk cap n : Nat) (w0 : World) (R : RowK (encL L) 3 w0 blk 0 (Array.range n)) (hn : n ≤ 160) (hc : n ≤ cap) (hcm : cap ≤ maxLen) :
    Calls Try.prog 35 #[.slice (some ⟨blk, 0, none⟩) n cap, .int .i64 n, .func (.func 29) #[] #[]] w0 (StabR L w0 blk n) := by
  have hz : n = (Array.range n).size := by simp
  have HS : Hid (SWK (encL L) 3 w0 blk 0 (Array.range n) w0) := Lib.hid (SWK.start R.hH)
  have Hz := Lib.hid hz
  have Hcm := Lib.hid hcm
  clear hz hcm
  go_enter Try.func35, Try.ntmps35
  go_wp2_with fail
  go_loopw [7, 8] (fun ca cb wr => ∃ (a : Nat) (d : Array Nat), ca = .int .i64 a ∧ cb = .int .i64 ((a : Int) + 20) ∧ a ≤ n ∧ Hid (d.size = n) ∧ Hid (InsB L n a d) ∧ Hid (SWK (encL L) 3 w0 blk 0 d wr)) (fun ca _ _ => n - (intOf ca).toNat)
  case atStart => exact ⟨0, _, rfl, rfl, by omega, Lib.hid Hz.out.symm, Lib.hid (insB_start L n), HS⟩
  case round =>
    obtain ⟨a, d, rfl, rfl, han, hd, hI, hS⟩ := hrel
    by_cases hlt : a + 20 ≤ n
    · have hlt' : (a : Int) + 20 ≤ (n : Int) := by omega
      have q1 : (a : Int) + 20 = ((a + 20 : Nat) : Int) := by omega
      have Q1 := Lib.hid q1
      clear q1
      have h := isort_sw L blk cap n a (a + 20) _ d w0 wr R Hz.out hd.out hS.out (by omega) hlt (by omega)
      rw [← Q1.out] at h
      go_wp2_with fail
      refine h.mono ?_
      rintro e w1 ⟨rfl, hS1⟩
      have HS1 := Lib.hid hS1
      clear hS1 h
      go_wp2_with fail
      obtain ⟨g1, g2, g3, g4, g5⟩ := insB_step hI.out hd.out (show a ≤ a + 20 by omega) hlt (by omega)
      exact ⟨⟨a + 20, _, by go_num, by go_num, hlt, Lib.hid g5, Lib.hid ⟨g1, g2, g3, by have := hI.out.al; omega, g4⟩, HS1⟩, by simp [intOf]; omega⟩
    · have hlt' : ¬ (a : Int) + 20 ≤ (n : Int) := by omega
      have h := isort_sw L blk cap n a n _ d w0 wr R Hz.out hd.out hS.out han (Nat.le_refl _) (by omega)
      go_wp2_with fail
      refine h.mono ?_
      rintro e w1 ⟨rfl, hS1⟩
      obtain ⟨g1, g2, g3, g4, g5⟩ := insB_step hI.out hd.out han (Nat.le_refl n) (by omega)
      have HS1 := Lib.hid hS1
      have HD : Hid (Done L n 20 (insertionSort (ltOf (cfL L)) d a n)) := Lib.hid ⟨fun p q k1 k2 k3 => g1 p q k1 k2 k2 k3, g2, g4⟩
      have Hd5 := Lib.hid g5
      clear hS1 h g1 g2 g3 g4 g5
      go_wp2_with fail
      go_loopw [6] (fun cB wr => ∃ (B : Nat) (d : Array Nat), cB = .int .i64 B ∧ Hid (B = 20 ∨ B = 40 ∨ B = 80 ∨ B = 160) ∧ B ≤ 160 ∧ 20 ≤ B ∧ Hid (d.size = n) ∧ Hid (Done L n B d) ∧ Hid (SWK (encL L) 3 w0 blk 0 d wr)) (fun cB _ => 161 - (intOf cB).toNat)
      case atStart => exact ⟨20, _, rfl, Lib.hid (.inl rfl), by omega, by omega, Hd5, HD, HS1⟩
      case round =>
        obtain ⟨B, d, rfl, hB, hB1, hB2, hd, hD, hS⟩ := hrel
        by_cases hlt : B < n
        · have hB4 := b4 hB.out hlt hn
          have HB4 := Lib.hid hB4
          have hB80 : B ≤ 80 := by rcases hB4 with rfl | rfl | rfl <;> omega
          clear hB4
          have w1 : IntKind.i64.wrap ((B : Int) * 2) = (B : Int) * 2 := by rw [Go.IntWalk.i64_left, Go.IntWalk.wrap64_in _ (by omega)]
          go_wp2_with fail
          go_loopw [7, 8] (fun ca cb wr => ∃ (a : Nat) (d : Array Nat), ca = .int .i64 a ∧ cb = .int .i64 ((a : Int) + 2 * B) ∧ a ≤ n ∧ Hid (d.size = n) ∧ Hid (Mid L n B a d) ∧ Hid (SWK (encL L) 3 w0 blk 0 d wr)) (fun ca _ _ => n - (intOf ca).toNat)
          case atStart => exact ⟨0, d, rfl, by simp, by omega, hd, Lib.hid (mid_start HB4.out hD.out), hS⟩
          case round =>
            clear hD hS hd
            obtain ⟨a, d, rfl, rfl, han, hd, hM, hS⟩ := hrel
            by_cases hl2 : a + 2 * B ≤ n
            · have hlt' : (a : Int) + 2 * B ≤ (n : Int) := by omega
              obtain ⟨s1, s2, s3⟩ := mid_ask HB4.out hM.out (b := a + 2 * B) (by omega) (Nat.le_refl _) hl2
              have h := symM L blk cap n _ w0 R Hz.out (by omega) hc Hcm.out (2 * B) a (a + B) (a + 2 * B) (by omega) (by omega) (by omega) hl2 d wr hd.out hS.out s1 s2 s3
              have q1 : ((a + B : Nat) : Int) = (a : Int) + B := by omega
              have q2 : ((a + 2 * B : Nat) : Int) = (a : Int) + 2 * B := by omega
              rw [q1, q2] at h
              clear s1 s2 s3 q1 q2
              go_wp2_with fail
              refine h.mono ?_
              rintro e w2 ⟨⟨_, rfl⟩, d2, hS2, hP2, hO2⟩
              have HS2 := Lib.hid hS2
              have hM2 := mid_step HB4.out hM.out hd.out hl2 hP2 hO2
              have HM2 := Lib.hid hM2
              have Hd2 : Hid (d2.size = n) := Lib.hid (hP2.1.trans hd.out)
              clear h hS2 hP2 hO2 hM2
              go_wp2_with fail
              exact ⟨⟨a + 2 * B, d2, by go_num, by go_num, hl2, Hd2, HM2, HS2⟩, by simp [intOf]; omega⟩
            · have hlt' : ¬ (a : Int) + 2 * B ≤ (n : Int) := by omega
              by_cases hl3 : a + B < n
              · have hl3' : (a : Int) + B < (n : Int) := by omega
                obtain ⟨s1, s2, s3⟩ := mid_ask HB4.out hM.out (b := n) hl3 (by omega) (Nat.le_refl _)
                have h := symM L blk cap n _ w0 R Hz.out (by omega) hc Hcm.out (2 * B) a (a + B) n (by omega) (by omega) hl3 (Nat.le_refl _) d wr hd.out hS.out s1 s2 s3
                have q1 : ((a + B : Nat) : Int) = (a : Int) + B := by omega
                rw [q1] at h
                clear s1 s2 s3 q1
                go_wp2_with fail
                refine h.mono ?_
                rintro e w2 ⟨⟨_, rfl⟩, d2, hS2, hP2, hO2⟩
                have HS2 := Lib.hid hS2
                have hM2 := mid_last HB4.out hM.out hd.out (by omega) han hP2 hO2
                have HM2 := Lib.hid hM2
                have Hd2 : Hid (d2.size = n) := Lib.hid (hP2.1.trans hd.out)
                have HB2 : Hid (2 * B = 20 ∨ 2 * B = 40 ∨ 2 * B = 80 ∨ 2 * B = 160) := Lib.hid (by rcases HB4.out with h | h | h <;> omega)
                clear h hS2 hP2 hO2 hM2
                go_wp2_with fail
                exact ⟨⟨2 * B, d2, by go_num, HB2, by omega, by omega, Hd2, HM2, HS2⟩, by simp [intOf]; omega⟩
              · have hl3' : ¬ (a : Int) + B < (n : Int) := by omega
                have HM2 := Lib.hid (mid_none HB4.out hM.out (by omega))
                have HB2 : Hid (2 * B = 20 ∨ 2 * B = 40 ∨ 2 * B = 80 ∨ 2 * B = 160) := Lib.hid (by rcases HB4.out with h | h | h <;> omega)
                go_wp2_with fail
                exact ⟨⟨2 * B, d, by go_num, HB2, by omega, by omega, hd, HM2, hS⟩, by simp [intOf]; omega⟩
        · go_wp2_with fail
          go_end0
          exact ⟨⟨_, rfl⟩, d, hS.out, hD.out.perm, done_all hD.out (by omega)⟩
end Go.Proofs.Ytpekbakidhfliaa
