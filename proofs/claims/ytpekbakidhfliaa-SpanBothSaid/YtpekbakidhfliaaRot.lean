/-
  For the laws of span: two stretches that lie side by side exchanged, by the program. Condition: they lie within the row.
-/
import Derived.Test.YtpekbakidhfliaaRotm
namespace Go.Proofs.Ytpekbakidhfliaa
open Go.RowKit Go.Shelf Go.Sort

def get (d : Array Nat) (x : Nat) : Nat := d[x]!
def RotR (L : List Ed) (w0 : World) (blk : Nat) (d : Array Nat) (a m b : Nat) (e : Ending) (w' : World) : Prop :=
  (∃ v, e = .returned v) ∧ ∃ d' : Array Nat, d'.size = d.size ∧ SWK (encL L) 3 w0 blk 0 d' w' ∧ PermIn a b d d' ∧ ∀ x, get d' x = rot (get d) a m b x
set_option maxRecDepth 100000 in
set_option maxHeartbeats 8000000 in
theorem rotate_any (L : List Ed) (blk cap a m b : Nat) (d0 d : Array Nat) (w0 w : World) (f : Value) (R : RowK (encL L) 3 w0 blk 0 d0) (hs : d.size = d0.size) (S : SWK (encL L) 3 w0 blk 0 d w) (ham : a < m) (hmb : m < b) (hb : b ≤ d.size) (hsz : d.size < 1000000) (hc : d.size ≤ cap) (hcm : cap ≤ maxLen) :
    Calls Try.prog 40 #[.slice (some ⟨blk, 0, none⟩) d.size cap, .int .i64 a, .int .i64 m, .int .i64 b, f] w (RotR L w0 blk d a m b) := by
  have HS := Lib.hid S
  have Hs := Lib.hid hs
  have Hcm := Lib.hid hcm
  clear S hs hcm
  go_enter Try.func40, Try.ntmps40
  go_wp2_with fail
  go_loopw [10, 11] (fun ci cj wr => ∃ (i j : Nat) (dk : Array Nat), ci = .int .i64 i ∧ cj = .int .i64 j ∧ 0 < i ∧ 0 < j ∧ i ≤ m - a ∧ m + j ≤ b ∧ Hid (PermIn a b d dk) ∧ dk.size = d.size ∧ Hid (SWK (encL L) 3 w0 blk 0 dk wr) ∧ Hid (∀ x, rot (get dk) (m - i) m (m + j) x = rot (get d) a m b x)) (fun ci cj _ => (intOf ci).toNat + (intOf cj).toNat)
  case atStart => exact ⟨m - a, b - m, d, by congr 1; omega, by congr 1; omega, by omega, by omega, by omega, by omega, Lib.hid (permIn_refl d a b), rfl, HS, Lib.hid fun x => by rw [show m - (m - a) = a by omega, show m + (b - m) = b by omega]⟩
  case round =>
    obtain ⟨i, j, dk, rfl, rfl, hi, hj, him0, hmj, hP, hds, hS, hR⟩ := hrel
    have him : i ≤ m := by omega
    have Hds := Lib.hid hds
    clear hds
    have c1 : (m : Int) - i = ((m - i : Nat) : Int) := by omega
    rcases Nat.lt_trichotomy i j with hij | hij | hij
    · have t1 : ((i : Int) != (j : Int)) = true := by simp; omega
      have t2 : decide ((i : Int) > (j : Int)) = false := decide_eq_false (by omega)
      have c2 : (m : Int) + j - i = ((m + j - i : Nat) : Int) := by omega
      have h := swapR_any L blk cap (m - i) (m + j - i) i d0 dk w0 wr f R (by rw [Hds.out]; exact Hs.out) hS.out (by omega) (by rw [Hds.out]; omega) (by rw [Hds.out]; omega) (by rw [Hds.out]; omega) Hcm.out
      rw [Hds.out] at h
      have C1 := Lib.hid c1
      have C2 := Lib.hid c2
      clear c1 c2
      go_wp2_with fail
      rw [C1.out, C2.out]
      refine h.mono ?_
      rintro e w' ⟨⟨_, rfl⟩, hS'⟩
      clear h
      have HS' := Lib.hid hS'
      clear hS'
      go_wp2_with fail
      refine ⟨⟨i, j - i, _, rfl, by congr 1; omega, hi, by omega, him0, by omega, Lib.hid (permIn_trans _ _ _ a b hP.out (swpR_perm dk _ _ _ a b (by omega) (by omega) (by omega) (by rw [Hds.out]; exact hb))), by rw [swpR_size]; exact Hds.out, HS', Lib.hid fun x => ?_⟩, by simp [intOf]; omega⟩
      rw [← hR.out x, ← rot_right (get dk) m i j x him hij]
      congr 1
      funext y
      exact swpR_get dk _ _ _ (by omega) (by rw [Hds.out]; omega) y
    · subst hij
      have t1 : ((i : Int) != (i : Int)) = false := by simp
      have h := swapR_any L blk cap (m - i) m i d0 dk w0 wr f R (by rw [Hds.out]; exact Hs.out) hS.out (by omega) (by rw [Hds.out]; omega) (by rw [Hds.out]; omega) (by rw [Hds.out]; omega) Hcm.out
      rw [Hds.out] at h
      have C1 := Lib.hid c1
      clear c1
      go_wp2_with fail
      rw [C1.out]
      refine h.mono ?_
      rintro e w' ⟨⟨_, rfl⟩, hS'⟩
      clear h
      have HS' := Lib.hid hS'
      clear hS'
      go_wp2_with fail
      go_end0
      refine ⟨⟨_, rfl⟩, _, by rw [swpR_size]; exact Hds.out, HS'.out, permIn_trans _ _ _ a b hP.out (swpR_perm dk _ _ _ a b (by omega) (by omega) (by omega) (by rw [Hds.out]; exact hb)), fun x => ?_⟩
      rw [← hR.out x, ← rot_last (get dk) m i x him]
      exact swpR_get dk _ _ _ (by omega) (by rw [Hds.out]; omega) x
    · have t1 : ((i : Int) != (j : Int)) = true := by simp; omega
      have t2 : decide ((i : Int) > (j : Int)) = true := decide_eq_true (by omega)
      have h := swapR_any L blk cap (m - i) m j d0 dk w0 wr f R (by rw [Hds.out]; exact Hs.out) hS.out (by omega) (by rw [Hds.out]; omega) (by rw [Hds.out]; omega) (by rw [Hds.out]; omega) Hcm.out
      rw [Hds.out] at h
      have C1 := Lib.hid c1
      clear c1
      go_wp2_with fail
      rw [C1.out]
      refine h.mono ?_
      rintro e w' ⟨⟨_, rfl⟩, hS'⟩
      clear h
      have HS' := Lib.hid hS'
      clear hS'
      go_wp2_with fail
      refine ⟨⟨i - j, j, _, by congr 1; omega, rfl, by omega, hj, by omega, hmj, Lib.hid (permIn_trans _ _ _ a b hP.out (swpR_perm dk _ _ _ a b (by omega) (by omega) (by omega) (by rw [Hds.out]; exact hb))), by rw [swpR_size]; exact Hds.out, HS', Lib.hid fun x => ?_⟩, by simp [intOf]; omega⟩
      rw [← hR.out x, ← rot_left (get dk) m i j x him hij]
      congr 1
      funext y
      exact swpR_get dk _ _ _ (by omega) (by rw [Hds.out]; omega) y
end Go.Proofs.Ytpekbakidhfliaa
