/-
  For the laws of archive: the reference's digits, Head and Show. Condition: paths and texts of at most 100,000 bytes, at most 1,000 files.
-/
import Derived.Test.YtpnfjiglphogoadDoorShow
import Derived.Test.YtpnfjiglphogoadDoorRefs
import Derived.Lib.SlBytesRow
import Derived.Deep.RegionHeld3
import Derived.BigQuiet
namespace Go.Proofs.YtpnfjiglphogoadDoor
open Go.RowKit Go.Shelf Go.Maps Go.WideMaps
set_option linter.unusedSimpArgs false
set_option linter.unusedVariables false

theorem conv_digit (m : Nat) (W : World) : (convert 46 9 (.slice (some ⟨W.heap.size, 0, none⟩) 1 1)).run Tryd.prog (W.alloc (.cells #[.int .u8 (48 + (m : Int) % 10)] 5)) = .ok (.string ⟨#[UInt8.ofNat (48 + m % 10)]⟩) (W.alloc (.cells #[.int .u8 (48 + (m : Int) % 10)] 5)) := by
  have h := run_convert_bytes_arg (P := Tryd.prog) (W.alloc (.cells #[.int .u8 (48 + (m : Int) % 10)] 5)) 46 5 Tryd.underlying46 Tryd.underlying5 W.heap.size 0 1 1 [48 + (m : Int) % 10] rfl (fun i hi => by
    obtain rfl : i = 0 := by omega
    simp) 9 Tryd.underlying9
  rw [h]
  have e : (48 + (m : Int) % 10).toNat = 48 + m % 10 := by omega
  unfold strOfNums
  rw [List.map_cons, e]
  rfl
  /-  show [UInt8.ofNat (48 + (m : Int) % 10).toNat] -/

theorem nDigits_le : ∀ (k u : Nat), u < 10 ^ (k + 1) → Lib.nDigits u ≤ k + 1
  | 0, u, h => by rw [Lib.nDigits_small (by simpa using h)]; omega
  | k + 1, u, h => by
    by_cases h1 : u < 10
    · rw [Lib.nDigits_small h1]; omega
    · rw [Lib.nDigits_big h1]
      have := nDigits_le k (u / 10) (by rw [Nat.pow_succ] at h; omega)
      omega
theorem digit_ahead (k : Nat) (t : List UInt8) : ((⟨#[48 + UInt8.ofNat k]⟩ : ByteArray) ++ (⟨t.toArray⟩ : ByteArray)) = ⟨(UInt8.ofNat (48 + k) :: t).toArray⟩ := by
  apply ByteArray.ext
  apply Array.toList_inj.1
  simp

set_option maxRecDepth 100000 in
set_option maxHeartbeats 2000000 in
theorem digits_any (n : Nat) (hn : n ≤ 2147483648) (w : World) : Calls Tryd.prog 26 #[.int .i64 n] w fun e w' => e = .returned (.string ⟨(Lib.decDigits n).toArray⟩) ∧ Below w.heap.size w w' := by
  have kc := conv_digit
  have h10 : Lib.nDigits n ≤ 10 := nDigits_le 9 n (by omega)
  go_enter Tryd.func26, Tryd.ntmps26
  go_wp2
  go_loopw [0, 3] (fun a s wr => ∃ (m : Nat) (t : List UInt8), m ≤ n ∧ a = .int .i64 m ∧ s = .string ⟨t.toArray⟩ ∧ t.length + Lib.nDigits m = Lib.nDigits n ∧ Lib.decDigits n = Lib.decDigits m ++ t ∧ Below w.heap.size w wr)
    (fun a _ _ => (intOf a).toNat)
  case atStart => exact ⟨n, [], Nat.le_refl _, rfl, rfl, by simp, by simp, Below.refl _ _⟩
  case round =>
    obtain ⟨m, t, hm, rfl, rfl, hl, he, hB⟩ := hrel
    have hp := Lib.nDigits_pos m
    have hlen : ¬ 9223372036854775807 < 1 + t.length := by omega
    by_cases h : m < 10
    · have ht : ((m : Int) / 10 == 0) = true := by rw [beq_iff_eq]; omega
      have hd : Lib.decDigits n = UInt8.ofNat (48 + m % 10) :: t := by rw [he, Lib.decDigits_one h, Nat.mod_eq_of_lt h]; rfl
      have Hd := Lib.hid hd; clear hd
      have He := Lib.hid he; clear he
      have Hl := Lib.hid hl; clear hl
      go_wp2
      go_ret
      rw [digit_ahead, Hd.out]
      exact ⟨rfl, hB.alloc hB.size _⟩
    · have ht : ((m : Int) / 10 == 0) = false := by rw [beq_eq_false_iff_ne]; omega
      have hd : Lib.decDigits n = Lib.decDigits (m / 10) ++ UInt8.ofNat (48 + m % 10) :: t := by rw [he, Lib.decDigits, dif_neg h]; simp
      have hk : t.length + 1 + Lib.nDigits (m / 10) = Lib.nDigits n := by rw [← hl, Lib.nDigits_big h]; omega
      have Hd := Lib.hid hd; clear hd
      have Hk := Lib.hid hk; clear hk
      have He := Lib.hid he; clear he
      have Hl := Lib.hid hl; clear hl
      go_wp2
      rw [digit_ahead]
      exact ⟨⟨m / 10, UInt8.ofNat (48 + m % 10) :: t, by omega, by simp, rfl, by simpa using Hk.out, Hd.out, hB.alloc hB.size _⟩, by simp [intOf]; omega⟩

/-- Within Head: the file's box, the listed variables, what lies below. -/
structure HT (w : World) (f : Fl) (W : World) : Prop where
  row : RowAt W w.heap.size 34 #[.string (bs f.path), .string (bs f.text)]
  bel : Below w.heap.size w W
theorem HT.all {w W : World} {f : Fl} (h : HT w f W) : W.cell? ⟨w.heap.size, 0, none⟩ = some (.string (bs f.path)) ∧ W.cell? ⟨w.heap.size, 1, none⟩ = some (.string (bs f.text)) ∧ HT w f W :=
  ⟨h.row.cell (j := 0) rfl, h.row.cell (j := 1) rfl, h⟩
theorem HT.later {w W W' : World} {f : Fl} (h : HT w f W) (hb : Below W.heap.size W W') : HT w f W' := ⟨h.row.later hb, h.bel.trans (hb.mono h.bel.size)⟩
theorem HT.drew {w W : World} {f : Fl} (h : HT w f W) : HT w f W.drew := h.later (below_drew (Below.refl _ _))
theorem HT.new {w : World} (f : Fl) : HT w f (w.alloc (.cells #[.string (bs f.path), .string (bs f.text)] 34)) :=
  ⟨RowAt.new w 34 _, (Below.refl _ w).alloc (Nat.le_refl _) _⟩
theorem RefWhole_q (t t2 : By) (ht : t.length ≤ 100000) (h : whole t = t2) (W : World) (m : Nat) : Calls Tryd.prog 23 #[.string (bs t)] (W.drewN m) fun e w'' => e = .returned (.string (bs t2)) ∧ ∃ q, w'' = W.drewN q := by
  subst h
  refine (RefWhole_any (bs t) (by rw [bs_size]; omega) _).mono ?_
  rintro e w' ⟨rfl, rfl⟩
  exact ⟨by rw [wholeS_bs, tl_bs], _, rfl⟩
theorem RefSplit_n (t : By) (N : Nat) (hN : cnt t = N) (ht : t.length ≤ 100000) (W : World) : Calls Tryd.prog 27 #[.string (bs t)] W fun e w' => ∃ a cap, e = .returned (.slice a N cap) ∧ Below W.heap.size W w' := by
  subst hN
  refine (RefSplit_any (bs t) (by rw [bs_size]; omega) W).mono ?_
  rintro e w' ⟨v, rfl, ⟨a, cap, rfl, -⟩, hb⟩
  exact ⟨a, cap, rfl, hb⟩
set_option maxRecDepth 100000 in
set_option maxHeartbeats 8000000 in
theorem RefHead_any (f : Fl) (h1 : f.path.length ≤ 100000) (h2 : f.text.length ≤ 100000) (w : World) : Calls Tryd.prog 16 #[.agg #[.string (bs f.path), .string (bs f.text)]] w fun e w' => e = .returned (.string (bs (headL f))) ∧ Below w.heap.size w w' := by
  obtain ⟨W1, hW1⟩ : ∃ W1, Hid (w.alloc (.cells #[.string (bs f.path), .string (bs f.text)] 34) = W1) := ⟨_, Lib.hid rfl⟩
  have hs1 : HT w f W1 := by rw [← hW1.out]; exact HT.new f
  have hc := cnt_le f.text
  have hd := dec_le 5 (cnt f.text) (by omega)
  obtain ⟨N, hN⟩ : ∃ N, Hid (cnt f.text = N) := ⟨_, Lib.hid rfl⟩
  rw [hN.out] at hc hd
  obtain ⟨X, hX⟩ : ∃ X, Hid (Lib.decDigits N = X) := ⟨_, Lib.hid rfl⟩
  rw [hX.out] at hd
  obtain ⟨r, hr⟩ : ∃ r, Hid (headL f = r) := ⟨_, Lib.hid rfl⟩
  rw [hr.out]
  obtain ⟨t2, ht2⟩ : ∃ t2, Hid (whole f.text = t2) := ⟨_, Lib.hid rfl⟩
  obtain ⟨d, hd2⟩ : ∃ d, Hid ((t2 == f.text) = d) := ⟨_, Lib.hid rfl⟩
  go_enter Tryd.func16, Tryd.ntmps16
  go_wp2_with fail
  rw [hW1.out]
  obtain ⟨d0, d1, -⟩ := hs1.all
  have z1 : ¬ 9223372036854775807 < 5 + List.length f.path := by omega
  have z2 : ¬ 9223372036854775807 < 5 + List.length f.path + 1 := by omega
  have z3 : ¬ 9223372036854775807 < 5 + List.length f.path + 1 + X.length := by omega
  go_region_held3 (fun W => W.cell? ⟨w.heap.size, 0, none⟩ = some (.string (bs f.path)) ∧ W.cell? ⟨w.heap.size, 1, none⟩ = some (.string (bs f.text)) ∧ HT w f W)
    (first | exact HT.all (by assumption) | exact HT.all (HT.drew (by assumption)) | exact HT.all (HT.drew (And.right (And.right (by assumption)))))
    (first
      | (go_at_call 27; refine (RefSplit_n f.text N hN.out h2 _).mono ?_; rintro e w' ⟨sa, sc, rfl, hb⟩; have hs' := HT.later (And.right (And.right (by assumption))) hb)
      | (go_at_call 26; refine (digits_any N (by omega) _).mono ?_; rw [hX.out]; rintro e w' ⟨rfl, hb⟩; have hs' := HT.later (And.right (And.right (by assumption))) hb))
  all_goals
    have hend := And.right (And.right (by assumption : _ ∧ _ ∧ HT w f _))
    have Hend := Lib.hid hend
    obtain ⟨e0, e1, -⟩ := hend.all
    have Q : Hid (∀ W m, Calls Tryd.prog 23 #[.string (bs f.text)] (World.drewN W m) fun e w'' => e = .returned (.string (bs t2)) ∧ ∃ q, w'' = W.drewN q) := Lib.hid fun W m => RefWhole_q f.text t2 h2 ht2.out W m
    clear hend
    cases hdd : d with
    | true =>
      have hdt := hd2.out
      rw [hdd] at hdt
      have hsum : Hid (bs fileW ++ bs f.path ++ bs [32] ++ bs X ++ bs [10] = bs r) := Lib.hid (by
        have hcd : cutOf f.text = false := by
          have := hdt
          unfold cutOf; rw [ht2.out]; simpa using hdt
        rw [← hr.out]; unfold headL; rw [hcd, hN.out, hX.out]; simp only [bs_app]; simp)
      clear hdd
      go_wp2_with fail
      go_quiet (with_reducible exact Q.out _ _)
      go_wp2_with fail
      go_ret
      exact ⟨ret_str hsum.out, below_draws Hend.out.bel _⟩
    | false =>
      have hdt := hd2.out
      rw [hdd] at hdt
      have hsum : Hid (bs fileW ++ bs f.path ++ bs [32] ++ bs X ++ bs [33] ++ bs [10] = bs r) := Lib.hid (by
        have hcd : cutOf f.text = true := by
          have := hdt
          unfold cutOf; rw [ht2.out]; simpa using hdt
        rw [← hr.out]; unfold headL; rw [hcd, hN.out, hX.out]; simp only [bs_app]; simp)
      clear hdd
      go_wp2_with fail
      go_quiet (with_reducible exact Q.out _ _)
      go_wp2_with fail
      go_ret
      exact ⟨ret_str hsum.out, below_draws Hend.out.bel _⟩
end Go.Proofs.YtpnfjiglphogoadDoor
