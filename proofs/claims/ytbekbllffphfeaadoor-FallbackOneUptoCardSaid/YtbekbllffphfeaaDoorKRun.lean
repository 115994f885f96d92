/-
  For the laws of marker: the run of marks' bytes that a line begins with, by the program. Condition: a text as handed in.
-/
import Derived.StillTailTactics
import Derived.Test.YtbekbllffphfeaaDoorKSplit
namespace Go.Proofs.YtbekbllffphfeaaDoor.K
open Go.RowKit Go.Shelf
set_option linter.unusedSimpArgs false

/-- The lines of a text, as bytes. -/
def lnB (s : ByteArray) : List By := (lns s).map tl
theorem strs_of_strz {W : World} {v : Value} {xs : List ByteArray} (h : Strz W v xs) : ∃ a cap, v = .slice a xs.length cap ∧ xs.length ≤ cap ∧ ∀ j x, xs[j]? = some x → ∃ b off, a = some ⟨b, off, none⟩ ∧ b < W.heap.size ∧ W.cell? ⟨b, off + j, none⟩ = some (.string x) := by
  obtain ⟨a, cap, rfl, h1, _, h⟩ := h
  refine ⟨a, cap, rfl, h1, fun j x hj => ?_⟩
  rcases h with rfl | ⟨b, off, rfl, hb, hx⟩
  · simp at hj
  · exact ⟨b, off, rfl, hb, hx j x hj⟩
theorem Split_new (s : ByteArray) (hs : s.size ≤ 50000000) (w : World) : Calls Tryd.prog 25 #[.string s] w fun e W' => ∃ v, e = .returned v ∧ (Strz W' v (lns s) ∧ ∀ g, v.ownBlock = some g → w.heap.size ≤ g) ∧ Below w.heap.size w W' :=
  (callsIn_wide (n := 3)).1 (Split_in Fence.wide 3 trivial trivial trivial rfl (Nat.le_refl _) s hs w)
theorem Split_any (s : ByteArray) (hs : s.size ≤ 50000000) (w : World) : Calls Tryd.prog 25 #[.string s] w fun e W' => ∃ v, e = .returned v ∧ Strz W' v (lns s) ∧ Below w.heap.size w W' :=
  (Split_new s hs w).mono fun _ _ ⟨v, h1, h2, h3⟩ => ⟨v, h1, h2.1, h3⟩
theorem mark_at (c : UInt8) : (0 ≤ Lib.indexByte [60, 124, 61, 62] c) ↔ isMark c = true := by
  have e1 : ∀ a : UInt8, (a == c) = (c == a) := fun a => BEq.comm
  unfold isMark
  simp only [Lib.indexByte, e1]
  cases c == 60 <;> cases c == 124 <;> cases c == 61 <;> cases c == 62 <;> simp
set_option maxRecDepth 100000 in
set_option maxHeartbeats 8000000 in
theorem run_any (s : ByteArray) (hs : s.size ≤ maxLen) (w : World) : Calls Tryd.prog 34 #[.string s] w fun e w' => e = .returned (.int .i64 (runL (tl s) : Nat)) ∧ Below w.heap.size w w' := by
  unfold maxLen at hs
  cases hl : tl s with
  | nil =>
    have h0 : s.toList = [] := by rw [Lib.toList_data]; exact hl
    have h0b : s.toList.isEmpty = true := by rw [h0]; rfl
    go_enter Tryd.func34, Tryd.ntmps34
    go_wp2_with fail
    go_ret
    exact ⟨rfl, Below.refl _ _⟩
  | cons c l =>
    have hlen : s.size = l.length + 1 := by rw [← tl_length, hl]; rfl
    have hp : 0 < s.size := by omega
    have h0 : ¬ s.toList = [] := by rw [Lib.toList_data]; show ¬ tl s = []; rw [hl]; simp
    have h0b : s.toList.isEmpty = false := by simpa using h0
    have hc0 : s[0] = c := by
      have h := tl_get s hp
      rw [hl] at h
      simpa using h.symm
    have Hl := Lib.hid hl
    clear hlen h0
    have hcc : ((c.toNat : Int)).toNat.toUInt8 = c := by simp
    by_cases hm : isMark c = true
    · have hi : decide (Lib.indexByte [60, 124, 61, 62] c ≥ 0) = true := decide_eq_true ((mark_at c).2 hm)
      have Hm := Lib.hid hm
      clear hl hm
      have hr0 : runL (c :: l) = lead c (c :: l) := by rw [runL, if_pos Hm.out]
      obtain ⟨r, hr⟩ : ∃ r, Hid (runL (c :: l) = r) := ⟨_, Lib.hid rfl⟩
      have hrl : Hid (lead c (tl s) = r) := Lib.hid (by rw [Hl.out, ← hr0]; exact hr.out)
      have hsz : s.size = l.length + 1 := by rw [← tl_length, Hl.out]; rfl
      have hrs : r ≤ s.size := by rw [← hrl.out, ← tl_length]; exact lead_le _ _
      rw [hr.out]
      clear hr0 hsz
      go_enter Tryd.func34, Tryd.ntmps34
      go_wp2_with (go_at_call 45; refine (Tryd.strings_IndexByte _ _ _).mono ?_; rintro e w' ⟨rfl, rfl⟩)
      go_loopw [3] (fun x wr => ∃ k : Nat, x = .int .i64 k ∧ k ≤ r ∧ ∃ q, Hid (wr = w'.drewN q)) (fun x _ => r - (intOf x).toNat)
      case atStart => exact ⟨0, rfl, by omega, 0, Lib.hid rfl⟩
      case round =>
        obtain ⟨k, rfl, hk, q, hq⟩ := hrel
        have hstep : Hid (k < r ↔ (tl s)[k]? = some c) := Lib.hid (by rw [← hrl.out] at hk ⊢; exact lead_step hk)
        by_cases hlt : k < s.size
        · have hg := tl_get s hlt
          have p0 : (0 : Int) ≤ (k : Int) := by omega
          have p1 : (k : Int) < (s.size : Int) := by omega
          by_cases e : s[k] = c
          · have hkr : k < r := hstep.out.2 (by rw [hg, e])
            have hb : ((s[k].toNat : Int) == (c.toNat : Int)) = true := by rw [e]; simp
            clear hg
            go_wp2_with fail
            go_quiet (fail)
            go_wp2_with fail
            exact ⟨⟨k + 1, by go_num, by omega, q + nq, Lib.hid (by rw [hq.out]; exact World.drewN_drewN _ q nq)⟩, by simp [intOf]; omega⟩
          · have hkr : k = r := by
              have : ¬ k < r := fun h => by have := hstep.out.1 h; rw [hg] at this; exact e (by simpa using this)
              omega
            have hne : ¬ s[k].toNat = c.toNat := fun h => e (UInt8.toNat_inj.1 h)
            have hb : ((s[k].toNat : Int) == (c.toNat : Int)) = false := beq_eq_false_iff_ne.2 (by omega)
            have Hkr := Lib.hid hkr
            clear hg hkr
            go_wp2_with fail
            go_quiet (fail)
            go_wp2_with fail
            go_ret
            exact ⟨ret_int (congrArg Int.ofNat Hkr.out), by rw [hq.out]; exact below_draws (below_draws (Below.refl _ _) _) _⟩
        · obtain rfl : k = r := by omega
          have hks : k = s.size := by omega
          have p1 : ¬ (k : Int) < (s.size : Int) := by omega
          have f1 : decide ((k : Int) < (s.size : Int)) = false := decide_eq_false p1
          go_wp2_with fail
          go_quiet (fail)
          go_wp2_with fail
          go_ret
          exact ⟨ret_int (congrArg Int.ofNat hks.symm), by rw [hq.out]; exact below_draws (below_draws (Below.refl _ _) _) _⟩
    · have hi : decide (Lib.indexByte [60, 124, 61, 62] c ≥ 0) = false := decide_eq_false (fun h => hm ((mark_at c).1 h))
      have hr0 : Hid (runL (c :: l) = 0) := Lib.hid (by rw [runL, if_neg hm])
      clear hl hm
      rw [hr0.out]
      go_enter Tryd.func34, Tryd.ntmps34
      go_wp2_with (go_at_call 45; refine (Tryd.strings_IndexByte _ _ _).mono ?_; rintro e w' ⟨rfl, rfl⟩)
      go_ret
      exact ⟨rfl, Below.refl _ _⟩
end Go.Proofs.YtbekbllffphfeaaDoor.K
