/-
  For the laws of span: one edit behind a stretch in order goes to its place, by the program. Condition: all lies within the row.
-/
import Derived.Test.YtpekbakidhfliaaSma
namespace Go.Proofs.Ytpekbakidhfliaa
open Go.RowKit Go.Shelf Go.Sort
set_option linter.unusedSimpArgs false

set_option maxRecDepth 100000 in
set_option maxHeartbeats 8000000 in
theorem symB (L : List Ed) (blk cap a m b : Nat) (d0 d : Array Nat) (w0 w : World) (R : RowK (encL L) 3 w0 blk 0 d0) (hs : d.size = d0.size) (S : SWK (encL L) 3 w0 blk 0 d w) (ham : a + 1 < m) (hmb : b = m + 1) (hb : b ≤ d.size) (hsz : d.size < 1000000) (_hc : d.size ≤ cap) (hcm : cap ≤ maxLen)
    (s1 : SortedIn (sl L) a m d) (hcr : Crs L d a m b) :
    Calls Try.prog 39 #[.slice (some ⟨blk, 0, none⟩) d.size cap, .int .i64 a, .int .i64 m, .int .i64 b, .func (.func 29) #[] #[]] w (MrgR L w0 blk d a b) := by
  have HS := Lib.hid S
  have Hs := Lib.hid hs
  have Hcm := Lib.hid hcm
  have t0 : ((m : Int) - a == 1) = false := beq_eq_false_iff_ne.2 (by omega)
  have t1 : ((b : Int) - m == 1) = true := beq_iff_eq.2 (by omega)
  have Hmb := Lib.hid hmb
  have hmb1 : m < b := by omega
  have hmb2 : b ≤ m + 1 := by omega
  clear S hs hcm hmb
  go_enter Try.func39, Try.ntmps39
  go_wp2_with fail
  go_loopw [14, 15] (fun ci cj wr => SmI ci cj a m (fun x => kl L d[m]! d[x]! = false) (fun x => kl L d[m]! d[x]! = true) ∧ Hid (SWK (encL L) 3 w0 blk 0 d wr)) (fun ci cj _ => (intOf cj).toNat - (intOf ci).toNat)
  case atStart => exact ⟨smI a m rfl rfl (by omega) (by omega) (by omega) (.inl rfl) (.inl rfl), HS⟩
  case round =>
    obtain ⟨hI, hS⟩ := hrel
    obtain ⟨i, j, rfl, rfl, hmi, hij, hjb, hi1, hj1⟩ := smO hI
    clear hI
    by_cases hlt : i < j
    · have hlt' : (i : Int) < (j : Int) := by omega
      obtain ⟨h, hh⟩ : ∃ h, h = (i + j) / 2 := ⟨_, rfl⟩
      have eh : ((i : Int) + j) / 2 = (h : Int) := by omega
      have h1 : i ≤ h ∧ h < j := by omega
      obtain ⟨x, y, c, hxy, x0, x1, x2, y0, y1, y2, hcg, hSg⟩ := ask L hS.out R Hs.out (i := m) (j := h) (by omega) (by omega)
      have Hxy := Lib.hid hxy
      have HSg := Lib.hid hSg
      have mixed : Try.prog.follows .mixedOrders = true := by kernel_rfl
      have Eh := Lib.hid eh
      clear hxy hSg hh eh
      go_wp2_with fail
      rw [Eh.out]
      have q0 : (0 : Int) ≤ (h : Int) := by omega
      have q1 : (h : Int) < (d.size : Int) := by omega
      have q2 : (0 : Int) ≤ (m : Int) := by omega
      have q3 : (m : Int) < (d.size : Int) := by omega
      by_cases hcc : c < 0
      · have hd : decide (c < 0) = true := decide_eq_true hcc
        have hkl : Hid (kl L d[m]! d[h]! = true) := Lib.hid (by rw [Hxy.out]; exact hd)
        refine wp_region_quiet_grown (by assumption) (by kernel_rfl) ?_
        repeat (quiet_step (fail))
        refine wpQuiet_step (fun K hK => ?_)
        go_simp
        refine ⟨_, fun p => Calls.grown_of (hcg p.n p.os), hK _ ?_⟩
        clear hK K
        repeat (quiet_step (fail))
        refine wpQuiet_nil ?_
        intro _ hw'
        obtain ⟨⟨nq, osq⟩, hw''⟩ := hw'
        subst hw''
        have HS2 := Lib.hid (HSg.out nq osq)
        clear x0 x1 x2 y0 y1 y2 hcg
        go_wp2_with fail
        refine ⟨⟨smI i h rfl rfl hmi (by omega) (by omega) hi1.out (.inr hkl.out), HS2⟩, by simp [intOf]; omega⟩
      · have hd : decide (c < 0) = false := decide_eq_false hcc
        have hkl : Hid (kl L d[m]! d[h]! = false) := Lib.hid (by rw [Hxy.out]; exact hd)
        refine wp_region_quiet_grown (by assumption) (by kernel_rfl) ?_
        repeat (quiet_step (fail))
        refine wpQuiet_step (fun K hK => ?_)
        go_simp
        refine ⟨_, fun p => Calls.grown_of (hcg p.n p.os), hK _ ?_⟩
        clear hK K
        repeat (quiet_step (fail))
        refine wpQuiet_nil ?_
        intro _ hw'
        obtain ⟨⟨nq, osq⟩, hw''⟩ := hw'
        subst hw''
        have HS2 := Lib.hid (HSg.out nq osq)
        clear x0 x1 x2 y0 y1 y2 hcg
        go_wp2_with fail
        refine ⟨⟨smI (h + 1) j (by go_num) rfl (by omega) (by omega) hjb (.inr hkl.out) hj1.out, HS2⟩, by simp [intOf]; omega⟩
    · obtain rfl : i = j := by omega
      clear hlt hij
      have k1 : i = a ∨ sl L d[m]! d[i - 1]! = false := by
        rcases hi1.out with h | h
        · exact .inl h
        · by_cases hia : i = a
          · exact .inl hia
          · exact .inr (by rw [← hcr (i - 1) m (by omega) (by omega) (Nat.le_refl _) (by omega)]; exact h)
      have k2 : i = m ∨ sl L d[m]! d[i]! = true := hj1.out.imp id kl_of_sl
      have K1 := Lib.hid k1
      have K2 := Lib.hid k2
      have Hcr := Lib.hid hcr
      have S1 := Lib.hid s1
      clear k1 k2 hi1 hj1 hcr s1
      go_wp2_with fail
      go_loopw [17] (fun c wr => ∃ (k : Nat) (dk : Array Nat), c = .int .i64 k ∧ i ≤ k ∧ k ≤ m ∧ dk.size = d.size ∧ Hid (SWK (encL L) 3 w0 blk 0 dk wr) ∧ Hid (PermIn a b d dk) ∧ Hid (∀ x, get dk x = rot (get d) k m b x)) (fun c _ => (intOf c).toNat)
      case atStart => exact ⟨m, d, rfl, by omega, by omega, rfl, hS, Lib.hid (permIn_refl d a b), Lib.hid fun x => by rw [rot_none2]⟩
      case round =>
        obtain ⟨k, dk, rfl, hak, hki, hds, hS, hP, hR⟩ := hrel
        have Hds := Lib.hid hds
        by_cases hlt : i < k
        · obtain ⟨kp, rfl⟩ : ∃ kp, k = kp + 1 := ⟨k - 1, by omega⟩
          have hlt' : (i : Int) < (kp : Int) + 1 := by omega
          have T1 := three_of hS.out R (by rw [hds]; exact Hs.out) (i := kp + 1) (by omega)
          have T2 := three_of hS.out R (by rw [hds]; exact Hs.out) (i := kp) (by omega)
          have Hnx := Lib.hid (hS.out.swapped R (kp + 1) kp (by omega) (by omega))
          obtain ⟨x, hx⟩ : ∃ x, dk[kp + 1]! = x := ⟨_, rfl⟩
          obtain ⟨y, hy⟩ : ∃ y, dk[kp]! = y := ⟨_, rfl⟩
          rw [hx] at T1 Hnx
          rw [hy] at T2 Hnx
          clear hx hy hds
          have p1 : IntKind.i64.wrap (kp : Int) = (kp : Int) := by rw [Go.IntWalk.i64_left, Go.IntWalk.wrap64_in _ (by omega)]
          have q1 : (kp : Int) + 1 < (d.size : Int) := by omega
          have q2 : (kp : Int) < (d.size : Int) := by omega
          have q3 : (0 : Int) ≤ (kp : Int) + 1 := by omega
          have q4 : (0 : Int) ≤ (kp : Int) := by omega
          have e1 : ((kp : Int) + 1).toNat = kp + 1 := by omega
          go_wp2_with fail
          refine wp_region_F (S := fun W => Three L blk x (kp + 1) W ∧ Three L blk y kp W) (rd := fun i => i == 9 || i == 13) (by kernel_rfl) ?_
          have hSS : Three L blk x (kp + 1) wr.drew ∧ Three L blk y kp wr.drew := ⟨T1, T2⟩
          refine wpAnyF_plain (i := 0) (v := ?_) rfl (by kernel_rfl) (by kernel_rfl) (by kernel_rfl) (by kernel_rfl) (fun _ _ _ h => h) (Or.inl ⟨by rfl, ?_⟩) ?_
          rotate_left
          · intro w _
            go_simp
            try with_reducible rfl
          try simp only [Act.put, List.setIfInBounds_toArray, List.set_cons_zero, List.set_cons_succ]
          refine wpAnyF_plain (i := 1) (v := ?_) rfl (by kernel_rfl) (by kernel_rfl) (by kernel_rfl) (by kernel_rfl) (fun _ _ _ h => h) (Or.inl ⟨by rfl, ?_⟩) ?_
          rotate_left
          · intro w _
            go_simp
            try with_reducible rfl
          try simp only [Act.put, List.setIfInBounds_toArray, List.set_cons_zero, List.set_cons_succ]
          refine wpAnyF_plain (i := 2) (v := ?_) rfl (by kernel_rfl) (by kernel_rfl) (by kernel_rfl) (by kernel_rfl) (fun _ _ _ h => h) (Or.inl ⟨by rfl, ?_⟩) ?_
          rotate_left
          · intro w _
            go_simp
            try with_reducible rfl
          try simp only [Act.put, List.setIfInBounds_toArray, List.set_cons_zero, List.set_cons_succ]
          refine wpAnyF_plain (i := 3) (v := ?_) rfl (by kernel_rfl) (by kernel_rfl) (by kernel_rfl) (by kernel_rfl) (fun _ _ _ h => h) (Or.inl ⟨by rfl, ?_⟩) ?_
          rotate_left
          · intro w _
            go_simp
            try with_reducible rfl
          try simp only [Act.put, List.setIfInBounds_toArray, List.set_cons_zero, List.set_cons_succ]
          refine wpAnyF_plain (i := 4) (v := ?_) rfl (by kernel_rfl) (by kernel_rfl) (by kernel_rfl) (by kernel_rfl) (fun _ _ _ h => h) (Or.inl ⟨by rfl, ?_⟩) ?_
          rotate_left
          · intro w _
            go_simp
            try with_reducible rfl
          try simp only [Act.put, List.setIfInBounds_toArray, List.set_cons_zero, List.set_cons_succ]
          refine wpAnyF_plain (i := 5) (v := ?_) rfl (by kernel_rfl) (by kernel_rfl) (by kernel_rfl) (by kernel_rfl) (fun _ _ _ h => h) (Or.inl ⟨by rfl, ?_⟩) ?_
          rotate_left
          · intro w _
            go_simp
            try with_reducible rfl
          try simp only [Act.put, List.setIfInBounds_toArray, List.set_cons_zero, List.set_cons_succ]
          refine wpAnyF_plain (i := 6) (v := ?_) rfl (by kernel_rfl) (by kernel_rfl) (by kernel_rfl) (by kernel_rfl) (fun _ _ _ h => h) (Or.inl ⟨by rfl, ?_⟩) ?_
          rotate_left
          · intro w _
            go_simp
            try with_reducible rfl
          try simp only [Act.put, List.setIfInBounds_toArray, List.set_cons_zero, List.set_cons_succ]
          refine wpAnyF_plain (i := 7) (v := ?_) rfl (by kernel_rfl) (by kernel_rfl) (by kernel_rfl) (by kernel_rfl) (fun _ _ _ h => h) (Or.inl ⟨by rfl, ?_⟩) ?_
          rotate_left
          · intro w _
            go_simp
            try with_reducible rfl
          try simp only [Act.put, List.setIfInBounds_toArray, List.set_cons_zero, List.set_cons_succ]
          refine wpAnyF_plain (i := 8) (v := ?_) rfl (by kernel_rfl) (by kernel_rfl) (by kernel_rfl) (by kernel_rfl) (fun _ _ _ h => h) (Or.inl ⟨by rfl, ?_⟩) ?_
          rotate_left
          · intro w _
            go_simp
            try with_reducible rfl
          try simp only [Act.put, List.setIfInBounds_toArray, List.set_cons_zero, List.set_cons_succ]
          refine wpAnyF_plain (i := 10) (v := ?_) rfl (by kernel_rfl) (by kernel_rfl) (by kernel_rfl) (by kernel_rfl) (fun _ _ _ h => h) (Or.inl ⟨by rfl, ?_⟩) ?_
          rotate_left
          · intro w _
            go_simp
            try with_reducible rfl
          try simp only [Act.put, List.setIfInBounds_toArray, List.set_cons_zero, List.set_cons_succ]
          refine wpAnyF_plain (i := 11) (v := ?_) rfl (by kernel_rfl) (by kernel_rfl) (by kernel_rfl) (by kernel_rfl) (fun _ _ _ h => h) (Or.inl ⟨by rfl, ?_⟩) ?_
          rotate_left
          · intro w _
            go_simp
            try with_reducible rfl
          try simp only [Act.put, List.setIfInBounds_toArray, List.set_cons_zero, List.set_cons_succ]
          refine wpAnyF_plain (i := 12) (v := ?_) rfl (by kernel_rfl) (by kernel_rfl) (by kernel_rfl) (by kernel_rfl) (fun _ _ _ h => h) (Or.inl ⟨by rfl, ?_⟩) ?_
          rotate_left
          · intro w _
            go_simp
            try with_reducible rfl
          try simp only [Act.put, List.setIfInBounds_toArray, List.set_cons_zero, List.set_cons_succ]
          refine wpAnyF_read (i := 9) (v := ?_) rfl (by kernel_rfl) (by kernel_rfl) (by kernel_rfl) (by kernel_rfl) (fun _ _ _ h => h) (Or.inl ⟨by rfl, ?_⟩) hSS ?_
          rotate_left
          · intro w hSw
            obtain ⟨⟨x1, x2, x3, x4, x5, x6⟩, x7, x8, x9, x10, x11, x12⟩ := hSw
            go_simp
            try with_reducible rfl
          try simp only [Act.put, List.setIfInBounds_toArray, List.set_cons_zero, List.set_cons_succ]
          refine wpAnyF_read (i := 13) (v := ?_) rfl (by kernel_rfl) (by kernel_rfl) (by kernel_rfl) (by kernel_rfl) (fun _ _ _ h => h) (Or.inl ⟨by rfl, ?_⟩) hSS ?_
          rotate_left
          · intro w hSw
            obtain ⟨⟨x1, x2, x3, x4, x5, x6⟩, x7, x8, x9, x10, x11, x12⟩ := hSw
            go_simp
            try with_reducible rfl
          try simp only [Act.put, List.setIfInBounds_toArray, List.set_cons_zero, List.set_cons_succ]
          refine wpAnyF_plain (i := 14) (v := ?_) rfl (by kernel_rfl) (by kernel_rfl) (by kernel_rfl) (by kernel_rfl) (fun _ _ _ h => h) (Or.inl ⟨by rfl, ?_⟩) ?_
          rotate_left
          · intro w _
            go_simp
            try with_reducible rfl
          try simp only [Act.put, List.setIfInBounds_toArray, List.set_cons_zero, List.set_cons_succ]
          obtain ⟨x1, x2, x3, x4, x5, x6⟩ := T1
          refine wpAnyF_one (i := 15) (by kernel_rfl) rfl (fun K hK => ?_)
          go_simp
          refine hK.out _ _ (fun h => by cases h) ?_
          clear hK K
          obtain ⟨V, hV⟩ : ∃ V, Hid (wr.drew.setCells blk ((kp + 1) * 3) (encL L y) = V) := ⟨_, Lib.hid rfl⟩
          have T3 : Three L blk y kp V := by rw [← hV.out]; exact three_far (W := wr.drew) T2 (by omega) y
          obtain ⟨y1, y2, y3, y4, y5, y6⟩ := T3
          change wpAnyF _ _ _ _ _ _ _ _ _ (wr.drew.setCells blk ((kp + 1) * 3) (encL L y))
          rw [hV.out]
          clear x1 x2 x3 x4 x5 x6
          refine wpAnyF_plain (i := 16) (v := ?_) rfl (by kernel_rfl) (by kernel_rfl) (by kernel_rfl) (by kernel_rfl) (fun _ _ _ h => h) (Or.inl ⟨by rfl, ?_⟩) ?_
          rotate_left
          · intro w _
            go_simp
            try with_reducible rfl
          try simp only [Act.put, List.setIfInBounds_toArray, List.set_cons_zero, List.set_cons_succ]
          refine wpAnyF_one (i := 17) (by kernel_rfl) rfl (fun K hK => ?_)
          go_simp
          refine hK.out _ _ (fun h => by cases h) ?_
          clear hK K
          refine wpAnyF_done (by kernel_rfl) ?_ _
          change Exit.inBlock 7 _ _ _ (V.setCells blk (kp * 3) (encL L x))
          obtain ⟨V2, hV2⟩ : ∃ V2, Hid (V.setCells blk (kp * 3) (encL L x) = V2) := ⟨_, Lib.hid rfl⟩
          have Hn2 : Hid (SWK (encL L) 3 w0 blk 0 (swp dk (kp + 1) kp) V2) := Lib.hid (by
            have h := Hnx.out
            rw [Nat.zero_add, Nat.zero_add, hV.out, hV2.out] at h
            exact h)
          rw [hV2.out]
          clear y1 y2 y3 y4 y5 y6 Hnx hSS T2
          go_wp2_with fail
          refine ⟨⟨kp, swp dk (kp + 1) kp, by go_num, by omega, by omega, by rw [size_swp]; exact Hds.out, Hn2, Lib.hid (permIn_trans _ _ _ a b hP.out (swp_permIn dk a b (kp + 1) kp (by omega) (by omega) (by omega) (by omega) (by rw [Hds.out]; exact hb))), Lib.hid fun z => ?_⟩, by simp [intOf]⟩
          have hrd := rot_down (get d) (kp + 1) m b z Hmb.out (by omega) hki
          rw [Nat.add_sub_cancel] at hrd
          rw [← hrd, ← hR.out, ← hR.out, ← hR.out]
          exact swp_get dk (by rw [Hds.out]; omega) (by rw [Hds.out]; omega) z
        · obtain rfl : k = i := by omega
          go_wp2_with fail
          go_end0
          exact ⟨⟨_, rfl⟩, dk, hS.out, hP.out, leaf_right Hmb.out hmi hjb S1.out K1.out K2.out hR.out⟩
end Go.Proofs.Ytpekbakidhfliaa
