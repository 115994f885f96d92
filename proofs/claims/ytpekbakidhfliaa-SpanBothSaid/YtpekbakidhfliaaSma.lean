/-
  For the laws of span: one edit ahead of a stretch in order goes to its place, by the program. Condition: all lies within the row.
-/
import Derived.Test.YtpekbakidhfliaaMrg
namespace Go.Proofs.Ytpekbakidhfliaa
open Go.RowKit Go.Shelf Go.Sort
set_option linter.unusedSimpArgs false

def MrgR (L : List Ed) (w0 : World) (blk : Nat) (d : Array Nat) (a b : Nat) (e : Ending) (w' : World) : Prop :=
  (∃ v, e = .returned v) ∧ ∃ d' : Array Nat, SWK (encL L) 3 w0 blk 0 d' w' ∧ PermIn a b d d' ∧ SortedIn (sl L) a b d'
/-- Two edits held against one another, in whatever world of the sort's. -/
theorem ask (L : List Ed) {w0 W : World} {blk : Nat} {d0 d : Array Nat} (h : SWK (encL L) 3 w0 blk 0 d W) (R : RowK (encL L) 3 w0 blk 0 d0) (hs : d.size = d0.size) {i j : Nat} (hi : i < d.size) (hj : j < d.size) :
    ∃ (x y : Ed) (c : Int), (kl L d[i]! d[j]! = decide (c < 0)) ∧ (∀ n os, (grow (W.drewN n) os).cell? ⟨blk, i * 3, none⟩ = some (.int .i64 x.fr)) ∧ (∀ n os, (grow (W.drewN n) os).cell? ⟨blk, i * 3 + 1, none⟩ = some (.int .i64 x.to)) ∧ (∀ n os, (grow (W.drewN n) os).cell? ⟨blk, i * 3 + 2, none⟩ = some (.string (bs x.tx))) ∧
      (∀ n os, (grow (W.drewN n) os).cell? ⟨blk, j * 3, none⟩ = some (.int .i64 y.fr)) ∧ (∀ n os, (grow (W.drewN n) os).cell? ⟨blk, j * 3 + 1, none⟩ = some (.int .i64 y.to)) ∧ (∀ n os, (grow (W.drewN n) os).cell? ⟨blk, j * 3 + 2, none⟩ = some (.string (bs y.tx))) ∧
      (∀ n os, Calls Try.prog 29 #[.agg #[.int .i64 x.fr, .int .i64 x.to, .string (bs x.tx)], .agg #[.int .i64 y.fr, .int .i64 y.to, .string (bs y.tx)]] (grow (W.drewN n) os) fun e w' => e = .returned (.int .i64 c) ∧ ∃ q os', w' = grow ((grow (W.drewN n) os).drewN q) os') ∧
      (∀ n os, SWK (encL L) 3 w0 blk 0 d (grow (W.drewN n) os)) := by
  have t1 := fun n os => three_of (h.grown n os) R hs hi
  have t2 := fun n os => three_of (h.grown n os) R hs hj
  exact ⟨L.getD d[i]! ⟨0, 0, []⟩, L.getD d[j]! ⟨0, 0, []⟩, _, rfl, fun n os => (t1 n os).1, fun n os => (t1 n os).2.1, fun n os => (t1 n os).2.2.1, fun n os => (t2 n os).1, fun n os => (t2 n os).2.1, fun n os => (t2 n os).2.2.1, fun n os => cmp_any _ _ _, fun n os => h.grown n os⟩
/-- Between the rounds of the search: what lies ahead of i is less, what lies from j on is not. -/
def SmI (ci cj : Value) (lo hi : Nat) (p q : Nat → Prop) : Prop := ∃ i j : Nat, ci = .int .i64 i ∧ cj = .int .i64 j ∧ lo ≤ i ∧ i ≤ j ∧ j ≤ hi ∧ (i = lo ∨ p (i - 1)) ∧ (j = hi ∨ q j)
theorem smI {ci cj : Value} {lo hi : Nat} {p q : Nat → Prop} (i j : Nat) (h1 : ci = .int .i64 i) (h2 : cj = .int .i64 j) (h3 : lo ≤ i) (h4 : i ≤ j) (h5 : j ≤ hi) (h6 : i = lo ∨ p (i - 1)) (h7 : j = hi ∨ q j) : SmI ci cj lo hi p q := ⟨i, j, h1, h2, h3, h4, h5, h6, h7⟩
theorem smO {ci cj : Value} {lo hi : Nat} {p q : Nat → Prop} (h : SmI ci cj lo hi p q) : ∃ i j : Nat, ci = .int .i64 i ∧ cj = .int .i64 j ∧ lo ≤ i ∧ i ≤ j ∧ j ≤ hi ∧ Hid (i = lo ∨ p (i - 1)) ∧ Hid (j = hi ∨ q j) := h
set_option maxRecDepth 100000 in
set_option maxHeartbeats 8000000 in
theorem symA (L : List Ed) (blk cap a m b : Nat) (d0 d : Array Nat) (w0 w : World) (R : RowK (encL L) 3 w0 blk 0 d0) (hs : d.size = d0.size) (S : SWK (encL L) 3 w0 blk 0 d w) (ham : m = a + 1) (hmb : m < b) (hb : b ≤ d.size) (hsz : d.size < 1000000) (_hc : d.size ≤ cap) (hcm : cap ≤ maxLen)
    (s2 : SortedIn (sl L) m b d) (hcr : Crs L d a m b) :
    Calls Try.prog 39 #[.slice (some ⟨blk, 0, none⟩) d.size cap, .int .i64 a, .int .i64 m, .int .i64 b, .func (.func 29) #[] #[]] w (MrgR L w0 blk d a b) := by
  have HS := Lib.hid S
  have Hs := Lib.hid hs
  have Hcm := Lib.hid hcm
  have t0 : ((m : Int) - a == 1) = true := beq_iff_eq.2 (by omega)
  have Ham := Lib.hid ham
  have ham1 : a < m := by omega
  have ham2 : m ≤ a + 1 := by omega
  clear S hs hcm ham
  go_enter Try.func39, Try.ntmps39
  go_wp2_with fail
  go_loopw [10, 11] (fun ci cj wr => SmI ci cj m b (fun x => kl L d[x]! d[a]! = true) (fun x => kl L d[x]! d[a]! = false) ∧ Hid (SWK (encL L) 3 w0 blk 0 d wr)) (fun ci cj _ => (intOf cj).toNat - (intOf ci).toNat)
  case atStart => exact ⟨smI m b (by first | rfl | (congr 1; omega)) rfl (by omega) (by omega) (by omega) (.inl rfl) (.inl rfl), HS⟩
  case round =>
    obtain ⟨hI, hS⟩ := hrel
    obtain ⟨i, j, rfl, rfl, hmi, hij, hjb, hi1, hj1⟩ := smO hI
    clear hI
    by_cases hlt : i < j
    · have hlt' : (i : Int) < (j : Int) := by omega
      obtain ⟨h, hh⟩ : ∃ h, h = (i + j) / 2 := ⟨_, rfl⟩
      have eh : ((i : Int) + j) / 2 = (h : Int) := by omega
      have h1 : i ≤ h ∧ h < j := by omega
      obtain ⟨x, y, c, hxy, x0, x1, x2, y0, y1, y2, hcg, hSg⟩ := ask L hS.out R Hs.out (i := h) (j := a) (by omega) (by omega)
      have Hxy := Lib.hid hxy
      have HSg := Lib.hid hSg
      have mixed : Try.prog.follows .mixedOrders = true := by kernel_rfl
      have Eh := Lib.hid eh
      clear hxy hSg hh eh
      go_wp2_with fail
      rw [Eh.out]
      have q0 : (0 : Int) ≤ (h : Int) := by omega
      have q1 : (h : Int) < (d.size : Int) := by omega
      have q2 : (0 : Int) ≤ (a : Int) := by omega
      have q3 : (a : Int) < (d.size : Int) := by omega
      by_cases hcc : c < 0
      · have hd : decide (c < 0) = true := decide_eq_true hcc
        have hkl : Hid (kl L d[h]! d[a]! = true) := Lib.hid (by rw [Hxy.out]; exact hd)
        refine wp_region_quiet_grown (by assumption) (by kernel_rfl) ?_
        repeat (quiet_step (fail))
        refine wpQuiet_step (fun K hK => ?_)
        go_simp
        refine ⟨_, fun p => Calls.grown_of (hcg p.n p.os), hK _ ?_⟩
        clear hK K
        repeat (quiet_step (fail))
        refine wpQuiet_nil ?_
        intro _ hw'
        obtain ⟨⟨nq, osq⟩, hw''⟩ := hw'
        subst hw''
        have HS2 := Lib.hid (HSg.out nq osq)
        clear x0 x1 x2 y0 y1 y2 hcg
        go_wp2_with fail
        refine ⟨⟨smI (h + 1) j (by go_num) rfl (by omega) (by omega) hjb (.inr hkl.out) hj1.out, HS2⟩, by simp [intOf]; omega⟩
      · have hd : decide (c < 0) = false := decide_eq_false hcc
        have hkl : Hid (kl L d[h]! d[a]! = false) := Lib.hid (by rw [Hxy.out]; exact hd)
        refine wp_region_quiet_grown (by assumption) (by kernel_rfl) ?_
        repeat (quiet_step (fail))
        refine wpQuiet_step (fun K hK => ?_)
        go_simp
        refine ⟨_, fun p => Calls.grown_of (hcg p.n p.os), hK _ ?_⟩
        clear hK K
        repeat (quiet_step (fail))
        refine wpQuiet_nil ?_
        intro _ hw'
        obtain ⟨⟨nq, osq⟩, hw''⟩ := hw'
        subst hw''
        have HS2 := Lib.hid (HSg.out nq osq)
        clear x0 x1 x2 y0 y1 y2 hcg
        go_wp2_with fail
        refine ⟨⟨smI i h rfl rfl hmi (by omega) (by omega) hi1.out (.inr hkl.out), HS2⟩, by simp [intOf]; omega⟩
    · obtain rfl : i = j := by omega
      clear hlt hij
      have k1 : i = m ∨ sl L d[i - 1]! d[a]! = true := hi1.out.imp id kl_of_sl
      have k2 : i = b ∨ sl L d[i]! d[a]! = false := by
        rcases hj1.out with h | h
        · exact .inl h
        · by_cases hib : i = b
          · exact .inl hib
          · exact .inr (by rw [← hcr a i (Nat.le_refl _) (by omega) hmi (by omega)]; exact h)
      have K1 := Lib.hid k1
      have K2 := Lib.hid k2
      have Hcr := Lib.hid hcr
      have S2 := Lib.hid s2
      clear k1 k2 hi1 hj1 hcr s2
      go_wp2_with fail
      go_loopw [13] (fun c wr => ∃ (k : Nat) (dk : Array Nat), c = .int .i64 k ∧ a ≤ k ∧ k + 1 ≤ i ∧ dk.size = d.size ∧ Hid (SWK (encL L) 3 w0 blk 0 dk wr) ∧ Hid (PermIn a b d dk) ∧ Hid (∀ x, get dk x = rot (get d) a m (k + 1) x)) (fun c _ => i - (intOf c).toNat)
      case atStart => exact ⟨a, d, rfl, by omega, by omega, rfl, hS, Lib.hid (permIn_refl d a b), Lib.hid fun x => by rw [← Ham.out, rot_none]⟩
      case round =>
        obtain ⟨k, dk, rfl, hak, hki, hds, hS, hP, hR⟩ := hrel
        have Hds := Lib.hid hds
        by_cases hlt : k + 1 < i
        · have hlt' : (k : Int) < (i : Int) - 1 := by omega
          have T1 := three_of hS.out R (by rw [hds]; exact Hs.out) (i := k) (by omega)
          have T2 := three_of hS.out R (by rw [hds]; exact Hs.out) (i := k + 1) (by omega)
          have Hnx := Lib.hid (hS.out.swapped R k (k + 1) (by omega) (by omega))
          obtain ⟨x, hx⟩ : ∃ x, dk[k]! = x := ⟨_, rfl⟩
          obtain ⟨y, hy⟩ : ∃ y, dk[k + 1]! = y := ⟨_, rfl⟩
          rw [hx] at T1 Hnx
          rw [hy] at T2 Hnx
          clear hx hy hds
          have p1 : IntKind.i64.wrap ((k : Int) + 1) = (k : Int) + 1 := by rw [Go.IntWalk.i64_left, Go.IntWalk.wrap64_in _ (by omega)]
          have q1 : (k : Int) + 1 < (d.size : Int) := by omega
          have q2 : (k : Int) < (d.size : Int) := by omega
          have q3 : (0 : Int) ≤ (k : Int) + 1 := by omega
          have q4 : (0 : Int) ≤ (k : Int) := by omega
          have e1 : ((k : Int) + 1).toNat = k + 1 := by omega
          go_wp2_with fail
          refine wp_region_F (S := fun W => Three L blk x k W ∧ Three L blk y (k + 1) W) (rd := fun i => i == 9 || i == 13) (by kernel_rfl) ?_
          have hSS : Three L blk x k wr.drew ∧ Three L blk y (k + 1) wr.drew := ⟨T1, T2⟩
          refine wpAnyF_plain (i := 0) (v := ?_) rfl (by kernel_rfl) (by kernel_rfl) (by kernel_rfl) (by kernel_rfl) (fun _ _ _ h => h) (Or.inl ⟨by rfl, ?_⟩) ?_
          rotate_left
          · intro w _
            go_simp
            try with_reducible rfl
          try simp only [Act.put, List.setIfInBounds_toArray, List.set_cons_zero, List.set_cons_succ]
          refine wpAnyF_plain (i := 1) (v := ?_) rfl (by kernel_rfl) (by kernel_rfl) (by kernel_rfl) (by kernel_rfl) (fun _ _ _ h => h) (Or.inl ⟨by rfl, ?_⟩) ?_
          rotate_left
          · intro w _
            go_simp
            try with_reducible rfl
          try simp only [Act.put, List.setIfInBounds_toArray, List.set_cons_zero, List.set_cons_succ]
          refine wpAnyF_plain (i := 2) (v := ?_) rfl (by kernel_rfl) (by kernel_rfl) (by kernel_rfl) (by kernel_rfl) (fun _ _ _ h => h) (Or.inl ⟨by rfl, ?_⟩) ?_
          rotate_left
          · intro w _
            go_simp
            try with_reducible rfl
          try simp only [Act.put, List.setIfInBounds_toArray, List.set_cons_zero, List.set_cons_succ]
          refine wpAnyF_plain (i := 3) (v := ?_) rfl (by kernel_rfl) (by kernel_rfl) (by kernel_rfl) (by kernel_rfl) (fun _ _ _ h => h) (Or.inl ⟨by rfl, ?_⟩) ?_
          rotate_left
          · intro w _
            go_simp
            try with_reducible rfl
          try simp only [Act.put, List.setIfInBounds_toArray, List.set_cons_zero, List.set_cons_succ]
          refine wpAnyF_plain (i := 4) (v := ?_) rfl (by kernel_rfl) (by kernel_rfl) (by kernel_rfl) (by kernel_rfl) (fun _ _ _ h => h) (Or.inl ⟨by rfl, ?_⟩) ?_
          rotate_left
          · intro w _
            go_simp
            try with_reducible rfl
          try simp only [Act.put, List.setIfInBounds_toArray, List.set_cons_zero, List.set_cons_succ]
          refine wpAnyF_plain (i := 5) (v := ?_) rfl (by kernel_rfl) (by kernel_rfl) (by kernel_rfl) (by kernel_rfl) (fun _ _ _ h => h) (Or.inl ⟨by rfl, ?_⟩) ?_
          rotate_left
          · intro w _
            go_simp
            try with_reducible rfl
          try simp only [Act.put, List.setIfInBounds_toArray, List.set_cons_zero, List.set_cons_succ]
          refine wpAnyF_plain (i := 6) (v := ?_) rfl (by kernel_rfl) (by kernel_rfl) (by kernel_rfl) (by kernel_rfl) (fun _ _ _ h => h) (Or.inl ⟨by rfl, ?_⟩) ?_
          rotate_left
          · intro w _
            go_simp
            try with_reducible rfl
          try simp only [Act.put, List.setIfInBounds_toArray, List.set_cons_zero, List.set_cons_succ]
          refine wpAnyF_plain (i := 7) (v := ?_) rfl (by kernel_rfl) (by kernel_rfl) (by kernel_rfl) (by kernel_rfl) (fun _ _ _ h => h) (Or.inl ⟨by rfl, ?_⟩) ?_
          rotate_left
          · intro w _
            go_simp
            try with_reducible rfl
          try simp only [Act.put, List.setIfInBounds_toArray, List.set_cons_zero, List.set_cons_succ]
          refine wpAnyF_plain (i := 8) (v := ?_) rfl (by kernel_rfl) (by kernel_rfl) (by kernel_rfl) (by kernel_rfl) (fun _ _ _ h => h) (Or.inl ⟨by rfl, ?_⟩) ?_
          rotate_left
          · intro w _
            go_simp
            try with_reducible rfl
          try simp only [Act.put, List.setIfInBounds_toArray, List.set_cons_zero, List.set_cons_succ]
          refine wpAnyF_plain (i := 10) (v := ?_) rfl (by kernel_rfl) (by kernel_rfl) (by kernel_rfl) (by kernel_rfl) (fun _ _ _ h => h) (Or.inl ⟨by rfl, ?_⟩) ?_
          rotate_left
          · intro w _
            go_simp
            try with_reducible rfl
          try simp only [Act.put, List.setIfInBounds_toArray, List.set_cons_zero, List.set_cons_succ]
          refine wpAnyF_plain (i := 11) (v := ?_) rfl (by kernel_rfl) (by kernel_rfl) (by kernel_rfl) (by kernel_rfl) (fun _ _ _ h => h) (Or.inl ⟨by rfl, ?_⟩) ?_
          rotate_left
          · intro w _
            go_simp
            try with_reducible rfl
          try simp only [Act.put, List.setIfInBounds_toArray, List.set_cons_zero, List.set_cons_succ]
          refine wpAnyF_plain (i := 12) (v := ?_) rfl (by kernel_rfl) (by kernel_rfl) (by kernel_rfl) (by kernel_rfl) (fun _ _ _ h => h) (Or.inl ⟨by rfl, ?_⟩) ?_
          rotate_left
          · intro w _
            go_simp
            try with_reducible rfl
          try simp only [Act.put, List.setIfInBounds_toArray, List.set_cons_zero, List.set_cons_succ]
          refine wpAnyF_read (i := 9) (v := ?_) rfl (by kernel_rfl) (by kernel_rfl) (by kernel_rfl) (by kernel_rfl) (fun _ _ _ h => h) (Or.inl ⟨by rfl, ?_⟩) hSS ?_
          rotate_left
          · intro w hSw
            obtain ⟨⟨x1, x2, x3, x4, x5, x6⟩, x7, x8, x9, x10, x11, x12⟩ := hSw
            go_simp
            try with_reducible rfl
          try simp only [Act.put, List.setIfInBounds_toArray, List.set_cons_zero, List.set_cons_succ]
          refine wpAnyF_read (i := 13) (v := ?_) rfl (by kernel_rfl) (by kernel_rfl) (by kernel_rfl) (by kernel_rfl) (fun _ _ _ h => h) (Or.inl ⟨by rfl, ?_⟩) hSS ?_
          rotate_left
          · intro w hSw
            obtain ⟨⟨x1, x2, x3, x4, x5, x6⟩, x7, x8, x9, x10, x11, x12⟩ := hSw
            go_simp
            try with_reducible rfl
          try simp only [Act.put, List.setIfInBounds_toArray, List.set_cons_zero, List.set_cons_succ]
          refine wpAnyF_plain (i := 14) (v := ?_) rfl (by kernel_rfl) (by kernel_rfl) (by kernel_rfl) (by kernel_rfl) (fun _ _ _ h => h) (Or.inl ⟨by rfl, ?_⟩) ?_
          rotate_left
          · intro w _
            go_simp
            try with_reducible rfl
          try simp only [Act.put, List.setIfInBounds_toArray, List.set_cons_zero, List.set_cons_succ]
          obtain ⟨x1, x2, x3, x4, x5, x6⟩ := T1
          refine wpAnyF_one (i := 15) (by kernel_rfl) rfl (fun K hK => ?_)
          go_simp
          refine hK.out _ _ (fun h => by cases h) ?_
          clear hK K
          obtain ⟨V, hV⟩ : ∃ V, Hid (wr.drew.setCells blk (k * 3) (encL L y) = V) := ⟨_, Lib.hid rfl⟩
          have T3 : Three L blk y (k + 1) V := by rw [← hV.out]; exact three_far (W := wr.drew) T2 (by omega) y
          obtain ⟨y1, y2, y3, y4, y5, y6⟩ := T3
          change wpAnyF _ _ _ _ _ _ _ _ _ (wr.drew.setCells blk (k * 3) (encL L y))
          rw [hV.out]
          clear x1 x2 x3 x4 x5 x6
          refine wpAnyF_plain (i := 16) (v := ?_) rfl (by kernel_rfl) (by kernel_rfl) (by kernel_rfl) (by kernel_rfl) (fun _ _ _ h => h) (Or.inl ⟨by rfl, ?_⟩) ?_
          rotate_left
          · intro w _
            go_simp
            try with_reducible rfl
          try simp only [Act.put, List.setIfInBounds_toArray, List.set_cons_zero, List.set_cons_succ]
          refine wpAnyF_one (i := 17) (by kernel_rfl) rfl (fun K hK => ?_)
          go_simp
          refine hK.out _ _ (fun h => by cases h) ?_
          clear hK K
          refine wpAnyF_done (by kernel_rfl) ?_ _
          change Exit.inBlock 3 _ _ _ (V.setCells blk ((k + 1) * 3) (encL L x))
          obtain ⟨V2, hV2⟩ : ∃ V2, Hid (V.setCells blk ((k + 1) * 3) (encL L x) = V2) := ⟨_, Lib.hid rfl⟩
          have Hn2 : Hid (SWK (encL L) 3 w0 blk 0 (swp dk k (k + 1)) V2) := Lib.hid (by
            have h := Hnx.out
            rw [Nat.zero_add, Nat.zero_add, hV.out, hV2.out] at h
            exact h)
          rw [hV2.out]
          clear y1 y2 y3 y4 y5 y6 Hnx hSS T2
          go_wp2_with fail
          refine ⟨⟨k + 1, swp dk k (k + 1), by go_num, by omega, by omega, by rw [size_swp]; exact Hds.out, Hn2, Lib.hid (permIn_trans _ _ _ a b hP.out (swp_permIn dk a b k (k + 1) (by omega) (by omega) (by omega) (by omega) (by rw [Hds.out]; exact hb))), Lib.hid fun z => ?_⟩, by simp [intOf]; omega⟩
          rw [← rot_up (get d) a m k z Ham.out hak, ← hR.out, ← hR.out, ← hR.out]
          exact swp_get dk (by rw [Hds.out]; omega) (by rw [Hds.out]; omega) z
        · obtain rfl : k + 1 = i := by omega
          have hlt' : ¬ (k : Int) < ((k + 1 : Nat) : Int) - 1 := by omega
          go_wp2_with fail
          go_end0
          exact ⟨⟨_, rfl⟩, dk, hS.out, hP.out, leaf_left Ham.out hmi hjb S2.out K1.out K2.out hR.out⟩
end Go.Proofs.Ytpekbakidhfliaa
