/-
  For the laws of span: two stretches of a row of edits exchanged, by the program. Condition: they lie apart, within the row.
-/
import Derived.Test.YtpekbakidhfliaaIns
import Derived.Test.YtpekbakidhfliaaTwo
namespace Go.Proofs.Ytpekbakidhfliaa
open Go.RowKit Go.Shelf Go.Sort
set_option linter.unusedSimpArgs false

/-- Two stretches of n places exchanged, one place after the other. -/
def swpR (d : Array Nat) (a b : Nat) : Nat → Array Nat
  | 0 => d
  | n + 1 => swp (swpR d a b n) (a + n) (b + n)
theorem swpR_size (d : Array Nat) (a b n : Nat) : (swpR d a b n).size = d.size := by
  induction n with
  | zero => rfl
  | succ n ih => rw [swpR, size_swp, ih]
/-- The three cells of place i. -/
def Three (L : List Ed) (blk : Nat) (x i : Nat) (W : World) : Prop :=
  W.cell? ⟨blk, i * 3, none⟩ = some (.int .i64 (L.getD x ⟨0, 0, []⟩).fr) ∧ W.cell? ⟨blk, i * 3 + 1, none⟩ = some (.int .i64 (L.getD x ⟨0, 0, []⟩).to) ∧ W.cell? ⟨blk, i * 3 + 2, none⟩ = some (.string (bs (L.getD x ⟨0, 0, []⟩).tx)) ∧
  W.frozen? ⟨blk, i * 3, none⟩ = false ∧ W.frozen? ⟨blk, i * 3 + 1, none⟩ = false ∧ W.frozen? ⟨blk, i * 3 + 2, none⟩ = false
theorem three_of {L : List Ed} {w0 W : World} {blk : Nat} {d0 d : Array Nat} (h : SWK (encL L) 3 w0 blk 0 d W) (R : RowK (encL L) 3 w0 blk 0 d0) (hs : d.size = d0.size) {i : Nat} (hi : i < d.size) : Three L blk d[i]! i W := by
  have hh := h.holds R.hblk R.hH hs
  have h0 := HoldsK.cell hh hi (show 0 < 3 by omega)
  have h1 := HoldsK.cell hh hi (show 1 < 3 by omega)
  have h2 := HoldsK.cell hh hi (show 2 < 3 by omega)
  simp only [Nat.zero_add, Nat.add_zero] at h0 h1 h2
  exact ⟨h0.1, h1.1, h2.1, h0.2, h1.2, h2.2⟩
theorem three_far {L : List Ed} {W : World} {blk x i j : Nat} (h : Three L blk x j W) (hij : i ≠ j) (y : Nat) : Three L blk x j (W.setCells blk (i * 3) (encL L y)) := by
  obtain ⟨h0, h1, h2, h3, h4, h5⟩ := h
  have ho : ∀ c, c < 3 → (W.setCells blk (i * 3) (encL L y)).cell? ⟨blk, j * 3 + c, none⟩ = W.cell? ⟨blk, j * 3 + c, none⟩ := fun c hc => World.cell?_setCells_out blk _ _ _ _ (fun _ _ => by
    have : (encL L y).length = 3 := rfl
    show j * 3 + c < i * 3 ∨ i * 3 + (encL L y).length ≤ j * 3 + c
    omega)
  exact ⟨(ho 0 (by omega)).trans h0, (ho 1 (by omega)).trans h1, (ho 2 (by omega)).trans h2, by rw [World.frozen?_setCells]; exact h3, by rw [World.frozen?_setCells]; exact h4, by rw [World.frozen?_setCells]; exact h5⟩
theorem rowK_of (L : List Ed) {w : World} {blk : Nat} {d : Array Nat} (hH : HoldsK (encL L) 3 w blk 0 d) (hblk : blk < w.heap.size) : RowK (encL L) 3 w blk 0 d := ⟨encL_len L, encL_one L, hH, hblk⟩
set_option maxRecDepth 100000 in
set_option maxHeartbeats 8000000 in
theorem swapR_any (L : List Ed) (blk cap a b n : Nat) (d0 d : Array Nat) (w0 w : World) (f : Value) (R : RowK (encL L) 3 w0 blk 0 d0) (hs : d.size = d0.size) (S : SWK (encL L) 3 w0 blk 0 d w) (hab : a + n ≤ b) (hb : b + n ≤ d.size) (_hsz : d.size < 1000000) (hc : d.size ≤ cap) (hcm : cap ≤ maxLen) :
    Calls Try.prog 41 #[.slice (some ⟨blk, 0, none⟩) d.size cap, .int .i64 a, .int .i64 b, .int .i64 n, f] w fun e w' => (∃ v, e = .returned v) ∧ SWK (encL L) 3 w0 blk 0 (swpR d a b n) w' := by
  have HS := Lib.hid S
  have Hs := Lib.hid hs
  clear S hs
  unfold maxLen at hcm
  go_enter Try.func41, Try.ntmps41
  go_wp2_with fail
  go_loopw [10] (fun c wr => ∃ k : Nat, c = .int .i64 k ∧ k ≤ n ∧ Hid (SWK (encL L) 3 w0 blk 0 (swpR d a b k) wr)) (fun c _ => n - (intOf c).toNat)
  case atStart => exact ⟨0, rfl, by omega, HS⟩
  case round =>
    obtain ⟨k, rfl, hk, hS⟩ := hrel
    by_cases hlt : k < n
    · have hds := swpR_size d a b k
      have T1 := three_of hS.out R (by rw [hds]; exact Hs.out) (i := a + k) (by omega)
      have T2 := three_of hS.out R (by rw [hds]; exact Hs.out) (i := b + k) (by omega)
      have Hnx := Lib.hid (hS.out.swapped R (a + k) (b + k) (by omega) (by omega))
      obtain ⟨x, hx⟩ : ∃ x, (swpR d a b k)[a + k]! = x := ⟨_, rfl⟩
      obtain ⟨y, hy⟩ : ∃ y, (swpR d a b k)[b + k]! = y := ⟨_, rfl⟩
      rw [hx] at T1 Hnx
      rw [hy] at T2 Hnx
      clear hx hy hds
      have p1 : IntKind.i64.wrap ((a : Int) + k) = (a : Int) + k := by rw [Go.IntWalk.i64_left, Go.IntWalk.wrap64_in _ (by omega)]
      have p2 : IntKind.i64.wrap ((b : Int) + k) = (b : Int) + k := by rw [Go.IntWalk.i64_left, Go.IntWalk.wrap64_in _ (by omega)]
      have q1 : (a : Int) + k < (d.size : Int) := by omega
      have q2 : (b : Int) + k < (d.size : Int) := by omega
      have q3 : (0 : Int) ≤ (a : Int) + k := by omega
      have q4 : (0 : Int) ≤ (b : Int) + k := by omega
      have e1 : ((a : Int) + k).toNat = a + k := by omega
      have e2 : ((b : Int) + k).toNat = b + k := by omega
      go_wp2_with fail
      refine wp_region_F (S := fun W => Three L blk x (a + k) W ∧ Three L blk y (b + k) W) (rd := fun i => i == 13 || i == 19) (by kernel_rfl) ?_
      have hSS : Three L blk x (a + k) wr.drew ∧ Three L blk y (b + k) wr.drew := ⟨T1, T2⟩
      refine wpAnyF_plain (i := 0) (v := ?_) rfl (by kernel_rfl) (by kernel_rfl) (by kernel_rfl) (by kernel_rfl) (fun _ _ _ h => h) (Or.inl ⟨by rfl, ?_⟩) ?_
      rotate_left
      · intro w _
        go_simp
        try with_reducible rfl
      try simp only [Act.put, List.setIfInBounds_toArray, List.set_cons_zero, List.set_cons_succ]
      refine wpAnyF_plain (i := 1) (v := ?_) rfl (by kernel_rfl) (by kernel_rfl) (by kernel_rfl) (by kernel_rfl) (fun _ _ _ h => h) (Or.inl ⟨by rfl, ?_⟩) ?_
      rotate_left
      · intro w _
        go_simp
        try with_reducible rfl
      try simp only [Act.put, List.setIfInBounds_toArray, List.set_cons_zero, List.set_cons_succ]
      refine wpAnyF_plain (i := 2) (v := ?_) rfl (by kernel_rfl) (by kernel_rfl) (by kernel_rfl) (by kernel_rfl) (fun _ _ _ h => h) (Or.inl ⟨by rfl, ?_⟩) ?_
      rotate_left
      · intro w _
        go_simp
        try with_reducible rfl
      try simp only [Act.put, List.setIfInBounds_toArray, List.set_cons_zero, List.set_cons_succ]
      refine wpAnyF_plain (i := 3) (v := ?_) rfl (by kernel_rfl) (by kernel_rfl) (by kernel_rfl) (by kernel_rfl) (fun _ _ _ h => h) (Or.inl ⟨by rfl, ?_⟩) ?_
      rotate_left
      · intro w _
        go_simp
        try with_reducible rfl
      try simp only [Act.put, List.setIfInBounds_toArray, List.set_cons_zero, List.set_cons_succ]
      refine wpAnyF_plain (i := 4) (v := ?_) rfl (by kernel_rfl) (by kernel_rfl) (by kernel_rfl) (by kernel_rfl) (fun _ _ _ h => h) (Or.inl ⟨by rfl, ?_⟩) ?_
      rotate_left
      · intro w _
        go_simp
        try with_reducible rfl
      try simp only [Act.put, List.setIfInBounds_toArray, List.set_cons_zero, List.set_cons_succ]
      refine wpAnyF_plain (i := 5) (v := ?_) rfl (by kernel_rfl) (by kernel_rfl) (by kernel_rfl) (by kernel_rfl) (fun _ _ _ h => h) (Or.inl ⟨by rfl, ?_⟩) ?_
      rotate_left
      · intro w _
        go_simp
        try with_reducible rfl
      try simp only [Act.put, List.setIfInBounds_toArray, List.set_cons_zero, List.set_cons_succ]
      refine wpAnyF_plain (i := 6) (v := ?_) rfl (by kernel_rfl) (by kernel_rfl) (by kernel_rfl) (by kernel_rfl) (fun _ _ _ h => h) (Or.inl ⟨by rfl, ?_⟩) ?_
      rotate_left
      · intro w _
        go_simp
        try with_reducible rfl
      try simp only [Act.put, List.setIfInBounds_toArray, List.set_cons_zero, List.set_cons_succ]
      refine wpAnyF_plain (i := 7) (v := ?_) rfl (by kernel_rfl) (by kernel_rfl) (by kernel_rfl) (by kernel_rfl) (fun _ _ _ h => h) (Or.inl ⟨by rfl, ?_⟩) ?_
      rotate_left
      · intro w _
        go_simp
        try with_reducible rfl
      try simp only [Act.put, List.setIfInBounds_toArray, List.set_cons_zero, List.set_cons_succ]
      refine wpAnyF_plain (i := 8) (v := ?_) rfl (by kernel_rfl) (by kernel_rfl) (by kernel_rfl) (by kernel_rfl) (fun _ _ _ h => h) (Or.inl ⟨by rfl, ?_⟩) ?_
      rotate_left
      · intro w _
        go_simp
        try with_reducible rfl
      try simp only [Act.put, List.setIfInBounds_toArray, List.set_cons_zero, List.set_cons_succ]
      refine wpAnyF_plain (i := 9) (v := ?_) rfl (by kernel_rfl) (by kernel_rfl) (by kernel_rfl) (by kernel_rfl) (fun _ _ _ h => h) (Or.inl ⟨by rfl, ?_⟩) ?_
      rotate_left
      · intro w _
        go_simp
        try with_reducible rfl
      try simp only [Act.put, List.setIfInBounds_toArray, List.set_cons_zero, List.set_cons_succ]
      refine wpAnyF_plain (i := 10) (v := ?_) rfl (by kernel_rfl) (by kernel_rfl) (by kernel_rfl) (by kernel_rfl) (fun _ _ _ h => h) (Or.inl ⟨by rfl, ?_⟩) ?_
      rotate_left
      · intro w _
        go_simp
        try with_reducible rfl
      try simp only [Act.put, List.setIfInBounds_toArray, List.set_cons_zero, List.set_cons_succ]
      refine wpAnyF_plain (i := 11) (v := ?_) rfl (by kernel_rfl) (by kernel_rfl) (by kernel_rfl) (by kernel_rfl) (fun _ _ _ h => h) (Or.inl ⟨by rfl, ?_⟩) ?_
      rotate_left
      · intro w _
        go_simp
        try with_reducible rfl
      try simp only [Act.put, List.setIfInBounds_toArray, List.set_cons_zero, List.set_cons_succ]
      refine wpAnyF_plain (i := 12) (v := ?_) rfl (by kernel_rfl) (by kernel_rfl) (by kernel_rfl) (by kernel_rfl) (fun _ _ _ h => h) (Or.inl ⟨by rfl, ?_⟩) ?_
      rotate_left
      · intro w _
        go_simp
        try with_reducible rfl
      try simp only [Act.put, List.setIfInBounds_toArray, List.set_cons_zero, List.set_cons_succ]
      refine wpAnyF_plain (i := 14) (v := ?_) rfl (by kernel_rfl) (by kernel_rfl) (by kernel_rfl) (by kernel_rfl) (fun _ _ _ h => h) (Or.inl ⟨by rfl, ?_⟩) ?_
      rotate_left
      · intro w _
        go_simp
        try with_reducible rfl
      try simp only [Act.put, List.setIfInBounds_toArray, List.set_cons_zero, List.set_cons_succ]
      refine wpAnyF_plain (i := 15) (v := ?_) rfl (by kernel_rfl) (by kernel_rfl) (by kernel_rfl) (by kernel_rfl) (fun _ _ _ h => h) (Or.inl ⟨by rfl, ?_⟩) ?_
      rotate_left
      · intro w _
        go_simp
        try with_reducible rfl
      try simp only [Act.put, List.setIfInBounds_toArray, List.set_cons_zero, List.set_cons_succ]
      refine wpAnyF_plain (i := 16) (v := ?_) rfl (by kernel_rfl) (by kernel_rfl) (by kernel_rfl) (by kernel_rfl) (fun _ _ _ h => h) (Or.inl ⟨by rfl, ?_⟩) ?_
      rotate_left
      · intro w _
        go_simp
        try with_reducible rfl
      try simp only [Act.put, List.setIfInBounds_toArray, List.set_cons_zero, List.set_cons_succ]
      refine wpAnyF_plain (i := 17) (v := ?_) rfl (by kernel_rfl) (by kernel_rfl) (by kernel_rfl) (by kernel_rfl) (fun _ _ _ h => h) (Or.inl ⟨by rfl, ?_⟩) ?_
      rotate_left
      · intro w _
        go_simp
        try with_reducible rfl
      try simp only [Act.put, List.setIfInBounds_toArray, List.set_cons_zero, List.set_cons_succ]
      refine wpAnyF_plain (i := 18) (v := ?_) rfl (by kernel_rfl) (by kernel_rfl) (by kernel_rfl) (by kernel_rfl) (fun _ _ _ h => h) (Or.inl ⟨by rfl, ?_⟩) ?_
      rotate_left
      · intro w _
        go_simp
        try with_reducible rfl
      try simp only [Act.put, List.setIfInBounds_toArray, List.set_cons_zero, List.set_cons_succ]
      refine wpAnyF_read (i := 13) (v := ?_) rfl (by kernel_rfl) (by kernel_rfl) (by kernel_rfl) (by kernel_rfl) (fun _ _ _ h => h) (Or.inl ⟨by rfl, ?_⟩) hSS ?_
      rotate_left
      · intro w hSw
        obtain ⟨⟨x1, x2, x3, x4, x5, x6⟩, x7, x8, x9, x10, x11, x12⟩ := hSw
        go_simp
        try with_reducible rfl
      try simp only [Act.put, List.setIfInBounds_toArray, List.set_cons_zero, List.set_cons_succ]
      refine wpAnyF_read (i := 19) (v := ?_) rfl (by kernel_rfl) (by kernel_rfl) (by kernel_rfl) (by kernel_rfl) (fun _ _ _ h => h) (Or.inl ⟨by rfl, ?_⟩) hSS ?_
      rotate_left
      · intro w hSw
        obtain ⟨⟨x1, x2, x3, x4, x5, x6⟩, x7, x8, x9, x10, x11, x12⟩ := hSw
        go_simp
        try with_reducible rfl
      try simp only [Act.put, List.setIfInBounds_toArray, List.set_cons_zero, List.set_cons_succ]
      refine wpAnyF_plain (i := 20) (v := ?_) rfl (by kernel_rfl) (by kernel_rfl) (by kernel_rfl) (by kernel_rfl) (fun _ _ _ h => h) (Or.inl ⟨by rfl, ?_⟩) ?_
      rotate_left
      · intro w _
        go_simp
        try with_reducible rfl
      try simp only [Act.put, List.setIfInBounds_toArray, List.set_cons_zero, List.set_cons_succ]
      obtain ⟨x1, x2, x3, x4, x5, x6⟩ := T1
      refine wpAnyF_one (i := 21) (by kernel_rfl) rfl (fun K hK => ?_)
      go_simp
      refine hK.out _ _ (fun h => by cases h) ?_
      clear hK K
      obtain ⟨V, hV⟩ : ∃ V, Hid (wr.drew.setCells blk ((a + k) * 3) (encL L y) = V) := ⟨_, Lib.hid rfl⟩
      have T3 : Three L blk y (b + k) V := by rw [← hV.out]; exact three_far (W := wr.drew) T2 (by omega) y
      obtain ⟨y1, y2, y3, y4, y5, y6⟩ := T3
      change wpAnyF _ _ _ _ _ _ _ _ _ (wr.drew.setCells blk ((a + k) * 3) (encL L y))
      rw [hV.out]
      clear x1 x2 x3 x4 x5 x6
      refine wpAnyF_plain (i := 22) (v := ?_) rfl (by kernel_rfl) (by kernel_rfl) (by kernel_rfl) (by kernel_rfl) (fun _ _ _ h => h) (Or.inl ⟨by rfl, ?_⟩) ?_
      rotate_left
      · intro w _
        go_simp
        try with_reducible rfl
      try simp only [Act.put, List.setIfInBounds_toArray, List.set_cons_zero, List.set_cons_succ]
      refine wpAnyF_one (i := 23) (by kernel_rfl) rfl (fun K hK => ?_)
      go_simp
      refine hK.out _ _ (fun h => by cases h) ?_
      clear hK K
      refine wpAnyF_done (by kernel_rfl) ?_ _
      change Exit.inBlock 1 _ _ _ (V.setCells blk ((b + k) * 3) (encL L x))
      obtain ⟨V2, hV2⟩ : ∃ V2, Hid (V.setCells blk ((b + k) * 3) (encL L x) = V2) := ⟨_, Lib.hid rfl⟩
      have Hn2 : Hid (SWK (encL L) 3 w0 blk 0 (swpR d a b (k + 1)) V2) := Lib.hid (by
        have h := Hnx.out
        rw [Nat.zero_add, Nat.zero_add, hV.out, hV2.out] at h
        exact h)
      rw [hV2.out]
      clear y1 y2 y3 y4 y5 y6 Hnx hSS T2
      go_wp2_with fail
      exact ⟨⟨k + 1, by go_num, by omega, Hn2⟩, by simp [intOf]; omega⟩
    · obtain rfl : k = n := by omega
      go_wp2_with fail
      go_end0
      exact ⟨⟨_, rfl⟩, hS.out⟩
end Go.Proofs.Ytpekbakidhfliaa
