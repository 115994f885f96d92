/-
  For the laws of weave: the iterator over the chunks of three rows hands over each of them, in order. Condition: rows of at most 1,000,000 things; both matches rise.
-/
import Derived.Test.YtfjmhnnjgjcmeaaDoorRng
import Derived.Test.YtfjmhnnjgjcmeaaDoorLasu
import Derived.OwnWalkIn
import Derived.TacticsInMore
import Derived.LoopNIn
import Derived.LoopIn
import Derived.Sort.CutIn
namespace Go.Proofs.YtfjmhnnjgjcmeaaDoor.L
open Go.RowKit Go.Shelf
set_option linter.unusedSimpArgs false
set_option linter.unusedVariables false

attribute [local go_sem] Oper.semAt_some

def slc {α : Type} (l : List α) (i j : Nat) : List α := (l.drop i).take (j - i)
/-- A chunk: its kind, where it begins, where it ends. -/
structure Ck where
  kind : Int
  p : P3
  q : P3
def ckOf (o a b : List Int) (c : P3 × P3) : Ck := ⟨kindN (slc o c.1.o c.2.o) (slc a c.1.a c.2.a) (slc b c.1.b c.2.b), c.1, c.2⟩
/-- The chunks of three rows of numbers. -/
def chunksOf (o a b : List Int) : List Ck := (cutsAt (matchOf o a) (matchOf o b) ⟨o.length, a.length, b.length⟩ ⟨0, 0, 0⟩).map (ckOf o a b)
def encC (c : Ck) : Array Value := #[.agg #[.int .i64 c.kind, .int .i64 (c.p.o : Nat), .int .i64 (c.q.o : Nat), .int .i64 (c.p.a : Nat), .int .i64 (c.q.a : Nat), .int .i64 (c.p.b : Nat), .int .i64 (c.q.b : Nat)]]
/-- What a round keeps of the iterator. -/
def KpC (n0 : Nat) (A B : World) : Prop := A.heap.size ≤ B.heap.size ∧ Below n0 A B ∧ ∀ (b t : Nat) (cs : Array Value), (t = 105 ∨ t = 3 ∨ t = 85) → RowAt A b t cs → RowAt B b t cs
theorem KpC.trans {n0 : Nat} {A B C : World} (h : KpC n0 A B) (k : KpC n0 B C) : KpC n0 A C := ⟨Nat.le_trans h.1 k.1, h.2.1.trans k.2.1, fun b t cs ht hb => k.2.2 b t cs ht (h.2.2 b t cs ht hb)⟩
theorem KpC.refl (n0 : Nat) (A : World) : KpC n0 A A := ⟨Nat.le_refl _, Below.refl _ _, fun _ _ _ _ h => h⟩
theorem kpC_put {n0 : Nat} {w : World} (hn : n0 ≤ w.heap.size) (W : World) (l : Nat) (o o' : Obj) (hl : w.heap.size ≤ l) (h : W.heap[l]? = some o) (hc : o.isCells = false) : KpC n0 W (W.putObj l o') := by
  refine ⟨by simp [World.putObj], (Below.refl n0 W).grown (grownBy_putObj' W l o') (by have := (Array.getElem?_eq_some_iff.1 h).1; omega) (fun k e => by cases e; omega), fun b t cs _ hb => (World.putObj_heap_other ?_).trans hb⟩
  rintro rfl
  unfold RowAt at hb
  rw [hb] at h; cases h; cases hc

theorem p3_ext {p q : P3} (h1 : p.o = q.o) (h2 : p.a = q.a) (h3 : p.b = q.b) : p = q := by cases p; cases q; simp at *; exact ⟨h1, h2, h3⟩
theorem ints_of_row' {W : World} {b : Nat} {xs : List Int} {t : TypeId} {k : IntKind} (h : RowAt W b t (xs.map (Value.int k)).toArray) (hm : xs.length ≤ maxLen) : Ints W k (.slice (some ⟨b, 0, none⟩) xs.length xs.length) xs := ints_of_row h hm
/-- How far the box at g is. -/
def psum (W : World) (g : Nat) : Nat := (intOf ((W.cell? ⟨g, 0, none⟩).getD undef)).toNat + (intOf ((W.cell? ⟨g, 1, none⟩).getD undef)).toNat + (intOf ((W.cell? ⟨g, 2, none⟩).getD undef)).toNat
theorem psum_row {W : World} {g t : Nat} {p : P3} (h : RowAt W g t (p3v p)) : psum W g = p.sum := by
  obtain ⟨c0, c1, c2, -, -, -⟩ := row3 h
  unfold psum P3.sum
  rw [c0, c1, c2]
  simp [intOf]
theorem RowAt.later' {w U : World} {b t : Nat} {cs : Array Value} (h : RowAt w b t cs) (hU : ∃ n, U = w.drewN n) : RowAt U b t cs := by
  obtain ⟨n, rfl⟩ := hU
  exact h
/-- Between two rounds of the iterator. -/
structure LI (w0 W : World) (L R : List Int) (E : P3) (o a b : List Int) (C0 : List Ck) (J : List Ck → World → Prop) (b1 b2 b3 : Nat) (a1 a2 a3 : Option Addr) (c1 c2 c3 ga gb g7 g8 : Nat) (p : P3) (pre : List Ck) (wr : World) : Prop where
  inv : InvP L R E p
  cut : pre ++ (cutsAt L R E p).map (ckOf o a b) = C0
  j : J pre wr
  bel : Below w0.heap.size w0 wr
  size : W.heap.size ≤ wr.heap.size
  s1 : RowAt wr b1 85 #[.slice a1 o.length c1]
  s2 : RowAt wr b2 85 #[.slice a2 a.length c2]
  s3 : RowAt wr b3 85 #[.slice a3 b.length c3]
  ra : RowAt wr ga 3 (L.map (Value.int .i64)).toArray
  rb : RowAt wr gb 3 (R.map (Value.int .i64)).toArray
  r7 : RowAt wr g7 105 (p3v p)
  r8 : RowAt wr g8 105 (p3v E)
  ne : g7 ≠ g8
  q7 : W.heap.size ≤ g7
  q8 : W.heap.size ≤ g8
set_option maxRecDepth 100000 in
set_option maxHeartbeats 16000000 in
theorem each1_in (fu : Nat) (hn : 1 ≤ fu) (w0 w1 : World) (b1 b2 b3 : Nat) (v1 v2 v3 : Value) (o a b : List Int) (i1 : Ints w0 .i64 v1 o) (i2 : Ints w0 .i64 v2 a) (i3 : Ints w0 .i64 v3 b) (l1 : o.length ≤ 1000000) (l2 : a.length ≤ 1000000) (l3 : b.length ≤ 1000000)
    (m1 : isMatch a.length 0 (matchOf o a)) (m2 : isMatch b.length 0 (matchOf o b)) (hb1 : Below w0.heap.size w0 w1) (r1 : RowAt w1 b1 85 #[v1]) (r2 : RowAt w1 b2 85 #[v2]) (r3 : RowAt w1 b3 85 #[v3]) :
    SeqT Fence.wide fu 54 #[.pointer (some ⟨b1, 0, none⟩), .pointer (some ⟨b2, 0, none⟩), .pointer (some ⟨b3, 0, none⟩)] encC (KpC w0.heap.size) (fun xs => xs = chunksOf o a b) (chunksOf o a b).length w1 := by
  intro l J W hW hJ hY h0
  have hro : Fence.wide.round = none := rfl
  have HY := Lib.hid hY
  have HJ := Lib.hid hJ
  have hbW : Below w0.heap.size w0 W := hb1.trans (hW.mono hb1.size)
  have HW := Lib.hid hbW
  have R1 : Hid (RowAt W b1 85 #[v1]) := Lib.hid (r1.later hW)
  have R2 : Hid (RowAt W b2 85 #[v2]) := Lib.hid (r2.later hW)
  have R3 : Hid (RowAt W b3 85 #[v3]) := Lib.hid (r3.later hW)
  have I1 : Hid (∀ U, Below w0.heap.size w0 U → Ints U .i64 v1 o) := Lib.hid (fun U hU => i1.below hU)
  have I2 : Hid (∀ U, Below w0.heap.size w0 U → Ints U .i64 v2 a) := Lib.hid (fun U hU => i2.below hU)
  have I3 : Hid (∀ U, Below w0.heap.size w0 U → Ints U .i64 v3 b) := Lib.hid (fun U hU => i3.below hU)
  obtain ⟨a1, c1, rfl, -, hm1, -⟩ := i1
  obtain ⟨a2, c2, rfl, -, hm2, -⟩ := i2
  obtain ⟨a3, c3, rfl, -, hm3, -⟩ := i3
  unfold maxLen at hm1 hm2 hm3
  have HF : Hid (∀ U, Below W.heap.size W U → U.cell? ⟨b1, 0, none⟩ = some (.slice a1 o.length c1) ∧ U.cell? ⟨b2, 0, none⟩ = some (.slice a2 a.length c2) ∧ U.cell? ⟨b3, 0, none⟩ = some (.slice a3 b.length c3)) := Lib.hid (fun U hU => ⟨(R1.out.later hU).cell rfl, (R2.out.later hU).cell rfl, (R3.out.later hU).cell rfl⟩)
  have CM1 : Hid (∀ U, Below W.heap.size W U → Calls Tryd.prog 55 #[.slice a1 o.length c1, .slice a2 a.length c2] U (Gives U (matchOf o a))) := Lib.hid (fun U hU => Match_any _ _ o a U (I1.out U (HW.out.trans (hU.mono HW.out.size))) (I2.out U (HW.out.trans (hU.mono HW.out.size))) l1 l2)
  have CM2 : Hid (∀ U, Below W.heap.size W U → Calls Tryd.prog 55 #[.slice a1 o.length c1, .slice a3 b.length c3] U (Gives U (matchOf o b))) := Lib.hid (fun U hU => Match_any _ _ o b U (I1.out U (HW.out.trans (hU.mono HW.out.size))) (I3.out U (HW.out.trans (hU.mono HW.out.size))) l1 l3)
  obtain ⟨L, hL⟩ : ∃ L, Hid (matchOf o a = L) := ⟨_, Lib.hid rfl⟩
  obtain ⟨R, hR⟩ : ∃ R, Hid (matchOf o b = R) := ⟨_, Lib.hid rfl⟩
  have hLl : Hid (L.length = o.length) := Lib.hid (by rw [← hL.out]; exact matchOf_length o a)
  have hRl : Hid (R.length = o.length) := Lib.hid (by rw [← hR.out]; exact matchOf_length o b)
  rw [hL.out] at CM1
  rw [hR.out] at CM2
  clear hY hJ hbW hb1 r1 r2 r3 hW
  obtain ⟨no, hno⟩ : ∃ n, Hid (o.length = n) := ⟨_, Lib.hid rfl⟩
  obtain ⟨na, hna⟩ : ∃ n, Hid (a.length = n) := ⟨_, Lib.hid rfl⟩
  obtain ⟨nb, hnb⟩ : ∃ n, Hid (b.length = n) := ⟨_, Lib.hid rfl⟩
  rw [hno.out] at l1 HF CM1 CM2 R1 hLl hRl
  rw [hna.out] at l2 HF CM1 R2 m1
  rw [hnb.out] at l3 HF CM2 R3 m2
  have HI : Hid (InvP L R ⟨no, na, nb⟩ ⟨0, 0, 0⟩) := Lib.hid (InvP.start hLl.out hRl.out (by rw [← hL.out]; exact m1) (by rw [← hR.out]; exact m2))
  clear m1 m2
  refine callsIn_of_wp Tryd.func54 rfl trivial ?_ hro
  simp only [Tryd.ntmps54, List.size_toArray, List.length_cons, List.length_nil, Nat.reduceAdd, Nat.reduceSub, Array.replicate_succ, Array.replicate_zero, List.push_toArray, List.append_toArray, List.nil_append, List.cons_append]
  gi_wp2
  refine wpIn_region_Z (S := fun U => Below W.heap.size W U) (zs := []) (by kernel_rfl) ?_
  have hS : Below W.heap.size W W.drew := below_draws (Below.refl _ _) 1
  refine wpAnyZIn_take (i := 0) (v := ?_) rfl (by kernel_rfl) (by kernel_rfl) (by kernel_rfl) (by kernel_rfl) (by kernel_rfl) (fun _ _ _ h => h) (Or.inl ⟨by rfl, ?_⟩) (fun _ => rfl) hS ?_
  rotate_left
  · intro w hSw
    obtain ⟨x1, x2, x3⟩ := HF.out w hSw
    go_simp
    try with_reducible rfl
  try simp only [Act.put, List.setIfInBounds_toArray, List.set_cons_zero, List.set_cons_succ]
  refine wpAnyZIn_take (i := 1) (v := ?_) rfl (by kernel_rfl) (by kernel_rfl) (by kernel_rfl) (by kernel_rfl) (by kernel_rfl) (fun _ _ _ h => h) (Or.inl ⟨by rfl, ?_⟩) (fun _ => rfl) hS ?_
  rotate_left
  · intro w hSw
    obtain ⟨x1, x2, x3⟩ := HF.out w hSw
    go_simp
    try with_reducible rfl
  try simp only [Act.put, List.setIfInBounds_toArray, List.set_cons_zero, List.set_cons_succ]
  refine wpAnyZIn_take (i := 3) (v := ?_) rfl (by kernel_rfl) (by kernel_rfl) (by kernel_rfl) (by kernel_rfl) (by kernel_rfl) (fun _ _ _ h => h) (Or.inl ⟨by rfl, ?_⟩) (fun _ => rfl) hS ?_
  rotate_left
  · intro w hSw
    obtain ⟨x1, x2, x3⟩ := HF.out w hSw
    go_simp
    try with_reducible rfl
  try simp only [Act.put, List.setIfInBounds_toArray, List.set_cons_zero, List.set_cons_succ]
  refine wpAnyZIn_take (i := 4) (v := ?_) rfl (by kernel_rfl) (by kernel_rfl) (by kernel_rfl) (by kernel_rfl) (by kernel_rfl) (fun _ _ _ h => h) (Or.inl ⟨by rfl, ?_⟩) (fun _ => rfl) hS ?_
  rotate_left
  · intro w hSw
    obtain ⟨x1, x2, x3⟩ := HF.out w hSw
    go_simp
    try with_reducible rfl
  try simp only [Act.put, List.setIfInBounds_toArray, List.set_cons_zero, List.set_cons_succ]
  refine wpAnyZIn_one (i := 2) (by kernel_rfl) rfl (fun K hK => ?_)
  go_simp
  refine ⟨trivial, ?_⟩
  refine (callsIn_wide.2 (CM1.out _ hS)).mono ?_
  rintro e w3 ⟨ga, rfl, hg3, hr3, hb3⟩
  have hS3 : Below W.heap.size W w3 := hS.trans (hb3.mono (by simp))
  refine hK.out _ _ (fun _ => hS3) ?_
  clear hK K hS
  refine wpAnyZIn_one (i := 5) (by kernel_rfl) rfl (fun K hK => ?_)
  go_simp
  refine ⟨trivial, ?_⟩
  refine (callsIn_wide.2 (CM2.out _ hS3)).mono ?_
  rintro e w4 ⟨gb, rfl, hg4, hr4, hb4⟩
  have hS4 : Below W.heap.size W w4 := hS3.trans (hb4.mono hS3.size)
  have hr34 := hr3.later hb4
  refine hK.out _ _ (fun _ => hS4) ?_
  clear hK K
  refine wpAnyZIn_one (i := 6) (by kernel_rfl) rfl (fun K hK => ?_)
  go_simp
  refine hK.out _ _ (fun _ => hS4) ?_
  clear hK K
  refine wpAnyZIn_one (i := 7) (by kernel_rfl) rfl (fun K hK => ?_)
  go_simp
  refine hK.out _ _ (fun _ => hS4) ?_
  clear hK K
  refine wpAnyZIn_done (by kernel_rfl) ?_ _
  have R4a := Lib.hid hr34
  have R4b := Lib.hid hr4
  have B4 := Lib.hid hS4
  clear hr3 hr4 hr34 hS3 hb3 hb4 hg4 hS4
  obtain ⟨x1, x2, x3⟩ := HF.out _ B4.out
  gi_wp2
  gi_cut [7, 8] from 16 (fun x y wc => ∃ g7 g8 : Nat, x = .pointer (some ⟨g7, 0, none⟩) ∧ y = .pointer (some ⟨g8, 0, none⟩) ∧ Hid (Below w4.heap.size w4 wc ∧ w4.heap.size ≤ g7 ∧ w4.heap.size ≤ g8 ∧ g7 ≠ g8 ∧ RowAt wc g7 105 #[.int .i64 0, .int .i64 0, .int .i64 0] ∧ RowAt wc g8 105 #[.int .i64 no, .int .i64 na, .int .i64 nb]))
  case first =>
    refine wpIn_region_Z (S := fun U => Below w4.heap.size w4 U) (zs := []) (by kernel_rfl) ?_
    have hS : Below w4.heap.size w4 w4.drew := below_draws (Below.refl _ _) 1
    refine wpAnyZIn_take (i := 0) (v := ?_) rfl (by kernel_rfl) (by kernel_rfl) (by kernel_rfl) (by kernel_rfl) (by kernel_rfl) (fun _ _ _ h => h) (Or.inl ⟨by rfl, ?_⟩) (fun _ => rfl) hS ?_
    rotate_left
    · intro w hSw
      obtain ⟨x1, x2, x3⟩ := HF.out w (B4.out.trans (Below.mono hSw B4.out.size))
      go_simp
      try with_reducible rfl
    try simp only [Act.put, List.setIfInBounds_toArray, List.set_cons_zero, List.set_cons_succ]
    refine wpAnyZIn_take (i := 1) (v := ?_) rfl (by kernel_rfl) (by kernel_rfl) (by kernel_rfl) (by kernel_rfl) (by kernel_rfl) (fun _ _ _ h => h) (Or.inl ⟨by rfl, ?_⟩) (fun _ => rfl) hS ?_
    rotate_left
    · intro w hSw
      obtain ⟨x1, x2, x3⟩ := HF.out w (B4.out.trans (Below.mono hSw B4.out.size))
      go_simp
      try with_reducible rfl
    try simp only [Act.put, List.setIfInBounds_toArray, List.set_cons_zero, List.set_cons_succ]
    refine wpAnyZIn_take (i := 2) (v := ?_) rfl (by kernel_rfl) (by kernel_rfl) (by kernel_rfl) (by kernel_rfl) (by kernel_rfl) (fun _ _ _ h => h) (Or.inl ⟨by rfl, ?_⟩) (fun _ => rfl) hS ?_
    rotate_left
    · intro w hSw
      obtain ⟨x1, x2, x3⟩ := HF.out w (B4.out.trans (Below.mono hSw B4.out.size))
      go_simp
      try with_reducible rfl
    try simp only [Act.put, List.setIfInBounds_toArray, List.set_cons_zero, List.set_cons_succ]
    refine wpAnyZIn_take (i := 3) (v := ?_) rfl (by kernel_rfl) (by kernel_rfl) (by kernel_rfl) (by kernel_rfl) (by kernel_rfl) (fun _ _ _ h => h) (Or.inl ⟨by rfl, ?_⟩) (fun _ => rfl) hS ?_
    rotate_left
    · intro w hSw
      obtain ⟨x1, x2, x3⟩ := HF.out w (B4.out.trans (Below.mono hSw B4.out.size))
      go_simp
      try with_reducible rfl
    try simp only [Act.put, List.setIfInBounds_toArray, List.set_cons_zero, List.set_cons_succ]
    refine wpAnyZIn_take (i := 4) (v := ?_) rfl (by kernel_rfl) (by kernel_rfl) (by kernel_rfl) (by kernel_rfl) (by kernel_rfl) (fun _ _ _ h => h) (Or.inl ⟨by rfl, ?_⟩) (fun _ => rfl) hS ?_
    rotate_left
    · intro w hSw
      obtain ⟨x1, x2, x3⟩ := HF.out w (B4.out.trans (Below.mono hSw B4.out.size))
      go_simp
      try with_reducible rfl
    try simp only [Act.put, List.setIfInBounds_toArray, List.set_cons_zero, List.set_cons_succ]
    refine wpAnyZIn_take (i := 5) (v := ?_) rfl (by kernel_rfl) (by kernel_rfl) (by kernel_rfl) (by kernel_rfl) (by kernel_rfl) (fun _ _ _ h => h) (Or.inl ⟨by rfl, ?_⟩) (fun _ => rfl) hS ?_
    rotate_left
    · intro w hSw
      obtain ⟨x1, x2, x3⟩ := HF.out w (B4.out.trans (Below.mono hSw B4.out.size))
      go_simp
      try with_reducible rfl
    try simp only [Act.put, List.setIfInBounds_toArray, List.set_cons_zero, List.set_cons_succ]
    refine wpAnyZIn_take (i := 6) (v := ?_) rfl (by kernel_rfl) (by kernel_rfl) (by kernel_rfl) (by kernel_rfl) (by kernel_rfl) (fun _ _ _ h => h) (Or.inl ⟨by rfl, ?_⟩) (fun _ => rfl) hS ?_
    rotate_left
    · intro w hSw
      obtain ⟨x1, x2, x3⟩ := HF.out w (B4.out.trans (Below.mono hSw B4.out.size))
      go_simp
      try with_reducible rfl
    try simp only [Act.put, List.setIfInBounds_toArray, List.set_cons_zero, List.set_cons_succ]
    refine wpAnyZIn_take (i := 7) (v := ?_) rfl (by kernel_rfl) (by kernel_rfl) (by kernel_rfl) (by kernel_rfl) (by kernel_rfl) (fun _ _ _ h => h) (Or.inl ⟨by rfl, ?_⟩) (fun _ => rfl) hS ?_
    rotate_left
    · intro w hSw
      obtain ⟨x1, x2, x3⟩ := HF.out w (B4.out.trans (Below.mono hSw B4.out.size))
      go_simp
      try with_reducible rfl
    try simp only [Act.put, List.setIfInBounds_toArray, List.set_cons_zero, List.set_cons_succ]
    refine wpAnyZIn_either (i := 8) (j := 9) (by kernel_rfl) rfl rfl (fun K hK => ?_) (fun K hK => ?_)
    · go_simp
      refine hK.out _ _ (fun _ => hS.alloc (by simp) _) ?_
      clear hK K
      refine wpAnyZIn_one (i := 9) (by kernel_rfl) rfl (fun K hK => ?_)
      go_simp
      have hS2 : Below w4.heap.size w4 ((w4.alloc (.cells #[.int .i64 0, .int .i64 0, .int .i64 0] 105)).alloc (.cells #[.int .i64 0, .int .i64 0, .int .i64 0] 105)).drew := (hS.alloc (by simp) _).alloc (by simp) _
      have ra : RowAt ((w4.alloc (.cells #[.int .i64 0, .int .i64 0, .int .i64 0] 105)).alloc (.cells #[.int .i64 0, .int .i64 0, .int .i64 0] 105)).drew w4.heap.size 105 #[.int .i64 0, .int .i64 0, .int .i64 0] := (RowAt.new w4.drew 105 _).alloc _
      have rb : RowAt ((w4.alloc (.cells #[.int .i64 0, .int .i64 0, .int .i64 0] 105)).alloc (.cells #[.int .i64 0, .int .i64 0, .int .i64 0] 105)).drew (w4.heap.size + 1) 105 #[.int .i64 0, .int .i64 0, .int .i64 0] := by
        have := RowAt.new (w4.drew.alloc (.cells #[.int .i64 0, .int .i64 0, .int .i64 0] 105)) 105 #[.int .i64 0, .int .i64 0, .int .i64 0]
        rwa [World.size_alloc] at this
      obtain ⟨V2, hV2⟩ : ∃ V2, Hid (((w4.alloc (.cells #[.int .i64 0, .int .i64 0, .int .i64 0] 105)).alloc (.cells #[.int .i64 0, .int .i64 0, .int .i64 0] 105)).drew = V2) := ⟨_, Lib.hid rfl⟩
      rw [hV2.out] at hS2 ra rb ⊢
      refine hK.out _ _ (fun _ => hS2) ?_
      clear hK K hS
      have hq7 : w4.heap.size ≤ w4.heap.size := by omega
      have hq8 : w4.heap.size ≤ (w4.heap.size + 1) := by omega
      have hS3 : Below w4.heap.size w4 (((V2.setCell ⟨w4.heap.size, 0, none⟩ (.int .i64 0)).setCell ⟨w4.heap.size, 1, none⟩ (.int .i64 0)).setCell ⟨w4.heap.size, 2, none⟩ (.int .i64 0)) := ((hS2.setCell (p := ⟨w4.heap.size, 0, none⟩) hq7 _).setCell (p := ⟨w4.heap.size, 1, none⟩) hq7 _).setCell (p := ⟨w4.heap.size, 2, none⟩) hq7 _
      have s7 := row3_set ra (.int .i64 0) (.int .i64 0) (.int .i64 0)
      have s8 := (((rb).other (c := w4.heap.size) (by omega) 0 (.int .i64 0)).other (c := w4.heap.size) (by omega) 1 (.int .i64 0)).other (c := w4.heap.size) (by omega) 2 (.int .i64 0)
      obtain ⟨y0, y1, y2, f0, f1, f2⟩ := row3 ra
      refine wpAnyZIn_one (i := 10) (by kernel_rfl) rfl (fun K hK => ?_)
      go_simp
      clear y0 y1 y2 f0 f1 f2 ra rb
      obtain ⟨V3, hV3⟩ : ∃ V3, Hid ((((V2.setCell ⟨w4.heap.size, 0, none⟩ (.int .i64 0)).setCell ⟨w4.heap.size, 1, none⟩ (.int .i64 0)).setCell ⟨w4.heap.size, 2, none⟩ (.int .i64 0)) = V3) := ⟨_, Lib.hid rfl⟩
      rw [hV3.out] at hS3 s7 s8 ⊢
      refine hK.out _ _ (fun _ => hS3) ?_
      clear hK K hS2
      have hS4 : Below w4.heap.size w4 (((V3.setCell ⟨(w4.heap.size + 1), 0, none⟩ (.int .i64 no)).setCell ⟨(w4.heap.size + 1), 1, none⟩ (.int .i64 na)).setCell ⟨(w4.heap.size + 1), 2, none⟩ (.int .i64 nb)) := ((hS3.setCell (p := ⟨(w4.heap.size + 1), 0, none⟩) hq8 _).setCell (p := ⟨(w4.heap.size + 1), 1, none⟩) hq8 _).setCell (p := ⟨(w4.heap.size + 1), 2, none⟩) hq8 _
      have t8 := row3_set s8 (.int .i64 no) (.int .i64 na) (.int .i64 nb)
      have t7 := ((s7.other (c := (w4.heap.size + 1)) (by omega) 0 (.int .i64 no)).other (c := (w4.heap.size + 1)) (by omega) 1 (.int .i64 na)).other (c := (w4.heap.size + 1)) (by omega) 2 (.int .i64 nb)
      obtain ⟨y0, y1, y2, f0, f1, f2⟩ := row3 s8
      refine wpAnyZIn_one (i := 11) (by kernel_rfl) rfl (fun K hK => ?_)
      go_simp
      clear y0 y1 y2 f0 f1 f2 s7 s8
      refine hK.out _ _ (fun _ => hS4) ?_
      clear hK K
      refine wpAnyZIn_done (by kernel_rfl) ?_ _
      gi_wp2
      gi_meet
      case rel => exact ⟨_, _, rfl, rfl, Lib.hid ⟨hS4, by omega, by omega, by omega, t7, t8⟩⟩
    · go_simp
      refine hK.out _ _ (fun _ => hS.alloc (by simp) _) ?_
      clear hK K
      refine wpAnyZIn_one (i := 8) (by kernel_rfl) rfl (fun K hK => ?_)
      go_simp
      have hS2 : Below w4.heap.size w4 ((w4.alloc (.cells #[.int .i64 0, .int .i64 0, .int .i64 0] 105)).alloc (.cells #[.int .i64 0, .int .i64 0, .int .i64 0] 105)).drew := (hS.alloc (by simp) _).alloc (by simp) _
      have ra : RowAt ((w4.alloc (.cells #[.int .i64 0, .int .i64 0, .int .i64 0] 105)).alloc (.cells #[.int .i64 0, .int .i64 0, .int .i64 0] 105)).drew w4.heap.size 105 #[.int .i64 0, .int .i64 0, .int .i64 0] := (RowAt.new w4.drew 105 _).alloc _
      have rb : RowAt ((w4.alloc (.cells #[.int .i64 0, .int .i64 0, .int .i64 0] 105)).alloc (.cells #[.int .i64 0, .int .i64 0, .int .i64 0] 105)).drew (w4.heap.size + 1) 105 #[.int .i64 0, .int .i64 0, .int .i64 0] := by
        have := RowAt.new (w4.drew.alloc (.cells #[.int .i64 0, .int .i64 0, .int .i64 0] 105)) 105 #[.int .i64 0, .int .i64 0, .int .i64 0]
        rwa [World.size_alloc] at this
      obtain ⟨V2, hV2⟩ : ∃ V2, Hid (((w4.alloc (.cells #[.int .i64 0, .int .i64 0, .int .i64 0] 105)).alloc (.cells #[.int .i64 0, .int .i64 0, .int .i64 0] 105)).drew = V2) := ⟨_, Lib.hid rfl⟩
      rw [hV2.out] at hS2 ra rb ⊢
      refine hK.out _ _ (fun _ => hS2) ?_
      clear hK K hS
      have hq7 : w4.heap.size ≤ (w4.heap.size + 1) := by omega
      have hq8 : w4.heap.size ≤ w4.heap.size := by omega
      have hS3 : Below w4.heap.size w4 (((V2.setCell ⟨(w4.heap.size + 1), 0, none⟩ (.int .i64 0)).setCell ⟨(w4.heap.size + 1), 1, none⟩ (.int .i64 0)).setCell ⟨(w4.heap.size + 1), 2, none⟩ (.int .i64 0)) := ((hS2.setCell (p := ⟨(w4.heap.size + 1), 0, none⟩) hq7 _).setCell (p := ⟨(w4.heap.size + 1), 1, none⟩) hq7 _).setCell (p := ⟨(w4.heap.size + 1), 2, none⟩) hq7 _
      have s7 := row3_set rb (.int .i64 0) (.int .i64 0) (.int .i64 0)
      have s8 := (((ra).other (c := (w4.heap.size + 1)) (by omega) 0 (.int .i64 0)).other (c := (w4.heap.size + 1)) (by omega) 1 (.int .i64 0)).other (c := (w4.heap.size + 1)) (by omega) 2 (.int .i64 0)
      obtain ⟨y0, y1, y2, f0, f1, f2⟩ := row3 rb
      refine wpAnyZIn_one (i := 10) (by kernel_rfl) rfl (fun K hK => ?_)
      go_simp
      clear y0 y1 y2 f0 f1 f2 ra rb
      obtain ⟨V3, hV3⟩ : ∃ V3, Hid ((((V2.setCell ⟨(w4.heap.size + 1), 0, none⟩ (.int .i64 0)).setCell ⟨(w4.heap.size + 1), 1, none⟩ (.int .i64 0)).setCell ⟨(w4.heap.size + 1), 2, none⟩ (.int .i64 0)) = V3) := ⟨_, Lib.hid rfl⟩
      rw [hV3.out] at hS3 s7 s8 ⊢
      refine hK.out _ _ (fun _ => hS3) ?_
      clear hK K hS2
      have hS4 : Below w4.heap.size w4 (((V3.setCell ⟨w4.heap.size, 0, none⟩ (.int .i64 no)).setCell ⟨w4.heap.size, 1, none⟩ (.int .i64 na)).setCell ⟨w4.heap.size, 2, none⟩ (.int .i64 nb)) := ((hS3.setCell (p := ⟨w4.heap.size, 0, none⟩) hq8 _).setCell (p := ⟨w4.heap.size, 1, none⟩) hq8 _).setCell (p := ⟨w4.heap.size, 2, none⟩) hq8 _
      have t8 := row3_set s8 (.int .i64 no) (.int .i64 na) (.int .i64 nb)
      have t7 := ((s7.other (c := w4.heap.size) (by omega) 0 (.int .i64 no)).other (c := w4.heap.size) (by omega) 1 (.int .i64 na)).other (c := w4.heap.size) (by omega) 2 (.int .i64 nb)
      obtain ⟨y0, y1, y2, f0, f1, f2⟩ := row3 s8
      refine wpAnyZIn_one (i := 11) (by kernel_rfl) rfl (fun K hK => ?_)
      go_simp
      clear y0 y1 y2 f0 f1 f2 s7 s8
      refine hK.out _ _ (fun _ => hS4) ?_
      clear hK K
      refine wpAnyZIn_done (by kernel_rfl) ?_ _
      gi_wp2
      gi_meet
      case rel => exact ⟨_, _, rfl, rfl, Lib.hid ⟨hS4, by omega, by omega, by omega, t7, t8⟩⟩
  case rest =>
    obtain ⟨w5, rfl⟩ : ∃ wo, wo = wc := ⟨wc, rfl⟩
    obtain ⟨g7, g8, rfl, rfl, hC⟩ := hcut
    obtain ⟨hb5, q7, q8, q78, r7, r8⟩ := hC.out
    obtain ⟨C0, hC0⟩ : ∃ C0, Hid (chunksOf o a b = C0) := ⟨_, Lib.hid rfl⟩
    obtain ⟨E, hE⟩ : ∃ E : P3, Hid (E = ⟨no, na, nb⟩) := ⟨_, Lib.hid rfl⟩
    have hB5 : Below W.heap.size W w5 := B4.out.trans (hb5.mono B4.out.size)
    have H0 : Hid (LI w0 W L R E o a b C0 J b1 b2 b3 a1 a2 a3 c1 c2 c3 ga gb g7 g8 ⟨0, 0, 0⟩ [] w5) := Lib.hid {
      inv := by rw [hE.out]; exact HI.out
      cut := by
        rw [← hC0.out, List.nil_append, hE.out]
        unfold chunksOf
        rw [hL.out, hR.out, hno.out, hna.out, hnb.out]
      j := HJ.out [] W w5 none h0 ⟨hB5.os, hB5.tape, hB5.output, hB5.size, fun k hk _ => hB5.block k hk⟩ (fun r e => by cases e)
      bel := HW.out.trans (hB5.mono HW.out.size)
      size := hB5.size
      s1 := by rw [hno.out]; exact R1.out.later hB5
      s2 := by rw [hna.out]; exact R2.out.later hB5
      s3 := by rw [hnb.out]; exact R3.out.later hB5
      ra := R4a.out.later hb5
      rb := R4b.out.later hb5
      r7 := r7
      r8 := by rw [hE.out]; exact r8
      ne := q78
      q7 := by have := B4.out.size; omega
      q8 := by have := B4.out.size; omega }
    have HK : Hid (W.heap.size ≤ g7 ∧ W.heap.size ≤ g8) := Lib.hid ⟨H0.out.q7, H0.out.q8⟩
    clear hC hb5 q7 q8 q78 r7 r8 hB5 x1 x2 x3 R4a R4b
    gi_wp2
    gi_loopw [24] (fun _ wr => ∃ (p : P3) (pre : List Ck), Hid (LI w0 W L R E o a b C0 J b1 b2 b3 a1 a2 a3 c1 c2 c3 ga gb g7 g8 p pre wr)) (fun _ wr => E.sum - psum wr g7)
    case atStart => exact ⟨_, _, H0⟩
    case round =>
      obtain ⟨p, pre, HL⟩ := hrel
      clear H0
      obtain ⟨wo, rfl⟩ : ∃ wo, wo = wr := ⟨wr, rfl⟩
      obtain ⟨d0, d1, d2, f0, f1, f2⟩ := row3 HL.out.r7
      obtain ⟨e0, e1, e2, -, -, -⟩ := row3 HL.out.r8
      have hps : Hid (psum wo g7 = p.sum) := Lib.hid (psum_row HL.out.r7)
      obtain ⟨tb, htb⟩ : ∃ tb, Hid (decide (p ≠ E) = tb) := ⟨_, Lib.hid rfl⟩
      gi_upto_region 2 with fail
      gi_cut [26] from 24 (fun v wc => v = .bool tb ∧ wc = wo)
      case first =>
        gi_wp2
        all_goals
          gi_meet
          case rel =>
            refine ⟨?_, rfl⟩
            rw [← htb.out]
            congr 1
            symm
            first
            | (rw [decide_eq_true_iff]; intro h; have e1 := congrArg P3.o h; have e2 := congrArg P3.a h; have e3 := congrArg P3.b h; omega)
            | (rw [decide_eq_false_iff_not, Classical.not_not]; exact p3_ext (by omega) (by omega) (by omega))
      case rest =>
        obtain ⟨rfl, hwc⟩ := hcut
        rw [hwc]
        clear hwc
        cases tb with
        | false =>
          have hpE : p = E := by have := htb.out; simpa using this
          have hfin : Hid (pre = chunksOf o a b ∧ J pre wo) := Lib.hid (by
            have h1 := HL.out.cut
            rw [hpE, cutsAt_end, List.map_nil, List.append_nil] at h1
            rw [hC0.out]
            exact ⟨h1, HL.out.j⟩)
          clear hpE
          gi_wp2
          go_end0
          exact ⟨⟨_, rfl⟩, pre, hfin.out.1, hfin.out.2⟩
        | true =>
          have hpE : p ≠ E := by have := htb.out; simpa using this
          obtain ⟨nx1, nx2, nx3, nx4, nx5⟩ := HL.out.inv.next hpE
          obtain ⟨q, hq⟩ : ∃ q, Hid (nxt L R E p = q) := ⟨_, Lib.hid rfl⟩
          rw [hq.out] at nx1 nx2 nx3 nx4 nx5
          have Hnx := Lib.hid nx1
          have hcutq : Hid (cutsAt L R E p = (p, q) :: cutsAt L R E q) := Lib.hid (by rw [cutsAt_next HL.out.inv hpE, hq.out])
          have HpE := Lib.hid hpE
          have io := HL.out.inv.o
          have ia := HL.out.inv.a
          have ib := HL.out.inv.b
          have ho2 : E.o ≤ 1000000 := by rw [hE.out]; exact l1
          have ha2 : E.a ≤ 1000000 := by rw [hE.out]; exact l2
          have hb2 : E.b ≤ 1000000 := by rw [hE.out]; exact l3
          have hLE : Hid (L.length = E.o) := Lib.hid (by rw [hE.out]; exact hLl.out)
          have hRE : Hid (R.length = E.o) := Lib.hid (by rw [hE.out]; exact hRl.out)
          have HIL : Hid (∀ U, Below wo.heap.size wo U → Ints U .i64 (.slice (some ⟨ga, 0, none⟩) L.length L.length) L) := Lib.hid (fun U hU => ints_of_row' (HL.out.ra.later hU) (by rw [hLE.out]; unfold maxLen; omega))
          have HIR : Hid (∀ U, Below wo.heap.size wo U → Ints U .i64 (.slice (some ⟨gb, 0, none⟩) R.length R.length) R) := Lib.hid (fun U hU => ints_of_row' (HL.out.rb.later hU) (by rw [hRE.out]; unfold maxLen; omega))
          obtain ⟨S, hS⟩ : ∃ S, Hid (stab (L.drop p.o) (R.drop p.o) p.a p.b = S) := ⟨_, Lib.hid rfl⟩
          clear nx1 hpE
          gi_wp2
          refine ⟨trivial, ?_⟩
          refine (callsIn_wide.2 (stable_any _ _ L R p _ (HIL.out _ (Below.refl _ _)) (HIR.out _ (Below.refl _ _)) (by rw [hLE.out, hRE.out]) (by rw [hLE.out]; exact ho2) (by rw [hLE.out]; exact io) (by omega) (by omega) S hS.out)).mono ?_
          rintro e w6 ⟨rfl, hb6⟩
          have B6 := Lib.hid hb6
          clear hb6
          gi_upto_region 4 with fail
          obtain ⟨g9, hg9⟩ : ∃ g, Hid (w6.heap.size = g) := ⟨_, Lib.hid rfl⟩
          obtain ⟨V6, hV6⟩ : ∃ V, Hid (w6.alloc (.cells #[.int .i64 ((p.o : Int) + S), .int .i64 ((p.a : Int) + S), .int .i64 ((p.b : Int) + S)] 105) = V) := ⟨_, Lib.hid rfl⟩
          have hge : wo.heap.size ≤ g9 := by rw [← hg9.out]; exact B6.out.size
          have R9 : Hid (RowAt V6 g9 105 #[.int .i64 ((p.o : Int) + S), .int .i64 ((p.a : Int) + S), .int .i64 ((p.b : Int) + S)]) := Lib.hid (by rw [← hV6.out, ← hg9.out]; exact RowAt.new w6 105 _)
          have BV : Hid (Below wo.heap.size wo V6) := Lib.hid (by rw [← hV6.out]; exact B6.out.alloc B6.out.size _)
          rw [hV6.out, hg9.out]
          obtain ⟨z0, z1, z2, k0, k1, k2⟩ := row3 R9.out
          obtain ⟨y0, y1, y2, -, -, -⟩ := row3 (HL.out.r7.later BV.out)
          obtain ⟨x0, x1, x2, -, -, -⟩ := row3 (HL.out.r8.later BV.out)
          clear d0 d1 d2 f0 f1 f2 e0 e1 e2
          obtain ⟨ts, hts⟩ : ∃ ts, Hid (decide (S = 0) = ts) := ⟨_, Lib.hid rfl⟩
          gi_cut [33] from 31 (fun v wc2 => v = .bool ts ∧ wc2 = V6)
          case first =>
            gi_wp2
            all_goals
              gi_meet
              case rel =>
                refine ⟨?_, rfl⟩
                rw [← hts.out]
                congr 1
                symm
                first
                | (rw [decide_eq_true_iff]; omega)
                | (rw [decide_eq_false_iff_not]; omega)
          case rest =>
            obtain ⟨rfl, hwc⟩ := hcut
            rw [hwc]
            clear hwc
            gi_upto_if 33 with fail
            gi_cut [9] from 34 (fun v wc2 => v = .pointer (some ⟨g9, 0, none⟩) ∧ Hid (Below wo.heap.size wo wc2 ∧ RowAt wc2 g9 105 (p3v q)))
            case first =>
              cases ts with
              | false =>
                have hS0 : S ≠ 0 := by have := hts.out; simpa using this
                have hqe : q = ⟨p.o + S, p.a + S, p.b + S⟩ := by
                  rw [← hq.out]
                  unfold nxt
                  rw [hS.out, if_neg hS0]
                have hfin : Hid (RowAt V6 g9 105 (p3v q)) := Lib.hid (by
                  rw [hqe]
                  exact R9.out)
                clear hqe hS0
                gi_wp2
                gi_meet
                case rel => exact ⟨rfl, Lib.hid ⟨BV.out, hfin.out⟩⟩
              | true =>
                have hS0 : S = 0 := by have := hts.out; simpa using this
                have hqe : (uns (L.drop p.o) (R.drop p.o) p.o).getD E = q := by
                  rw [← hq.out]
                  unfold nxt
                  rw [hS.out, if_pos hS0]
                have Hqe := Lib.hid hqe
                clear hqe hS0
                gi_wp2
                refine ⟨trivial, ?_⟩
                refine (callsIn_wide.2 (unstable_any _ _ L R p E _ (HIL.out _ BV.out) (HIR.out _ BV.out) (by rw [hLE.out, hRE.out]) (by rw [hLE.out]; exact ho2) (by rw [hLE.out]; exact io) q Hqe.out)).mono ?_
                rintro e w7 ⟨rfl, hb7⟩
                have R97 := R9.out.later hb7
                have B7 : Below wo.heap.size wo w7 := BV.out.trans (hb7.mono BV.out.size)
                obtain ⟨t0, t1, t2, l0, l1', l2'⟩ := row3 R97
                have hfin : Hid (RowAt (((w7.setCell ⟨g9, 0, none⟩ (.int .i64 q.o)).setCell ⟨g9, 1, none⟩ (.int .i64 q.a)).setCell ⟨g9, 2, none⟩ (.int .i64 q.b)) g9 105 (p3v q)) := Lib.hid (row3_set R97 _ _ _)
                have hfin2 : Hid (Below wo.heap.size wo (((w7.setCell ⟨g9, 0, none⟩ (.int .i64 q.o)).setCell ⟨g9, 1, none⟩ (.int .i64 q.a)).setCell ⟨g9, 2, none⟩ (.int .i64 q.b))) := Lib.hid (((B7.setCell (p := ⟨g9, 0, none⟩) hge _).setCell (p := ⟨g9, 1, none⟩) hge _).setCell (p := ⟨g9, 2, none⟩) hge _)
                clear R97 B7 hb7
                gi_wp2
                gi_meet
                case rel => exact ⟨rfl, Lib.hid ⟨hfin2.out, hfin.out⟩⟩
            case rest =>
              obtain ⟨rfl, hc8⟩ := hcut
              obtain ⟨w8, rfl⟩ : ∃ V, V = wc := ⟨wc, rfl⟩
              gi_upto_region 6 with fail
              have hb8 : Below wo.heap.size wo w8 := hc8.out.1
              have B8 : Hid (Below w0.heap.size w0 w8) := Lib.hid (HL.out.bel.trans (hb8.mono HL.out.bel.size))
              have C8 : Hid (∀ U, (∃ n, U = w8.drewN n) → (U.cell? ⟨b1, 0, none⟩ = some (.slice a1 o.length c1) ∧ U.cell? ⟨b2, 0, none⟩ = some (.slice a2 a.length c2) ∧ U.cell? ⟨b3, 0, none⟩ = some (.slice a3 b.length c3)) ∧ (U.cell? ⟨g7, 0, none⟩ = some (.int .i64 p.o) ∧ U.cell? ⟨g7, 1, none⟩ = some (.int .i64 p.a) ∧ U.cell? ⟨g7, 2, none⟩ = some (.int .i64 p.b)) ∧ (U.cell? ⟨g9, 0, none⟩ = some (.int .i64 q.o) ∧ U.cell? ⟨g9, 1, none⟩ = some (.int .i64 q.a) ∧ U.cell? ⟨g9, 2, none⟩ = some (.int .i64 q.b))) := Lib.hid (fun U hU => by
                obtain ⟨n, rfl⟩ := hU
                obtain ⟨x0, x1, x2, -, -, -⟩ := row3 (HL.out.r7.later hb8)
                obtain ⟨y0, y1, y2, -, -, -⟩ := row3 hc8.out.2
                exact ⟨⟨(HL.out.s1.later hb8).cell rfl, (HL.out.s2.later hb8).cell rfl, (HL.out.s3.later hb8).cell rfl⟩, ⟨x0, x1, x2⟩, y0, y1, y2⟩)
              have Hnxo := Hnx.out.o
              have Hnxa := Hnx.out.a
              have Hnxb := Hnx.out.b
              have eo : E.o = o.length := by rw [hE.out, hno.out]
              have ea : E.a = a.length := by rw [hE.out, hna.out]
              have eb : E.b = b.length := by rw [hE.out, hnb.out]
              obtain ⟨sx, hsx, ix⟩ := (I1.out w8 B8.out).cut p.o q.o nx2 (by omega) p.o q.o rfl rfl
              obtain ⟨sy, hsy, iy⟩ := (I2.out w8 B8.out).cut p.a q.a nx3 (by omega) p.a q.a rfl rfl
              obtain ⟨sz, hsz, iz⟩ := (I3.out w8 B8.out).cut p.b q.b nx4 (by omega) p.b q.b rfl rfl
              have KD : Hid (∀ n, Calls Tryd.prog 58 #[sx, sy, sz] (w8.drewN n) fun e w' => e = .returned (.int .i64 (kindN (slc o p.o q.o) (slc a p.a q.a) (slc b p.b q.b))) ∧ ∃ m, w' = (w8.drewN n).drewN m) := Lib.hid (fun n => kind_any sx sy sz _ _ _ (w8.drewN n) (ix.drewN n) (iy.drewN n) (iz.drewN n))
              obtain ⟨kd, hkd⟩ : ∃ kd, Hid (kindN (slc o p.o q.o) (slc a p.a q.a) (slc b p.b q.b) = kd) := ⟨_, Lib.hid rfl⟩
              rw [hkd.out] at KD
              clear ix iy iz Hnxo Hnxa Hnxb eo ea eb
              refine wpIn_region_Z (S := fun U => ∃ n, U = w8.drewN n) (zs := [36, 37]) (by kernel_rfl) ?_
              have hS : ∃ n, w8.drew = w8.drewN n := ⟨1, rfl⟩
              simp only [List.size_toArray, List.length_cons, List.length_nil, Nat.reduceAdd, Array.replicate_succ, Array.replicate_zero, List.push_toArray, List.nil_append, List.cons_append]
              refine wpAnyZIn_takeF 12 (i := 0) (oi := { dst := some 39, op := Op.move (Operand.tmp 0), type := 102, pos := "diff3.go:63", after := #[], guard := none }) (v := ?_) rfl (by kernel_rfl) (by kernel_rfl) (by kernel_rfl) (by kernel_rfl) (by kernel_rfl) (by kernel_rfl) (fun _ _ _ h => h) (Or.inl ⟨by rfl, ?_⟩) (fun _ => rfl) hS ?_
              rotate_left
              · intro w hSw
                obtain ⟨⟨x1, x2, x3⟩, ⟨y0, y1, y2⟩, ⟨z0, z1, z2⟩⟩ := C8.out w hSw
                go_simp
                try with_reducible rfl
              try simp only [Act.put, List.setIfInBounds_toArray, List.set_cons_zero, List.set_cons_succ]
              refine wpAnyZIn_takeF 12 (i := 1) (oi := { dst := some 40, op := Op.load 85 (Operand.tmp 1), type := 85, pos := "diff3.go:63", after := #[], guard := none }) (v := ?_) rfl (by kernel_rfl) (by kernel_rfl) (by kernel_rfl) (by kernel_rfl) (by kernel_rfl) (by kernel_rfl) (fun _ _ _ h => h) (Or.inl ⟨by rfl, ?_⟩) (fun _ => rfl) hS ?_
              rotate_left
              · intro w hSw
                obtain ⟨⟨x1, x2, x3⟩, ⟨y0, y1, y2⟩, ⟨z0, z1, z2⟩⟩ := C8.out w hSw
                go_simp
                try with_reducible rfl
              try simp only [Act.put, List.setIfInBounds_toArray, List.set_cons_zero, List.set_cons_succ]
              refine wpAnyZIn_takeF 12 (i := 2) (oi := { dst := some 41, op := Op.fieldAddr 105 (Operand.tmp 7) 0, type := 0, pos := "diff3.go:63", after := #[], guard := none }) (v := ?_) rfl (by kernel_rfl) (by kernel_rfl) (by kernel_rfl) (by kernel_rfl) (by kernel_rfl) (by kernel_rfl) (fun _ _ _ h => h) (Or.inl ⟨by rfl, ?_⟩) (fun _ => rfl) hS ?_
              rotate_left
              · intro w hSw
                obtain ⟨⟨x1, x2, x3⟩, ⟨y0, y1, y2⟩, ⟨z0, z1, z2⟩⟩ := C8.out w hSw
                go_simp
                try with_reducible rfl
              try simp only [Act.put, List.setIfInBounds_toArray, List.set_cons_zero, List.set_cons_succ]
              refine wpAnyZIn_takeF 12 (i := 3) (oi := { dst := some 42, op := Op.load 3 (Operand.tmp 41), type := 3, pos := "diff3.go:63", after := #[{ on := 2, ground := Ground.data }], guard := none }) (v := ?_) rfl (by kernel_rfl) (by kernel_rfl) (by kernel_rfl) (by kernel_rfl) (by kernel_rfl) (by kernel_rfl) (fun _ _ _ h => h) (Or.inl ⟨by rfl, ?_⟩) (fun _ => rfl) hS ?_
              rotate_left
              · intro w hSw
                obtain ⟨⟨x1, x2, x3⟩, ⟨y0, y1, y2⟩, ⟨z0, z1, z2⟩⟩ := C8.out w hSw
                go_simp
                try with_reducible rfl
              try simp only [Act.put, List.setIfInBounds_toArray, List.set_cons_zero, List.set_cons_succ]
              refine wpAnyZIn_takeF 12 (i := 4) (oi := { dst := some 43, op := Op.fieldAddr 105 (Operand.tmp 9) 0, type := 0, pos := "diff3.go:63", after := #[], guard := none }) (v := ?_) rfl (by kernel_rfl) (by kernel_rfl) (by kernel_rfl) (by kernel_rfl) (by kernel_rfl) (by kernel_rfl) (fun _ _ _ h => h) (Or.inl ⟨by rfl, ?_⟩) (fun _ => rfl) hS ?_
              rotate_left
              · intro w hSw
                obtain ⟨⟨x1, x2, x3⟩, ⟨y0, y1, y2⟩, ⟨z0, z1, z2⟩⟩ := C8.out w hSw
                go_simp
                try with_reducible rfl
              try simp only [Act.put, List.setIfInBounds_toArray, List.set_cons_zero, List.set_cons_succ]
              refine wpAnyZIn_takeF 12 (i := 5) (oi := { dst := some 44, op := Op.load 3 (Operand.tmp 43), type := 3, pos := "diff3.go:63", after := #[{ on := 4, ground := Ground.data }], guard := none }) (v := ?_) rfl (by kernel_rfl) (by kernel_rfl) (by kernel_rfl) (by kernel_rfl) (by kernel_rfl) (by kernel_rfl) (fun _ _ _ h => h) (Or.inl ⟨by rfl, ?_⟩) (fun _ => rfl) hS ?_
              rotate_left
              · intro w hSw
                obtain ⟨⟨x1, x2, x3⟩, ⟨y0, y1, y2⟩, ⟨z0, z1, z2⟩⟩ := C8.out w hSw
                go_simp
                try with_reducible rfl
              try simp only [Act.put, List.setIfInBounds_toArray, List.set_cons_zero, List.set_cons_succ]
              refine wpAnyZIn_takeF 12 (i := 6) (oi := { dst := some 45, op := Op.slice 85 (Operand.tmp 40) (some (Operand.tmp 42)) (some (Operand.tmp 44)) none, type := 85, pos := "diff3.go:63", after := #[{ on := 1, ground := Ground.data }, { on := 3, ground := Ground.data }, { on := 5, ground := Ground.data }], guard := none }) (v := ?_) rfl (by kernel_rfl) (by kernel_rfl) (by kernel_rfl) (by kernel_rfl) (by kernel_rfl) (by kernel_rfl) (fun _ _ _ h => h) (Or.inl ⟨by rfl, ?_⟩) (fun _ => rfl) hS ?_
              rotate_left
              · intro w hSw
                obtain ⟨⟨x1, x2, x3⟩, ⟨y0, y1, y2⟩, ⟨z0, z1, z2⟩⟩ := C8.out w hSw
                go_simp
                try with_reducible rfl
              try simp only [Act.put, List.setIfInBounds_toArray, List.set_cons_zero, List.set_cons_succ]
              refine wpAnyZIn_takeF 12 (i := 7) (oi := { dst := some 46, op := Op.load 85 (Operand.tmp 2), type := 85, pos := "diff3.go:63", after := #[], guard := none }) (v := ?_) rfl (by kernel_rfl) (by kernel_rfl) (by kernel_rfl) (by kernel_rfl) (by kernel_rfl) (by kernel_rfl) (fun _ _ _ h => h) (Or.inl ⟨by rfl, ?_⟩) (fun _ => rfl) hS ?_
              rotate_left
              · intro w hSw
                obtain ⟨⟨x1, x2, x3⟩, ⟨y0, y1, y2⟩, ⟨z0, z1, z2⟩⟩ := C8.out w hSw
                go_simp
                try with_reducible rfl
              try simp only [Act.put, List.setIfInBounds_toArray, List.set_cons_zero, List.set_cons_succ]
              refine wpAnyZIn_takeF 12 (i := 8) (oi := { dst := some 47, op := Op.fieldAddr 105 (Operand.tmp 7) 1, type := 0, pos := "diff3.go:63", after := #[], guard := none }) (v := ?_) rfl (by kernel_rfl) (by kernel_rfl) (by kernel_rfl) (by kernel_rfl) (by kernel_rfl) (by kernel_rfl) (fun _ _ _ h => h) (Or.inl ⟨by rfl, ?_⟩) (fun _ => rfl) hS ?_
              rotate_left
              · intro w hSw
                obtain ⟨⟨x1, x2, x3⟩, ⟨y0, y1, y2⟩, ⟨z0, z1, z2⟩⟩ := C8.out w hSw
                go_simp
                try with_reducible rfl
              try simp only [Act.put, List.setIfInBounds_toArray, List.set_cons_zero, List.set_cons_succ]
              refine wpAnyZIn_takeF 12 (i := 9) (oi := { dst := some 48, op := Op.load 3 (Operand.tmp 47), type := 3, pos := "diff3.go:63", after := #[{ on := 8, ground := Ground.data }], guard := none }) (v := ?_) rfl (by kernel_rfl) (by kernel_rfl) (by kernel_rfl) (by kernel_rfl) (by kernel_rfl) (by kernel_rfl) (fun _ _ _ h => h) (Or.inl ⟨by rfl, ?_⟩) (fun _ => rfl) hS ?_
              rotate_left
              · intro w hSw
                obtain ⟨⟨x1, x2, x3⟩, ⟨y0, y1, y2⟩, ⟨z0, z1, z2⟩⟩ := C8.out w hSw
                go_simp
                try with_reducible rfl
              try simp only [Act.put, List.setIfInBounds_toArray, List.set_cons_zero, List.set_cons_succ]
              refine wpAnyZIn_takeF 12 (i := 10) (oi := { dst := some 49, op := Op.fieldAddr 105 (Operand.tmp 9) 1, type := 0, pos := "diff3.go:63", after := #[], guard := none }) (v := ?_) rfl (by kernel_rfl) (by kernel_rfl) (by kernel_rfl) (by kernel_rfl) (by kernel_rfl) (by kernel_rfl) (fun _ _ _ h => h) (Or.inl ⟨by rfl, ?_⟩) (fun _ => rfl) hS ?_
              rotate_left
              · intro w hSw
                obtain ⟨⟨x1, x2, x3⟩, ⟨y0, y1, y2⟩, ⟨z0, z1, z2⟩⟩ := C8.out w hSw
                go_simp
                try with_reducible rfl
              try simp only [Act.put, List.setIfInBounds_toArray, List.set_cons_zero, List.set_cons_succ]
              refine wpAnyZIn_takeF 12 (i := 11) (oi := { dst := some 50, op := Op.load 3 (Operand.tmp 49), type := 3, pos := "diff3.go:63", after := #[{ on := 10, ground := Ground.data }], guard := none }) (v := ?_) rfl (by kernel_rfl) (by kernel_rfl) (by kernel_rfl) (by kernel_rfl) (by kernel_rfl) (by kernel_rfl) (fun _ _ _ h => h) (Or.inl ⟨by rfl, ?_⟩) (fun _ => rfl) hS ?_
              rotate_left
              · intro w hSw
                obtain ⟨⟨x1, x2, x3⟩, ⟨y0, y1, y2⟩, ⟨z0, z1, z2⟩⟩ := C8.out w hSw
                go_simp
                try with_reducible rfl
              try simp only [Act.put, List.setIfInBounds_toArray, List.set_cons_zero, List.set_cons_succ]
              refine wpAnyZIn_takeF 12 (i := 12) (oi := { dst := some 51, op := Op.slice 85 (Operand.tmp 46) (some (Operand.tmp 48)) (some (Operand.tmp 50)) none, type := 85, pos := "diff3.go:63", after := #[{ on := 7, ground := Ground.data }, { on := 9, ground := Ground.data }, { on := 11, ground := Ground.data }], guard := none }) (v := ?_) rfl (by kernel_rfl) (by kernel_rfl) (by kernel_rfl) (by kernel_rfl) (by kernel_rfl) (by kernel_rfl) (fun _ _ _ h => h) (Or.inl ⟨by rfl, ?_⟩) (fun _ => rfl) hS ?_
              rotate_left
              · intro w hSw
                obtain ⟨⟨x1, x2, x3⟩, ⟨y0, y1, y2⟩, ⟨z0, z1, z2⟩⟩ := C8.out w hSw
                go_simp
                try with_reducible rfl
              try simp only [Act.put, List.setIfInBounds_toArray, List.set_cons_zero, List.set_cons_succ]
              refine wpAnyZIn_takeF 12 (i := 13) (oi := { dst := some 52, op := Op.load 85 (Operand.tmp 3), type := 85, pos := "diff3.go:63", after := #[], guard := none }) (v := ?_) rfl (by kernel_rfl) (by kernel_rfl) (by kernel_rfl) (by kernel_rfl) (by kernel_rfl) (by kernel_rfl) (fun _ _ _ h => h) (Or.inl ⟨by rfl, ?_⟩) (fun _ => rfl) hS ?_
              rotate_left
              · intro w hSw
                obtain ⟨⟨x1, x2, x3⟩, ⟨y0, y1, y2⟩, ⟨z0, z1, z2⟩⟩ := C8.out w hSw
                go_simp
                try with_reducible rfl
              try simp only [Act.put, List.setIfInBounds_toArray, List.set_cons_zero, List.set_cons_succ]
              refine wpAnyZIn_takeF 12 (i := 14) (oi := { dst := some 53, op := Op.fieldAddr 105 (Operand.tmp 7) 2, type := 0, pos := "diff3.go:63", after := #[], guard := none }) (v := ?_) rfl (by kernel_rfl) (by kernel_rfl) (by kernel_rfl) (by kernel_rfl) (by kernel_rfl) (by kernel_rfl) (fun _ _ _ h => h) (Or.inl ⟨by rfl, ?_⟩) (fun _ => rfl) hS ?_
              rotate_left
              · intro w hSw
                obtain ⟨⟨x1, x2, x3⟩, ⟨y0, y1, y2⟩, ⟨z0, z1, z2⟩⟩ := C8.out w hSw
                go_simp
                try with_reducible rfl
              try simp only [Act.put, List.setIfInBounds_toArray, List.set_cons_zero, List.set_cons_succ]
              refine wpAnyZIn_takeF 12 (i := 15) (oi := { dst := some 54, op := Op.load 3 (Operand.tmp 53), type := 3, pos := "diff3.go:63", after := #[{ on := 14, ground := Ground.data }], guard := none }) (v := ?_) rfl (by kernel_rfl) (by kernel_rfl) (by kernel_rfl) (by kernel_rfl) (by kernel_rfl) (by kernel_rfl) (fun _ _ _ h => h) (Or.inl ⟨by rfl, ?_⟩) (fun _ => rfl) hS ?_
              rotate_left
              · intro w hSw
                obtain ⟨⟨x1, x2, x3⟩, ⟨y0, y1, y2⟩, ⟨z0, z1, z2⟩⟩ := C8.out w hSw
                go_simp
                try with_reducible rfl
              try simp only [Act.put, List.setIfInBounds_toArray, List.set_cons_zero, List.set_cons_succ]
              refine wpAnyZIn_takeF 12 (i := 16) (oi := { dst := some 55, op := Op.fieldAddr 105 (Operand.tmp 9) 2, type := 0, pos := "diff3.go:63", after := #[], guard := none }) (v := ?_) rfl (by kernel_rfl) (by kernel_rfl) (by kernel_rfl) (by kernel_rfl) (by kernel_rfl) (by kernel_rfl) (fun _ _ _ h => h) (Or.inl ⟨by rfl, ?_⟩) (fun _ => rfl) hS ?_
              rotate_left
              · intro w hSw
                obtain ⟨⟨x1, x2, x3⟩, ⟨y0, y1, y2⟩, ⟨z0, z1, z2⟩⟩ := C8.out w hSw
                go_simp
                try with_reducible rfl
              try simp only [Act.put, List.setIfInBounds_toArray, List.set_cons_zero, List.set_cons_succ]
              refine wpAnyZIn_takeF 12 (i := 17) (oi := { dst := some 56, op := Op.load 3 (Operand.tmp 55), type := 3, pos := "diff3.go:63", after := #[{ on := 16, ground := Ground.data }], guard := none }) (v := ?_) rfl (by kernel_rfl) (by kernel_rfl) (by kernel_rfl) (by kernel_rfl) (by kernel_rfl) (by kernel_rfl) (fun _ _ _ h => h) (Or.inl ⟨by rfl, ?_⟩) (fun _ => rfl) hS ?_
              rotate_left
              · intro w hSw
                obtain ⟨⟨x1, x2, x3⟩, ⟨y0, y1, y2⟩, ⟨z0, z1, z2⟩⟩ := C8.out w hSw
                go_simp
                try with_reducible rfl
              try simp only [Act.put, List.setIfInBounds_toArray, List.set_cons_zero, List.set_cons_succ]
              refine wpAnyZIn_takeF 12 (i := 18) (oi := { dst := some 57, op := Op.slice 85 (Operand.tmp 52) (some (Operand.tmp 54)) (some (Operand.tmp 56)) none, type := 85, pos := "diff3.go:63", after := #[{ on := 13, ground := Ground.data }, { on := 15, ground := Ground.data }, { on := 17, ground := Ground.data }], guard := none }) (v := ?_) rfl (by kernel_rfl) (by kernel_rfl) (by kernel_rfl) (by kernel_rfl) (by kernel_rfl) (by kernel_rfl) (fun _ _ _ h => h) (Or.inl ⟨by rfl, ?_⟩) (fun _ => rfl) hS ?_
              rotate_left
              · intro w hSw
                obtain ⟨⟨x1, x2, x3⟩, ⟨y0, y1, y2⟩, ⟨z0, z1, z2⟩⟩ := C8.out w hSw
                go_simp
                try with_reducible rfl
              try simp only [Act.put, List.setIfInBounds_toArray, List.set_cons_zero, List.set_cons_succ]
              refine wpAnyZIn_takeF 12 (i := 20) (oi := { dst := some 59, op := Op.fieldAddr 105 (Operand.tmp 7) 0, type := 0, pos := "diff3.go:63", after := #[], guard := none }) (v := ?_) rfl (by kernel_rfl) (by kernel_rfl) (by kernel_rfl) (by kernel_rfl) (by kernel_rfl) (by kernel_rfl) (fun _ _ _ h => h) (Or.inl ⟨by rfl, ?_⟩) (fun _ => rfl) hS ?_
              rotate_left
              · intro w hSw
                obtain ⟨⟨x1, x2, x3⟩, ⟨y0, y1, y2⟩, ⟨z0, z1, z2⟩⟩ := C8.out w hSw
                go_simp
                try with_reducible rfl
              try simp only [Act.put, List.setIfInBounds_toArray, List.set_cons_zero, List.set_cons_succ]
              refine wpAnyZIn_takeF 12 (i := 21) (oi := { dst := some 60, op := Op.load 3 (Operand.tmp 59), type := 3, pos := "diff3.go:63", after := #[{ on := 20, ground := Ground.data }], guard := none }) (v := ?_) rfl (by kernel_rfl) (by kernel_rfl) (by kernel_rfl) (by kernel_rfl) (by kernel_rfl) (by kernel_rfl) (fun _ _ _ h => h) (Or.inl ⟨by rfl, ?_⟩) (fun _ => rfl) hS ?_
              rotate_left
              · intro w hSw
                obtain ⟨⟨x1, x2, x3⟩, ⟨y0, y1, y2⟩, ⟨z0, z1, z2⟩⟩ := C8.out w hSw
                go_simp
                try with_reducible rfl
              try simp only [Act.put, List.setIfInBounds_toArray, List.set_cons_zero, List.set_cons_succ]
              refine wpAnyZIn_takeF 12 (i := 22) (oi := { dst := some 61, op := Op.fieldAddr 105 (Operand.tmp 9) 0, type := 0, pos := "diff3.go:63", after := #[], guard := none }) (v := ?_) rfl (by kernel_rfl) (by kernel_rfl) (by kernel_rfl) (by kernel_rfl) (by kernel_rfl) (by kernel_rfl) (fun _ _ _ h => h) (Or.inl ⟨by rfl, ?_⟩) (fun _ => rfl) hS ?_
              rotate_left
              · intro w hSw
                obtain ⟨⟨x1, x2, x3⟩, ⟨y0, y1, y2⟩, ⟨z0, z1, z2⟩⟩ := C8.out w hSw
                go_simp
                try with_reducible rfl
              try simp only [Act.put, List.setIfInBounds_toArray, List.set_cons_zero, List.set_cons_succ]
              refine wpAnyZIn_takeF 12 (i := 23) (oi := { dst := some 62, op := Op.load 3 (Operand.tmp 61), type := 3, pos := "diff3.go:63", after := #[{ on := 22, ground := Ground.data }], guard := none }) (v := ?_) rfl (by kernel_rfl) (by kernel_rfl) (by kernel_rfl) (by kernel_rfl) (by kernel_rfl) (by kernel_rfl) (fun _ _ _ h => h) (Or.inl ⟨by rfl, ?_⟩) (fun _ => rfl) hS ?_
              rotate_left
              · intro w hSw
                obtain ⟨⟨x1, x2, x3⟩, ⟨y0, y1, y2⟩, ⟨z0, z1, z2⟩⟩ := C8.out w hSw
                go_simp
                try with_reducible rfl
              try simp only [Act.put, List.setIfInBounds_toArray, List.set_cons_zero, List.set_cons_succ]
              refine wpAnyZIn_takeF 12 (i := 24) (oi := { dst := some 63, op := Op.build 69 #[(0, Operand.tmp 60), (1, Operand.tmp 62)], type := 69, pos := "diff3.go:63", after := #[{ on := 21, ground := Ground.data }, { on := 23, ground := Ground.data }], guard := none }) (v := ?_) rfl (by kernel_rfl) (by kernel_rfl) (by kernel_rfl) (by kernel_rfl) (by kernel_rfl) (by kernel_rfl) (fun _ _ _ h => h) (Or.inl ⟨by rfl, ?_⟩) (fun _ => rfl) hS ?_
              rotate_left
              · intro w hSw
                obtain ⟨⟨x1, x2, x3⟩, ⟨y0, y1, y2⟩, ⟨z0, z1, z2⟩⟩ := C8.out w hSw
                go_simp
                try with_reducible rfl
              try simp only [Act.put, List.setIfInBounds_toArray, List.set_cons_zero, List.set_cons_succ]
              refine wpAnyZIn_takeF 12 (i := 25) (oi := { dst := some 64, op := Op.fieldAddr 105 (Operand.tmp 7) 1, type := 0, pos := "diff3.go:63", after := #[], guard := none }) (v := ?_) rfl (by kernel_rfl) (by kernel_rfl) (by kernel_rfl) (by kernel_rfl) (by kernel_rfl) (by kernel_rfl) (fun _ _ _ h => h) (Or.inl ⟨by rfl, ?_⟩) (fun _ => rfl) hS ?_
              rotate_left
              · intro w hSw
                obtain ⟨⟨x1, x2, x3⟩, ⟨y0, y1, y2⟩, ⟨z0, z1, z2⟩⟩ := C8.out w hSw
                go_simp
                try with_reducible rfl
              try simp only [Act.put, List.setIfInBounds_toArray, List.set_cons_zero, List.set_cons_succ]
              refine wpAnyZIn_takeF 12 (i := 26) (oi := { dst := some 65, op := Op.load 3 (Operand.tmp 64), type := 3, pos := "diff3.go:63", after := #[{ on := 25, ground := Ground.data }], guard := none }) (v := ?_) rfl (by kernel_rfl) (by kernel_rfl) (by kernel_rfl) (by kernel_rfl) (by kernel_rfl) (by kernel_rfl) (fun _ _ _ h => h) (Or.inl ⟨by rfl, ?_⟩) (fun _ => rfl) hS ?_
              rotate_left
              · intro w hSw
                obtain ⟨⟨x1, x2, x3⟩, ⟨y0, y1, y2⟩, ⟨z0, z1, z2⟩⟩ := C8.out w hSw
                go_simp
                try with_reducible rfl
              try simp only [Act.put, List.setIfInBounds_toArray, List.set_cons_zero, List.set_cons_succ]
              refine wpAnyZIn_takeF 12 (i := 27) (oi := { dst := some 66, op := Op.fieldAddr 105 (Operand.tmp 9) 1, type := 0, pos := "diff3.go:63", after := #[], guard := none }) (v := ?_) rfl (by kernel_rfl) (by kernel_rfl) (by kernel_rfl) (by kernel_rfl) (by kernel_rfl) (by kernel_rfl) (fun _ _ _ h => h) (Or.inl ⟨by rfl, ?_⟩) (fun _ => rfl) hS ?_
              rotate_left
              · intro w hSw
                obtain ⟨⟨x1, x2, x3⟩, ⟨y0, y1, y2⟩, ⟨z0, z1, z2⟩⟩ := C8.out w hSw
                go_simp
                try with_reducible rfl
              try simp only [Act.put, List.setIfInBounds_toArray, List.set_cons_zero, List.set_cons_succ]
              refine wpAnyZIn_takeF 12 (i := 28) (oi := { dst := some 67, op := Op.load 3 (Operand.tmp 66), type := 3, pos := "diff3.go:63", after := #[{ on := 27, ground := Ground.data }], guard := none }) (v := ?_) rfl (by kernel_rfl) (by kernel_rfl) (by kernel_rfl) (by kernel_rfl) (by kernel_rfl) (by kernel_rfl) (fun _ _ _ h => h) (Or.inl ⟨by rfl, ?_⟩) (fun _ => rfl) hS ?_
              rotate_left
              · intro w hSw
                obtain ⟨⟨x1, x2, x3⟩, ⟨y0, y1, y2⟩, ⟨z0, z1, z2⟩⟩ := C8.out w hSw
                go_simp
                try with_reducible rfl
              try simp only [Act.put, List.setIfInBounds_toArray, List.set_cons_zero, List.set_cons_succ]
              refine wpAnyZIn_takeF 12 (i := 29) (oi := { dst := some 68, op := Op.build 69 #[(0, Operand.tmp 65), (1, Operand.tmp 67)], type := 69, pos := "diff3.go:63", after := #[{ on := 26, ground := Ground.data }, { on := 28, ground := Ground.data }], guard := none }) (v := ?_) rfl (by kernel_rfl) (by kernel_rfl) (by kernel_rfl) (by kernel_rfl) (by kernel_rfl) (by kernel_rfl) (fun _ _ _ h => h) (Or.inl ⟨by rfl, ?_⟩) (fun _ => rfl) hS ?_
              rotate_left
              · intro w hSw
                obtain ⟨⟨x1, x2, x3⟩, ⟨y0, y1, y2⟩, ⟨z0, z1, z2⟩⟩ := C8.out w hSw
                go_simp
                try with_reducible rfl
              try simp only [Act.put, List.setIfInBounds_toArray, List.set_cons_zero, List.set_cons_succ]
              refine wpAnyZIn_takeF 12 (i := 30) (oi := { dst := some 69, op := Op.fieldAddr 105 (Operand.tmp 7) 2, type := 0, pos := "diff3.go:63", after := #[], guard := none }) (v := ?_) rfl (by kernel_rfl) (by kernel_rfl) (by kernel_rfl) (by kernel_rfl) (by kernel_rfl) (by kernel_rfl) (fun _ _ _ h => h) (Or.inl ⟨by rfl, ?_⟩) (fun _ => rfl) hS ?_
              rotate_left
              · intro w hSw
                obtain ⟨⟨x1, x2, x3⟩, ⟨y0, y1, y2⟩, ⟨z0, z1, z2⟩⟩ := C8.out w hSw
                go_simp
                try with_reducible rfl
              try simp only [Act.put, List.setIfInBounds_toArray, List.set_cons_zero, List.set_cons_succ]
              refine wpAnyZIn_takeF 12 (i := 31) (oi := { dst := some 70, op := Op.load 3 (Operand.tmp 69), type := 3, pos := "diff3.go:63", after := #[{ on := 30, ground := Ground.data }], guard := none }) (v := ?_) rfl (by kernel_rfl) (by kernel_rfl) (by kernel_rfl) (by kernel_rfl) (by kernel_rfl) (by kernel_rfl) (fun _ _ _ h => h) (Or.inl ⟨by rfl, ?_⟩) (fun _ => rfl) hS ?_
              rotate_left
              · intro w hSw
                obtain ⟨⟨x1, x2, x3⟩, ⟨y0, y1, y2⟩, ⟨z0, z1, z2⟩⟩ := C8.out w hSw
                go_simp
                try with_reducible rfl
              try simp only [Act.put, List.setIfInBounds_toArray, List.set_cons_zero, List.set_cons_succ]
              refine wpAnyZIn_takeF 12 (i := 32) (oi := { dst := some 71, op := Op.fieldAddr 105 (Operand.tmp 9) 2, type := 0, pos := "diff3.go:63", after := #[], guard := none }) (v := ?_) rfl (by kernel_rfl) (by kernel_rfl) (by kernel_rfl) (by kernel_rfl) (by kernel_rfl) (by kernel_rfl) (fun _ _ _ h => h) (Or.inl ⟨by rfl, ?_⟩) (fun _ => rfl) hS ?_
              rotate_left
              · intro w hSw
                obtain ⟨⟨x1, x2, x3⟩, ⟨y0, y1, y2⟩, ⟨z0, z1, z2⟩⟩ := C8.out w hSw
                go_simp
                try with_reducible rfl
              try simp only [Act.put, List.setIfInBounds_toArray, List.set_cons_zero, List.set_cons_succ]
              refine wpAnyZIn_takeF 12 (i := 33) (oi := { dst := some 72, op := Op.load 3 (Operand.tmp 71), type := 3, pos := "diff3.go:63", after := #[{ on := 32, ground := Ground.data }], guard := none }) (v := ?_) rfl (by kernel_rfl) (by kernel_rfl) (by kernel_rfl) (by kernel_rfl) (by kernel_rfl) (by kernel_rfl) (fun _ _ _ h => h) (Or.inl ⟨by rfl, ?_⟩) (fun _ => rfl) hS ?_
              rotate_left
              · intro w hSw
                obtain ⟨⟨x1, x2, x3⟩, ⟨y0, y1, y2⟩, ⟨z0, z1, z2⟩⟩ := C8.out w hSw
                go_simp
                try with_reducible rfl
              try simp only [Act.put, List.setIfInBounds_toArray, List.set_cons_zero, List.set_cons_succ]
              refine wpAnyZIn_takeF 12 (i := 34) (oi := { dst := some 73, op := Op.build 69 #[(0, Operand.tmp 70), (1, Operand.tmp 72)], type := 69, pos := "diff3.go:63", after := #[{ on := 31, ground := Ground.data }, { on := 33, ground := Ground.data }], guard := none }) (v := ?_) rfl (by kernel_rfl) (by kernel_rfl) (by kernel_rfl) (by kernel_rfl) (by kernel_rfl) (by kernel_rfl) (fun _ _ _ h => h) (Or.inl ⟨by rfl, ?_⟩) (fun _ => rfl) hS ?_
              rotate_left
              · intro w hSw
                obtain ⟨⟨x1, x2, x3⟩, ⟨y0, y1, y2⟩, ⟨z0, z1, z2⟩⟩ := C8.out w hSw
                go_simp
                try with_reducible rfl
              try simp only [Act.put, List.setIfInBounds_toArray, List.set_cons_zero, List.set_cons_succ]
              refine wpAnyZIn_one (i := 19) (by kernel_rfl) rfl (fun K hK => ?_)
              go_simp
              refine ⟨trivial, ?_⟩
              refine (callsIn_wide.2 (KD.out 1)).mono ?_
              rintro e U ⟨rfl, m, hU⟩
              have hS9 : ∃ n, U = w8.drewN n := ⟨1 + m, by rw [hU]; exact drewN_add _ _ _⟩
              clear hU
              refine hK.out _ _ (fun _ => hS9) ?_
              clear hK K hS
              refine wpAnyZIn_one (i := 35) (by kernel_rfl) rfl (fun K hK => ?_)
              go_simp
              refine hK.out _ _ (fun _ => hS9) ?_
              clear hK K
              have hbU : Below wo.heap.size wo U := by
                obtain ⟨n, rfl⟩ := hS9
                exact below_draws hb8 n
              have hJU : J pre U := HJ.out pre wo U none HL.out.j ⟨hbU.os, hbU.tape, hbU.output, hbU.size, fun k hk _ => hbU.block k hk⟩ (fun r e => by cases e)
              have hlen : pre.length < (chunksOf o a b).length := by
                rw [hC0.out, ← HL.out.cut, hcutq.out]
                simp
              obtain ⟨fn, tmps, assign, body, hy, hR⟩ := HY.out pre (ckOf o a b (p, q)) U hJU hlen
              dsimp only [encC, ckOf] at hy
              rw [hkd.out] at hy
              have HbU := Lib.hid hbU
              clear hbU hJU hlen
              refine wpAnyZIn_one (i := 36) (by kernel_rfl) rfl (fun K hK => ?_)
              go_simp
              refine hR.mono ?_
              rintro e W3 ⟨rfl, hJ3, hk3⟩
              have HK3 := Lib.hid hk3
              clear hk3
              refine hK.out _ _ (fun h => absurd (by decide) h) ?_
              clear hK K
              refine wpAnyZIn_one (i := 37) (by kernel_rfl) rfl (fun K hK => ?_)
              go_simp
              refine hK.out _ _ (fun h => absurd (by decide) h) ?_
              clear hK K
              refine wpAnyZIn_done (by kernel_rfl) ?_ _
              have s7 := HK3.out.2.2 g7 105 _ (.inl rfl) ((HL.out.r7.later hb8).later' hS9)
              have s9 := HK3.out.2.2 g9 105 _ (.inl rfl) ((hc8.out.2).later' hS9)
              obtain ⟨y0, y1, y2, f0, f1, f2⟩ := row3 s7
              obtain ⟨z0, z1, z2, -, -, -⟩ := row3 s9
              have S7 := Lib.hid s7
              clear s7 s9
              have hne : ∀ {x t : Nat} {cs : Array Value}, RowAt W3 x t cs → t ≠ 105 → x ≠ g7 := fun h ht => RowAt.ne_ h S7.out ht
              have hg8 : g8 ≠ g7 := fun e => HL.out.ne e.symm
              have hq7 := HL.out.q7
              have hw0 := HW.out.size
              have keep : ∀ {x t : Nat} {cs : Array Value}, (t = 105 ∨ t = 3 ∨ t = 85) → RowAt wo x t cs → RowAt W3 x t cs := fun ht h => HK3.out.2.2 _ _ _ ht (h.later HbU.out)
              have hfin : Hid (LI w0 W L R E o a b C0 J b1 b2 b3 a1 a2 a3 c1 c2 c3 ga gb g7 g8 q (pre ++ [ckOf o a b (p, q)]) (((W3.setCell ⟨g7, 0, none⟩ (.int .i64 q.o)).setCell ⟨g7, 1, none⟩ (.int .i64 q.a)).setCell ⟨g7, 2, none⟩ (.int .i64 q.b))) := Lib.hid {
                inv := Hnx.out
                cut := by rw [← HL.out.cut, hcutq.out, List.map_cons, List.append_assoc]; rfl
                j := HJ.out _ W3 _ (some g7) hJ3 ⟨rfl, rfl, rfl, by simp [World.setCell], fun k hk hne => by
                    have hk7 : k ≠ g7 := fun e => hne (by rw [e])
                    exact ((Below.heap_setCell _ ⟨g7, 2, none⟩ _ k hk7).trans (Below.heap_setCell _ ⟨g7, 1, none⟩ _ k hk7)).trans (Below.heap_setCell _ ⟨g7, 0, none⟩ _ k hk7)⟩
                  (fun r e => by cases e; exact ⟨hq7, _, S7.out, .inr ⟨_, rfl⟩⟩)
                bel := ((((HL.out.bel.trans (HbU.out.mono HL.out.bel.size)).trans HK3.out.2.1).setCell (p := ⟨g7, 0, none⟩) (Nat.le_trans hw0 hq7) _).setCell (p := ⟨g7, 1, none⟩) (Nat.le_trans hw0 hq7) _).setCell (p := ⟨g7, 2, none⟩) (Nat.le_trans hw0 hq7) _
                size := by
                  have h1 := HL.out.size
                  have h2 := HbU.out.size
                  have h3 := HK3.out.1
                  show W.heap.size ≤ _
                  simp [World.setCell]
                  omega
                s1 := by have h := keep (.inr (.inr rfl)) HL.out.s1; have hn := hne h (by decide); exact ((h.other hn 0 _).other hn 1 _).other hn 2 _
                s2 := by have h := keep (.inr (.inr rfl)) HL.out.s2; have hn := hne h (by decide); exact ((h.other hn 0 _).other hn 1 _).other hn 2 _
                s3 := by have h := keep (.inr (.inr rfl)) HL.out.s3; have hn := hne h (by decide); exact ((h.other hn 0 _).other hn 1 _).other hn 2 _
                ra := by have h := keep (.inr (.inl rfl)) HL.out.ra; have hn := hne h (by decide); exact ((h.other hn 0 _).other hn 1 _).other hn 2 _
                rb := by have h := keep (.inr (.inl rfl)) HL.out.rb; have hn := hne h (by decide); exact ((h.other hn 0 _).other hn 1 _).other hn 2 _
                r7 := row3_set S7.out _ _ _
                r8 := by have h := keep (.inl rfl) HL.out.r8; exact ((h.other hg8 0 _).other hg8 1 _).other hg8 2 _
                ne := HL.out.ne
                q7 := HL.out.q7
                q8 := HL.out.q8 }
              clear hne keep hJ3
              gi_wp2
              refine ⟨⟨_, _, hfin⟩, ?_⟩
              rw [psum_row hfin.out.r7, hps.out]
              have := Hnx.out.le
              omega
end Go.Proofs.YtfjmhnnjgjcmeaaDoor.L
