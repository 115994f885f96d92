/-
  For the laws of marker: a section of a clash, and a clash, printed by the program. Condition: texts of at most 100,000 bytes, marks of at most 100,000; the program's table of marks is as it is laid.
-/
import Derived.Test.YtbekbllffphfeaaDoorKBegin
namespace Go.Proofs.YtbekbllffphfeaaDoor.K
open Go.RowKit Go.Shelf
set_option linter.unusedSimpArgs false

theorem wholeS_bs (s : ByteArray) : wholeS s = bs (whole (tl s)) := by rw [← bs_tl (wholeS s), whole_tl]
theorem whole_le (t : By) : (whole t).length ≤ t.length + 1 := by
  unfold whole
  split
  · omega
  · simp
theorem mk_le (c : UInt8) (n : Nat) (cut : Bool) (w : By) : (mk c n cut w).length ≤ n + w.length + 3 := by
  unfold mk
  simp only [List.length_append, List.length_replicate, List.length_cons, List.length_nil]
  split <;> split <;> simp <;> omega
theorem own_keep {W W' : World} {base e size n : Nat} {v : Value} {xs : List Value} (h : W.ownsRow base e size v n xs) (hk : ∀ (g : Nat) cs m, W.heap[g]? = some (Obj.cells cs e m) → W'.heap[g]? = W.heap[g]?) : W'.ownsRow base e size v n xs := by
  refine ⟨h.1, ?_⟩
  rcases h.2 with h0 | ⟨g, cap, cur, e1, h1, hg, h2, h3, h4, h5⟩
  · exact .inl h0
  · exact .inr ⟨g, cap, cur, e1, h1, (hk g _ _ hg).trans hg, h2, h3, h4, h5⟩
theorem builder_keep {B b : Nat} {xs : List Value} {w w' : World} (h : Lib.IsBuilder 74 5 B b xs w) (hb : w'.heap[b]? = w.heap[b]?) (hk : ∀ (g : Nat) cs m, w.heap[g]? = some (Obj.cells cs 5 m) → w'.heap[g]? = w.heap[g]?) : Lib.IsBuilder 74 5 B b xs w' := by
  have one : ∀ p, Lib.BuilderAt 74 5 B b p xs w → Lib.BuilderAt 74 5 B b p xs w' := by
    rintro p ⟨h1, v, h2, h3, h4⟩
    exact ⟨h1, v, hb.trans h2, own_keep h3 hk, h4⟩
  exact h.imp (one _) (one _)
theorem builder_put {B b pc : Nat} {xs : List Value} {w : World} {t : TypeId} {vs : Array Value} (h : Lib.IsBuilder 74 5 B b xs w) (hr : RowAt w pc t vs) (ht : t ≠ 5) (hne : pc ≠ b) (j : Nat) (v : Value) : Lib.IsBuilder 74 5 B b xs (w.setCell ⟨pc, j, none⟩ v) := by
  refine builder_keep h (Below.heap_setCell w ⟨pc, j, none⟩ v b (by simpa using fun e => hne e.symm)) fun g cs m hg => Below.heap_setCell w ⟨pc, j, none⟩ v g ?_
  rintro rfl
  have h2 : w.heap[g]? = _ := hr
  rw [hg] at h2
  simp at h2
  exact ht h2.2.1.symm
/-- Behind a section: what the builder holds, the sign for the next one, and what stays. -/
def Sect (B b pc : Nat) (ys : By) (cut : Bool) (w : World) (e : Ending) (w' : World) : Prop :=
  e = .returned (.tuple #[]) ∧ Lib.IsBuilder 74 5 B b (Lib.byteCells ys) w' ∧ RowAt w' pc 4 #[.bool cut] ∧ Below B w w' ∧ ∀ q cs t m, w.heap[q]? = some (.cells cs t m) → t ≠ 5 → q ≠ b → q ≠ pc → w'.heap[q]? = w.heap[q]?
set_option maxRecDepth 100000 in
set_option maxHeartbeats 8000000 in
theorem sect_any (s : Nat) (hs : s < 4) (t : ByteArray) (ht : t.size ≤ 100000) (n : Nat) (hn : n ≤ 100000) (cut : Bool) (B b pn pc : Nat) (xs : By) (hxs : xs.length ≤ 10000000) (w : World) (hW : MkW w)
    (hb : Lib.IsBuilder 74 5 B b (Lib.byteCells xs) w) (hpn : RowAt w pn 3 #[.int .i64 n]) (hpc : RowAt w pc 4 #[.bool cut]) (hbc : pc ≠ b) (hB : B ≤ pc) :
    Calls Tryd.prog 48 #[.int .i64 s, .string t, .pointer (some ⟨b, 0, none⟩), .pointer (some ⟨pn, 0, none⟩), .pointer (some ⟨pc, 0, none⟩)] w (Sect B b pc (xs ++ mk (signB s) n cut (labB s) ++ whole (tl t)) (cutOf (tl t)) w) := by
  have HW := Lib.hid hW
  have Hb := Lib.hid hb
  have Hpn := Lib.hid hpn
  have Hpc := Lib.hid hpc
  have hlt := hpc.lt
  have c0 := hpn.cell (j := 0) rfl
  have c1 := hpc.cell (j := 0) rfl
  clear hW hb hpn hpc
  obtain ⟨m, hm⟩ : ∃ m, Hid (mk (signB s) n cut (labB s) = m) := ⟨_, Lib.hid rfl⟩
  have hml : m.length ≤ 100009 := by rw [← hm.out]; have := mk_le (signB s) n cut (labB s); have := labB_le s; omega
  obtain ⟨t2, ht2⟩ : ∃ t2, Hid (wholeS t = bs t2 ∧ whole (tl t) = t2) := ⟨_, Lib.hid ⟨wholeS_bs t, rfl⟩⟩
  have htl : t2.length ≤ 100001 := by rw [← ht2.out.2]; have := whole_le (tl t); rw [tl_length] at this; omega
  have hcd : cutOf (tl t) = !decide (t2 = tl t) := by unfold cutOf; rw [ht2.out.2]; simp
  rw [hm.out, ht2.out.2, hcd]
  obtain ⟨d, hd⟩ : ∃ d, Hid (decide (t2 = tl t) = d) := ⟨_, Lib.hid rfl⟩
  rw [hd.out]
  clear hcd
  go_enter Tryd.func48, Tryd.ntmps48
  go_wp2_with fail
  refine (begin_any s hs n hn cut _ HW.out).mono ?_
  rw [hm.out]
  rintro e w1 ⟨rfl, b1⟩
  have hs1 := b1.size
  have Hb1 := Lib.hid (builder_below Hb.out b1)
  have Hpn1 := Lib.hid (Hpn.out.later b1)
  have Hpc1 := Lib.hid (Hpc.out.later b1)
  have HB1 := Lib.hid b1
  clear b1 c0 c1
  go_wp2_with fail
  refine (WriteString_k B b _ (bs m) _ Hb1.out (by rw [byteCells_length, bs_size]; omega) (by omega)).mono ?_
  rintro e w2 ⟨rfl, g2, b2, q2⟩
  rw [strCells_bs, ← byteCells_append] at g2
  have hs2 := b2.size
  have Hb2 := Lib.hid g2
  have Hpc2 := Lib.hid (Hpc1.out.same (q2 pc _ _ _ Hpc1.out (by decide) hbc))
  have HB2 := Lib.hid b2
  have Hq2 := Lib.hid q2
  clear g2 b2 q2
  go_wp2_with fail
  refine (Whole_any t (by omega) _).mono ?_
  rw [ht2.out.1]
  rintro e w' ⟨rfl, rfl⟩
  go_wp2_with fail
  refine (WriteString_k B b _ (bs t2) _ (.inr Hb2.out) (by rw [byteCells_length, bs_size, List.length_append]; omega) (by omega)).mono ?_
  rintro e w3 ⟨rfl, g3, b3, q3⟩
  rw [strCells_bs, ← byteCells_append] at g3
  have Hb3 := Lib.hid g3
  have Hpc3 := Lib.hid (Hpc2.out.same (q3 pc _ _ _ Hpc2.out (by decide) hbc))
  have HB3 := Lib.hid b3
  have Hq3 := Lib.hid q3
  have f0 := Hpc3.out.frozen 0
  have c1 := Hpc3.out.cell (j := 0) rfl
  clear g3 b3 q3
  go_wp2_with fail
  refine (Whole_any t (by omega) _).mono ?_
  rw [ht2.out.1]
  rintro e w' ⟨rfl, rfl⟩
  have hdt : ((bs t2).toList == t.toList) = d := by rw [Lib.toList_data, Lib.toList_data, ← hd.out]; show (t2 == tl t) = _; rw [Bool.eq_iff_iff]; simp
  have hdt2 : (t2 == t.toList) = d := by rw [Lib.toList_data, ← hd.out]; show (t2 == tl t) = _; rw [Bool.eq_iff_iff]; simp
  go_wp2_with fail
  go_end0
  refine ⟨rfl, ?_, Hpc3.out.set 0 _, ?_, ?_⟩
  · exact builder_put (.inr Hb3.out) Hpc3.out (by decide) hbc 0 _
  · exact ((HB1.out.mono (by omega)).trans (HB2.out.trans HB3.out)).setCell (p := ⟨pc, 0, none⟩) hB _
  · intro q cs t0 m0 hq ht0 hqb hqc
    have h1 : w1.heap[q]? = w.heap[q]? := HB1.out.block q (Array.getElem?_eq_some_iff.1 hq).1
    have h2 : w2.heap[q]? = w.heap[q]? := (Hq2.out q cs t0 m0 (h1.trans hq) ht0 hqb).trans h1
    rw [Below.heap_setCell _ _ _ _ (by simpa using hqc), Hq3.out q cs t0 m0 (h2.trans hq) ht0 hqb, h2]
set_option maxRecDepth 100000 in
set_option maxHeartbeats 8000000 in
theorem clash_any (p : Pt) (h1 : p.o.length ≤ 100000) (h2 : p.a.length ≤ 100000) (h3 : p.b.length ≤ 100000) (n : Nat) (hn : n ≤ 100000) (old : Bool) (w : World) (hW : MkW w) :
    Calls Tryd.prog 38 #[.agg #[.bool p.clash, .string (bs p.o), .string (bs p.a), .string (bs p.b)], .int .i64 n, .bool old] w fun e w' => e = .returned (.string (bs (clashL p n old))) ∧ Below w.heap.size w w' := by
  have HW := Lib.hid hW; clear hW
  have hW1 := HW.out.size
  obtain ⟨W1, hW1'⟩ : ∃ W1, Hid (w.alloc (.cells #[.bool p.clash, .string (bs p.o), .string (bs p.a), .string (bs p.b)] 52) = W1) := ⟨_, Lib.hid rfl⟩
  obtain ⟨W2, hW2⟩ : ∃ W2, Hid (W1.alloc (.cells #[.int .i64 n] 3) = W2) := ⟨_, Lib.hid rfl⟩
  obtain ⟨W3, hW3⟩ : ∃ W3, Hid (W2.alloc (.cells #[.pointer none, .slice none 0 0] 74) = W3) := ⟨_, Lib.hid rfl⟩
  obtain ⟨W4, hW4⟩ : ∃ W4, Hid (W3.alloc (.cells #[.bool false] 4) = W4) := ⟨_, Lib.hid rfl⟩
  have s1 : W1.heap.size = w.heap.size + 1 := by rw [← hW1'.out, World.size_alloc]
  have s2 : W2.heap.size = w.heap.size + 1 + 1 := by rw [← hW2.out, World.size_alloc, s1]
  have s3 : W3.heap.size = w.heap.size + 1 + 1 + 1 := by rw [← hW3.out, World.size_alloc, s2]
  have r1 : RowAt W1 w.heap.size 52 #[.bool p.clash, .string (bs p.o), .string (bs p.a), .string (bs p.b)] := by rw [← hW1'.out]; exact RowAt.new w 52 _
  have r2 : RowAt W2 (w.heap.size + 1) 3 #[.int .i64 n] := by rw [← hW2.out, ← s1]; exact RowAt.new W1 3 _
  have r3 : Lib.IsBuilder 74 5 (w.heap.size + 1 + 1) (w.heap.size + 1 + 1) [] W3 := by rw [← hW3.out, ← s2]; exact builder_new W2
  have r4 : RowAt W4 (w.heap.size + 1 + 1 + 1) 4 #[.bool false] := by rw [← hW4.out, ← s3]; exact RowAt.new W3 4 _
  have R1 : Hid (RowAt W4 w.heap.size 52 #[.bool p.clash, .string (bs p.o), .string (bs p.a), .string (bs p.b)]) := by
    rw [← hW4.out, ← hW3.out, ← hW2.out]; exact Lib.hid (((r1.alloc _).alloc _).alloc _)
  have R2 : Hid (RowAt W4 (w.heap.size + 1) 3 #[.int .i64 n]) := by
    rw [← hW4.out, ← hW3.out]; exact Lib.hid ((r2.alloc _).alloc _)
  have R3 : Hid (Lib.IsBuilder 74 5 (w.heap.size + 1 + 1) (w.heap.size + 1 + 1) (Lib.byteCells []) W4) := by
    rw [← hW4.out]; exact Lib.hid (builder_alloc r3 _)
  have R4 := Lib.hid r4
  have B4 : Hid (Below w.heap.size w W4) := by
    rw [← hW4.out, ← hW3.out, ← hW2.out, ← hW1'.out]
    exact Lib.hid (((((Below.refl _ w).alloc (Nat.le_refl _) _).alloc (by simp) _).alloc (by simp; omega) _).alloc (by simp; omega) _)
  have M4 := Lib.hid (HW.out.below B4.out hW1)
  have c2 := R1.out.cell (j := 2) rfl
  rw [← hW4.out, ← hW3.out, ← hW2.out, ← hW1'.out] at c2
  clear s1 s2 s3 r1 r2 r3 r4
  obtain ⟨r, hr⟩ : ∃ r, Hid (clashL p n old = r) := ⟨_, Lib.hid rfl⟩
  rw [hr.out]
  have la := whole_le p.a
  have lo := whole_le p.o
  have lb := whole_le p.b
  have m1 := mk_le (signB 1) n false (labB 1)
  have m2 := mk_le (signB 2) n (cutOf p.a) (labB 2)
  have m3 := mk_le (signB 3) n (cutOf p.o) (labB 3)
  have m4 := mk_le (signB 3) n (cutOf p.a) (labB 3)
  have m5 := mk_le (signB 0) n (cutOf p.b) (labB 0)
  have k0 := labB_le 0
  have k1 := labB_le 1
  have k2 := labB_le 2
  have k3 := labB_le 3
  obtain ⟨T1, hT1⟩ : ∃ T, Hid (([] : By) ++ mk (signB 1) n false (labB 1) ++ whole p.a = T) := ⟨_, Lib.hid rfl⟩
  have l1 : T1.length ≤ 1000000 := by rw [← hT1.out]; simp only [List.length_append, List.length_nil]; omega
  go_enter Tryd.func38, Tryd.ntmps38
  go_wp2_with fail
  rw [hW1'.out, hW2.out, hW3.out, hW4.out]
  refine (sect_any 1 (by omega) (bs p.a) (by rw [bs_size]; omega) n hn false (w.heap.size + 1 + 1) (w.heap.size + 1 + 1) (w.heap.size + 1) (w.heap.size + 1 + 1 + 1) [] (Nat.zero_le _) W4 M4.out R3.out R2.out R4.out (by omega) (by omega)).mono ?_
  rw [tl_bs, hT1.out]
  rintro e w1 ⟨rfl, g1, p1, b1, q1⟩
  have G1 := Lib.hid g1
  have P1 := Lib.hid p1
  have B1 := Lib.hid (B4.out.trans (b1.mono (by omega)))
  have N1 := Lib.hid (R2.out.same (q1 _ _ _ _ R2.out (by decide) (by omega) (by omega)))
  have X1 := Lib.hid (R1.out.same (q1 _ _ _ _ R1.out (by decide) (by omega) (by omega)))
  have M1 := Lib.hid (HW.out.below B1.out hW1)
  clear g1 p1 b1 q1 c2 B4 R1 R2 R3 R4 M4
  cases old with
  | true =>
    obtain ⟨T2, hT2⟩ : ∃ T, Hid (T1 ++ mk (signB 2) n (cutOf p.a) (labB 2) ++ whole p.o = T) := ⟨_, Lib.hid rfl⟩
    have l2 : T2.length ≤ 2000000 := by rw [← hT2.out]; simp only [List.length_append]; omega
    obtain ⟨T3, hT3⟩ : ∃ T, Hid (T2 ++ mk (signB 3) n (cutOf p.o) (labB 3) ++ whole p.b = T) := ⟨_, Lib.hid rfl⟩
    have l3 : T3.length ≤ 3000000 := by rw [← hT3.out]; simp only [List.length_append]; omega
    obtain ⟨T4, hT4⟩ : ∃ T, Hid (T3 ++ mk (signB 0) n (cutOf p.b) (labB 0) ++ whole [] = T) := ⟨_, Lib.hid rfl⟩
    have hfin : Hid (T4 = r) := Lib.hid (by
      rw [← hT4.out, ← hT3.out, ← hT2.out, ← hT1.out, ← hr.out]
      simp [clashL, signB, labB, whole])
    have c1 := X1.out.cell (j := 1) rfl
    go_wp2_with fail
    refine (sect_any 2 (by omega) (bs p.o) (by rw [bs_size]; omega) n hn (cutOf p.a) (w.heap.size + 1 + 1) (w.heap.size + 1 + 1) (w.heap.size + 1) (w.heap.size + 1 + 1 + 1) T1 (by omega) w1 M1.out G1.out N1.out P1.out (by omega) (by omega)).mono ?_
    rw [tl_bs, hT2.out]
    rintro e w2 ⟨rfl, g1, p1, b1, q1⟩
    have G2 := Lib.hid g1
    have P2 := Lib.hid p1
    have B2 := Lib.hid (B1.out.trans (b1.mono (by omega)))
    have N2 := Lib.hid (N1.out.same (q1 _ _ _ _ N1.out (by decide) (by omega) (by omega)))
    have X2 := Lib.hid (X1.out.same (q1 _ _ _ _ X1.out (by decide) (by omega) (by omega)))
    have M2 := Lib.hid (HW.out.below B2.out hW1)
    clear g1 p1 b1 q1 c1
    have c3 := X2.out.cell (j := 3) rfl
    go_wp2_with fail
    refine (sect_any 3 (by omega) (bs p.b) (by rw [bs_size]; omega) n hn (cutOf p.o) (w.heap.size + 1 + 1) (w.heap.size + 1 + 1) (w.heap.size + 1) (w.heap.size + 1 + 1 + 1) T2 (by omega) w2 M2.out G2.out N2.out P2.out (by omega) (by omega)).mono ?_
    rw [tl_bs, hT3.out]
    rintro e w3 ⟨rfl, g1, p1, b1, q1⟩
    have G3 := Lib.hid g1
    have P3 := Lib.hid p1
    have B3 := Lib.hid (B2.out.trans (b1.mono (by omega)))
    have N3 := Lib.hid (N2.out.same (q1 _ _ _ _ N2.out (by decide) (by omega) (by omega)))
    have M3 := Lib.hid (HW.out.below B3.out hW1)
    clear g1 p1 b1 q1 c3
    go_wp2_with fail
    refine (sect_any 0 (by omega) (bs []) (by rw [bs_size]; simp) n hn (cutOf p.b) (w.heap.size + 1 + 1) (w.heap.size + 1 + 1) (w.heap.size + 1) (w.heap.size + 1 + 1 + 1) T3 (by omega) w3 M3.out G3.out N3.out P3.out (by omega) (by omega)).mono ?_
    rw [tl_bs, hT4.out, hfin.out]
    rintro e w4 ⟨rfl, g1, p1, b1, q1⟩
    have G4 := Lib.hid g1
    have B5 := Lib.hid (B3.out.trans (b1.mono (by omega)))
    have hs5 := B5.out.size
    have hb5 : w.heap.size + 1 + 1 ≤ w4.heap.size := Nat.le_of_lt (Nat.lt_of_succ_lt (Nat.lt_of_lt_of_le p1.lt (Nat.le_refl _)))
    clear g1 p1 b1 q1
    go_wp2_with fail
    refine (Tryd.Builder_String_any _ _ r w4 G4.out hb5).mono ?_
    rintro e w5 ⟨rfl, b5⟩
    go_wp2_with fail
    go_ret
    exact ⟨rfl, B5.out.trans (b5.mono (by omega))⟩
  | false =>
    obtain ⟨T3, hT3⟩ : ∃ T, Hid (T1 ++ mk (signB 3) n (cutOf p.a) (labB 3) ++ whole p.b = T) := ⟨_, Lib.hid rfl⟩
    have l3 : T3.length ≤ 3000000 := by rw [← hT3.out]; simp only [List.length_append]; omega
    obtain ⟨T4, hT4⟩ : ∃ T, Hid (T3 ++ mk (signB 0) n (cutOf p.b) (labB 0) ++ whole [] = T) := ⟨_, Lib.hid rfl⟩
    have hfin : Hid (T4 = r) := Lib.hid (by
      rw [← hT4.out, ← hT3.out, ← hT1.out, ← hr.out]
      simp [clashL, signB, labB, whole])
    have c3 := X1.out.cell (j := 3) rfl
    go_wp2_with fail
    refine (sect_any 3 (by omega) (bs p.b) (by rw [bs_size]; omega) n hn (cutOf p.a) (w.heap.size + 1 + 1) (w.heap.size + 1 + 1) (w.heap.size + 1) (w.heap.size + 1 + 1 + 1) T1 (by omega) w1 M1.out G1.out N1.out P1.out (by omega) (by omega)).mono ?_
    rw [tl_bs, hT3.out]
    rintro e w3 ⟨rfl, g1, p1, b1, q1⟩
    have G3 := Lib.hid g1
    have P3 := Lib.hid p1
    have B3 := Lib.hid (B1.out.trans (b1.mono (by omega)))
    have N3 := Lib.hid (N1.out.same (q1 _ _ _ _ N1.out (by decide) (by omega) (by omega)))
    have M3 := Lib.hid (HW.out.below B3.out hW1)
    clear g1 p1 b1 q1 c3
    go_wp2_with fail
    refine (sect_any 0 (by omega) (bs []) (by rw [bs_size]; simp) n hn (cutOf p.b) (w.heap.size + 1 + 1) (w.heap.size + 1 + 1) (w.heap.size + 1) (w.heap.size + 1 + 1 + 1) T3 (by omega) w3 M3.out G3.out N3.out P3.out (by omega) (by omega)).mono ?_
    rw [tl_bs, hT4.out, hfin.out]
    rintro e w4 ⟨rfl, g1, p1, b1, q1⟩
    have G4 := Lib.hid g1
    have B5 := Lib.hid (B3.out.trans (b1.mono (by omega)))
    have hs5 := B5.out.size
    have hb5 : w.heap.size + 1 + 1 ≤ w4.heap.size := Nat.le_of_lt (Nat.lt_of_succ_lt (Nat.lt_of_lt_of_le p1.lt (Nat.le_refl _)))
    clear g1 p1 b1 q1
    go_wp2_with fail
    refine (Tryd.Builder_String_any _ _ r w4 G4.out hb5).mono ?_
    rintro e w5 ⟨rfl, b5⟩
    go_wp2_with fail
    go_ret
    exact ⟨rfl, B5.out.trans (b5.mono (by omega))⟩
end Go.Proofs.YtbekbllffphfeaaDoor.K
