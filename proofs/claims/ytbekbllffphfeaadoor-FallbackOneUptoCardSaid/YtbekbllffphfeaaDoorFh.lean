/-
  For the laws of fallback: what a visit of one path does to the files and the conflicts so far. Condition: texts of at most 1,999 bytes; marker's table is as it is laid.
-/
import Derived.Test.YtbekbllffphfeaaDoorFd
import Derived.Test.YtbekbllffphfeaaDoorTPaths
namespace Go.Proofs.YtbekbllffphfeaaDoor
open Go.RowKit Go.Shelf
set_option linter.unusedSimpArgs false
set_option linter.unusedVariables false

abbrev CL := List (Int × ByteArray)
def cv (L : CL) : List Value := L.flatMap fun s => [.int .i64 s.1, .string s.2]
theorem cv_append (A B : CL) : cv (A ++ B) = cv A ++ cv B := by unfold cv; rw [List.flatMap_append]
theorem fv_append (A B : List T.Fl) : T.fv (A ++ B) = T.fv A ++ T.fv B := by unfold T.fv; rw [List.flatMap_append]
def gT (L : List T.Fl) (p : ByteArray) : ByteArray × Bool := match T.getT L (tl p) with
  | some t => (bs t, true)
  | none => (⟨#[]⟩, false)
theorem getT_mem {L : List T.Fl} {q t : By} (h : T.getT L q = some t) : ∃ f ∈ L, f.text = t := by
  induction L with
  | nil => cases h
  | cons f r ih =>
    unfold T.getT at h
    split at h
    · exact ⟨f, by simp, Option.some.inj h⟩
    · obtain ⟨g, hg, e⟩ := ih h
      exact ⟨g, List.mem_cons_of_mem _ hg, e⟩
theorem gT_le {L : List T.Fl} {p : ByteArray} {n : Nat} (h : ∀ f ∈ L, f.text.length ≤ n) : (gT L p).1.size ≤ n := by
  unfold gT
  split
  · rename_i t e
    obtain ⟨f, hf, rfl⟩ := getT_mem e
    dsimp only
    rw [bs_size]
    exact h f hf
  · exact Nat.zero_le _
theorem Get2_any (v : Value) (L : List T.Fl) (q : ByteArray) (w : World) (h1 : T.Fls w v L) : Calls Tryd.prog 15 #[v, .string q] w fun e w' => e = .returned (.tuple #[.string (gT L q).1, .bool (gT L q).2]) ∧ Below w.heap.size w w' := by
  refine (T.Get_any v L q w h1).mono ?_
  rintro e w' ⟨rfl, hb⟩
  refine ⟨?_, hb⟩
  unfold gT
  cases h : T.getT L (tl q) with
  | none => rfl
  | some t => rfl
/-- What comes of a path. -/
def fileT (O A B : List T.Fl) (old : Bool) (p : ByteArray) : ByteArray × Bool × Int := fileP (gT O p).1 (gT A p).1 (gT B p).1 (gT O p).2 (gT A p).2 (gT B p).2 old
def addT (acc : List T.Fl × CL) (p : ByteArray) (f : ByteArray × Bool × Int) : List T.Fl × CL := (if f.2.1 then acc.1 ++ [⟨tl p, tl f.1⟩] else acc.1, if f.2.2 = 0 then acc.2 else acc.2 ++ [(f.2.2, p)])
theorem own_apart {W W' : World} {base e e' s s' n m : Nat} {v u : Value} {xs ys : List Value} (h : W.ownsRow base e s v n xs) (k : W.ownsRow base e' s' u m ys) (hne : e ≠ e') (hg : W.grownBy W' u.ownBlock) : W'.ownsRow base e s v n xs := by
  refine ⟨h.1, ?_⟩
  rcases h.2 with h0 | ⟨g, cap, cur, e1, h1, hgb, h2, h3, h4, h5⟩
  · exact .inl h0
  · refine .inr ⟨g, cap, cur, e1, h1, ?_, h2, h3, h4, h5⟩
    have hl : g < W.heap.size := (Array.getElem?_eq_some_iff.1 hgb).1
    refine (hg.block g hl ?_).trans hgb
    intro hb
    rcases k.2 with ⟨rfl, -⟩ | ⟨g', cap', cur', rfl, -, hgb', -⟩
    · cases hb
    · obtain rfl : g = g' := by injection hb
      have h2 := hgb.symm.trans hgb'
      injection h2 with h2
      injection h2 with _ h3
      exact hne h3
/-- A box stays where a row that lies behind it grows. -/
theorem box_apart {W W' : World} {base e s n b t : Nat} {u : Value} {ys : List Value} {cs : Array Value} (h : RowAt W b t cs) (hb : b < base) (k : W.ownsRow base e s u n ys) (hg : W.grownBy W' u.ownBlock) : RowAt W' b t cs :=
  (hg.block b h.lt (fun e => by have := (k.lt b e.symm).1; omega)).trans h
/-- A row stays where a cell of a box ahead of it turns. -/
theorem own_box {W : World} {base e s n b j : Nat} {u x : Value} {ys : List Value} (k : W.ownsRow base e s u n ys) (hb : b < base) : (W.setCell ⟨b, j, none⟩ x).ownsRow base e s u n ys := by
  refine ⟨k.1, ?_⟩
  rcases k.2 with h0 | ⟨g, cap, cur, e1, h1, hgb, h2⟩
  · exact .inl h0
  · exact .inr ⟨g, cap, cur, e1, h1, (Below.heap_setCell W ⟨b, j, none⟩ x g (by show g ≠ b; omega)).trans hgb, h2⟩
/-- The boxes of a call of Trees, and what is told so far. -/
structure TS (b N : Nat) (vO vA vB : Value) (old : Bool) (F : List T.Fl) (C : CL) (W : World) : Prop where
  r0 : RowAt W b 22 #[vO]
  r1 : RowAt W (b + 1) 22 #[vA]
  r2 : RowAt W (b + 1 + 1) 22 #[vB]
  r3 : RowAt W (b + 1 + 1 + 1) 4 #[.bool old]
  rf : ∃ v, RowAt W (b + 1 + 1 + 1 + 1) 22 #[v] ∧ W.ownsRow N 34 2 v F.length (T.fv F)
  rc : ∃ v, RowAt W (b + 1 + 1 + 1 + 1 + 1) 26 #[v] ∧ W.ownsRow N 46 2 v C.length (cv C)
theorem TS.later {b N : Nat} {vO vA vB : Value} {old : Bool} {F : List T.Fl} {C : CL} {W W' : World} (h : TS b N vO vA vB old F C W) (hb : Below W.heap.size W W') : TS b N vO vA vB old F C W' := by
  obtain ⟨h0, h1, h2, h3, ⟨v, h4, h5⟩, u, h6, h7⟩ := h
  exact ⟨h0.later hb, h1.later hb, h2.later hb, h3.later hb, ⟨v, h4.later hb, T.own_below h5 hb⟩, u, h6.later hb, T.own_below h7 hb⟩
theorem TS.size {b N : Nat} {vO vA vB : Value} {old : Bool} {F : List T.Fl} {C : CL} {W : World} (h : TS b N vO vA vB old F C W) : b + 6 ≤ W.heap.size := by
  obtain ⟨v, h, -⟩ := h.rc
  exact h.lt
/-- All blocks ahead of N but the two boxes of what is told so far stay as they were. -/
def KeepN (N b : Nat) (W W' : World) : Prop := ∀ g, g < N → g ≠ b + 1 + 1 + 1 + 1 → g ≠ b + 1 + 1 + 1 + 1 + 1 → W'.heap[g]? = W.heap[g]?
theorem KeepN.trans {N b : Nat} {A B C : World} (h : KeepN N b A B) (k : KeepN N b B C) : KeepN N b A C := fun g h1 h2 h3 => (k g h1 h2 h3).trans (h g h1 h2 h3)
theorem KeepN.below {N b : Nat} {A B : World} (h : Below A.heap.size A B) (hN : N ≤ A.heap.size) : KeepN N b A B := fun g h1 _ _ => h.block g (by omega)
theorem KeepN.grown {N b e s n : Nat} {A B : World} {tmp : Obj} {u : Value} {ys : List Value} (k : A.ownsRow N e s u n ys) (hN : N ≤ A.heap.size) (hg : (A.alloc tmp).grownBy B u.ownBlock) : KeepN N b A B := fun g h1 _ _ =>
  (hg.block g (by simp; omega) (fun e => by have := (k.lt g e.symm).1; omega)).trans (Below.heap_alloc A tmp g (by omega))
theorem KeepN.box1 {N b : Nat} (A : World) (x : Value) : KeepN N b A (A.setCell ⟨b + 1 + 1 + 1 + 1, 0, none⟩ x) := fun g _ h2 _ => Below.heap_setCell A ⟨b + 1 + 1 + 1 + 1, 0, none⟩ x g h2
theorem KeepN.box2 {N b : Nat} (A : World) (x : Value) : KeepN N b A (A.setCell ⟨b + 1 + 1 + 1 + 1 + 1, 0, none⟩ x) := fun g _ _ h3 => Below.heap_setCell A ⟨b + 1 + 1 + 1 + 1 + 1, 0, none⟩ x g h3
/-- What a round of the loop over the three trees leaves. -/
def t3R (x y z : ByteArray) : Nat → Array Value
  | 0 => #[.string ⟨#[]⟩, .string ⟨#[]⟩, .string ⟨#[]⟩]
  | 1 => #[.string x, .string ⟨#[]⟩, .string ⟨#[]⟩]
  | 2 => #[.string x, .string y, .string ⟨#[]⟩]
  | _ => #[.string x, .string y, .string z]
def b3R (x y z : Bool) : Nat → Array Value
  | 0 => #[.bool false, .bool false, .bool false]
  | 1 => #[.bool x, .bool false, .bool false]
  | 2 => #[.bool x, .bool y, .bool false]
  | _ => #[.bool x, .bool y, .bool z]
theorem TS.putF {b N : Nat} {vO vA vB : Value} {old : Bool} {F : List T.Fl} {C : CL} {wd w5 : World} {tmp : Obj} {u v' : Value} {path f1 : ByteArray} (hN : b + 6 ≤ N) (h : TS b N vO vA vB old F C wd) (hu : wd.ownsRow N 34 2 u F.length (T.fv F)) (hg : (wd.alloc tmp).grownBy w5 u.ownBlock) (hown : w5.ownsRow N 34 2 v' (F.length + 1) (T.fv F ++ [.string path, .string f1])) :
    TS b N vO vA vB old (F ++ [⟨tl path, tl f1⟩]) C (w5.setCell ⟨b + 1 + 1 + 1 + 1, 0, none⟩ v') := by
  have k := hu.alloc tmp
  obtain ⟨vf, rf, -⟩ := h.rf
  obtain ⟨vc, rc, oc⟩ := h.rc
  refine ⟨(box_apart (h.r0.alloc _) (by omega) k hg).other (by omega) _ _, (box_apart (h.r1.alloc _) (by omega) k hg).other (by omega) _ _, (box_apart (h.r2.alloc _) (by omega) k hg).other (by omega) _ _, (box_apart (h.r3.alloc _) (by omega) k hg).other (by omega) _ _, ⟨v', (box_apart (rf.alloc _) (by omega) k hg).set 0 _, own_box ?_ (by omega)⟩, vc, (box_apart (rc.alloc _) (by omega) k hg).other (by omega) _ _, own_box (own_apart (oc.alloc _) k (by decide) hg) (by omega)⟩
  rw [List.length_append, List.length_singleton, fv_append]
  have e : T.fv [(⟨tl path, tl f1⟩ : T.Fl)] = [.string path, .string f1] := by
    show [Value.string (T.bs (tl path)), Value.string (T.bs (tl f1))] = _
    rw [show T.bs (tl path) = path from bs_tl path, show T.bs (tl f1) = f1 from bs_tl f1]
  rw [e]
  exact hown
theorem TS.putC {b N : Nat} {vO vA vB : Value} {old : Bool} {F : List T.Fl} {C : CL} {wd w5 : World} {tmp : Obj} {u v' : Value} {x : Int} {path : ByteArray} (hN : b + 6 ≤ N) (h : TS b N vO vA vB old F C wd) (hu : wd.ownsRow N 46 2 u C.length (cv C)) (hg : (wd.alloc tmp).grownBy w5 u.ownBlock) (hown : w5.ownsRow N 46 2 v' (C.length + 1) (cv C ++ [.int .i64 x, .string path])) :
    TS b N vO vA vB old F (C ++ [(x, path)]) (w5.setCell ⟨b + 1 + 1 + 1 + 1 + 1, 0, none⟩ v') := by
  have k := hu.alloc tmp
  obtain ⟨vf, rf, of⟩ := h.rf
  obtain ⟨vc, rc, -⟩ := h.rc
  refine ⟨(box_apart (h.r0.alloc _) (by omega) k hg).other (by omega) _ _, (box_apart (h.r1.alloc _) (by omega) k hg).other (by omega) _ _, (box_apart (h.r2.alloc _) (by omega) k hg).other (by omega) _ _, (box_apart (h.r3.alloc _) (by omega) k hg).other (by omega) _ _, ⟨vf, (box_apart (rf.alloc _) (by omega) k hg).other (by omega) _ _, own_box (own_apart (of.alloc _) k (by decide) hg) (by omega)⟩, v', (box_apart (rc.alloc _) (by omega) k hg).set 0 _, own_box ?_ (by omega)⟩
  rw [List.length_append, List.length_singleton, cv_append]
  exact hown
theorem info48 : ∃ i0, Tryd.prog.info? 34 = some i0 ∧ i0.zero = some (.agg #[.string ⟨#[]⟩, .string ⟨#[]⟩]) ∧ i0.size = 2 ∧ i0.bytes = 32 := info_parts (by kernel_rfl)
theorem info63 : ∃ i0, Tryd.prog.info? 46 = some i0 ∧ i0.zero = some (.agg #[.int .i64 0, .string ⟨#[]⟩]) ∧ i0.size = 2 ∧ i0.bytes = 24 := info_parts (by kernel_rfl)
theorem file_new (W : World) (x y : ByteArray) : ∀ j u, ([.string x, .string y] : List Value)[j]? = some u → (W.alloc (.cells #[.string x, .string y] 34)).cell? ((⟨W.heap.size, 0, none⟩ : Addr).add j) = some u := by
  intro j u hj
  have e2 : (⟨W.heap.size, 0, none⟩ : Addr).add j = ⟨W.heap.size, j, none⟩ := by by_cases h0 : j = 0 <;> simp [Addr.add, h0]
  rw [e2]
  match j, hj with
  | 0, hj => simp at hj; subst hj; exact (RowAt.new W 34 _).cell rfl
  | 1, hj => simp at hj; subst hj; exact (RowAt.new W 34 _).cell rfl
  | j + 2, hj => simp at hj
theorem con_new (W : World) (x : Int) (y : ByteArray) : ∀ j u, ([.int .i64 x, .string y] : List Value)[j]? = some u → (W.alloc (.cells #[.int .i64 x, .string y] 46)).cell? ((⟨W.heap.size, 0, none⟩ : Addr).add j) = some u := by
  intro j u hj
  have e2 : (⟨W.heap.size, 0, none⟩ : Addr).add j = ⟨W.heap.size, j, none⟩ := by by_cases h0 : j = 0 <;> simp [Addr.add, h0]
  rw [e2]
  match j, hj with
  | 0, hj => simp at hj; subst hj; exact (RowAt.new W 46 _).cell rfl
  | 1, hj => simp at hj; subst hj; exact (RowAt.new W 46 _).cell rfl
  | j + 2, hj => simp at hj
theorem con_new' (W : World) (n : Nat) (h : W.heap.size = n) (x : Int) (y : ByteArray) : ∀ j u, ([.int .i64 x, .string y] : List Value)[j]? = some u → (W.alloc (.cells #[.int .i64 x, .string y] 46)).cell? ((⟨n, 0, none⟩ : Addr).add j) = some u := by
  subst h
  exact con_new W x y
theorem below_own {w wr w1 : World} {B base e sz n : Nat} {o : Value} {xs : List Value} {tmp : Obj} (hB : Below B w wr) (hs : B ≤ wr.heap.size) (hb : B ≤ base) (hown : wr.ownsRow base e sz o n xs) (hgrow : (wr.alloc tmp).grownBy w1 o.ownBlock) : Below B w w1 :=
  (hB.alloc hs tmp).grown hgrow (by simp; omega) fun k e => Nat.le_trans hb (hown.lt k e).1
set_option maxRecDepth 100000 in
set_option maxHeartbeats 16000000 in
theorem visit_any (b N : Nat) (vO vA vB : Value) (O A B : List T.Fl) (old : Bool) (F : List T.Fl) (C : CL) (path : ByteArray) (w : World) (hW : K.MkW w) (hb1 : 1 ≤ b) (hN : b + 6 ≤ N) (hNs : N ≤ w.heap.size) (h : TS b N vO vA vB old F C w) (h0 : T.Fls w vO O) (h1 : T.Fls w vA A) (h2 : T.Fls w vB B) (k0 : ∀ f ∈ O, f.text.length ≤ 2599) (k1 : ∀ f ∈ A, f.text.length ≤ 2599) (k2 : ∀ f ∈ B, f.text.length ≤ 2599) (lF : F.length ≤ 100000) (lC : C.length ≤ 100000) :
    Calls Tryd.prog 14 #[.string path, .pointer (some ⟨b, 0, none⟩), .pointer (some ⟨b + 1, 0, none⟩), .pointer (some ⟨b + 1 + 1, 0, none⟩), .pointer (some ⟨b + 1 + 1 + 1, 0, none⟩), .pointer (some ⟨b + 1 + 1 + 1 + 1, 0, none⟩), .pointer (some ⟨b + 1 + 1 + 1 + 1 + 1, 0, none⟩)] w fun e w' => e = .returned (.tuple #[]) ∧ TS b N vO vA vB old (addT (F, C) path (fileT O A B old path)).1 (addT (F, C) path (fileT O A B old path)).2 w' ∧ Below (b + 4) w w' ∧ KeepN N b w w' := by
  have HW := Lib.hid hW
  have hsz := h.size
  have HS := Lib.hid h
  have G0 := Lib.hid (fun W (hB : Below w.heap.size w W) => Get2_any vO O path W (h0.below hB))
  have G1 := Lib.hid (fun W (hB : Below w.heap.size w W) => Get2_any vA A path W (h1.below hB))
  have G2 := Lib.hid (fun W (hB : Below w.heap.size w W) => Get2_any vB B path W (h2.below hB))
  have L0 := Lib.hid (gT_le (p := path) k0)
  have L1 := Lib.hid (gT_le (p := path) k1)
  have L2 := Lib.hid (gT_le (p := path) k2)
  have hft : Hid (fileT O A B old path = fileP (gT O path).1 (gT A path).1 (gT B path).1 (gT O path).2 (gT A path).2 (gT B path).2 old) := Lib.hid rfl
  obtain ⟨⟨x0, p0⟩, e0⟩ : ∃ g, gT O path = g := ⟨_, rfl⟩
  obtain ⟨⟨x1, p1⟩, e1⟩ : ∃ g, gT A path = g := ⟨_, rfl⟩
  obtain ⟨⟨x2, p2⟩, e2⟩ : ∃ g, gT B path = g := ⟨_, rfl⟩
  rw [e0] at G0 L0 hft
  rw [e1] at G1 L1 hft
  rw [e2] at G2 L2 hft
  dsimp only at G0 G1 G2 L0 L1 L2 hft
  obtain ⟨FT, hFT⟩ : ∃ f, fileT O A B old path = f := ⟨_, rfl⟩
  rw [hFT] at hft ⊢
  obtain ⟨zO, cO, rfl, -⟩ := h0
  obtain ⟨zA, cA, rfl, -⟩ := h1
  obtain ⟨zB, cB, rfl, -⟩ := h2
  obtain ⟨nO, hnO⟩ : ∃ n, Hid (O.length = n) := ⟨_, Lib.hid rfl⟩
  obtain ⟨nA, hnA⟩ : ∃ n, Hid (A.length = n) := ⟨_, Lib.hid rfl⟩
  obtain ⟨nB, hnB⟩ : ∃ n, Hid (B.length = n) := ⟨_, Lib.hid rfl⟩
  rw [hnO.out] at HS G0 ⊢
  rw [hnA.out] at HS G1 ⊢
  rw [hnB.out] at HS G2 ⊢
  clear hW h e0 e1 e2 hFT k0 k1 k2
  have I0 : ∀ W, (Instr.index 42 (.agg #[.slice zO nO cO, .slice zA nA cA, .slice zB nB cB]) (.int .i64 0)).run Tryd.prog W = .ok (.slice zO nO cO) W := fun W => by kernel_rfl
  have I1 : ∀ W, (Instr.index 42 (.agg #[.slice zO nO cO, .slice zA nA cA, .slice zB nB cB]) (.int .i64 1)).run Tryd.prog W = .ok (.slice zA nA cA) W := fun W => by kernel_rfl
  have I2 : ∀ W, (Instr.index 42 (.agg #[.slice zO nO cO, .slice zA nA cA, .slice zB nB cB]) (.int .i64 2)).run Tryd.prog W = .ok (.slice zB nB cB) W := fun W => by kernel_rfl
  obtain ⟨W2, hW2⟩ : ∃ W2, Hid ((w.alloc (.cells #[.string ⟨#[]⟩, .string ⟨#[]⟩, .string ⟨#[]⟩] 35)).alloc (.cells #[.bool false, .bool false, .bool false] 32) = W2) := ⟨_, Lib.hid rfl⟩
  have T1 : Hid (RowAt W2 w.heap.size 35 (t3R x0 x1 x2 0)) := Lib.hid (by rw [← hW2.out]; exact (RowAt.new w 35 _).alloc _)
  have T2 : Hid (RowAt W2 (w.heap.size + 1) 32 (b3R p0 p1 p2 0)) := Lib.hid (by rw [← hW2.out]; exact row_new (by simp))
  have B2 : Hid (Below w.heap.size w W2) := Lib.hid (by rw [← hW2.out]; exact ((Below.refl _ w).alloc (Nat.le_refl _) _).alloc (by simp) _)
  have y0 : ((w.alloc (.cells #[.string ⟨#[]⟩, .string ⟨#[]⟩, .string ⟨#[]⟩] 35)).alloc (.cells #[.bool false, .bool false, .bool false] 32)).cell? ⟨b, 0, none⟩ = some (.slice zO nO cO) := by rw [hW2.out]; exact (HS.out.r0.later B2.out).cell rfl
  have y1 : ((w.alloc (.cells #[.string ⟨#[]⟩, .string ⟨#[]⟩, .string ⟨#[]⟩] 35)).alloc (.cells #[.bool false, .bool false, .bool false] 32)).cell? ⟨b + 1, 0, none⟩ = some (.slice zA nA cA) := by rw [hW2.out]; exact (HS.out.r1.later B2.out).cell rfl
  have y2 : ((w.alloc (.cells #[.string ⟨#[]⟩, .string ⟨#[]⟩, .string ⟨#[]⟩] 35)).alloc (.cells #[.bool false, .bool false, .bool false] 32)).cell? ⟨b + 1 + 1, 0, none⟩ = some (.slice zB nB cB) := by rw [hW2.out]; exact (HS.out.r2.later B2.out).cell rfl
  go_enter Tryd.func14, Tryd.ntmps14
  go_wp2_with fail
  clear y0 y1 y2
  rw [hW2.out]
  go_loopw [19] (fun i wr => ∃ j : Nat, j ≤ 3 ∧ i = .int .i64 j ∧ Hid (RowAt wr w.heap.size 35 (t3R x0 x1 x2 j)) ∧ Hid (RowAt wr (w.heap.size + 1) 32 (b3R p0 p1 p2 j)) ∧ Hid (Below w.heap.size w wr)) (fun i _ => 3 - (intOf i).toNat)
  case atStart => exact ⟨0, Nat.zero_le _, rfl, T1, T2, B2⟩
  case round =>
    obtain ⟨j, hj, rfl, t1, t2, bw⟩ := hrel
    clear T1 T2 B2 hW2
    obtain rfl | rfl | rfl | rfl : j = 0 ∨ j = 1 ∨ j = 2 ∨ j = 3 := by omega
    · have D := Lib.hid (G0.out wr bw.out)
      go_wp2_with fail
      refine D.out.mono ?_
      rintro e w3 ⟨rfl, b3⟩
      have t3 := Lib.hid (t1.out.later b3)
      have t4 := Lib.hid (t2.out.later b3)
      have b4 := Lib.hid (bw.out.trans (b3.mono bw.out.size))
      have u0 : w3.cell? ⟨w.heap.size, 0, none⟩ = some (.string ⟨#[]⟩) := t3.out.cell rfl
      have u1 : w3.cell? ⟨w.heap.size + 1, 0, none⟩ = some (.bool false) := t4.out.cell rfl
      have v0 := t3.out.frozen 0
      have v1 := t4.out.frozen 0
      clear b3 D
      go_wp2_with fail
      exact ⟨⟨1, by omega, rfl, Lib.hid ((t3.out.set 0 _).other (by omega) _ _), Lib.hid ((t4.out.other (by omega) _ _).set 0 _), Lib.hid ((b4.out.setCell (p := ⟨w.heap.size, 0, none⟩) (Nat.le_refl _) _).setCell (p := ⟨w.heap.size + 1, 0, none⟩) (Nat.le_succ _) _)⟩, by simp [intOf]⟩
    · have D := Lib.hid (G1.out wr bw.out)
      go_wp2_with fail
      refine D.out.mono ?_
      rintro e w3 ⟨rfl, b3⟩
      have t3 := Lib.hid (t1.out.later b3)
      have t4 := Lib.hid (t2.out.later b3)
      have b4 := Lib.hid (bw.out.trans (b3.mono bw.out.size))
      have u0 : w3.cell? ⟨w.heap.size, 1, none⟩ = some (.string ⟨#[]⟩) := t3.out.cell rfl
      have u1 : w3.cell? ⟨w.heap.size + 1, 1, none⟩ = some (.bool false) := t4.out.cell rfl
      have v0 := t3.out.frozen 1
      have v1 := t4.out.frozen 1
      clear b3 D
      go_wp2_with fail
      exact ⟨⟨2, by omega, rfl, Lib.hid ((t3.out.set 1 _).other (by omega) _ _), Lib.hid ((t4.out.other (by omega) _ _).set 1 _), Lib.hid ((b4.out.setCell (p := ⟨w.heap.size, 1, none⟩) (Nat.le_refl _) _).setCell (p := ⟨w.heap.size + 1, 1, none⟩) (Nat.le_succ _) _)⟩, by simp [intOf]⟩
    · have D := Lib.hid (G2.out wr bw.out)
      go_wp2_with fail
      refine D.out.mono ?_
      rintro e w3 ⟨rfl, b3⟩
      have t3 := Lib.hid (t1.out.later b3)
      have t4 := Lib.hid (t2.out.later b3)
      have b4 := Lib.hid (bw.out.trans (b3.mono bw.out.size))
      have u0 : w3.cell? ⟨w.heap.size, 2, none⟩ = some (.string ⟨#[]⟩) := t3.out.cell rfl
      have u1 : w3.cell? ⟨w.heap.size + 1, 2, none⟩ = some (.bool false) := t4.out.cell rfl
      have v0 := t3.out.frozen 2
      have v1 := t4.out.frozen 2
      clear b3 D
      go_wp2_with fail
      exact ⟨⟨3, by omega, rfl, Lib.hid ((t3.out.set 2 _).other (by omega) _ _), Lib.hid ((t4.out.other (by omega) _ _).set 2 _), Lib.hid ((b4.out.setCell (p := ⟨w.heap.size, 2, none⟩) (Nat.le_refl _) _).setCell (p := ⟨w.heap.size + 1, 2, none⟩) (Nat.le_succ _) _)⟩, by simp [intOf]⟩
    · have y0 : wr.cell? ⟨w.heap.size, 0, none⟩ = some (.string x0) := t1.out.cell rfl
      have y1 : wr.cell? ⟨w.heap.size, 1, none⟩ = some (.string x1) := t1.out.cell rfl
      have y2 : wr.cell? ⟨w.heap.size, 2, none⟩ = some (.string x2) := t1.out.cell rfl
      have y3 : wr.cell? ⟨w.heap.size + 1, 0, none⟩ = some (.bool p0) := t2.out.cell rfl
      have y4 : wr.cell? ⟨w.heap.size + 1, 1, none⟩ = some (.bool p1) := t2.out.cell rfl
      have y5 : wr.cell? ⟨w.heap.size + 1, 2, none⟩ = some (.bool p2) := t2.out.cell rfl
      have y6 : wr.cell? ⟨b + 1 + 1 + 1, 0, none⟩ = some (.bool old) := (HS.out.r3.later bw.out).cell rfl
      have CF := Lib.hid (File_any x0 x1 x2 p0 p1 p2 old wr (HW.out.below bw.out (by omega)) L0.out L1.out L2.out)
      rw [← hft.out] at CF
      go_wp2_with fail
      refine CF.out.mono ?_
      rintro e wd ⟨rfl, bd⟩
      have BD := Lib.hid (bw.out.trans (bd.mono bw.out.size))
      have SD := Lib.hid (HS.out.later BD.out)
      have hds := BD.out.size
      obtain ⟨f1, f2, f3⟩ := FT
      obtain ⟨i4, hi4, ha0, ha1, ha2⟩ := info48
      obtain ⟨ic, hic, hc0, hc1, hc2⟩ := info63
      obtain ⟨vf, rf, of⟩ := SD.out.rf
      obtain ⟨vc, rc, oc⟩ := SD.out.rc
      obtain ⟨m1, hm1⟩ : ∃ n, Hid (F.length = n) := ⟨_, Lib.hid rfl⟩
      obtain ⟨m2, hm2⟩ : ∃ n, Hid (C.length = n) := ⟨_, Lib.hid rfl⟩
      rw [hm1.out] at of lF
      rw [hm2.out] at oc lC
      obtain ⟨a1, c1, rfl⟩ := own_form of
      obtain ⟨a2, c2, rfl⟩ := own_form oc
      have OF := Lib.hid of
      have OC := Lib.hid oc
      have RF := Lib.hid rf
      have RC := Lib.hid rc
      have cF : wd.cell? ⟨b + 1 + 1 + 1 + 1, 0, none⟩ = some (.slice a1 m1 c1) := RF.out.cell rfl
      have cC : wd.cell? ⟨b + 1 + 1 + 1 + 1 + 1, 0, none⟩ = some (.slice a2 m2 c2) := RC.out.cell rfl
      clear bd CF y0 y1 y2 y3 y4 y5 y6 t1 t2 bw of oc rf rc G0 G1 G2 L0 L1 L2 hft I0 I1 I2
      have KD : Hid (KeepN N b w wd) := Lib.hid (KeepN.below BD.out hNs)
      have B4 : Hid (Below (b + 4) w wd) := Lib.hid (BD.out.mono (by omega))
      dsimp only
      by_cases h3 : f3 = 0
      · have q3 : (f3 != 0) = false := by simp [h3]
        cases f2 with
        | false =>
          have hacc : Hid (addT (F, C) path (f1, false, f3) = (F, C)) := Lib.hid (by unfold addT; simp [h3])
          clear h3
          go_wp2_with fail
          go_end0
          rw [hacc.out]
          exact ⟨rfl, SD.out, B4.out, KD.out⟩
        | true =>
          have hacc : Hid (addT (F, C) path (f1, true, f3) = (F ++ [⟨tl path, tl f1⟩], C)) := Lib.hid (by unfold addT; simp [h3])
          clear h3
          go_wp2_with (at_builtin; refine wpList_append_own _ rfl _ _ 22 rfl N 34 i4 (.agg #[.string ⟨#[]⟩, .string ⟨#[]⟩]) 2 32 Tryd.underlying22 hi4 ha0 ha1 ha2 rfl (by decide) _ _ _ rfl (OF.out.alloc _) ⟨wd.heap.size, 0, none⟩ 1 1 [.string path, .string f1] rfl rfl (file_new _ _ _) (by simp [Value.oneCell']) (by unfold maxLen; omega) (by omega) (by simp; omega) ?_; intro v' w5 hown' hgrow _; obtain ⟨av, ac, rfl⟩ := own_form hown'; have rA := box_apart ((RF.out).alloc _) (by omega) (OF.out.alloc _) hgrow; have oA : w5.cell? ⟨b + 1 + 1 + 1 + 1, 0, none⟩ = some (.slice a1 m1 c1) := rA.cell rfl; have kA := rA.frozen 0)
          have hown2 : w5.ownsRow N 34 2 (.slice av (m1 + 1) ac) (F.length + 1) (T.fv F ++ [.string path, .string f1]) := by rw [hm1.out]; exact hown'
          have S2 := Lib.hid (TS.putF hN SD.out (by rw [hm1.out]; exact OF.out) hgrow hown2)
          have K5 := Lib.hid ((KD.out.trans (KeepN.grown (b := b) OF.out (by omega) hgrow)).trans (KeepN.box1 w5 (.slice av (m1 + 1) ac)))
          have B5 := Lib.hid ((below_own B4.out (by omega) (by omega) OF.out hgrow).setCell (p := ⟨b + 1 + 1 + 1 + 1, 0, none⟩) (by show b + 4 ≤ b + 1 + 1 + 1 + 1; omega) (.slice av (m1 + 1) ac))
          clear hown' hown2 hgrow
          go_wp2_with fail
          go_end0
          rw [hacc.out]
          exact ⟨rfl, S2.out, B5.out, K5.out⟩
      · have q3 : (f3 != 0) = true := by simp [h3]
        cases f2 with
        | false =>
          have hacc : Hid (addT (F, C) path (f1, false, f3) = (F, C ++ [(f3, path)])) := Lib.hid (by unfold addT; simp [h3])
          clear h3
          go_wp2_with (at_builtin; refine wpList_append_own _ rfl _ _ 26 rfl N 46 ic (.agg #[.int .i64 0, .string ⟨#[]⟩]) 2 24 Tryd.underlying26 hic hc0 hc1 hc2 rfl (by decide) _ _ _ rfl (OC.out.alloc _) ⟨wd.heap.size, 0, none⟩ 1 1 [.int .i64 f3, .string path] rfl rfl (con_new _ _ _) (by simp [Value.oneCell']) (by unfold maxLen; omega) (by omega) (by simp; omega) ?_; intro v' w5 hown' hgrow _; obtain ⟨av, ac, rfl⟩ := own_form hown'; have rA := box_apart ((RC.out).alloc _) (by omega) (OC.out.alloc _) hgrow; have oA : w5.cell? ⟨b + 1 + 1 + 1 + 1 + 1, 0, none⟩ = some (.slice a2 m2 c2) := rA.cell rfl; have kA := rA.frozen 0)
          have hown2 : w5.ownsRow N 46 2 (.slice av (m2 + 1) ac) (C.length + 1) (cv C ++ [.int .i64 f3, .string path]) := by rw [hm2.out]; exact hown'
          have S2 := Lib.hid (TS.putC hN SD.out (by rw [hm2.out]; exact OC.out) hgrow hown2)
          have K5 := Lib.hid ((KD.out.trans (KeepN.grown (b := b) OC.out (by omega) hgrow)).trans (KeepN.box2 w5 (.slice av (m2 + 1) ac)))
          have B5 := Lib.hid ((below_own B4.out (by omega) (by omega) OC.out hgrow).setCell (p := ⟨b + 1 + 1 + 1 + 1 + 1, 0, none⟩) (by show b + 4 ≤ b + 1 + 1 + 1 + 1 + 1; omega) (.slice av (m2 + 1) ac))
          clear hown' hown2 hgrow
          go_wp2_with fail
          go_end0
          rw [hacc.out]
          exact ⟨rfl, S2.out, B5.out, K5.out⟩
        | true =>
          have hacc : Hid (addT (F, C) path (f1, true, f3) = (F ++ [⟨tl path, tl f1⟩], C ++ [(f3, path)])) := Lib.hid (by unfold addT; simp [h3])
          clear h3
          go_wp2_with (at_builtin; first | (refine wpList_append_own _ rfl _ _ 22 rfl N 34 i4 (.agg #[.string ⟨#[]⟩, .string ⟨#[]⟩]) 2 32 Tryd.underlying22 hi4 ha0 ha1 ha2 rfl (by decide) _ _ _ rfl (OF.out.alloc _) ⟨wd.heap.size, 0, none⟩ 1 1 [.string path, .string f1] rfl rfl (file_new _ _ _) (by simp [Value.oneCell']) (by unfold maxLen; omega) (by omega) (by simp; omega) ?_; intro v' w5 hown' hgrow _; obtain ⟨av, ac, rfl⟩ := own_form hown'; have rA := box_apart ((RF.out).alloc _) (by omega) (OF.out.alloc _) hgrow; have oA : w5.cell? ⟨b + 1 + 1 + 1 + 1, 0, none⟩ = some (.slice a1 m1 c1) := rA.cell rfl; have kA := rA.frozen 0; have hown2 : w5.ownsRow N 34 2 (.slice av (m1 + 1) ac) (F.length + 1) (T.fv F ++ [.string path, .string f1]) := (by rw [hm1.out]; exact hown'); have S2 := Lib.hid (TS.putF hN SD.out (by rw [hm1.out]; exact OF.out) hgrow hown2); have K5 := Lib.hid ((KD.out.trans (KeepN.grown (b := b) OF.out (by omega) hgrow)).trans (KeepN.box1 w5 (.slice av (m1 + 1) ac))); have B5 := Lib.hid ((below_own B4.out (by omega) (by omega) OF.out hgrow).setCell (p := ⟨b + 1 + 1 + 1 + 1, 0, none⟩) (by show b + 4 ≤ b + 1 + 1 + 1 + 1; omega) (.slice av (m1 + 1) ac)); have OC2 := Lib.hid (own_box (j := 0) (x := .slice av (m1 + 1) ac) (own_apart (OC.out.alloc _) (OF.out.alloc _) (by decide) hgrow) (show b + 1 + 1 + 1 + 1 < N by omega)); have RC2 := Lib.hid ((box_apart ((RC.out).alloc _) (by omega) (OF.out.alloc _) hgrow).other (c := b + 1 + 1 + 1 + 1) (by omega) 0 (.slice av (m1 + 1) ac)); have cC2 : (w5.setCell ⟨b + 1 + 1 + 1 + 1, 0, none⟩ (.slice av (m1 + 1) ac)).cell? ⟨b + 1 + 1 + 1 + 1 + 1, 0, none⟩ = some (.slice a2 m2 c2) := RC2.out.cell rfl; have hs5 : b + 6 ≤ (w5.setCell ⟨b + 1 + 1 + 1 + 1, 0, none⟩ (.slice av (m1 + 1) ac)).heap.size := S2.out.size; have hs6 : b + 6 ≤ w5.heap.size := (by simpa using hs5); have hs7 : N ≤ w5.heap.size := (by have := hgrow.size; simp at this; omega); clear hown' hown2 hgrow rA) | (refine wpList_append_own _ rfl _ _ 26 rfl N 46 ic (.agg #[.int .i64 0, .string ⟨#[]⟩]) 2 24 Tryd.underlying26 hic hc0 hc1 hc2 rfl (by decide) _ _ _ rfl (OC2.out.alloc _) ⟨w5.heap.size, 0, none⟩ 1 1 [.int .i64 f3, .string path] rfl rfl (con_new' _ w5.heap.size (by simp) _ _) (by simp [Value.oneCell']) (by unfold maxLen; omega) (by omega) (by simp; omega) ?_; intro v2 w6 hown6 hgrow6 _; obtain ⟨bv, bc, rfl⟩ := own_form hown6; have rB := box_apart ((RC2.out).alloc _) (by omega) (OC2.out.alloc _) hgrow6; have oB : w6.cell? ⟨b + 1 + 1 + 1 + 1 + 1, 0, none⟩ = some (.slice a2 m2 c2) := rB.cell rfl; have kB := rB.frozen 0))
          have hown2 : w6.ownsRow N 46 2 (.slice bv (m2 + 1) bc) (C.length + 1) (cv C ++ [.int .i64 f3, .string path]) := by rw [hm2.out]; exact hown6
          have S3 := Lib.hid (TS.putC hN S2.out (by rw [hm2.out]; exact OC2.out) hgrow6 hown2)
          have K6 := Lib.hid ((K5.out.trans (KeepN.grown (b := b) OC2.out (by simp; omega) hgrow6)).trans (KeepN.box2 w6 (.slice bv (m2 + 1) bc)))
          have B6 := Lib.hid ((below_own B5.out (by omega) (by omega) OC2.out hgrow6).setCell (p := ⟨b + 1 + 1 + 1 + 1 + 1, 0, none⟩) (by show b + 4 ≤ b + 1 + 1 + 1 + 1 + 1; omega) (.slice bv (m2 + 1) bc))
          clear hown6 hown2 hgrow6
          go_wp2_with fail
          go_end0
          rw [hacc.out]
          exact ⟨rfl, S3.out, B6.out, K6.out⟩
end Go.Proofs.YtbekbllffphfeaaDoor
