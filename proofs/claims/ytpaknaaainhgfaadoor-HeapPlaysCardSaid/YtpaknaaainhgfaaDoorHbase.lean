/-
  For the laws of heap: a heap in memory, what turns when one is used, and New, Make, Many. Condition: at most 9,999 objects ahead of Make.
-/
import Derived.Test.YtpaknaaainhgfaaDoorHkey
namespace Go.Proofs.YtpaknaaainhgfaaDoor
open Go.RowKit Go.Maps Go.WideMaps

/-- BLOCK b IS A ROW OF CELLS of type t, not frozen. -/
def RowAt (W : World) (b : Nat) (t : TypeId) (vs : Array Value) : Prop := W.heap[b]? = some (.cells vs t (0, 0))
section
variable {W W' : World} {b : Nat} {t : TypeId} {vs : Array Value}
theorem RowAt.lt (h : RowAt W b t vs) : b < W.heap.size := (Array.getElem?_eq_some_iff.1 h).1
theorem RowAt.cell (h : RowAt W b t vs) {j : Nat} {v : Value} (hj : vs[j]? = some v) : W.cell? ⟨b, j, none⟩ = some v := by
  simp [World.cell?, show W.heap[b]? = _ from h, hj]
theorem RowAt.frozen (h : RowAt W b t vs) (j : Nat) : W.frozen? ⟨b, j, none⟩ = false := by
  simp [World.frozen?, show W.heap[b]? = _ from h]
theorem RowAt.new (W : World) (t : TypeId) (vs : Array Value) : RowAt (W.alloc (.cells vs t)) W.heap.size t vs := by
  show (W.heap.push _)[W.heap.size]? = _
  simp
theorem RowAt.same (h : RowAt W b t vs) (hb : W'.heap[b]? = W.heap[b]?) : RowAt W' b t vs := hb.trans h
theorem RowAt.later (h : RowAt W b t vs) (hb : Below W.heap.size W W') : RowAt W' b t vs := (hb.block b h.lt).trans h
theorem RowAt.alloc (h : RowAt W b t vs) (o : Obj) : RowAt (W.alloc o) b t vs := (Below.heap_alloc W o b h.lt).trans h
theorem RowAt.other (h : RowAt W b t vs) {c : Nat} (hne : b ≠ c) (j : Nat) (v : Value) : RowAt (W.setCell ⟨c, j, none⟩ v) b t vs :=
  (Below.heap_setCell W ⟨c, j, none⟩ v b (by simpa using hne)).trans h
theorem RowAt.set (h : RowAt W b t vs) (j : Nat) (v : Value) : RowAt (W.setCell ⟨b, j, none⟩ v) b t (vs.setIfInBounds j v) := by
  obtain ⟨hlt, hk⟩ := Array.getElem?_eq_some_iff.1 h
  show (W.heap.modify b _)[b]? = _
  rw [Array.getElem?_eq_getElem (by rw [Array.size_modify]; exact hlt), Array.getElem_modify_self, hk]
  rfl
end
theorem slice_of_owns {w : World} {base e size n : Nat} {v : Value} {xs : List Value} (h : w.ownsRow base e size v n xs) : ∃ p c, v = .slice p n c := by
  rcases h.2 with ⟨rfl, rfl⟩ | ⟨g, cap, cur, rfl, _⟩
  · exact ⟨_, _, rfl⟩
  · exact ⟨_, _, rfl⟩
theorem own_ne {w : World} {base e size n h : Nat} {v : Value} {xs : List Value} {cs : Array Value} {t : TypeId} (ho : w.ownsRow base e size v n xs) (hb : RowAt w h t cs) (hne : t ≠ e) : some h ≠ v.ownBlock := by
  rcases ho.2 with ⟨rfl, rfl⟩ | ⟨g, cap, cur, rfl, _, hg, _⟩
  · simp [Value.ownBlock]
  · intro hh
    simp [Value.ownBlock] at hh
    subst hh
    unfold RowAt at hb
    rw [hb] at hg
    cases hg
    exact hne rfl
theorem cell_one_new2 (w : World) (A : Obj) (v : Value) (t : TypeId) : ∀ j u, [v][j]? = some u → ((w.alloc A).alloc (.cells #[v] t)).cell? ((⟨w.heap.size + 1, 0, none⟩ : Addr).add j) = some u := by
  have := cell_one_new (w.alloc A) v t
  rw [World.size_alloc] at this
  exact this

/-- What the heap at h holds in its two fields. -/
abbrev hrow (p : Option Addr) (n c : Nat) (mv : Value) : Array Value := #[.slice p n c, mv]
/-- Block k is none that the heap at h may write: it lies below B, or its cells are no strings. -/
def Side (B : Nat) (W : World) (h k : Nat) : Prop := k < W.heap.size ∧ k ≠ h ∧ (k < B ∨ ∃ cs t fr, W.heap[k]? = some (.cells cs t fr) ∧ t ≠ 9)
/-- Nothing but the heap at h has turned. -/
structure Turn (B h : Nat) (W W' : World) : Prop where
  os : W'.os = W.os
  tape : W'.tape = W.tape
  output : W'.output = W.output
  size : W.heap.size ≤ W'.heap.size
  keep : ∀ k, Side B W h k → W'.heap[k]? = W.heap[k]?
/-- Block h is a heap of objects of the classes cs, whose fields hold f. -/
def Hp (W : World) (base h : Nat) (cs : List ByteArray) (m : Nat) (f : Store) : Prop :=
  ∃ p c mv, RowAt W h 85 (hrow p cs.length c mv) ∧ W.ownsRow base 9 1 (.slice p cs.length c) cs.length (cs.map Value.string) ∧
    ((mv = .map none ∧ f = fun _ _ => none) ∨ ∃ b, mv = .map (some b) ∧ base ≤ b ∧ MapHas W b m f)

theorem Side.same {B : Nat} {W W' : World} {h k : Nat} (s : Side B W h k) (hs : W.heap.size ≤ W'.heap.size) (e : W'.heap[k]? = W.heap[k]?) : Side B W' h k := by
  refine ⟨Nat.lt_of_lt_of_le s.1 hs, s.2.1, ?_⟩
  rcases s.2.2 with h1 | ⟨cs, t, fr, h1, h2⟩
  · exact .inl h1
  · exact .inr ⟨cs, t, fr, e.trans h1, h2⟩
theorem Turn.side {B : Nat} {W W' : World} {h k : Nat} (t : Turn B h W W') (s : Side B W h k) : Side B W' h k := s.same t.size (t.keep k s)
theorem Turn.refl (B h : Nat) (W : World) : Turn B h W W := ⟨rfl, rfl, rfl, Nat.le_refl _, fun _ _ => rfl⟩
theorem Turn.trans {B h : Nat} {A C D : World} (x : Turn B h A C) (y : Turn B h C D) : Turn B h A D :=
  ⟨y.os.trans x.os, y.tape.trans x.tape, y.output.trans x.output, Nat.le_trans x.size y.size, fun k hk => (y.keep k (x.side hk)).trans (x.keep k hk)⟩
theorem turn_of_below {B h : Nat} {W W' : World} (hb : Below W.heap.size W W') : Turn B h W W' := ⟨hb.os, hb.tape, hb.output, hb.size, fun k hk => hb.block k hk.1⟩
/-- A row of cells that are no strings stays as it is. -/
theorem RowAt.turn {B h : Nat} {W W' : World} {b : Nat} {t : TypeId} {vs : Array Value} (r : RowAt W b t vs) (ht : Turn B h W W') (hne : b ≠ h) (h9 : t ≠ 9) : RowAt W' b t vs :=
  r.same (ht.keep b ⟨r.lt, hne, .inr ⟨vs, t, _, r, h9⟩⟩)
theorem RowAt.turn_low {B h : Nat} {W W' : World} {b : Nat} {t : TypeId} {vs : Array Value} (r : RowAt W b t vs) (ht : Turn B h W W') (hne : b ≠ h) (hB : b < B) : RowAt W' b t vs :=
  r.same (ht.keep b ⟨r.lt, hne, .inl hB⟩)
/-- In the end: nothing below the base has turned. -/
theorem Turn.below {B h base : Nat} {W W' : World} (ht : Turn B h W W') (h1 : base ≤ B) (h2 : base ≤ h) (h3 : base ≤ W.heap.size) : Below base W W' :=
  ⟨ht.os, ht.tape, ht.output, ht.size, fun k hk => ht.keep k ⟨by omega, by omega, .inl (by omega)⟩⟩
theorem Hp.lt {W : World} {base h m : Nat} {cs : List ByteArray} {f : Store} (H : Hp W base h cs m f) : h < W.heap.size := by
  obtain ⟨p, c, mv, hr, _⟩ := H
  exact hr.lt
theorem MapHas.lt {W : World} {b m : Nat} {f : Store} (h : MapHas W b m f) : b < W.heap.size := by
  obtain ⟨D, ⟨es, cl, hb, _⟩, _⟩ := h
  exact (Array.getElem?_eq_some_iff.1 hb).1
theorem MapHas.later {W W' : World} {b m : Nat} {f : Store} (h : MapHas W b m f) (hb : W'.heap[b]? = W.heap[b]?) : MapHas W' b m f := by
  obtain ⟨D, ⟨es, cl, hb', r⟩, hk⟩ := h
  exact ⟨D, ⟨es, cl, hb.trans hb', r⟩, hk⟩
theorem owns_same {W W' : World} {base e size n : Nat} {v : Value} {xs : List Value} (h : W.ownsRow base e size v n xs) (hb : ∀ k, v.ownBlock = some k → W'.heap[k]? = W.heap[k]?) : W'.ownsRow base e size v n xs := by
  refine ⟨h.1, ?_⟩
  rcases h.2 with hn | ⟨g, cap, cur, rfl, hg, hgg, rest⟩
  · exact .inl hn
  · exact .inr ⟨g, cap, cur, rfl, hg, (hb g (by simp [Value.ownBlock])).trans hgg, rest⟩
theorem Hp.later {W W' : World} {base h m : Nat} {cs : List ByteArray} {f : Store} (H : Hp W base h cs m f) (hb : Below W.heap.size W W') : Hp W' base h cs m f := by
  obtain ⟨p, c, mv, hr, ho, hm⟩ := H
  refine ⟨p, c, mv, hr.later hb, owns_same ho (fun k hk => hb.block k (ho.lt k hk).2), ?_⟩
  rcases hm with hm | ⟨b, rfl, h1, hM⟩
  · exact .inl hm
  · exact .inr ⟨b, rfl, h1, hM.later (hb.block b hM.lt)⟩
set_option maxRecDepth 100000 in
theorem New_any (w : World) : Calls Tryd.prog 25 #[] w fun e w' => e = .returned (.pointer (some ⟨w.heap.size, 0, none⟩)) ∧ w' = w.alloc (.cells #[.slice none 0 0, .map none] 85) := by
  go_enter Tryd.func25, Tryd.ntmps25
  go_wp2
  go_ret
  exact ⟨rfl, rfl⟩
theorem Hp.made (w : World) (base : Nat) : Hp (w.alloc (.cells #[.slice none 0 0, .map none] 85)) base w.heap.size [] 0 (fun _ _ => none) :=
  ⟨none, 0, .map none, RowAt.new _ _ _, World.ownsRow_nil _ _ _ _, .inl ⟨rfl, rfl⟩⟩
set_option maxRecDepth 100000 in
theorem Make_nil (s : ByteArray) (w : World) : Calls Tryd.prog 26 #[.pointer none, .string s] w fun e w' => e = .returned (.tuple #[val2 0 0, .int .i64 1]) ∧ Below w.heap.size w w' := by
  go_enter Tryd.func26, Tryd.ntmps26
  go_wp2
  refine bodyPost_ret (results_cell_row_tmp rfl _ _ w.heap.size 44 #[.int .i64 0, .int .i64 0] (0, 0) _ rfl (heap_alloc_new _ _) Tryd.underlying44 rfl rfl) rfl ?_
  exact ⟨rfl, (Below.refl _ _).alloc (Nat.le_refl _) _⟩

set_option maxRecDepth 100000 in
set_option maxHeartbeats 2000000 in
theorem Make_in (s : ByteArray) (w : World) (base h m : Nat) (cs : List ByteArray) (f : Store) (hn : cs.length < 10000) (hbase : base ≤ w.heap.size) (H : Hp w base h cs m f) :
    Calls Tryd.prog 26 #[.pointer (some ⟨h, 0, none⟩), .string s] w fun e w' => e = .returned (.tuple #[val2 3 (cs.length + 1), .int .i64 0]) ∧ Hp w' base h (cs ++ [s]) m f ∧ Turn base h w w' := by
  have hlt := H.lt
  obtain ⟨p, c, mv, hb, hown, hm⟩ := H
  obtain ⟨n, hlen⟩ : ∃ n, cs.length = n := ⟨_, rfl⟩
  rw [hlen] at hb hown hn ⊢
  have Hlen := Lib.hid hlen; clear hlen
  obtain ⟨i0, hi, hz0, hz1, hz2⟩ : ∃ i0, Tryd.prog.info? 9 = some i0 ∧ i0.zero = some (.string ⟨#[]⟩) ∧ i0.size = 1 ∧ i0.bytes = 16 := ⟨_, rfl, by kernel_rfl, by kernel_rfl, by kernel_rfl⟩
  have c0 : w.cell? ⟨h, 0, none⟩ = some (.slice p n c) := hb.cell rfl
  have hge : decide ((10000 : Int) ≤ (n : Int)) = false := by simp; omega
  go_enter Tryd.func26, Tryd.ntmps26
  go_wp2_with (at_builtin; refine wpList_append_own _ rfl _ _ 39 rfl base 9 i0 (.string ⟨#[]⟩) 1 16 Tryd.underlying39 hi hz0 hz1 hz2 rfl (by decide) (.slice p n c) _ _ rfl ((hown.alloc _).alloc _) ⟨w.heap.size + 1, 0, none⟩ 1 1 [.string s] rfl rfl (cell_one_new2 _ _ _ _) (by simp [Value.oneCell']) (by unfold maxLen; omega) (by omega) (by simp; omega) ?_; intro v' w1 hown' hgrow _; obtain ⟨p', c', rfl⟩ := slice_of_owns hown'; have r1 : RowAt w1 h 85 #[.slice p n c, mv] := RowAt.same ((hb.alloc _).alloc _) (hgrow.block h (by simp; omega) (own_ne hown hb (by decide))); have c1 : w1.cell? ⟨h, 0, none⟩ = some (.slice p n c) := r1.cell rfl; have f1 := r1.frozen 0; have r2 : RowAt w1 w.heap.size 44 #[.int .i64 0, .int .i64 0] := RowAt.same ((RowAt.new _ _ _).alloc _) (hgrow.block w.heap.size (by simp; omega) (by intro e; have := (hown.lt _ e.symm).2; omega)); have d0 : w1.cell? ⟨w.heap.size, 0, none⟩ = some (.int .i64 0) := r2.cell rfl; have d1 : w1.cell? ⟨w.heap.size, 1, none⟩ = some (.int .i64 0) := r2.cell rfl; have d2 := r2.frozen 0; have d3 := r2.frozen 1)
  have hhne : w.heap.size ≠ h := by omega
  refine bodyPost_ret (results_cell_row_tmp rfl _ _ w.heap.size 44 #[.int .i64 3, .int .i64 (n + 1)] (0, 0) _ rfl (((r2.other hhne _ _).set 0 _).set 1 _) Tryd.underlying44 rfl rfl) rfl ?_
  have n1 := own_ne hown' r1 (by decide)
  have n2 := own_ne hown' r2 (by decide)
  have hk : ∀ (u : Value) (k : Nat), k ≠ h → k ≠ w.heap.size → (((w1.setCell ⟨h, 0, none⟩ u).setCell ⟨w.heap.size, 0, none⟩ (.int .i64 3)).setCell ⟨w.heap.size, 1, none⟩ (.int .i64 (n + 1))).heap[k]? = w1.heap[k]? := fun u k h1 h2 =>
    ((Below.heap_setCell _ _ _ k (by simpa using h2)).trans (Below.heap_setCell _ _ _ k (by simpa using h2))).trans (Below.heap_setCell _ _ _ k (by simpa using h1))
  have hold : ∀ k, k < w.heap.size → some k ≠ (Value.slice p n c).ownBlock → w1.heap[k]? = w.heap[k]? := fun k h1 h2 => by
    rw [hgrow.block k (by simp; omega) h2, Below.heap_alloc _ _ k (by simp; omega), Below.heap_alloc _ _ k h1]
  refine ⟨rfl, ⟨p', c', mv, ?_, ?_, ?_⟩, ⟨?_, ?_, ?_, ?_, ?_⟩⟩
  · have hl : (cs ++ [s]).length = n + 1 := by rw [List.length_append, Hlen.out]; rfl
    rw [hl]
    exact ((r1.set 0 _).other (by omega) _ _).other (by omega) _ _
  · have hl : (cs ++ [s]).length = n + 1 := by rw [List.length_append, Hlen.out]; rfl
    rw [hl, List.map_append]
    exact owns_same hown' (fun k e => hk _ k (by rintro rfl; exact n1 e.symm) (by rintro rfl; exact n2 e.symm))
  · rcases hm with hm | ⟨b, rfl, h1, hM⟩
    · exact .inl hm
    · refine .inr ⟨b, rfl, h1, hM.later ?_⟩
      have hl := hM.lt
      have hbh : b ≠ h := by
        rintro rfl
        obtain ⟨D, ⟨es, cl, hb', _⟩, _⟩ := hM
        unfold RowAt at hb
        rw [hb] at hb'
        cases hb'
      have hbo : some b ≠ (Value.slice p n c).ownBlock := by
        intro e
        obtain ⟨D, ⟨es, cl, hb', _⟩, _⟩ := hM
        rcases hown.2 with ⟨e1, _⟩ | ⟨g, cap, cur, e1, _, hg, _⟩
        · rw [e1] at e; cases e
        · rw [e1] at e
          simp [Value.ownBlock] at e
          subst e
          rw [hg] at hb'
          cases hb'
      rw [hk _ b hbh (by omega), hold b hl hbo]
  · exact hgrow.os
  · exact hgrow.tape
  · exact hgrow.output
  · have := hgrow.size
    simp at this ⊢
    omega
  · intro k hs
    obtain ⟨s1, s2, s3⟩ := hs
    rw [hk _ k s2 (by omega)]
    refine hold k s1 ?_
    intro e
    rcases s3 with s3 | ⟨cs', t, fr, s3, s4⟩
    · have := (hown.lt k e.symm).1
      omega
    · rcases hown.2 with ⟨e1, _⟩ | ⟨g, cap, cur, e1, _, hg, _⟩
      · rw [e1] at e; cases e
      · rw [e1] at e
        simp [Value.ownBlock] at e
        subst e
        rw [hg] at s3
        cases s3
        exact s4 rfl
end Go.Proofs.YtpaknaaainhgfaaDoor
