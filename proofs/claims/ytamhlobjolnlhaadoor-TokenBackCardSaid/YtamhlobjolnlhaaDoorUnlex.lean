/-
  For the laws of lex: tokens put together again. Condition: at most 1,000,000 tokens, whose texts and leads have at most 2 to the 40 bytes in all.
-/
import Derived.Test.YtamhlobjolnlhaaDoorLex
namespace Go.Proofs.YtamhlobjolnlhaaDoor
open Go.RowKit Go.Shelf

theorem copyCheck_k (B b : Nat) (xs : List Value) (w : World) (h : Lib.IsBuilder 55 5 B b xs w) :
    Calls Tryd.prog 51 #[.pointer (some ⟨b, 0, none⟩)] w fun e w' => e = .returned (.tuple #[]) ∧ Lib.BuilderAt 55 5 B b (.pointer (some ⟨b, 0, none⟩)) xs w' ∧ Below B w w' ∧ ∀ q, q ≠ b → w'.heap[q]? = w.heap[q]? := by
  rcases h with h | h
  · refine (copyCheck_fresh b w h.cell0 h.shape h.frozen0).mono ?_
    rintro e w' ⟨rfl, rfl⟩
    exact ⟨rfl, h.used _, (Below.refl B w).setCell (p := ⟨b, 0, none⟩) h.1 _, fun q hq => Below.heap_setCell _ _ _ _ (by simpa using hq)⟩
  · refine (copyCheck_used b w h.cell0).mono ?_
    rintro e w' ⟨rfl, rfl⟩
    exact ⟨rfl, h, Below.refl B _, fun _ _ => rfl⟩

/-- Behind a write: what the builder holds, what lies below, and each block of another kind. -/
def Writes (B b : Nat) (ys : List Value) (w : World) (n : Nat) (e : Ending) (w' : World) : Prop :=
  e = .returned (.tuple #[.int .i64 n, .nilIface]) ∧ Lib.BuilderAt 55 5 B b (.pointer (some ⟨b, 0, none⟩)) ys w' ∧ Below B w w' ∧ ∀ q cs t m, w.heap[q]? = some (.cells cs t m) → t ≠ 5 → q ≠ b → w'.heap[q]? = w.heap[q]?
set_option maxHeartbeats 1000000 in
set_option maxRecDepth 100000 in
theorem WriteString_k (B b : Nat) (xs : List Value) (s : ByteArray) (w : World) (h : Lib.IsBuilder 55 5 B b xs w) (hlen : xs.length + s.size ≤ 140737488355328) (hBw : B ≤ w.heap.size) :
    Calls Tryd.prog 39 #[.pointer (some ⟨b, 0, none⟩), .string s] w (Writes B b (xs ++ Lib.strCells s) w s.size) := by
  obtain ⟨i0, hi, hz0, hz1, hz2⟩ := info_parts infoByte
  go_enter Tryd.func39, Tryd.ntmps39
  go_wp2_with (go_at_call 51; refine (copyCheck_k B b xs _ h).mono ?_)
  rintro e w1 ⟨rfl, h1, hb1, hq1⟩
  obtain ⟨hB, v, hbk, hown, hne⟩ := h1
  have c0 : w1.cell? ⟨b, 0, none⟩ = some (.pointer (some ⟨b, 0, none⟩)) := by rw [Lib.cell_of_heap hbk]; rfl
  have c1 : w1.cell? ⟨b, 1, none⟩ = some v := by rw [Lib.cell_of_heap hbk]; rfl
  have hs1 := hb1.size
  have Hq1 := Lib.hid hq1; clear hq1
  go_wp2_with (at_builtin; refine Lib.wpList_append_own_string _ rfl _ _ 53 9 rfl B 5 i0 Tryd.underlying53 Tryd.underlying9 hi hz0 hz1 hz2 _ _ _ rfl hown s rfl (by unfold maxLen; omega) (by omega) (by omega) ?_; intro v' w2 hown' hgrow _; have hlt : b < w1.heap.size := (Array.getElem?_eq_some_iff.1 hbk).1; have hb2 : w2.heap[b]? = some (.cells #[.pointer (some ⟨b, 0, none⟩), v] 55 (0, 0)) := (hgrow.block b hlt (fun e => hne e.symm)).trans hbk; have d0 : w2.cell? ⟨b, 0, none⟩ = some (.pointer (some ⟨b, 0, none⟩)) := (by rw [Lib.cell_of_heap hb2]; rfl); have d1 : w2.cell? ⟨b, 1, none⟩ = some v := (by rw [Lib.cell_of_heap hb2]; rfl); have f1 : w2.frozen? ⟨b, 1, none⟩ = false := Lib.frozen_of_heap hb2 1; obtain ⟨ao, n', cap, rfl⟩ := own_slice hown')
  go_ret2
  refine ⟨rfl, ?_, ?_, ?_⟩
  · exact Lib.BuilderAt.put (T := 55) (e := 5) hB hb2 (bs' := xs ++ Lib.strCells s) (by simpa [Lib.strCells_length] using hown') (by decide)
  · exact (hb1.grown hgrow (by omega) (fun k hk => (hown.lt k hk).1)).setCell (p := ⟨b, 1, none⟩) hB _
  · intro q cs t m hq ht hqb
    have hq1 := Hq1.out q hqb
    rw [Below.heap_setCell _ _ _ _ (by simpa using hqb)]
    have hq2 : w1.heap[q]? = some (.cells cs t m) := hq1.trans hq
    have hg2 : w1.grownBy w2 v.ownBlock := hgrow
    rw [hg2.block q (Array.getElem?_eq_some_iff.1 hq2).1 ?_, hq1]
    intro e
    rcases hown.2 with ⟨rfl, _⟩ | ⟨g, cap, cur, rfl, _, hg, _⟩
    · simp [Value.ownBlock] at e
    · obtain rfl : q = g := by simpa [Value.ownBlock] using e
      rw [hq2] at hg
      simp at hg
      exact ht hg.2.1
def tkB (t : Tk) : List UInt8 := t.lead ++ t.text
def allB (T : List Tk) : List UInt8 := T.flatMap tkB
theorem allB_take {T : List Tk} {k : Nat} {t : Tk} (h : T[k]? = some t) : allB (T.take (k + 1)) = allB (T.take k) ++ t.lead ++ t.text := by
  unfold allB
  rw [List.take_add_one, h]
  simp [tkB]
theorem strCells_bs (l : List UInt8) : Lib.strCells (bs l) = Lib.byteCells l := by
  simp [Lib.strCells, Lib.byteCells]
theorem byteCells_append (a b : List UInt8) : Lib.byteCells (a ++ b) = Lib.byteCells a ++ Lib.byteCells b := by simp [Lib.byteCells]
theorem byteCells_length (a : List UInt8) : (Lib.byteCells a).length = a.length := by simp [Lib.byteCells]
theorem allB_le {T : List Tk} {k : Nat} : (allB (T.take k)).length ≤ (allB T).length := by
  have h : allB T = allB (T.take k) ++ allB (T.drop k) := by unfold allB; rw [← List.flatMap_append, List.take_append_drop]
  rw [h, List.length_append]
  omega
theorem builder_new (w : World) : Lib.IsBuilder 55 5 w.heap.size w.heap.size [] (w.alloc (.cells #[.pointer none, .slice none 0 0] 55)) :=
  .inl ⟨Nat.le_refl _, .slice none 0 0, World.alloc_heap_new w _, World.ownsRow_nil _ _ _ _, by simp [Value.ownBlock]⟩

theorem builder_alloc {B b : Nat} {xs : List Value} {w : World} (h : Lib.IsBuilder 55 5 B b xs w) (o : Obj) : Lib.IsBuilder 55 5 B b xs (w.alloc o) := by
  have one : ∀ p, Lib.BuilderAt 55 5 B b p xs w → Lib.BuilderAt 55 5 B b p xs (w.alloc o) := by
    rintro p ⟨h1, v, h2, h3, h4⟩
    exact ⟨h1, v, (Below.heap_alloc w o b (Array.getElem?_eq_some_iff.1 h2).1).trans h2, h3.alloc o, h4⟩
  exact h.imp (one _) (one _)

set_option maxRecDepth 100000 in
set_option maxHeartbeats 4000000 in
theorem Unlex_any (v : Value) (T : List Tk) (w : World) (h1 : Toks w v T) (hl : (allB T).length ≤ 1000000000) (hT : T.length ≤ 1000000) : Calls Tryd.prog 19 #[v] w fun e w' => e = .returned (.string (bs (allB T))) ∧ Below w.heap.size w w' := by
  obtain ⟨a, cap, rfl, hc, hm, hat⟩ := h1
  have Hat := Lib.hid hat; clear hat
  unfold maxLen at hm
  have hb0 := builder_new w
  have Hb0 := Lib.hid hb0; clear hb0
  go_enter Tryd.func19, Tryd.ntmps19
  go_wp2_with fail
  go_loopw [8] (fun c wr => ∃ k : Nat, k ≤ T.length ∧ c = .int .i64 k ∧ Hid (Lib.IsBuilder 55 5 w.heap.size w.heap.size (Lib.byteCells (allB (T.take k))) wr) ∧ w.heap.size + 1 ≤ wr.heap.size ∧ Below w.heap.size w wr) (fun c _ => T.length - (intOf c).toNat)
  case atStart => exact ⟨0, by omega, rfl, Hb0, by simp, (Below.refl _ w).alloc (Nat.le_refl _) _⟩
  case round =>
    obtain ⟨k, hk, rfl, hbu, hsz, hB⟩ := hrel
    by_cases hlt : k < T.length
    · obtain ⟨t, ht⟩ : ∃ t, T[k]? = some t := ⟨_, List.getElem?_eq_getElem hlt⟩
      obtain ⟨b, off, rfl, hbl, hat⟩ := Hat.out k t ht
      have hnx := allB_take ht
      have hle := allB_le (T := T) (k := k + 1)
      rw [hnx, List.length_append, List.length_append] at hle
      have Hnx := Lib.hid hnx; clear hnx
      obtain ⟨c0, c1, c2, c3⟩ := hat.below hB hbl
      have hba : Hid (Lib.IsBuilder 55 5 w.heap.size w.heap.size (Lib.byteCells (allB (T.take k))) (wr.alloc (.cells #[.int .i64 t.kind, .string (bs t.text), .int .i64 t.at_, .string (bs t.lead)] 30))) := Lib.hid (builder_alloc hbu.out _)
      have hq0 : Hid ((wr.alloc (.cells #[.int .i64 t.kind, .string (bs t.text), .int .i64 t.at_, .string (bs t.lead)] 30)).heap[wr.heap.size]? = some (.cells #[.int .i64 t.kind, .string (bs t.text), .int .i64 t.at_, .string (bs t.lead)] 30 (0, 0))) := Lib.hid (World.alloc_heap_new wr _)
      have hBa : Hid (Below w.heap.size w (wr.alloc (.cells #[.int .i64 t.kind, .string (bs t.text), .int .i64 t.at_, .string (bs t.lead)] 30))) := Lib.hid (hB.alloc (by omega) _)
      clear ht hat
      go_wp2_with fail
      refine (WriteString_k _ _ _ (bs t.lead) _ hba.out (by rw [byteCells_length, bs_size]; omega) (by simp; omega)).mono ?_
      rintro e w2 ⟨rfl, hw2, hb2, hk2⟩
      have hq2 := (hk2 _ _ _ _ hq0.out (by decide) (by omega)).trans hq0.out
      have hB2 := hBa.out.trans hb2
      have hs2 := hb2.size
      rw [World.size_alloc] at hs2
      have e1 : w2.cell? ⟨wr.heap.size, 1, none⟩ = some (.string (bs t.text)) := by rw [Lib.cell_of_heap hq2]; rfl
      rw [strCells_bs, ← byteCells_append] at hw2
      have Hw2 := Lib.hid hw2
      have HB2 := Lib.hid hB2
      clear hw2 hb2 hk2 hq2 hB2 c0 c1 c2 c3
      go_wp2_with fail
      refine (WriteString_k _ _ _ (bs t.text) _ (.inr Hw2.out) (by rw [byteCells_length, bs_size, List.length_append]; omega) (by omega)).mono ?_
      rintro e w3 ⟨rfl, hw3, hb3, -⟩
      rw [strCells_bs, ← byteCells_append, ← Hnx.out] at hw3
      have hB3 := HB2.out.trans hb3
      have hs3 := hb3.size
      have Hw3 : Hid (Lib.IsBuilder 55 5 w.heap.size w.heap.size (Lib.byteCells (allB (T.take (k + 1)))) w3) := Lib.hid (.inr hw3)
      clear hw3 hb3 e1
      go_wp2_with fail
      exact ⟨⟨k + 1, by omega, by go_num, Hw3, by omega, hB3⟩, by simp [intOf]; omega⟩
    · obtain rfl : k = T.length := by omega
      rw [List.take_length] at hbu
      go_wp2_with fail
      refine (Tryd.Builder_String_any _ _ _ _ hbu.out (by omega)).mono ?_
      rintro e w2 ⟨rfl, hb2⟩
      have hB2 := hB.trans hb2
      go_wp2_with fail
      go_ret
      exact ⟨rfl, hB2⟩
end Go.Proofs.YtamhlobjolnlhaaDoor
