/-
  For the law HeapPlays: what both heaps hold step by step. No condition.
-/
import Derived.Test.YtpaknaaainhgfaaDoorHs
import Derived.Deep.RegionHeldLaw
namespace Go.Proofs.YtpaknaaainhgfaaDoor
open Go.RowKit Go.Maps Go.WideMaps Go.Shelf
set_option linter.unusedSimpArgs false
set_option linter.unusedVariables false

theorem sget_snoc (A : List Sl) (x : Sl) (o : Int) (id : ByteArray) : sget (A ++ [x]) o id = if x.1 = o ∧ x.2.1 = id then some x.2.2 else sget A o id := by
  unfold sget
  rw [List.reverse_append, List.reverse_singleton, List.singleton_append, List.find?_cons]
  by_cases hc : x.1 = o ∧ x.2.1 = id
  · rw [decide_eq_true hc, if_pos hc]; rfl
  · rw [decide_eq_false hc, if_neg hc]
theorem sget_others (L : List Sl) (o o' : Int) (id id' : ByteArray) (h : ¬ (o' = o ∧ id' = id)) : sget (others o id L) o' id' = sget L o' id' := by
  unfold sget others
  rw [← List.filter_reverse, List.find?_filter]
  congr 2
  funext x
  by_cases hc : x.1 = o' ∧ x.2.1 = id'
  · have : ¬ (x.1 = o ∧ x.2.1 = id) := fun e => h ⟨hc.1.symm.trans e.1, hc.2.symm.trans e.2⟩
    simp only [decide_eq_true hc, decide_eq_false this]
    rfl
  · simp [hc]
/-- Both hold the same. -/
def SameF (f : Store) (L : List Sl) : Prop := ∀ o id, f o id = sget L o id
theorem SameF.nil : SameF (fun _ _ => none) [] := fun _ _ => rfl
theorem SameF.set {f : Store} {L : List Sl} (h : SameF f L) (n : Nat) (k m : Int) (id : ByteArray) (a b : Int) : SameF (setOf n f k m id (a, b)) (setL n L k m id a b) := by
  unfold setOf setL
  split
  · intro o' id'
    rw [sget_snoc]
    unfold Store.set
    by_cases hc : o' = (whereAt n k m).1 ∧ id' = id
    · rw [if_pos hc, if_pos ⟨hc.1.symm, hc.2.symm⟩]
    · rw [if_neg hc, if_neg (fun e => hc ⟨e.1.symm, e.2.symm⟩), sget_others L _ o' id id' hc]
      exact h o' id'
  · exact h
theorem SameF.get {f : Store} {L : List Sl} (h : SameF f L) (n : Nat) (k m : Int) (id kind : ByteArray) : getOf n (sget L) k m id kind = getOf n f k m id kind := by
  unfold getOf
  rw [h]
theorem setL_len (n : Nat) (L : List Sl) (k m : Int) (id : ByteArray) (a b : Int) : (setL n L k m id a b).length ≤ L.length + 1 := by
  unfold setL
  split
  · rw [List.length_append]
    have := others_len (whereAt n k m).1 id L
    simp
    omega
  · omega
theorem Hw.no_cells {W : World} {base h m : Nat} {cs : List ByteArray} {f : Store} {ob mb : Option Nat} (H : Hw W base h cs m f ob mb) {g : Nat} (hg : mb = some g) : base ≤ g ∧ ∀ vs t fr, W.heap[g]? ≠ some (.cells vs t fr) := by
  obtain ⟨p, c, mv, hr, ho, hm, rfl, rfl⟩ := H
  rcases hm with ⟨e, _⟩ | ⟨b, e, h4, D, ⟨es, cl, hb, _⟩, _⟩
  · subst hg; cases e
  · subst hg
    cases e
    exact ⟨h4, fun vs t fr hh => by rw [hb] at hh; cases hh⟩
theorem Hw.own_at {W : World} {base h m : Nat} {cs : List ByteArray} {f : Store} {ob mb : Option Nat} (H : Hw W base h cs m f ob mb) {g : Nat} (hg : ob = some g) : base ≤ g ∧ g < W.heap.size ∧ ∃ vs fr, W.heap[g]? = some (.cells vs 9 fr) := by
  obtain ⟨p, c, mv, hr, ho, hm, rfl, rfl⟩ := H
  rcases ho.2 with ⟨e1, _⟩ | ⟨g', cap, cur, e1, hb, hgg, _⟩
  · rw [e1] at hg; cases hg
  · rw [e1] at hg
    simp [Value.ownBlock] at hg
    subst hg
    exact ⟨hb, (Array.getElem?_eq_some_iff.1 hgg).1, _, _, hgg⟩
/-- A row that is no heap, and whose cells are no texts, stays where the program's heap turns. -/
theorem Tn.row {W W' : World} {base h m b : Nat} {cs : List ByteArray} {f : Store} {ob mb : Option Nat} {t : TypeId} {vs : Array Value} (T : Tn h ob mb W W') (H : Hw W base h cs m f ob mb) (r : RowAt W b t vs) (h85 : t ≠ 85) (h9 : t ≠ 9) : RowAt W' b t vs := by
  refine r.same (T.keep b r.lt ?_ ?_ ?_)
  · rintro rfl
    obtain ⟨p, c, mv, hr, -⟩ := H
    unfold RowAt at r hr
    rw [r] at hr
    cases hr
    exact h85 rfl
  · intro e
    obtain ⟨-, -, vs', fr, hh⟩ := H.own_at e.symm
    unfold RowAt at r
    rw [r] at hh
    cases hh
    exact h9 rfl
  · intro e
    exact (H.no_cells e.symm).2 _ _ _ r
theorem Tn.below {W W' : World} {base h m : Nat} {cs : List ByteArray} {f : Store} {ob mb : Option Nat} (T : Tn h ob mb W W') (H : Hw W base h cs m f ob mb) (hb : base ≤ h) (hs : base ≤ W.heap.size) : Below base W W' :=
  ⟨T.os, T.tape, T.output, T.size, fun k hk => T.keep k (by omega) (by omega) (fun e => by have := (H.own_at e.symm).1; omega) (fun e => by have := (H.no_cells e.symm).1; omega)⟩
theorem own_type {W : World} {base e s n : Nat} {v : Value} {xs : List Value} (h : W.ownsRow base e s v n xs) {g : Nat} (hg : v.ownBlock = some g) : base ≤ g ∧ g < W.heap.size ∧ ∃ vs fr, W.heap[g]? = some (.cells vs e fr) := by
  rcases h.2 with ⟨e1, _⟩ | ⟨g', cap, cur, e1, hb, hgg, _⟩
  · rw [e1] at hg; cases hg
  · rw [e1] at hg
    simp [Value.ownBlock] at hg
    subst hg
    exact ⟨hb, (Array.getElem?_eq_some_iff.1 hgg).1, _, _, hgg⟩
/-- The document's heap beside the program's one. -/
structure Bo (W : World) (base h i : Nat) (cs1 cs2 : List ByteArray) (L : List Sl) (f : Store) (ob mb : Option Nat) (p : Option Addr) (c : Nat) (q : Option Addr) (d : Nat) : Prop where
  hp : Hw W base h cs1 i f ob mb
  oc : W.ownsRow base 9 1 (.slice p cs2.length c) cs2.length (cs2.map Value.string)
  os : W.ownsRow base 93 4 (.slice q L.length d) L.length (slv L)
  apart : ∀ g, ob = some g → some g ≠ (Value.slice p cs2.length c).ownBlock
theorem Bo.later {W W' : World} {base h i : Nat} {cs1 cs2 : List ByteArray} {L : List Sl} {f : Store} {ob mb : Option Nat} {p : Option Addr} {c : Nat} {q : Option Addr} {d : Nat} (b : Bo W base h i cs1 cs2 L f ob mb p c q d) (hb : Below W.heap.size W W') : Bo W' base h i cs1 cs2 L f ob mb p c q d :=
  ⟨b.hp.later hb, owns_same b.oc (fun k hk => hb.block k (b.oc.lt k hk).2), owns_same b.os (fun k hk => hb.block k (b.os.lt k hk).2), b.apart⟩
theorem Bo.turn {W W' : World} {base h i i' : Nat} {cs1 cs1' cs2 : List ByteArray} {L : List Sl} {f f' : Store} {ob ob' mb mb' : Option Nat} {p : Option Addr} {c : Nat} {q : Option Addr} {d : Nat} (b : Bo W base h i cs1 cs2 L f ob mb p c q d) (H : Hw W' base h cs1' i' f' ob' mb') (T : Tn h ob mb W W') (ho : ob' = ob ∨ ∃ g, ob' = some g ∧ W.heap.size ≤ g) : Bo W' base h i' cs1' cs2 L f' ob' mb' p c q d := by
  have hh : ∃ vs fr, W.heap[h]? = some (.cells vs 85 fr) := by obtain ⟨p, c, mv, hr, -⟩ := b.hp; exact ⟨_, _, hr⟩
  obtain ⟨hv, hf, hh⟩ := hh
  refine ⟨H, owns_same b.oc (fun k hk => ?_), owns_same b.os (fun k hk => ?_), fun g hg => ?_⟩
  · obtain ⟨k1, k2, vs, fr, k3⟩ := own_type b.oc hk
    refine T.keep k k2 ?_ ?_ ?_
    · rintro rfl; rw [hh] at k3; cases k3
    · intro e; exact b.apart k e.symm hk.symm
    · intro e; exact (b.hp.no_cells e.symm).2 _ _ _ k3
  · obtain ⟨k1, k2, vs, fr, k3⟩ := own_type b.os hk
    refine T.keep k k2 ?_ ?_ ?_
    · rintro rfl; rw [hh] at k3; cases k3
    · intro e; obtain ⟨-, -, vs', fr', k4⟩ := b.hp.own_at e.symm; rw [k3] at k4; cases k4
    · intro e; exact (b.hp.no_cells e.symm).2 _ _ _ k3
  · rcases ho with rfl | ⟨g', rfl, h1⟩
    · exact b.apart g hg
    · cases hg
      intro e
      have := (b.oc.lt g e.symm).2
      omega
/-- The document's heap takes one class more. -/
theorem Bo.take {W W' : World} {base h i : Nat} {cs1 cs2 cs2' : List ByteArray} {L : List Sl} {f : Store} {ob mb : Option Nat} {p p' : Option Addr} {c c' : Nat} {q : Option Addr} {d : Nat} (b : Bo W base h i cs1 cs2 L f ob mb p c q d) (hc : W'.ownsRow base 9 1 (.slice p' cs2'.length c') cs2'.length (cs2'.map Value.string)) (K : Kp (Value.slice p cs2.length c).ownBlock W W') (ho : (Value.slice p' cs2'.length c').ownBlock = (Value.slice p cs2.length c).ownBlock ∨ ∃ g, (Value.slice p' cs2'.length c').ownBlock = some g ∧ W.heap.size ≤ g) : Bo W' base h i cs1 cs2' L f ob mb p' c' q d := by
  have hh : ∃ vs fr, W.heap[h]? = some (.cells vs 85 fr) := by obtain ⟨p, c, mv, hr, -⟩ := b.hp; exact ⟨_, _, hr⟩
  obtain ⟨hv, hf, hh⟩ := hh
  obtain ⟨k1, k2, k3, k4, kp⟩ := K
  refine ⟨b.hp.kept (kp h (Array.getElem?_eq_some_iff.1 hh).1 ?_) (fun k hk => ?_) (fun k hk => ?_), hc, owns_same b.os (fun k hk => ?_), fun g hg => ?_⟩
  · intro e
    obtain ⟨-, -, vs, fr, e3⟩ := own_type b.oc e.symm
    rw [hh] at e3; cases e3
  · exact kp k (b.hp.own_at hk).2.1 (b.apart k hk)
  · refine kp k ?_ ?_
    · obtain ⟨p, c, mv, hr, ho, hm, rfl, rfl⟩ := b.hp
      rcases hm with ⟨e, _⟩ | ⟨b', e, h4, hM⟩
      · subst hk; cases e
      · subst hk; cases e; exact hM.lt
    · intro e
      obtain ⟨-, -, vs, fr, e3⟩ := own_type b.oc e.symm
      exact (b.hp.no_cells hk).2 _ _ _ e3
  · refine kp k (b.os.lt k hk).2 ?_
    intro e
    obtain ⟨-, -, vs, fr, e3⟩ := own_type b.oc e.symm
    obtain ⟨-, -, vs', fr', e4⟩ := own_type b.os hk
    rw [e3] at e4; cases e4
  · rcases ho with ho | ⟨g', ho, h1⟩
    · rw [ho]; exact b.apart g hg
    · rw [ho]
      intro e
      cases e
      have := (b.hp.own_at hg).2.1
      omega
theorem Kp.row {W W' : World} {base n b : Nat} {v : Value} {xs : List Value} {t : TypeId} {vs : Array Value} (K : Kp v.ownBlock W W') (ho : W.ownsRow base 9 1 v n xs) (r : RowAt W b t vs) (h9 : t ≠ 9) : RowAt W' b t vs := by
  obtain ⟨-, -, -, -, kp⟩ := K
  refine r.same (kp b r.lt ?_)
  intro e
  obtain ⟨-, -, vs', fr, e3⟩ := own_type ho e.symm
  unfold RowAt at r
  rw [r] at e3
  cases e3
  exact h9 rfl
theorem Kp.below {W W' : World} {base n : Nat} {v : Value} {xs : List Value} (K : Kp v.ownBlock W W') (ho : W.ownsRow base 9 1 v n xs) (hs : base ≤ W.heap.size) : Below base W W' := by
  obtain ⟨k1, k2, k3, k4, kp⟩ := K
  exact ⟨k1, k2, k3, k4, fun k hk => kp k (by omega) (fun e => by have := (ho.lt k e.symm).1; omega)⟩
end Go.Proofs.YtpaknaaainhgfaaDoor
