/-
  For the laws of cells: sizes of what comes; the example of the document; whether rows are few. Condition: the lexer's world.
-/
import Derived.Test.YtfjmhnnjgjcmeaaGreatDoorEa
namespace Go.Proofs.YtfjmhnnjgjcmeaaGreatDoor
open Go.RowKit Go.Shelf
set_option linter.unusedSimpArgs false
set_option linter.unusedVariables false

theorem joinP_le {l : List Pt} (h1 : l.length ≤ 100000) (h2 : ∀ p ∈ l, okS p) : (joinP l).1.length ≤ 100000000000 := by
  unfold joinP
  split
  · exact Nat.zero_le _
  · have := sideP_le h2 1
    show (sideP l 1).length ≤ _
    omega
theorem textP_le {o a b : ByteArray} (h1 : o.size ≤ 600) (h2 : a.size ≤ 600) (h3 : b.size ≤ 600) : (textP o a b).1.length ≤ 100000000000 := by
  have t1 : (tl b).length = b.size := by simp [tl]
  have t2 : (tl a).length = a.size := by simp [tl]
  unfold textP
  split
  · show (tl b).length ≤ _
    omega
  · split
    · show (tl a).length ≤ _
      omega
    · split
      · exact joinP_le (toksP_ok o a b h1 h2 h3).1 (toksP_ok o a b h1 h2 h3).2
      · exact joinP_le (linesP_ok o a b h1 h2 h3).1 (linesP_ok o a b h1 h2 h3).2
theorem three_le {o a b : ByteArray} {p q r : Bool} (h1 : o.size ≤ 600) (h2 : a.size ≤ 600) (h3 : b.size ≤ 600) : (threeP o a b p q r).1.size ≤ 100000000000 := by
  have t := textP_le (nz_le (t := p) h1) (nz_le (t := q) h2) (nz_le (t := r) h3)
  have n2 := nz_le (t := q) h2
  have n3 := nz_le (t := r) h3
  unfold threeP threeB
  split
  · exact Nat.le_trans n2 (by omega)
  · split
    · exact Nat.le_trans n3 (by omega)
    · split
      · exact Nat.le_trans n2 (by omega)
      · split
        · exact Nat.zero_le _
        · split
          · dsimp only
            rw [bs_size]
            exact t
          · exact Nat.zero_le _
theorem three_kind (o a b : ByteArray) (p q r : Bool) : (threeP o a b p q r).2.2 = 0 ∨ (threeP o a b p q r).2.2 = 1 ∨ (threeP o a b p q r).2.2 = 3 := by
  unfold threeP threeB
  split
  · exact .inl rfl
  · split
    · exact .inl rfl
    · split
      · exact .inl rfl
      · split
        · exact .inr (.inr rfl)
        · split
          · exact .inl rfl
          · exact .inr (.inl rfl)
theorem big6 : 100000000000 ≤ maxLen := by unfold maxLen; omega
/-- Segments that may be held against each other. -/
def okL (L : SL) : Prop := ∀ p ∈ L, p.1.size ≤ maxLen ∧ p.2.size ≤ maxLen
def okC2 (C : CL) : Prop := ∀ p ∈ C, (Lit.int .i64 p.1).wf = true ∧ p.2.size ≤ maxLen
def sz6 (L : SL) : Prop := ∀ p ∈ L, p.1.size ≤ 600 ∧ p.2.size ≤ 600
theorem texts_ok {o a b : SL} (h0 : sz6 o) (h1 : sz6 a) (h2 : sz6 b) : okL (textsP o a b).1 ∧ okC2 (textsP o a b).2 := by
  have hk := allK_size (n := 600) (fun p hp => (h0 p hp).1) (fun p hp => (h1 p hp).1) (fun p hp => (h2 p hp).1)
  refine ⟨fun p hp => ?_, fun c hc => ?_⟩
  · obtain ⟨k1, -, k3⟩ := texts_mem.1 hp
    refine ⟨Nat.le_trans (hk _ k1) (by unfold maxLen; omega), ?_⟩
    rw [← k3]
    exact Nat.le_trans (three_le (getP_le fun p hp => (h0 p hp).2) (getP_le fun p hp => (h1 p hp).2) (getP_le fun p hp => (h2 p hp).2)) big6
  · obtain ⟨k1, -, k3⟩ := con_mem.1 hc
    refine ⟨?_, Nat.le_trans (hk _ k1) (by unfold maxLen; omega)⟩
    rw [← k3]
    unfold T3
    rcases three_kind (getP o c.2).1 (getP a c.2).1 (getP b c.2).1 (getP o c.2).2 (getP a c.2).2 (getP b c.2).2 with h | h | h <;> rw [h] <;> decide
theorem getP_in {l : SL} {s : ByteArray} (h : (getP l s).2 = true) : (s, (getP l s).1) ∈ l := by
  obtain ⟨p, h1, h2, h3⟩ := getP_ix (getP_mem.1 h)
  rw [h3, ← h2]
  exact List.mem_of_getElem? h1
theorem row_from {o a b : SL} {p : ByteArray × ByteArray} (h : p ∈ (rowG o a b).1) : p ∈ (textsP o a b).1 := by
  unfold rowG rowU at h
  split at h
  · obtain ⟨s, hs, hp⟩ := List.mem_filterMap.1 h
    unfold pkF at hp
    split at hp
    · rename_i h2
      simp only [Option.some.injEq] at hp
      rw [← hp]
      exact getP_in h2
    · cases hp
  · exact h
theorem row_ok {o a b : SL} (h0 : sz6 o) (h1 : sz6 a) (h2 : sz6 b) : okL (rowG o a b).1 ∧ okC2 (rowG o a b).2 := by
  obtain ⟨t1, t2⟩ := texts_ok h0 h1 h2
  refine ⟨fun p hp => t1 p (row_from hp), ?_⟩
  unfold rowG rowU
  split
  · exact t2
  · intro c hc
    rcases List.mem_append.1 hc with h | h
    · exact t2 c h
    · rw [List.mem_singleton.1 h]
      exact ⟨by decide, Nat.zero_le _⟩
theorem fewS_sizes {L : SL} (h : fewS L = true) : L.length ≤ 20 ∧ sz6 L := by
  unfold fewS at h
  rw [Bool.and_eq_true, decide_eq_true_eq, List.all_eq_true] at h
  refine ⟨h.1, fun p hp => ?_⟩
  have := h.2 p hp
  rw [Bool.and_eq_true, decide_eq_true_eq, decide_eq_true_eq] at this
  omega
/-- Two texts held against each other. -/
theorem f1 : orderP [⟨#[102]⟩, ⟨#[103]⟩] [⟨#[102]⟩, ⟨#[104]⟩, ⟨#[103]⟩] [⟨#[103]⟩] = ([⟨#[104]⟩, ⟨#[103]⟩], true) := by decide +kernel
theorem f2 : rowG ([⟨#[102]⟩, ⟨#[103]⟩].map segOf) ([⟨#[102]⟩, ⟨#[104]⟩, ⟨#[103]⟩].map segOf) ([⟨#[103]⟩].map segOf) = ([(⟨#[104]⟩, ⟨#[104, 10]⟩), (⟨#[103]⟩, ⟨#[103, 10]⟩)], []) := by decide +kernel
theorem f3 : textsP ([⟨#[102]⟩].map segOf) ([⟨#[102]⟩].map segOf) [] = ([], []) := by decide +kernel
theorem f4 : threeP ⟨#[97]⟩ ⟨#[97]⟩ ⟨#[98]⟩ true true true = (⟨#[98]⟩, true, 0) := by decide +kernel
theorem seg6 (l : TL) (h : ∀ s ∈ l, s.size ≤ 500) : sz6 (l.map segOf) := by
  intro p hp
  obtain ⟨s, hs, rfl⟩ := List.mem_map.1 hp
  have := h s hs
  refine ⟨by show s.size ≤ 600; omega, ?_⟩
  unfold segOf
  dsimp only
  rw [ByteArray.size_append]
  show s.size + 1 ≤ 600
  omega
end Go.Proofs.YtfjmhnnjgjcmeaaGreatDoor
