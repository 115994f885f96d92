/-
  For the laws of span: the edits of two rows as one: rows alone, no program. No condition.
-/
import Derived.Test.YtpekbakidhfliaaRefs
namespace Go.Proofs.Ytpekbakidhfliaa
open Go.RowKit Go.Shelf

/-- Without those that are the same as the one ahead of them. -/
def dd : Option Ed → List Ed → List Ed
  | _, [] => []
  | p, e :: L => if p = some e then dd p L else e :: dd (some e) L
def StrictF (L : List Ed) : Prop := L.Pairwise (fun x y => x.fr < y.fr)
theorem chk_strictF {n : Int} : ∀ {L : List Ed} {p : Option Ed}, chkB n p L = true → StrictF L ∧ ∀ q, p = some q → ∀ y ∈ L, q.fr < y.fr
  | [], p, _ => ⟨List.Pairwise.nil, fun q _ y hy => by cases hy⟩
  | e :: L, p, h => by
    have h2 : chkB n (some e) L = true ∧ ∀ q, p = some q → q.fr < e.fr := by
      cases p with
      | none => simp [chkB] at h; exact ⟨h.2, fun q hq => by cases hq⟩
      | some p =>
        simp [chkB, nxB] at h
        exact ⟨h.2, fun q hq => by cases hq; exact h.1.2.2⟩
    obtain ⟨i1, i2⟩ := chk_strictF h2.1
    refine ⟨List.pairwise_cons.2 ⟨fun y hy => i2 e rfl y hy, i1⟩, fun q hq y hy => ?_⟩
    have := h2.2 q hq
    rcases List.mem_cons.1 hy with rfl | hy
    · exact this
    · have := i2 e rfl y hy
      omega
theorem strictF_inj : ∀ {L : List Ed}, StrictF L → ∀ x ∈ L, ∀ y ∈ L, x.fr = y.fr → x = y
  | [], _, x, hx, _, _, _ => by cases hx
  | e :: L, h, x, hx, y, hy, he => by
    obtain ⟨h1, h2⟩ := List.pairwise_cons.1 h
    rcases List.mem_cons.1 hx with kx | kx <;> rcases List.mem_cons.1 hy with ky | ky
    · rw [kx, ky]
    · have := h1 y ky; rw [← kx] at this; omega
    · have := h1 x kx; rw [← ky] at this; omega
    · exact strictF_inj h2 x kx y ky he
theorem strictF_nodup {L : List Ed} (h : StrictF L) : L.Nodup := h.imp fun {x y} h e => by subst e; omega
theorem strictF_weak {L : List Ed} (h : StrictF L) : L.Pairwise (fun x y => x.fr ≤ y.fr) := h.imp fun {x y} h => by omega
theorem dd_sub : ∀ {L : List Ed} {p : Option Ed} {y : Ed}, y ∈ dd p L → y ∈ L
  | [], _, _, h => by cases h
  | e :: L, p, y, h => by
    rw [dd] at h
    split at h
    · exact List.mem_cons_of_mem _ (dd_sub h)
    · rcases List.mem_cons.1 h with rfl | h
      · exact List.mem_cons_self
      · exact List.mem_cons_of_mem _ (dd_sub h)
theorem dd_sup : ∀ {L : List Ed} {p : Option Ed} {y : Ed}, y ∈ L → p = some y ∨ y ∈ dd p L
  | [], _, _, h => by cases h
  | e :: L, p, y, h => by
    rw [dd]
    rcases List.mem_cons.1 h with rfl | h
    · by_cases c : p = some y
      · exact .inl c
      · rw [if_neg c]; exact .inr List.mem_cons_self
    · by_cases c : p = some e
      · rw [if_pos c]; exact dd_sup h
      · rw [if_neg c]
        rcases dd_sup (p := some e) h with h | h
        · cases h; exact .inr List.mem_cons_self
        · exact .inr (List.mem_cons_of_mem _ h)
theorem dd_mem {L : List Ed} {y : Ed} : y ∈ dd none L ↔ y ∈ L := ⟨dd_sub, fun h => by rcases dd_sup (p := none) h with h | h; cases h; exact h⟩
theorem dd_strict : ∀ {L : List Ed} {p : Option Ed}, L.Pairwise (fun x y => x.fr ≤ y.fr) → (∀ x ∈ L, ∀ y ∈ L, x.fr = y.fr → x = y) → (∀ q, p = some q → ∀ y ∈ L, q.fr ≤ y.fr ∧ (q.fr = y.fr → q = y)) →
    StrictF (dd p L) ∧ ∀ q, p = some q → ∀ y ∈ dd p L, q.fr < y.fr
  | [], _, _, _, _ => ⟨List.Pairwise.nil, fun q _ y hy => by cases hy⟩
  | e :: L, p, hw, hi, hp => by
    obtain ⟨w1, w2⟩ := List.pairwise_cons.1 hw
    have hi2 : ∀ x ∈ L, ∀ y ∈ L, x.fr = y.fr → x = y := fun x hx y hy => hi x (List.mem_cons_of_mem _ hx) y (List.mem_cons_of_mem _ hy)
    rw [dd]
    by_cases c : p = some e
    · rw [if_pos c]
      exact dd_strict w2 hi2 (fun q hq y hy => hp q hq y (List.mem_cons_of_mem _ hy))
    · rw [if_neg c]
      obtain ⟨i1, i2⟩ := dd_strict (p := some e) w2 hi2 (fun q hq y hy => by cases hq; exact ⟨w1 y hy, hi e List.mem_cons_self y (List.mem_cons_of_mem _ hy)⟩)
      refine ⟨List.pairwise_cons.2 ⟨fun y hy => i2 e rfl y hy, i1⟩, fun q hq y hy => ?_⟩
      have hqe : q.fr < e.fr := by
        obtain ⟨g1, g2⟩ := hp q hq e List.mem_cons_self
        rcases Int.lt_or_eq_of_le g1 with g | g
        · exact g
        · exact absurd (by rw [hq, g2 g]) c
      rcases List.mem_cons.1 hy with rfl | hy
      · exact hqe
      · have := i2 e rfl y hy; omega
theorem strictF_eq {X Y : List Ed} (hX : StrictF X) (hw : Y.Pairwise (fun x y => x.fr ≤ y.fr)) (hn : Y.Nodup) (hm : ∀ y, y ∈ X ↔ y ∈ Y) : X = Y := by
  refine List.Perm.eq_of_pairwise (le := fun x y => x.fr ≤ y.fr) ?_ (strictF_weak hX) hw ((List.perm_ext_iff_of_nodup (strictF_nodup hX) hn).2 hm)
  intro x y hx hy h1 h2
  exact strictF_inj hX x hx y ((hm y).2 hy) (by omega)
def without (a b : List Ed) : List Ed := b.filter (fun e => !a.contains e)
theorem srt_weak {L M : List Ed} (h : SrtOf L M) : M.Pairwise (fun x y => x.fr ≤ y.fr) := (srt_sorted h).imp fun {x y} h => by omega
/-- The edits of both, by either way, are the same. -/
theorem both_same {a b M Y : List Ed} (ha : chkB far none a = true) (hb : chkB far none b = true) (hM : SrtOf (a ++ b) M) (hY : SrtOf (a ++ without a b) Y) :
    chkB far none (dd none M) = chkB far none Y ∧ (chkB far none Y = true → dd none M = Y) := by
  have sa := (chk_strictF ha).1
  have sb := (chk_strictF hb).1
  have hnY : Y.Nodup := by
    rw [(srt_perm hY).nodup_iff, List.nodup_append]
    refine ⟨strictF_nodup sa, (strictF_nodup sb).sublist List.filter_sublist, fun x hx y hy e => ?_⟩
    subst e
    unfold without at hy
    have := (List.mem_filter.1 hy).2
    simp [hx] at this
  have hmem : ∀ y, y ∈ dd none M ↔ y ∈ Y := fun y => by
    rw [dd_mem, (srt_perm hM).mem_iff, (srt_perm hY).mem_iff]
    unfold without
    simp only [List.mem_append, List.mem_filter]
    by_cases h : y ∈ a <;> simp [h]
  have h1 : chkB far none (dd none M) = true → dd none M = Y := fun h => strictF_eq (chk_strictF h).1 (srt_weak hY) hnY hmem
  have h2 : chkB far none Y = true → dd none M = Y := fun h => by
    have sY := (chk_strictF h).1
    have hinM : ∀ x ∈ M, x ∈ Y := fun x hx => (hmem x).1 (dd_mem.2 hx)
    have hs := (dd_strict (p := none) (srt_weak hM) (fun x hx y hy => strictF_inj sY x (hinM x hx) y (hinM y hy)) (fun q hq => by cases hq)).1
    exact (strictF_eq sY (strictF_weak hs) (strictF_nodup hs) (fun y => (hmem y).symm)).symm
  refine ⟨?_, h2⟩
  cases c1 : chkB far none (dd none M) with
  | true => rw [← h1 c1, c1]
  | false =>
    cases c2 : chkB far none Y with
    | false => rfl
    | true => rw [h2 c2, c2] at c1; cases c1
theorem dd_at {M : List Ed} {k : Nat} {e : Ed} {p : Option Ed} (h : M[k]? = some e) : dd p (M.drop k) = if p = some e then dd p (M.drop (k + 1)) else e :: dd (some e) (M.drop (k + 1)) := by
  rw [drop_at h, dd]
/-- What is gathered, and what is still to come. -/
def DdI (M : List Ed) (k : Nat) (T : List Ed) : Prop := T ++ dd T.getLast? (M.drop k) = dd none M
theorem ddI_start (M : List Ed) : DdI M 0 [] := by unfold DdI; simp
theorem ddI_same {M T : List Ed} {k : Nat} {e : Ed} (h : DdI M k T) (hk : M[k]? = some e) (hl : T.getLast? = some e) : DdI M (k + 1) T := by
  unfold DdI at *
  rwa [dd_at hk, if_pos hl] at h
theorem ddI_new {M T : List Ed} {k : Nat} {e : Ed} (h : DdI M k T) (hk : M[k]? = some e) (hl : T.getLast? ≠ some e) : DdI M (k + 1) (T ++ [e]) := by
  unfold DdI at *
  rw [dd_at hk, if_neg hl] at h
  rw [List.getLast?_append, List.append_assoc]
  simpa using h
theorem ddI_end {M T : List Ed} (h : DdI M M.length T) : T = dd none M := by
  unfold DdI at h
  rw [List.drop_length, dd, List.append_nil] at h
  exact h
theorem dd_len : ∀ {L : List Ed} {p : Option Ed}, (dd p L).length ≤ L.length
  | [], _ => Nat.le_refl _
  | e :: L, p => by
    rw [dd]
    split
    · have := dd_len (L := L) (p := p); simp; omega
    · have := dd_len (L := L) (p := some e); simp; omega
theorem ddI_len {M T : List Ed} {k : Nat} (h : DdI M k T) : T.length ≤ M.length := by
  have := dd_len (L := M) (p := none)
  unfold DdI at h
  rw [← h, List.length_append] at this
  omega
end Go.Proofs.Ytpekbakidhfliaa
