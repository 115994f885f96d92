/-
  For the laws of weave: the lines of a text, by its bytes; no program. No condition.
-/
import Derived.Test.YtfjmhnnjgjcmeaaGreatDoorSA
import Derived.Test.YtfjmhnnjgjcmeaaGreatDoorWB
import Derived.Test.YtfjmhnnjgjcmeaaGreatDoorPA
import Derived.Deep.QuietTactic
import Derived.BigQuiet
import Derived.Test.YtfjmhnnjgjcmeaaGreatDoorLC
import Derived.RegionTactic
import Derived.ChangeAlike
import Derived.Deep.CutRange
import Derived.Test.YtfjmhnnjgjcmeaaGreatDoorXB
import Derived.Deep.AppendLies
import Derived.Deep.RegionHeldLaw
namespace Go.Proofs.YtfjmhnnjgjcmeaaGreatDoor.S
open Go.RowKit
set_option linter.unusedSimpArgs false
set_option linter.unusedVariables false

/-- The lines of acc ++ l, acc having no newline. -/
def lgo : List UInt8 → List UInt8 → List (List UInt8)
  | acc, [] => if acc = [] then [] else [acc]
  | acc, c :: r => if c = 10 then (acc ++ [c]) :: lgo [] r else lgo (acc ++ [c]) r

theorem lgo_flatten : ∀ (l acc : List UInt8), (lgo acc l).flatten = acc ++ l
  | [], acc => by unfold lgo; split <;> simp_all
  | c :: r, acc => by
    unfold lgo
    split
    · simp [lgo_flatten r []]
    · rw [lgo_flatten r (acc ++ [c])]; simp

/-- A line: some bytes that are no newlines, and one more. -/
def isLine (x : List UInt8) : Prop := x ≠ [] ∧ ∀ k, k + 1 < x.length → x[k]?.getD 0 ≠ 10

theorem isLine_snoc {acc : List UInt8} {c : UInt8} (h : ∀ y ∈ acc, y ≠ 10) : isLine (acc ++ [c]) := by
  refine ⟨by simp, fun k hk => ?_⟩
  simp at hk
  rw [List.getElem?_append_left (by omega), List.getElem?_eq_getElem (by omega)]
  exact h _ (List.getElem_mem _)
theorem isLine_acc {acc : List UInt8} (h0 : acc ≠ []) (h : ∀ y ∈ acc, y ≠ 10) : isLine acc := by
  refine ⟨h0, fun k hk => ?_⟩
  rw [List.getElem?_eq_getElem (by omega)]
  exact h _ (List.getElem_mem _)

theorem lgo_lines : ∀ (l acc : List UInt8), (∀ y ∈ acc, y ≠ 10) → ∀ x ∈ lgo acc l, isLine x
  | [], acc, h, x, hx => by
    unfold lgo at hx
    split at hx
    · simp at hx
    · simp at hx; subst hx; exact isLine_acc (by assumption) h
  | c :: r, acc, h, x, hx => by
    unfold lgo at hx
    split at hx
    · rcases List.mem_cons.1 hx with rfl | hx
      · exact isLine_snoc h
      · exact lgo_lines r [] (by simp) x hx
    · exact lgo_lines r (acc ++ [c]) (by intro y hy; rcases List.mem_append.1 hy with hy | hy; exact h y hy; simp at hy; subst hy; assumption) x hx

theorem lgo_ends : ∀ (l acc : List UInt8) (j : Nat) (x : List UInt8), (lgo acc l)[j]? = some x → j + 1 < (lgo acc l).length → x.getLast? = some 10
  | [], acc, j, x, hx, hl => by
    unfold lgo at hl
    split at hl <;> simp at hl
  | c :: r, acc, j, x, hx, hl => by
    unfold lgo at hx hl
    split at hx
    · rename_i hc
      rw [if_pos hc] at hl
      match j, hx with
      | 0, hx => simp at hx; subst hx; simp [hc]
      | j + 1, hx =>
        simp at hx hl
        exact lgo_ends r [] j x hx hl
    · rename_i hc
      rw [if_neg hc] at hl
      exact lgo_ends r (acc ++ [c]) j x hx hl

/-- Behind a newline the lines begin anew. -/
theorem lgo_append : ∀ (l r acc : List UInt8), (l = [] ∧ acc = [] ∨ l.getLast? = some 10) → lgo acc (l ++ r) = lgo acc l ++ lgo [] r
  | [], r, acc, h => by
    rcases h with ⟨_, h⟩ | h
    · subst h; simp [lgo]
    · simp at h
  | c :: l, r, acc, h => by
    have h' : c = 10 ∧ l = [] ∨ l.getLast? = some 10 := by
      rcases h with ⟨h, _⟩ | h
      · cases h
      · cases l with
        | nil => simp at h; exact .inl ⟨h, rfl⟩
        | cons d l => rw [List.getLast?_cons_cons] at h; exact .inr h
    by_cases hc : c = 10
    · simp only [List.cons_append, lgo, if_pos hc]
      rw [lgo_append l r [] (by rcases h' with ⟨_, h⟩ | h; exact .inl ⟨h, rfl⟩; exact .inr h)]
    · simp only [List.cons_append, lgo, if_neg hc]
      exact lgo_append l r (acc ++ [c]) (by rcases h' with ⟨h, _⟩ | h; exact absurd h hc; exact .inr h)

/-- One newline more ends the last line. -/
theorem lgo_snoc : ∀ (l acc : List UInt8), (l = [] ∧ acc ≠ [] ∨ ∃ c, l.getLast? = some c ∧ c ≠ 10) → (lgo acc (l ++ [10])).length = (lgo acc l).length
  | [], acc, h => by
    rcases h with ⟨_, h⟩ | ⟨c, h, _⟩
    · simp [lgo, h]
    · simp at h
  | c :: l, acc, h => by
    have h' : c ≠ 10 ∧ l = [] ∨ ∃ d, l.getLast? = some d ∧ d ≠ 10 := by
      rcases h with ⟨h, _⟩ | ⟨d, h, hd⟩
      · cases h
      · cases l with
        | nil => simp at h; subst h; exact .inl ⟨hd, rfl⟩
        | cons e l => rw [List.getLast?_cons_cons] at h; exact .inr ⟨d, h, hd⟩
    by_cases hc : c = 10
    · simp only [List.cons_append, lgo, if_pos hc, List.length_cons]
      rw [lgo_snoc l [] (by rcases h' with ⟨h, _⟩ | h; exact absurd hc h; exact .inr h)]
    · simp only [List.cons_append, lgo, if_neg hc]
      exact lgo_snoc l (acc ++ [c]) (by rcases h' with ⟨_, h⟩ | h; exact .inl ⟨h, by simp⟩; exact .inr h)

theorem nlB_get {s : ByteArray} {k : Nat} (h : k < s.size) : nlB s k = decide (s.data.toList[k]'(by simpa using h) = 10) := by
  unfold nlB
  rw [Array.getElem?_eq_getElem (by simpa using h)]
  simp [Bool.beq_eq_decide_eq]

theorem extract_list (s : ByteArray) (a b : Nat) : (s.extract a b).data.toList = (s.data.toList.take b).drop a := by
  simp [ByteArray.data_extract, List.extract_eq_take_drop, List.drop_take]

theorem st_lgo (s : ByteArray) : ∀ k, k ≤ s.size → lgo [] s.data.toList = (st s k).1.map (·.data.toList) ++ lgo ((s.data.toList.take k).drop (st s k).2) (s.data.toList.drop k)
  | 0, _ => by simp [st]
  | k + 1, hk => by
    have ih := st_lgo s k (by omega)
    have hle := st_le s k
    have hlen : k < s.data.toList.length := by simp; omega
    have hd : s.data.toList.drop k = s.data.toList[k] :: s.data.toList.drop (k + 1) := List.drop_eq_getElem_cons hlen
    have ht : (s.data.toList.take (k + 1)).drop (st s k).2 = (s.data.toList.take k).drop (st s k).2 ++ [s.data.toList[k]] := by
      rw [← List.take_append_getElem hlen, List.drop_append_of_le_length (by rw [List.length_take]; omega)]
    rw [ih, hd]
    cases h : nlB s k with
    | true =>
      have hc : s.data.toList[k] = 10 := by rw [nlB_get (by omega)] at h; simpa using h
      rw [st_yes h]
      simp only [lgo, if_pos hc, List.map_append, List.map_cons, List.map_nil, extract_list, ht, List.append_assoc, List.cons_append, List.nil_append]
      rw [show List.drop (k + 1) (List.take (k + 1) s.data.toList) = [] from List.drop_eq_nil_of_le (by rw [List.length_take]; omega)]
    | false =>
      have hc : ¬ s.data.toList[k] = 10 := by rw [nlB_get (by omega)] at h; simpa using h
      rw [st_no h, ht]
      simp only [lgo, if_neg hc]

theorem lns_lgo (s : ByteArray) : (lns s).map (·.data.toList) = lgo [] s.data.toList := by
  have h := st_lgo s s.size (Nat.le_refl _)
  have hle := st_le s s.size
  have hz : s.data.toList.length = s.size := by simp
  rw [h, show List.drop s.size s.data.toList = [] from List.drop_eq_nil_of_le (by omega)]
  unfold lns
  by_cases hf : (st s s.size).2 < s.size
  · rw [if_pos hf]
    have hne : (s.data.toList.take s.size).drop (st s s.size).2 ≠ [] := by
      intro e
      have := congrArg List.length e
      rw [List.length_drop, List.length_take] at this
      simp at this
      omega
    simp only [lgo, if_neg hne, List.map_append, List.map_cons, List.map_nil, extract_list]
  · rw [if_neg hf, show List.drop (st s s.size).2 (List.take s.size s.data.toList) = [] from List.drop_eq_nil_of_le (by rw [List.length_take]; omega)]
    simp [lgo]

theorem lns_isLine {s x : ByteArray} (h : x ∈ lns s) : isLine x.data.toList :=
  lgo_lines s.data.toList [] (by simp) _ (by rw [← lns_lgo]; exact List.mem_map_of_mem h)
theorem lns_ends {s x : ByteArray} {j : Nat} (h : (lns s)[j]? = some x) (hj : j + 1 < (lns s).length) : x.data.toList.getLast? = some 10 :=
  lgo_ends s.data.toList [] j _ (by rw [← lns_lgo, List.getElem?_map, h]; rfl) (by rw [← lns_lgo, List.length_map]; exact hj)
end Go.Proofs.YtfjmhnnjgjcmeaaGreatDoor.S
/-
  For the laws of weave: rows of lines and their texts; the numbers that texts have. No condition.
-/
namespace Go.Proofs.YtfjmhnnjgjcmeaaGreatDoor
set_option linter.unusedSimpArgs false
set_option linter.unusedVariables false
namespace L
/-- Numbers of texts, by the last list of known ones. -/
theorem known_prefix (L : List (List UInt8)) (ss : List ByteArray) : L <+: knownBy L ss := by
  induction ss generalizing L with
  | nil => exact List.prefix_refl _
  | cons s ss ih =>
    refine List.IsPrefix.trans ?_ (ih (numStep L s))
    unfold numStep
    split
    · exact List.prefix_refl _
    · exact List.prefix_append _ _
theorem idx_prefix {L K : List (List UInt8)} {x : List UInt8} (h : L <+: K) (hx : x ∈ L) : K.idxOf x = L.idxOf x := by
  obtain ⟨t, rfl⟩ := h
  rw [List.idxOf_append, if_pos hx]
theorem mem_step (L : List (List UInt8)) (s : ByteArray) : wd s ∈ numStep L s := by
  unfold numStep
  split <;> simp_all
theorem idx_step (L : List (List UInt8)) (s : ByteArray) : (numStep L s).idxOf (wd s) = L.idxOf (wd s) := by
  unfold numStep
  split
  · rfl
  · rename_i h
    rw [List.idxOf_append, if_neg h, List.idxOf_eq_length h]
    simp
theorem numRow_last : ∀ (ss : List ByteArray) (L K : List (List UInt8)), knownBy L ss <+: K → numRow L ss = ss.map (fun s => (K.idxOf (wd s) : Int))
  | [], _, _, _ => rfl
  | s :: ss, L, K, h => by
    have h' : knownBy (numStep L s) ss <+: K := h
    rw [numRow, numRow_last ss (numStep L s) K h', List.map_cons]
    rw [idx_prefix ((known_prefix (numStep L s) ss).trans h') (mem_step L s), idx_step]
theorem known_mem : ∀ (ss : List ByteArray) (L : List (List UInt8)) (s : ByteArray), s ∈ ss → wd s ∈ knownBy L ss
  | x :: ss, L, s, h => by
    rcases List.mem_cons.1 h with rfl | h
    · exact (known_prefix (numStep L s) ss).subset (mem_step L s)
    · exact known_mem ss (numStep L x) s h
theorem wd_inj {s t : ByteArray} (h : wd s = wd t) : s = t := by
  cases s; cases t
  simp [wd] at h
  rw [h]
theorem idx_inj {K : List (List UInt8)} {x y : List UInt8} (hx : x ∈ K) (hy : y ∈ K) (h : K.idxOf x = K.idxOf y) : x = y := by
  have h1 := List.getElem_idxOf (List.idxOf_lt_length_of_mem hx)
  have h2 := List.getElem_idxOf (List.idxOf_lt_length_of_mem hy)
  rw [← h1, ← h2]
  simp only [h]
end L

theorem joinT_lns (s : ByteArray) : joinT (S.lns s) = tl s := by
  unfold joinT
  rw [show (S.lns s).map tl = S.lgo [] (tl s) from S.lns_lgo s, S.lgo_flatten]
  rfl
/-- A row of lines: each but the last ends with a newline. -/
def Lin (xs : TL) : Prop := ∀ j x, xs[j]? = some x → S.isLine (tl x) ∧ (j + 1 < xs.length → (tl x).getLast? = some 10)
theorem lin_lns (s : ByteArray) : Lin (S.lns s) := fun j x h => ⟨S.lns_isLine (List.mem_of_getElem? h), fun hj => S.lns_ends h hj⟩
theorem lin_slc {xs : TL} (h : Lin xs) (i j : Nat) (hj : j ≤ xs.length) : Lin (L.slc xs i j) := by
  intro k x hk
  have hl := (List.getElem?_eq_some_iff.1 hk).1
  have hlen : (L.slc xs i j).length = j - i := slc_len hj
  rw [hlen] at hl
  unfold L.slc at hk
  rw [List.getElem?_take_of_lt (by omega), List.getElem?_drop] at hk
  obtain ⟨h1, h2⟩ := h _ _ hk
  exact ⟨h1, fun hh => h2 (by omega)⟩
theorem lin_tail {x : ByteArray} {xs : TL} (h : Lin (x :: xs)) : Lin xs := fun j y hy => by
  obtain ⟨h1, h2⟩ := h (j + 1) y (by simpa using hy)
  exact ⟨h1, fun hh => h2 (by simpa using hh)⟩
theorem lgo_line : ∀ (x acc : List UInt8), x ≠ [] → (∀ k, k + 1 < x.length → x[k]?.getD 0 ≠ 10) → S.lgo acc x = [acc ++ x]
  | [], _, h, _ => absurd rfl h
  | [c], acc, _, _ => by
    unfold S.lgo
    split
    · simp [S.lgo]
    · unfold S.lgo; simp
  | c :: d :: r, acc, _, h => by
    have hc : c ≠ 10 := by simpa using h 0 (by simp)
    unfold S.lgo
    rw [if_neg hc, lgo_line (d :: r) (acc ++ [c]) (by simp) (fun k hk => by simpa using h (k + 1) (by simpa using hk))]
    simp
theorem lin_lgo : ∀ xs : TL, Lin xs → S.lgo [] (joinT xs) = xs.map tl
  | [], _ => by simp [joinT, S.lgo]
  | [x], h => by
    obtain ⟨h1, -⟩ := h 0 x rfl
    have e : joinT [x] = tl x := by simp [joinT]
    rw [e, lgo_line _ _ h1.1 h1.2]
    rfl
  | x :: y :: r, h => by
    obtain ⟨h1, h2⟩ := h 0 x rfl
    have e : joinT (x :: y :: r) = tl x ++ joinT (y :: r) := rfl
    rw [e, S.lgo_append _ _ _ (.inr (h2 (by simp))), lgo_line _ _ h1.1 h1.2, lin_lgo (y :: r) (lin_tail h)]
    rfl
theorem map_bs_tl (xs : TL) : (xs.map tl).map bs = xs := by
  rw [List.map_map, show bs ∘ tl = id from funext bs_tl, List.map_id]
theorem joinT_inj {xs ys : TL} (h1 : Lin xs) (h2 : Lin ys) (h : joinT xs = joinT ys) : xs = ys := by
  rw [← map_bs_tl xs, ← map_bs_tl ys, ← lin_lgo xs h1, ← lin_lgo ys h2, h]

/-- The number of a text. -/
def nm (K : List (List UInt8)) (s : ByteArray) : Int := (K.idxOf (tl s) : Int)
def lastK (o a b : TL) : List (List UInt8) := L.knownBy (L.knownBy (L.knownBy [] o) a) b
theorem num3_nm (o a b : TL) : L.num3 o a b = (o.map (nm (lastK o a b)), a.map (nm (lastK o a b)), b.map (nm (lastK o a b))) := by
  have e1 := L.numRow_last o [] (lastK o a b) ((L.known_prefix _ _).trans (L.known_prefix _ _))
  have e2 := L.numRow_last a (L.knownBy [] o) (lastK o a b) (L.known_prefix _ _)
  have e3 := L.numRow_last b (L.knownBy (L.knownBy [] o) a) (lastK o a b) (List.prefix_refl _)
  unfold L.num3
  rw [e1, e2, e3]
  rfl
/-- Texts of one of three rows. -/
def Of3 (o a b : TL) (s : ByteArray) : Prop := s ∈ o ∨ s ∈ a ∨ s ∈ b
theorem lastK_mem {o a b : TL} {s : ByteArray} (h : Of3 o a b s) : tl s ∈ lastK o a b := by
  rcases h with h | h | h
  · exact ((L.known_prefix _ _).trans (L.known_prefix _ _)).subset (L.known_mem o [] s h)
  · exact (L.known_prefix _ _).subset (L.known_mem a _ s h)
  · exact L.known_mem b _ s h
/-- Numbers that tell such texts apart. -/
def On (P : ByteArray → Prop) (f : ByteArray → Int) : Prop := ∀ s t, P s → P t → f s = f t → s = t
theorem nm_on (o a b : TL) : On (Of3 o a b) (nm (lastK o a b)) := by
  intro s t hs ht h
  unfold nm at h
  have e := L.idx_inj (lastK_mem hs) (lastK_mem ht) (by omega)
  rw [← bs_tl s, ← bs_tl t, e]
theorem map_on {P : ByteArray → Prop} {f : ByteArray → Int} (hf : On P f) : ∀ x y : TL, (∀ s ∈ x, P s) → (∀ s ∈ y, P s) → (x.map f = y.map f ↔ x = y)
  | [], [], _, _ => by simp
  | [], t :: y, _, _ => by simp
  | s :: x, [], _, _ => by simp
  | s :: x, t :: y, hx, hy => by
    have ih := map_on hf x y (fun u hu => hx u (List.mem_cons_of_mem _ hu)) (fun u hu => hy u (List.mem_cons_of_mem _ hu))
    rw [List.map_cons, List.map_cons, List.cons.injEq, List.cons.injEq, ih]
    exact ⟨fun h => ⟨hf s t (hx s (by simp)) (hy t (by simp)) h.1, h.2⟩, fun h => ⟨by rw [h.1], h.2⟩⟩
theorem lc_map {P : ByteArray → Prop} {f g : ByteArray → Int} (hf : On P f) (hg : On P g) : ∀ x y : TL, (∀ s ∈ x, P s) → (∀ s ∈ y, P s) → L.lc (x.map f) (y.map f) = L.lc (x.map g) (y.map g)
  | [], y, _, _ => by simp [L.lc_nil_left]
  | s :: x, [], _, _ => by simp [L.lc_nil_right]
  | s :: x, t :: y, hx, hy => by
    have hx' : ∀ u ∈ x, P u := fun u hu => hx u (List.mem_cons_of_mem _ hu)
    have hy' : ∀ u ∈ y, P u := fun u hu => hy u (List.mem_cons_of_mem _ hu)
    by_cases e : s = t
    · subst e
      have := lc_map hf hg x y hx' hy'
      simp only [List.map_cons]
      rw [L.lc_same, L.lc_same, this]
    · have e1 : f s ≠ f t := fun h => e (hf s t (hx s (by simp)) (hy t (by simp)) h)
      have e2 : g s ≠ g t := fun h => e (hg s t (hx s (by simp)) (hy t (by simp)) h)
      have i1 := lc_map hf hg x (t :: y) hx' hy
      have i2 := lc_map hf hg (s :: x) y hx hy'
      simp only [List.map_cons] at i1 i2 ⊢
      rw [L.lc_diff e1, L.lc_diff e2, i1, i2]
termination_by x y => x.length + y.length
theorem gm_map {P : ByteArray → Prop} {f g : ByteArray → Int} (hf : On P f) (hg : On P g) : ∀ (x y : TL) (k : Int), (∀ s ∈ x, P s) → (∀ s ∈ y, P s) → L.gm (x.map f) (y.map f) k = L.gm (x.map g) (y.map g) k
  | [], y, k, _, _ => by simp [L.gm]
  | s :: x, [], k, _, _ => by rw [List.map_nil, List.map_nil, L.gm_nil_right, L.gm_nil_right, List.length_map, List.length_map]
  | s :: x, t :: y, k, hx, hy => by
    have hx' : ∀ u ∈ x, P u := fun u hu => hx u (List.mem_cons_of_mem _ hu)
    have hy' : ∀ u ∈ y, P u := fun u hu => hy u (List.mem_cons_of_mem _ hu)
    by_cases e : s = t
    · subst e
      have := gm_map hf hg x y (k + 1) hx' hy'
      simp only [List.map_cons]
      rw [L.gm_same, L.gm_same, this]
    · have e1 : f s ≠ f t := fun h => e (hf s t (hx s (by simp)) (hy t (by simp)) h)
      have e2 : g s ≠ g t := fun h => e (hg s t (hx s (by simp)) (hy t (by simp)) h)
      have l1 := lc_map hf hg x (t :: y) hx' hy
      have l2 := lc_map hf hg (s :: x) y hx hy'
      have i1 := gm_map hf hg x (t :: y) k hx' hy
      have i2 := gm_map hf hg (s :: x) y (k + 1) hx hy'
      simp only [List.map_cons] at i1 i2 l1 l2 ⊢
      by_cases hl : L.lc (f s :: x.map f) (y.map f) ≤ L.lc (x.map f) (f t :: y.map f)
      · rw [L.gm_skip e1 _ _ _ hl, L.gm_skip e2 _ _ _ (by rw [← l1, ← l2]; exact hl), i1]
      · rw [L.gm_next e1 _ _ _ hl, L.gm_next e2 _ _ _ (by rw [← l1, ← l2]; exact hl), i2]
termination_by x y => x.length + y.length
theorem match_map {P : ByteArray → Prop} {f g : ByteArray → Int} (hf : On P f) (hg : On P g) {x y : TL} (l1 : x.length ≤ 2000) (l2 : y.length ≤ 2000) (hx : ∀ s ∈ x, P s) (hy : ∀ s ∈ y, P s) : L.matchOf (x.map f) (y.map f) = L.matchOf (x.map g) (y.map g) := by
  unfold L.matchOf
  rw [if_neg (by rw [List.length_map, List.length_map]; omega), if_neg (by rw [List.length_map, List.length_map]; omega)]
  exact gm_map hf hg x y 0 hx hy

/-- The kind of a chunk, by its texts. -/
def kindT (x y z : TL) : Int := if x = y then (if x = z then 0 else 2) else if x = z then 1 else if y = z then 3 else 4
theorem slc_map {α β : Type} (f : α → β) (xs : List α) (i j : Nat) : L.slc (xs.map f) i j = (L.slc xs i j).map f := by unfold L.slc; rw [List.map_take, List.map_drop]
theorem slc_mem {α : Type} {xs : List α} {i j : Nat} {s : α} (h : s ∈ L.slc xs i j) : s ∈ xs := List.mem_of_mem_drop (List.mem_of_mem_take h)
theorem kind_map {P : ByteArray → Prop} {f : ByteArray → Int} (hf : On P f) {x y z : TL} (hx : ∀ s ∈ x, P s) (hy : ∀ s ∈ y, P s) (hz : ∀ s ∈ z, P s) : L.kindN (x.map f) (y.map f) (z.map f) = kindT x y z := by
  unfold L.kindN kindT
  simp only [map_on hf x y hx hy, map_on hf x z hx hz, map_on hf y z hy hz]
def ckT (o a b : TL) (c : L.P3 × L.P3) : L.Ck := ⟨kindT (L.slc o c.1.o c.2.o) (L.slc a c.1.a c.2.a) (L.slc b c.1.b c.2.b), c.1, c.2⟩
/-- The match of two rows of texts. -/
def mT (x y : TL) : List Int := L.matchOf (x.map (nm (lastK x y []))) (y.map (nm (lastK x y [])))
theorem on_mono {P Q : ByteArray → Prop} {f : ByteArray → Int} (h : On P f) (k : ∀ s, Q s → P s) : On Q f := fun s t hs ht => h s t (k s hs) (k t ht)
theorem chunksT_eq {o a b : TL} (l1 : o.length ≤ 2000) (l2 : a.length ≤ 2000) (l3 : b.length ≤ 2000) : L.chunksT o a b = (L.cutsAt (mT o a) (mT o b) ⟨o.length, a.length, b.length⟩ ⟨0, 0, 0⟩).map (ckT o a b) := by
  have hf := nm_on o a b
  have m1 : L.matchOf (o.map (nm (lastK o a b))) (a.map (nm (lastK o a b))) = mT o a :=
    match_map (P := Of3 o a []) (on_mono hf (fun s hs => by rcases hs with h | h | h; exact .inl h; exact .inr (.inl h); cases h)) (nm_on o a []) l1 l2 (fun s h => .inl h) (fun s h => .inr (.inl h))
  have m2 : L.matchOf (o.map (nm (lastK o a b))) (b.map (nm (lastK o a b))) = mT o b :=
    match_map (P := Of3 o b []) (on_mono hf (fun s hs => by rcases hs with h | h | h; exact .inl h; exact .inr (.inr h); cases h)) (nm_on o b []) l1 l3 (fun s h => .inl h) (fun s h => .inr (.inl h))
  unfold L.chunksT L.chunksOf
  rw [num3_nm]
  simp only [List.length_map]
  rw [m1, m2]
  apply List.map_congr_left
  intro c hc
  unfold L.ckOf ckT
  rw [slc_map, slc_map, slc_map, kind_map hf (fun s h => .inl (slc_mem h)) (fun s h => .inr (.inl (slc_mem h))) (fun s h => .inr (.inr (slc_mem h)))]
theorem chunksT_kind {o a b : TL} (l1 : o.length ≤ 2000) (l2 : a.length ≤ 2000) (l3 : b.length ≤ 2000) : ∀ c ∈ L.chunksT o a b, c.kind = kindT (L.slc o c.p.o c.q.o) (L.slc a c.p.a c.q.a) (L.slc b c.p.b c.q.b) := by
  rw [chunksT_eq l1 l2 l3]
  intro c hc
  obtain ⟨d, -, rfl⟩ := List.mem_map.1 hc
  rfl
end Go.Proofs.YtfjmhnnjgjcmeaaGreatDoor
/-
  For the laws of weave: turned about; what the parts of lines are. Condition: at most 2,000 units a row.
-/
namespace Go.Proofs.YtfjmhnnjgjcmeaaGreatDoor
set_option linter.unusedSimpArgs false
set_option linter.unusedVariables false

def P3.sw (p : L.P3) : L.P3 := ⟨p.o, p.b, p.a⟩
theorem sw_eq {p q : L.P3} : P3.sw p = P3.sw q ↔ p = q := by
  cases p; cases q
  simp only [P3.sw, L.P3.mk.injEq]
  exact ⟨fun h => ⟨h.1, h.2.2, h.2.1⟩, fun h => ⟨h.1, h.2.2, h.2.1⟩⟩
theorem stab_sw : ∀ (M R : List Int) (a b : Nat), L.stab R M b a = L.stab M R a b
  | l :: M, r :: R, a, b => by
    have := stab_sw M R (a + 1) (b + 1)
    unfold L.stab
    rw [this]
    by_cases h : l = a ∧ r = b
    · rw [if_pos h, if_pos ⟨h.2, h.1⟩]
    · rw [if_neg h, if_neg (fun k => h ⟨k.2, k.1⟩)]
  | [], [], _, _ => by simp [L.stab]
  | [], _ :: _, _, _ => by simp [L.stab]
  | _ :: _, [], _, _ => by simp [L.stab]
theorem uns_sw : ∀ (M R : List Int) (i : Nat), L.uns R M i = (L.uns M R i).map P3.sw
  | l :: M, r :: R, i => by
    have := uns_sw M R (i + 1)
    unfold L.uns
    by_cases h : 0 ≤ l ∧ 0 ≤ r
    · rw [if_pos h, if_pos ⟨h.2, h.1⟩]; rfl
    · rw [if_neg h, if_neg (fun k => h ⟨k.2, k.1⟩)]; exact this
  | [], [], _ => by simp [L.uns]
  | [], _ :: _, _ => by simp [L.uns]
  | _ :: _, [], _ => by simp [L.uns]
theorem nxt_sw (M R : List Int) (E p : L.P3) : L.nxt R M (P3.sw E) (P3.sw p) = P3.sw (L.nxt M R E p) := by
  unfold L.nxt
  rw [show (P3.sw p).o = p.o from rfl, show (P3.sw p).a = p.b from rfl, show (P3.sw p).b = p.a from rfl, stab_sw, uns_sw]
  split
  · cases L.uns (M.drop p.o) (R.drop p.o) p.o <;> rfl
  · rfl
theorem cuts_sw (M R : List Int) (E : L.P3) : ∀ (n : Nat) (p : L.P3), L.cuts R M (P3.sw E) n (P3.sw p) = (L.cuts M R E n p).map (fun c => (P3.sw c.1, P3.sw c.2))
  | 0, p => by simp [L.cuts]
  | n + 1, p => by
    unfold L.cuts
    by_cases h : p = E
    · rw [if_pos h, if_pos (sw_eq.2 h)]; rfl
    · rw [if_neg h, if_neg (fun k => h (sw_eq.1 k)), nxt_sw, cuts_sw M R E n]; rfl
theorem cutsAt_sw (M R : List Int) (E p : L.P3) : L.cutsAt R M (P3.sw E) (P3.sw p) = (L.cutsAt M R E p).map (fun c => (P3.sw c.1, P3.sw c.2)) := by
  unfold L.cutsAt
  have e : ∀ q : L.P3, (P3.sw q).sum = q.sum := fun q => by unfold L.P3.sum P3.sw; simp only; omega
  rw [e, e]
  exact cuts_sw M R E _ p
def tk (k : Int) : Int := if k = 1 then 2 else if k = 2 then 1 else k
theorem kindT_sw (x y z : TL) : kindT x z y = tk (kindT x y z) := by
  unfold kindT tk
  by_cases h1 : x = y
  · by_cases h2 : x = z
    · simp [h1, ← h2]
    · rw [if_neg h2, if_pos h1, if_pos h1, if_neg h2]; simp
  · by_cases h2 : x = z
    · rw [if_pos h2, if_neg h1, if_neg h1, if_pos h2]; simp
    · rw [if_neg h2, if_neg h1, if_neg h1, if_neg h2]
      by_cases h3 : y = z
      · rw [if_pos h3, if_pos h3.symm]; simp
      · rw [if_neg h3, if_neg (fun h => h3 h.symm)]; simp
def Ck.sw (c : L.Ck) : L.Ck := ⟨tk c.kind, P3.sw c.p, P3.sw c.q⟩
theorem chunksT_sw {o a b : TL} (l1 : o.length ≤ 2000) (l2 : a.length ≤ 2000) (l3 : b.length ≤ 2000) : L.chunksT o b a = (L.chunksT o a b).map Ck.sw := by
  rw [chunksT_eq l1 l3 l2, chunksT_eq l1 l2 l3, List.map_map]
  have h := cutsAt_sw (mT o a) (mT o b) ⟨o.length, a.length, b.length⟩ ⟨0, 0, 0⟩
  rw [show P3.sw ⟨o.length, a.length, b.length⟩ = ⟨o.length, b.length, a.length⟩ from rfl, show P3.sw ⟨0, 0, 0⟩ = ⟨0, 0, 0⟩ from rfl] at h
  rw [h, List.map_map]
  apply List.map_congr_left
  intro c _
  show ckT o b a (P3.sw c.1, P3.sw c.2) = Ck.sw (ckT o a b c)
  show (⟨kindT (L.slc o c.1.o c.2.o) (L.slc b c.1.b c.2.b) (L.slc a c.1.a c.2.a), P3.sw c.1, P3.sw c.2⟩ : L.Ck) = ⟨tk (kindT (L.slc o c.1.o c.2.o) (L.slc a c.1.a c.2.a) (L.slc b c.1.b c.2.b)), P3.sw c.1, P3.sw c.2⟩
  rw [kindT_sw]
def Pc.sw (x : Pc) : Pc := if x.clash then ⟨true, x.o, x.b, x.a⟩ else x
def St.sw (s : St) : St := (s.1.map Pc.sw, s.2)
theorem fin_sw (s : St) : (St.sw s).fin = s.fin.map Pc.sw := by
  cases h : s.2 with
  | none => rw [fin_nil s h, fin_nil (St.sw s) h]; rfl
  | some q =>
    rw [fin_cons s q h, fin_cons (St.sw s) q h, List.map_append]
    rfl
/-- A chunk whose kind is that of its texts. -/
def okK (o a b : TL) (c : L.Ck) : Prop := c.kind = kindT (L.slc o c.p.o c.q.o) (L.slc a c.p.a c.q.a) (L.slc b c.p.b c.q.b)
theorem y_sw {o a b : TL} {c : L.Ck} (h : okK o a b c) (h4 : c.kind ≠ 4) : yOf b a (Ck.sw c) = yOf a b c := by
  unfold okK at h
  unfold yOf Ck.sw
  simp only [P3.sw]
  generalize L.slc a c.p.a c.q.a = y at h ⊢
  generalize L.slc b c.p.b c.q.b = z at h ⊢
  generalize L.slc o c.p.o c.q.o = x at h ⊢
  unfold kindT at h
  by_cases h1 : x = y
  · rw [if_pos h1] at h
    by_cases h2 : x = z
    · rw [if_pos h2] at h
      rw [h]
      simp [tk, ← h1, ← h2]
    · rw [if_neg h2] at h
      rw [h]
      simp [tk]
  · rw [if_neg h1] at h
    by_cases h2 : x = z
    · rw [if_pos h2] at h
      rw [h]
      simp [tk]
    · rw [if_neg h2] at h
      by_cases h3 : y = z
      · rw [if_pos h3] at h
        rw [h]
        simp [tk, h3]
      · rw [if_neg h3] at h
        exact absurd h h4
theorem tk4 (k : Int) : tk k = 4 ↔ k = 4 := by
  unfold tk
  by_cases h1 : k = 1
  · rw [if_pos h1]; omega
  · rw [if_neg h1]
    by_cases h2 : k = 2
    · rw [if_pos h2]; omega
    · rw [if_neg h2]
theorem add_sw {o a b : TL} {s : St} {c : L.Ck} (h : okK o a b c) : (St.sw s).add o b a (Ck.sw c) = St.sw (s.add o a b c) := by
  by_cases h4 : c.kind = 4
  · have e1 : s.add o a b c = (s.fin ++ [⟨true, L.slc o c.p.o c.q.o, L.slc a c.p.a c.q.a, L.slc b c.p.b c.q.b⟩], none) := by unfold St.add; rw [if_pos h4]
    have e2 : (St.sw s).add o b a (Ck.sw c) = ((St.sw s).fin ++ [⟨true, L.slc o c.p.o c.q.o, L.slc b c.p.b c.q.b, L.slc a c.p.a c.q.a⟩], none) := by have h4'' : (Ck.sw c).kind = 4 := (tk4 _).2 h4; unfold St.add; rw [if_pos h4'']; rfl
    rw [e1, e2, fin_sw]
    unfold St.sw
    rw [List.map_append]
    rfl
  · have h4' : (Ck.sw c).kind ≠ 4 := fun k => h4 ((tk4 _).1 k)
    have hy := y_sw h h4
    cases hs : s.2 with
    | none =>
      have e1 : s.add o a b c = (s.1, some (L.slc o c.p.o c.q.o, yOf a b c)) := by unfold St.add; rw [if_neg h4, hs]
      have e2 : (St.sw s).add o b a (Ck.sw c) = ((St.sw s).1, some (L.slc o c.p.o c.q.o, yOf b a (Ck.sw c))) := by unfold St.add; rw [if_neg h4', show (St.sw s).2 = none from hs]; rfl
      rw [e1, e2, hy]; rfl
    | some q =>
      have e1 : s.add o a b c = (s.1, some (q.1 ++ L.slc o c.p.o c.q.o, q.2 ++ yOf a b c)) := by unfold St.add; rw [if_neg h4, hs]
      have e2 : (St.sw s).add o b a (Ck.sw c) = ((St.sw s).1, some (q.1 ++ L.slc o c.p.o c.q.o, q.2 ++ yOf b a (Ck.sw c))) := by unfold St.add; rw [if_neg h4', show (St.sw s).2 = some q from hs]; rfl
      rw [e1, e2, hy]; rfl
theorem stOf_sw {o a b : TL} : ∀ l : List L.Ck, (∀ c ∈ l, okK o a b c) → ∀ s : St, (l.map Ck.sw).foldl (St.add o b a) (St.sw s) = St.sw (l.foldl (St.add o a b) s)
  | [], _, s => rfl
  | c :: l, h, s => by
    rw [List.map_cons, List.foldl_cons, List.foldl_cons, add_sw (h c (by simp))]
    exact stOf_sw l (fun d hd => h d (List.mem_cons_of_mem _ hd)) _
theorem combP_sw {o a b : TL} (l1 : o.length ≤ 2000) (l2 : a.length ≤ 2000) (l3 : b.length ≤ 2000) : combP o b a = (combP o a b).map Pc.sw := by
  unfold combP stOf
  rw [chunksT_sw l1 l2 l3, show (([], none) : St) = St.sw ([], none) from rfl, stOf_sw _ (chunksT_kind l1 l2 l3), fin_sw]
  rfl
def Pt.sw (p : Pt) : Pt := ⟨p.clash, p.o, p.b, p.a⟩
theorem ptOf_sw (x : Pc) : ptOf (Pc.sw x) = Pt.sw (ptOf x) := by
  unfold Pc.sw ptOf Pt.sw
  cases h : x.clash <;> simp [h]
theorem wovenP_sw {o a b : TL} (l1 : o.length ≤ 2000) (l2 : a.length ≤ 2000) (l3 : b.length ≤ 2000) : wovenP o b a = (wovenP o a b).map Pt.sw := by
  unfold wovenP
  rw [combP_sw l1 l2 l3, List.map_map, List.map_map]
  apply List.map_congr_left
  intro x _
  exact ptOf_sw x
theorem wovenP_ab (o a b : TL) : ∀ p ∈ wovenP o a b, p.clash = false → p.a = p.b := by
  intro p hp h
  obtain ⟨x, -, rfl⟩ := List.mem_map.1 hp
  have hc : x.clash = false := h
  simp [ptOf, hc]
theorem clashP_sw (l : List Pt) : clashP (l.map Pt.sw) = clashP l := by
  unfold clashP
  rw [List.any_map]
  rfl
theorem side_ab : ∀ l : List Pt, (∀ p ∈ l, p.a = p.b) → sideP l 1 = sideP l 2
  | [], _ => rfl
  | p :: l, h => by
    have ih := side_ab l (fun q hq => h q (List.mem_cons_of_mem _ hq))
    unfold sideP at ih ⊢
    rw [List.flatMap_cons, List.flatMap_cons, ih]
    congr 1
    show Pt.side 1 p = Pt.side 2 p
    have e := h p (by simp)
    simp [Pt.side, e]
theorem side_sw (l : List Pt) : sideP (l.map Pt.sw) 1 = sideP l 2 := by
  unfold sideP
  rw [List.flatMap_map]
  congr 1
theorem clashP_no {l : List Pt} (h : clashP l = false) : ∀ p ∈ l, p.clash = false := by
  intro p hp
  unfold clashP at h
  rw [List.any_eq_false] at h
  simpa using h p hp
theorem joinP_sw {l : List Pt} (h : ∀ p ∈ l, p.clash = false → p.a = p.b) : joinP (l.map Pt.sw) = joinP l := by
  unfold joinP
  rw [clashP_sw]
  cases hc : clashP l with
  | true => rfl
  | false =>
    have e := side_ab l (fun p hp => h p hp (clashP_no hc p hp))
    rw [side_sw, e]
theorem wovenQ_sw {x y z : TL × Bool} (l1 : x.1.length ≤ 2000) (l2 : y.1.length ≤ 2000) (l3 : z.1.length ≤ 2000) : wovenQ x z y = ((wovenQ x y z).1.map Pt.sw, (wovenQ x y z).2) := by
  unfold wovenQ
  cases h1 : x.2 <;> cases h2 : y.2 <;> cases h3 : z.2 <;> simp [h1, h2, h3, wovenP_sw l1 l2 l3]
theorem textP_sw (o a b : ByteArray) (h1 : o.size ≤ 600) (h2 : a.size ≤ 600) (h3 : b.size ≤ 600) : textP o b a = textP o a b := by
  have u1 := unitsP_len o
  have u2 := unitsP_len a
  have u3 := unitsP_len b
  have t := wovenQ_sw (x := unitsP (tl o)) (y := unitsP (tl a)) (z := unitsP (tl b)) (by omega) (by omega) (by omega)
  have hab : ∀ p ∈ (wovenQ (unitsP (tl o)) (unitsP (tl a)) (unitsP (tl b))).1, p.clash = false → p.a = p.b := by
    unfold wovenQ
    split
    · exact wovenP_ab _ _ _
    · intro p hp; cases hp
  have n := wovenP_sw (o := S.lns o) (a := S.lns a) (b := S.lns b) (Nat.le_trans (S.lns_len o) (by omega)) (Nat.le_trans (S.lns_len a) (by omega)) (Nat.le_trans (S.lns_len b) (by omega))
  unfold textP
  by_cases e1 : a = o
  · rw [if_pos e1]
    by_cases e2 : b = o
    · rw [if_pos e2, e1, e2]
    · rw [if_neg e2, if_pos (.inl e1)]
  · rw [if_neg e1]
    by_cases e2 : b = o
    · rw [if_pos e2, if_pos (.inl e2)]
    · rw [if_neg e2]
      by_cases e3 : b = a
      · have x1 : a = o ∨ a = b := .inr e3.symm
        have x2 : b = o ∨ b = a := .inr e3
        rw [if_pos x1, if_pos x2, e3]
      · have x1 : ¬ (a = o ∨ a = b) := by rintro (h | h); exact e1 h; exact e3 h.symm
        have x2 : ¬ (b = o ∨ b = a) := by rintro (h | h); exact e2 h; exact e3 h
        rw [if_neg x1, if_neg x2]
        unfold toksP linesP
        rw [t, n, joinP_sw (wovenP_ab _ _ _), joinP_sw hab, clashP_sw]

/-- The pieces, one by one: what is a clash differs, what is none never stands behind another such. -/
def Alt (l : List Pc) : Prop := ∀ k x y, l[k]? = some x → l[k + 1]? = some y → y.clash = false → x.clash = true
def LastC (l : List Pc) : Prop := ∀ p, l.getLast? = some p → p.clash = true
theorem alt_snoc {l : List Pc} {z : Pc} (h : Alt l) (hz : z.clash = true ∨ LastC l) : Alt (l ++ [z]) := by
  intro k x y hx hy hc
  rcases Nat.lt_or_ge (k + 1) l.length with hk | hk
  · rw [List.getElem?_append_left (by omega)] at hx
    rw [List.getElem?_append_left hk] at hy
    exact h k x y hx hy hc
  · have hl := (List.getElem?_eq_some_iff.1 hy).1
    rw [List.length_append, List.length_singleton] at hl
    have hk1 : k + 1 = l.length := by omega
    rw [List.getElem?_append_right hk, hk1, Nat.sub_self] at hy
    obtain rfl : z = y := by simpa using hy
    rw [List.getElem?_append_left (by omega)] at hx
    rcases hz with hz | hz
    · rw [hz] at hc; cases hc
    · refine hz x ?_
      rw [List.getLast?_eq_getElem?, ← hk1, Nat.add_sub_cancel]
      exact hx
def AltS (s : St) : Prop := Alt s.1 ∧ LastC s.1
theorem altS_fin {s : St} (h : AltS s) : Alt s.fin := by
  cases hs : s.2 with
  | none => rw [fin_nil s hs]; exact h.1
  | some q => rw [fin_cons s q hs]; exact alt_snoc h.1 (.inr h.2)
theorem altS_add {o a b : TL} {s : St} {c : L.Ck} (h : AltS s) : AltS (s.add o a b c) := by
  unfold St.add
  split
  · refine ⟨alt_snoc (altS_fin h) (.inl rfl), fun p hp => ?_⟩
    simp only at hp
    rw [List.getLast?_append] at hp
    simp at hp
    rw [← hp]
  · cases s.2 <;> exact h
theorem combP_alt (o a b : TL) : Alt (combP o a b) := by
  have : ∀ (l : List L.Ck) (s : St), AltS s → AltS (l.foldl (St.add o a b) s) := by
    intro l
    induction l with
    | nil => intro s h; exact h
    | cons c l ih => intro s h; exact ih _ (altS_add h)
  exact altS_fin (this _ ([], none) ⟨fun k x y hx => by simp at hx, fun p hp => by simp at hp⟩)
/-- Each clash comes out of a chunk. -/
def ClS (o a b : TL) (l : List Pc) : Prop := ∀ x ∈ l, x.clash = true → ∃ c ∈ L.chunksT o a b, c.kind = 4 ∧ x.a = L.slc a c.p.a c.q.a ∧ x.b = L.slc b c.p.b c.q.b
theorem cls_fin {o a b : TL} {s : St} (h : ClS o a b s.1) : ClS o a b s.fin := by
  cases hs : s.2 with
  | none => rw [fin_nil s hs]; exact h
  | some q =>
    rw [fin_cons s q hs]
    intro x hx hc
    rcases List.mem_append.1 hx with hx | hx
    · exact h x hx hc
    · obtain rfl := List.mem_singleton.1 hx
      cases hc
theorem combP_cls (o a b : TL) : ClS o a b (combP o a b) := by
  have : ∀ (l : List L.Ck) (s : St), (∀ c ∈ l, c ∈ L.chunksT o a b) → ClS o a b s.1 → ClS o a b (l.foldl (St.add o a b) s).1 := by
    intro l
    induction l with
    | nil => intro s _ h; exact h
    | cons c l ih =>
      intro s hm h
      refine ih _ (fun d hd => hm d (List.mem_cons_of_mem _ hd)) ?_
      unfold St.add
      split
      · rename_i h4
        intro x hx hc
        rcases List.mem_append.1 hx with hx | hx
        · exact cls_fin h x hx hc
        · obtain rfl := List.mem_singleton.1 hx
          exact ⟨c, hm c (by simp), h4, rfl, rfl⟩
      · cases s.2 <;> exact h
  exact cls_fin (this _ ([], none) (fun c hc => hc) (fun x hx => by simp at hx))
theorem kindT_4 {x y z : TL} (h : kindT x y z = 4) : y ≠ z := by
  rintro rfl
  unfold kindT at h
  by_cases e : x = y
  · rw [if_pos e, if_pos e] at h; exact absurd h (by decide)
  · rw [if_neg e, if_neg e, if_pos rfl] at h; exact absurd h (by decide)
/-- What holds of the parts of lines. -/
def SidesOk (l : List Pt) : Prop := (∀ (k : Nat) (p : Pt), l[k]? = some p → (p.clash = true → p.a ≠ p.b) ∧ (p.clash = false → p.a = p.b ∧ ∀ q, 0 < k → l[k - 1]? = some q → q.clash = true))
theorem linesP_sides (o a b : ByteArray) (h1 : o.size ≤ 600) (h2 : a.size ≤ 600) (h3 : b.size ≤ 600) : SidesOk (linesP o a b) := by
  have l1 : (S.lns o).length ≤ 2000 := Nat.le_trans (S.lns_len o) (by omega)
  have l2 : (S.lns a).length ≤ 2000 := Nat.le_trans (S.lns_len a) (by omega)
  have l3 : (S.lns b).length ≤ 2000 := Nat.le_trans (S.lns_len b) (by omega)
  intro k p hp
  have hmem := List.mem_of_getElem? hp
  unfold linesP wovenP at hp
  rw [List.getElem?_map] at hp
  cases hx : (combP (S.lns o) (S.lns a) (S.lns b))[k]? with
  | none => rw [hx] at hp; cases hp
  | some x =>
    rw [hx] at hp
    obtain rfl : ptOf x = p := by simpa using hp
    refine ⟨fun hc => ?_, fun hc => ⟨wovenP_ab _ _ _ _ hmem hc, fun q hk hq => ?_⟩⟩
    · have hxc : x.clash = true := hc
      obtain ⟨c, hcm, h4, ea, eb⟩ := combP_cls _ _ _ x (List.mem_of_getElem? hx) hxc
      have hk := chunksT_kind l1 l2 l3 c hcm
      obtain ⟨-, ⟨-, ca⟩, -, cb⟩ := chunksT_ok l1 l2 l3 c hcm
      rw [h4] at hk
      have hne := kindT_4 hk.symm
      intro hab
      have e : joinT x.a = joinT x.b := by
        have : (ptOf x).b = joinT x.b := by simp [ptOf, hxc]
        rw [← this]; exact hab
      rw [ea, eb] at e
      exact hne (joinT_inj (lin_slc (lin_lns a) _ _ ca) (lin_slc (lin_lns b) _ _ cb) e)
    · unfold linesP wovenP at hq
      rw [List.getElem?_map] at hq
      cases hy : (combP (S.lns o) (S.lns a) (S.lns b))[k - 1]? with
      | none => rw [hy] at hq; cases hq
      | some y =>
        rw [hy] at hq
        obtain rfl : ptOf y = q := by simpa using hq
        exact combP_alt _ _ _ (k - 1) y x hy (by rw [Nat.sub_add_cancel hk]; exact hx) hc
theorem linesP_o (o a b : ByteArray) (h1 : o.size ≤ 600) (h2 : a.size ≤ 600) (h3 : b.size ≤ 600) : sideP (linesP o a b) 0 = tl o := by
  have h := wovenP_o (o := S.lns o) (a := S.lns a) (b := S.lns b) (Nat.le_trans (S.lns_len o) (by omega)) (Nat.le_trans (S.lns_len a) (by omega)) (Nat.le_trans (S.lns_len b) (by omega))
  rw [joinT_lns] at h
  exact h
theorem side3 : ∀ l : List Pt, sideP l 3 = []
  | [] => rfl
  | p :: l => by
    have ih := side3 l
    unfold sideP at ih ⊢
    rw [List.flatMap_cons, ih]
    rfl
theorem join_ab {l : List Pt} (h : SidesOk l) (hc : clashP l = false) : sideP l 1 = sideP l 2 := by
  refine side_ab l fun p hp => ?_
  obtain ⟨k, hk⟩ := List.mem_iff_getElem?.1 hp
  exact (((h k p hk).2) (clashP_no hc p hp)).1
/-- How many parts are clashes. -/
def nCl (l : List Pt) : Nat := (l.filter Pt.clash).length
theorem nCl_0 (l : List Pt) : (nCl l = 0) ↔ clashP l = false := by
  unfold nCl clashP
  rw [List.length_eq_zero_iff, List.filter_eq_nil_iff, List.any_eq_false]
theorem nCl_le (l : List Pt) : nCl l ≤ l.length := List.length_filter_le _ _
theorem nCl_take (l : List Pt) (k : Nat) (p : Pt) (h : l[k]? = some p) : nCl (l.take (k + 1)) = nCl (l.take k) + (if p.clash then 1 else 0) := by
  unfold nCl
  rw [List.take_add_one, h, List.filter_append, List.length_append]
  cases hc : p.clash <;> simp [hc]
end Go.Proofs.YtfjmhnnjgjcmeaaGreatDoor
/-
  For the laws of weave: the document's own lines and joined texts. Condition: texts of at most 5,000,000 bytes.
-/
namespace Go.Proofs.YtfjmhnnjgjcmeaaGreatDoor
open Go.RowKit Go.Shelf
set_option linter.unusedSimpArgs false
set_option linter.unusedVariables false
namespace S
theorem below_appended {w wr w1 : World} {o : Value} {n : Nat} {xs : List Value} {tmp : Obj} (hB : Below w.heap.size w wr) (hown : wr.ownsRow w.heap.size 9 1 o n xs) (hgrow : (wr.alloc tmp).grownBy w1 o.ownBlock) : Below w.heap.size w w1 :=
  (hB.alloc hB.size tmp).grown hgrow (by have := hB.size; simp; omega) fun k e => (hown.lt k e).1
theorem cell_one_new (W : World) (x : Value) (t : TypeId) : ∀ j u, ([x] : List Value)[j]? = some u → (W.alloc (.cells #[x] t)).cell? ((⟨W.heap.size, 0, none⟩ : Addr).add j) = some u := by
  intro j u hj
  rw [add_flat, Nat.zero_add, Lib.cell_of_heap (World.alloc_heap_new W _)]
  simpa using hj
theorem byte_yes {s : ByteArray} {k : Nat} (h : k < s.size) (hb : nlB s k = true) : ((s[k].toNat : Int) == 10) = true := by
  cases h2 : ((s[k].toNat : Int) != 10) with
  | false => simpa using h2
  | true => rw [nlB_false h h2] at hb; cases hb
theorem nlB_true' {s : ByteArray} {k : Nat} (h : k < s.size) (hb : ((s[k].toNat : Int) == 10) = true) : nlB s k = true := nlB_true h (by simpa using hb)
theorem nlB_false' {s : ByteArray} {k : Nat} (h : k < s.size) (hb : ((s[k].toNat : Int) == 10) = false) : nlB s k = false := nlB_false h (by simpa using hb)
set_option maxRecDepth 100000 in
set_option maxHeartbeats 4000000 in
theorem RefSplit_any (s : ByteArray) (hs : s.size ≤ 5000000) (w : World) :
    Calls Tryz.prog 44 #[.string s] w fun e W' => ∃ v, e = .returned v ∧ L.Vals W' v ((lns s).map .string) ∧ Below w.heap.size w W' := by
  obtain ⟨i0, hi, hz0, hz1, hz2⟩ := info_parts try_info9
  go_enter Tryz.func44, Tryz.ntmps44
  go_wp2
  go_loopw [3, 4, 5] (fun o f i wr => ∃ k : Nat, k ≤ s.size ∧ i = .int .i64 k ∧ f = .int .i64 ((st s k).2 : Nat) ∧ wr.ownsRow w.heap.size 9 1 o (st s k).1.length ((st s k).1.map Value.string) ∧ Below w.heap.size w wr)
    (fun _ _ i _ => s.size - (intOf i).toNat)
  case atStart => exact ⟨0, Nat.zero_le _, rfl, rfl, World.ownsRow_nil _ _ _ _, Below.refl _ _⟩
  case round =>
    obtain ⟨k, hk, rfl, rfl, hown, hB⟩ := hrel
    have hfk := st_le s k
    have hlk := st_len s k
    by_cases hlt : k < s.size
    · by_cases hb : ((s[k].toNat : Int) == 10) = true
      · have hst := st_yes (nlB_true' hlt hb)
        have Hst := Lib.hid hst; clear hst
        go_wp2_with (at_builtin; refine wpList_append_own _ rfl _ _ 27 rfl w.heap.size 9 i0 (.string ⟨#[]⟩) 1 16 Tryz.underlying27 hi hz0 hz1 hz2 rfl (by decide) _ _ _ rfl (hown.alloc _) ⟨wr.heap.size, 0, none⟩ 1 1 [.string (s.extract (st s k).2 (k + 1))] rfl rfl (cell_one_new _ _ _) (by simp [Value.oneCell']) (by unfold maxLen; omega) (by omega) (by have := hB.size; simp; omega) ?_; intro v' w1 hown' hgrow _)
        refine ⟨⟨k + 1, by omega, by go_num, by rw [Hst.out]; go_num, by rw [Hst.out]; simpa using hown', below_appended hB hown hgrow⟩, by simp [intOf]; omega⟩
      · replace hb : ((s[k].toNat : Int) == 10) = false := by simpa using hb
        have hst := st_no (nlB_false' hlt hb)
        have Hst := Lib.hid hst; clear hst
        go_wp2
        refine ⟨⟨k + 1, by omega, by go_num, by rw [Hst.out], by rw [Hst.out]; exact hown, hB⟩, by simp [intOf]; omega⟩
    · obtain rfl : k = s.size := by omega
      by_cases hf : (st s s.size).2 < s.size
      · have hl : lns s = (st s s.size).1 ++ [s.extract (st s s.size).2 s.size] := by unfold lns; rw [if_pos hf]
        have Hl := Lib.hid hl; clear hl
        go_wp2_with (at_builtin; refine wpList_append_own _ rfl _ _ 27 rfl w.heap.size 9 i0 (.string ⟨#[]⟩) 1 16 Tryz.underlying27 hi hz0 hz1 hz2 rfl (by decide) _ _ _ rfl (hown.alloc _) ⟨wr.heap.size, 0, none⟩ 1 1 [.string (s.extract (st s s.size).2 s.size)] rfl rfl (cell_one_new _ _ _) (by simp [Value.oneCell']) (by unfold maxLen; omega) (by omega) (by have := hB.size; simp; omega) ?_; intro v' w1 hown' hgrow _)
        go_ret
        exact ⟨v', rfl, by rw [Hl.out, List.map_append]; exact L.own_vals hown', below_appended hB hown hgrow⟩
      · have hl : lns s = (st s s.size).1 := by unfold lns; rw [if_neg hf]
        have Hl := Lib.hid hl; clear hl
        go_wp2
        go_ret
        exact ⟨_, rfl, by rw [Hl.out]; exact L.own_vals hown, hB⟩
end S
/-- What is joined so far. -/
theorem joinT_take {xs : TL} {k : Nat} {x : ByteArray} (h : xs[k]? = some x) : joinT (xs.take (k + 1)) = joinT (xs.take k) ++ tl x := by
  rw [List.take_add_one, h, joinT_app]
  congr 1
  simp [joinT]
theorem joinT_take_le (xs : TL) (k : Nat) : (joinT (xs.take k)).length ≤ (joinT xs).length := by
  conv => rhs; rw [← List.take_append_drop k xs]
  rw [joinT_app, List.length_append]
  omega
set_option maxRecDepth 100000 in
set_option maxHeartbeats 2000000 in
theorem RefJoinS_any (v : Value) (xs : TL) (w : World) (h : L.Vals w v (xs.map .string)) (hlen : (joinT xs).length ≤ 140737488355328) :
    Calls Tryz.prog 67 #[v] w fun e w' => e = .returned (.string (bs (joinT xs))) ∧ w' = w := by
  obtain ⟨a, cap, rfl, hc, hm, hat⟩ := h.at
  rw [List.length_map] at hc ⊢
  unfold maxLen at hm
  obtain ⟨n, hn⟩ : ∃ n, Hid (xs.length = n) := ⟨_, Lib.hid rfl⟩
  rw [hn.out] at hc ⊢
  have Hat := Lib.hid hat
  clear hat h
  go_enter Tryz.func67, Tryz.ntmps67
  go_wp2_with fail
  go_loop [3, 4] (fun s i => ∃ k : Nat, k ≤ n ∧ i = .int .i64 k ∧ s = .string (bs (joinT (xs.take k)))) (fun _ i => n - (intOf i).toNat)
  case atStart => exact ⟨0, Nat.zero_le _, rfl, rfl⟩
  case round =>
    obtain ⟨k, hk, rfl, rfl⟩ := hrel
    rcases Nat.lt_or_ge k n with hlt | hlt
    · obtain ⟨x, hx⟩ := get_lt (l := xs) (k := k) (by rw [hn.out]; exact hlt)
      obtain ⟨b, off, rfl, hbs, e1⟩ := Hat.out k (.string x) (by rw [List.getElem?_map, hx]; rfl)
      have hst : Hid (bs (joinT (xs.take (k + 1))) = bs (joinT (xs.take k)) ++ x) := Lib.hid (by rw [joinT_take hx, bs_cat, bs_tl])
      have hsz2 : (bs (joinT (xs.take k))).size + x.size ≤ 140737488355328 := by
        have h1 := joinT_take_le xs (k + 1)
        rw [joinT_take hx, List.length_append, tl_length] at h1
        rw [bs_size]; omega
      have d1 : decide ((k : Int) < (n : Int)) = true := decide_eq_true (by omega)
      have d2 : (0 : Int) ≤ (k : Int) := by omega
      have d3 : (k : Int) < (n : Int) := by omega
      clear hx
      obtain ⟨J, hJ⟩ : ∃ J, Hid (bs (joinT (xs.take k)) = J) := ⟨_, Lib.hid rfl⟩
      rw [hJ.out] at hst hsz2 ⊢
      go_wp2_with fail
      go_round
      case rel => exact ⟨k + 1, by omega, by go_num, by rw [hst.out]⟩
      case measure => simp [intOf]; omega
    · have d1 : decide ((k : Int) < (n : Int)) = false := decide_eq_false (by omega)
      have he : xs.take k = xs := List.take_of_length_le (by rw [hn.out]; exact hlt)
      rw [he]
      go_wp2_with fail
      go_ret
      exact ⟨rfl, rfl⟩
set_option maxRecDepth 100000 in
set_option maxHeartbeats 2000000 in
theorem SameS_yes (v1 v2 : Value) (xs : TL) (w : World) (h1 : L.Vals w v1 (xs.map .string)) (h2 : L.Vals w v2 (xs.map .string)) :
    Calls Tryz.prog 20 #[v1, v2] w fun e w' => e = .returned (.bool true) ∧ Below w.heap.size w w' := by
  obtain ⟨a1, c1, rfl, hc1, hm1, hat1⟩ := h1.at
  obtain ⟨a2, c2, rfl, hc2, hm2, hat2⟩ := h2.at
  rw [List.length_map] at hc1 hc2 ⊢
  unfold maxLen at hm1 hm2
  obtain ⟨n, hn⟩ : ∃ n, Hid (xs.length = n) := ⟨_, Lib.hid rfl⟩
  rw [hn.out] at hc1 hc2 ⊢
  have Hat1 := Lib.hid hat1
  have Hat2 := Lib.hid hat2
  clear hat1 hat2 h1 h2
  go_enter Tryz.func20, Tryz.ntmps20
  go_wp2_with fail
  go_loopw [5] (fun i wr => ∃ k : Nat, k ≤ n ∧ i = .int .i64 k ∧ ∃ q, Hid (wr = w.drewN q)) (fun i _ => n + 1 - (intOf i).toNat)
  case atStart => exact ⟨0, Nat.zero_le _, rfl, 0, Lib.hid rfl⟩
  case round =>
    obtain ⟨k, hk, rfl, q, hq⟩ := hrel
    rcases Nat.lt_or_ge k n with hlt | hlt
    · obtain ⟨x, hx⟩ := get_lt (l := xs) (k := k) (by rw [hn.out]; exact hlt)
      obtain ⟨b1, o1, rfl, -, e1⟩ := Hat1.out k (.string x) (by rw [List.getElem?_map, hx]; rfl)
      obtain ⟨b2, o2, rfl, -, e2⟩ := Hat2.out k (.string x) (by rw [List.getElem?_map, hx]; rfl)
      have f1 : wr.cell? ⟨b1, o1 + k, none⟩ = some (.string x) := by rw [hq.out]; exact e1
      have f2 : wr.cell? ⟨b2, o2 + k, none⟩ = some (.string x) := by rw [hq.out]; exact e2
      have d1 : decide ((k : Int) < (n : Int)) = true := decide_eq_true (by omega)
      have d2 : (0 : Int) ≤ (k : Int) := by omega
      have d3 : (k : Int) < (n : Int) := by omega
      have d4 : (x.toList != x.toList) = false := by simp
      clear hx e1 e2
      go_wp2_with fail
      go_quiet (fail)
      go_wp2_with fail
      exact ⟨⟨k + 1, by omega, by go_num, q + nq, Lib.hid (by rw [hq.out, World.drewN_drewN])⟩, by simp [intOf]; omega⟩
    · have d1 : decide ((k : Int) < (n : Int)) = false := decide_eq_false (by omega)
      go_wp2_with fail
      go_ret
      exact ⟨rfl, by rw [hq.out]; exact below_draws (Below.refl _ _) q⟩

end Go.Proofs.YtfjmhnnjgjcmeaaGreatDoor
/-
  For the laws of weave: the document's own parts of rows of units. Condition: at most 2,000 units of at most 2,000 bytes each.
-/
namespace Go.Proofs.YtfjmhnnjgjcmeaaGreatDoor
open Go.RowKit Go.Shelf
set_option linter.unusedSimpArgs false
set_option linter.unusedVariables false

/-- The parts so far. -/
def pSt (s : St) : List Pt := s.fin.map ptOf
/-- The part of one chunk. -/
def pCk (o a b : TL) (c : L.Ck) : Pt := if c.kind = 4 then ⟨true, joinT (L.slc o c.p.o c.q.o), joinT (L.slc a c.p.a c.q.a), joinT (L.slc b c.p.b c.q.b)⟩ else ⟨false, joinT (L.slc o c.p.o c.q.o), joinT (yOf a b c), joinT (yOf a b c)⟩
/-- One part more: behind the others, or into the last. -/
theorem pSt_add {o a b : TL} {s : St} (hs : AltS s) (c : L.Ck) : (c.kind = 4 → pSt (s.add o a b c) = pSt s ++ [pCk o a b c]) ∧ (c.kind ≠ 4 →
    ((∀ p, (pSt s).getLast? = some p → p.clash = true) → pSt (s.add o a b c) = pSt s ++ [pCk o a b c]) ∧
    (∀ P x, pSt s = P ++ [x] → x.clash = false → pSt (s.add o a b c) = P ++ [⟨false, x.o ++ (pCk o a b c).o, x.a ++ (pCk o a b c).a, x.b ++ (pCk o a b c).b⟩])) := by
  refine ⟨fun h4 => ?_, fun h4 => ⟨fun hl => ?_, fun P x hP hx => ?_⟩⟩
  · unfold St.add pSt pCk
    rw [if_pos h4, if_pos h4, fin_nil _ rfl, List.map_append]
    rfl
  · cases h2 : s.2 with
    | none =>
      have e1 : s.add o a b c = (s.1, some (L.slc o c.p.o c.q.o, yOf a b c)) := by unfold St.add; rw [if_neg h4, h2]
      rw [e1]
      unfold pSt pCk
      rw [if_neg h4, fin_cons _ _ rfl, fin_nil s h2, List.map_append]
      rfl
    | some q =>
      have hbad := hl (ptOf ⟨false, q.1, q.2, []⟩) (by unfold pSt; rw [fin_cons s q h2, List.map_append]; simp)
      cases hbad
  · cases h2 : s.2 with
    | none =>
      exfalso
      have hf := hs.2
      unfold pSt at hP
      rw [fin_nil s h2] at hP
      have hlast : (s.1.map ptOf).getLast? = some x := by rw [hP]; simp
      rw [List.getLast?_map] at hlast
      cases hz : s.1.getLast? with
      | none => rw [hz] at hlast; cases hlast
      | some z =>
        rw [hz] at hlast
        have hzc := hf z hz
        have : ptOf z = x := by simpa using hlast
        rw [← this] at hx
        exact absurd (hzc.symm.trans hx) (by decide)
    | some q =>
      have e1 : s.add o a b c = (s.1, some (q.1 ++ L.slc o c.p.o c.q.o, q.2 ++ yOf a b c)) := by unfold St.add; rw [if_neg h4, h2]
      unfold pSt at hP
      rw [fin_cons s q h2, List.map_append] at hP
      obtain ⟨rfl, hxx⟩ := List.append_inj' hP rfl
      obtain rfl : ptOf ⟨false, q.1, q.2, []⟩ = x := by simpa using hxx
      rw [e1]
      unfold pSt pCk
      rw [if_neg h4, fin_cons _ _ rfl, List.map_append]
      simp only [List.map_cons, List.map_nil, ptOf, joinT_app]
      rfl
theorem altS_of (o a b : TL) (l : List L.Ck) : AltS (stOf o a b l) := by
  have : ∀ (l : List L.Ck) (s : St), AltS s → AltS (l.foldl (St.add o a b) s) := by
    intro l
    induction l with
    | nil => intro s h; exact h
    | cons c l ih => intro s h; exact ih _ (altS_add h)
  exact this l ([], none) ⟨fun k x y hx => by simp at hx, fun p hp => by simp at hp⟩
theorem stOf_take {o a b : TL} {l : List L.Ck} {k : Nat} {c : L.Ck} (h : l[k]? = some c) : stOf o a b (l.take (k + 1)) = (stOf o a b (l.take k)).add o a b c := by
  rw [List.take_add_one, h]
  exact stOf_snoc o a b _ c
/-- What the parts so far may be. -/
theorem pSt_small {o a b : TL} (l1 : o.length ≤ 2000) (l2 : a.length ≤ 2000) (l3 : b.length ≤ 2000) (m1 : ∀ s ∈ o, s.size ≤ 2000) (m2 : ∀ s ∈ a, s.size ≤ 2000) (m3 : ∀ s ∈ b, s.size ≤ 2000) (l : List L.Ck) (hl : l.length ≤ 6000) :
    ∀ p ∈ pSt (stOf o a b l), p.o.length ≤ 24000000000 ∧ p.a.length ≤ 24000000000 ∧ p.b.length ≤ 24000000000 := by
  intro p hp
  unfold pSt at hp
  obtain ⟨x, hx, rfl⟩ := List.mem_map.1 hp
  obtain ⟨h1, h2, h3⟩ := St.fin_out (stOf_out l1 l2 l3 l) x hx
  have k1 := joinT_len h1 m1 m1
  have k2 := joinT_len h2 m2 m3
  have k3 := joinT_len h3 m3 m3
  refine ⟨?_, ?_, ?_⟩
  · show (joinT x.o).length ≤ _; omega
  · show (joinT x.a).length ≤ _; omega
  · show (if x.clash then joinT x.b else joinT x.a).length ≤ _
    split <;> omega
theorem pSt_len (o a b : TL) (l : List L.Ck) : (pSt (stOf o a b l)).length ≤ 2 * l.length + 1 := by
  unfold pSt
  rw [List.length_map]
  have h1 := stOf_len' o a b l
  have : ∀ s : St, s.fin.length ≤ s.1.length + 1 := fun s => by unfold St.fin; cases s.2 <;> simp
  have h2 := this (stOf o a b l)
  omega
theorem slc_bytes {xs : TL} (h : ∀ s ∈ xs, s.size ≤ 2000) (hl : xs.length ≤ 2000) (i j : Nat) : (joinT (L.slc xs i j)).length ≤ 4000000 := by
  have h1 := joinT_len (slc_out (b := xs) i j 2000 hl) h h
  omega

theorem row7 {W : World} {g t : Nat} {a b c d e f h : Value} (r : RowAt W g t #[a, b, c, d, e, f, h]) : W.cell? ⟨g, 0, none⟩ = some a ∧ W.cell? ⟨g, 1, none⟩ = some b ∧ W.cell? ⟨g, 2, none⟩ = some c ∧ W.cell? ⟨g, 3, none⟩ = some d ∧ W.cell? ⟨g, 4, none⟩ = some e ∧ W.cell? ⟨g, 5, none⟩ = some f ∧ W.cell? ⟨g, 6, none⟩ = some h :=
  ⟨r.cell rfl, r.cell rfl, r.cell rfl, r.cell rfl, r.cell rfl, r.cell rfl, r.cell rfl⟩
theorem own_form {W : World} {base e size n : Nat} {v : Value} {xs : List Value} (h : W.ownsRow base e size v n xs) : ∃ a c, v = .slice a n c := by
  rcases h.2 with ⟨rfl, h0⟩ | ⟨g, cap, cur, rfl, _⟩
  · exact ⟨none, 0, by rw [h0]⟩
  · exact ⟨_, _, rfl⟩
theorem pv_snoc (P : List Pt) (x : Pt) : pv (P ++ [x]) = pv P ++ rowP x := by rw [pv_append]; unfold pv; simp
theorem pv_set1 (P : List Pt) (c : Bool) (x y z u : By) : (pv (P ++ [⟨c, x, y, z⟩])).set (P.length * 4 + 1) (.string (bs u)) = pv (P ++ [⟨c, u, y, z⟩]) := by
  rw [pv_snoc, pv_snoc, List.set_append, if_neg (by rw [pv_len]; omega), pv_len, Nat.add_sub_cancel_left]; rfl
theorem pv_set2 (P : List Pt) (c : Bool) (x y z u : By) : (pv (P ++ [⟨c, x, y, z⟩])).set (P.length * 4 + 2) (.string (bs u)) = pv (P ++ [⟨c, x, u, z⟩]) := by
  rw [pv_snoc, pv_snoc, List.set_append, if_neg (by rw [pv_len]; omega), pv_len, Nat.add_sub_cancel_left]; rfl
theorem pv_set3 (P : List Pt) (c : Bool) (x y z u : By) : (pv (P ++ [⟨c, x, y, z⟩])).set (P.length * 4 + 3) (.string (bs u)) = pv (P ++ [⟨c, x, y, u⟩]) := by
  rw [pv_snoc, pv_snoc, List.set_append, if_neg (by rw [pv_len]; omega), pv_len, Nat.add_sub_cancel_left]; rfl

/-- The row of parts in memory, whose last part grows; the part that is put into it. -/
structure Mg (w1 : World) (G H m cr : Nat) (P : List Pt) (Jo Jy : By) (o a b : By) (V : World) : Prop where
  own : V.ownsRow w1.heap.size 59 4 (.slice (some ⟨G, 0, none⟩) (m + 1) cr) (m + 1) (pv (P ++ [⟨false, o, a, b⟩]))
  row : RowAt V H 59 #[.bool false, .string (bs Jo), .string (bs Jy), .string (bs Jy)]
  frz : ∃ cs, RowAt V G 59 cs
  bel : Below w1.heap.size w1 V
theorem Mg.drew {w1 : World} {G H m cr : Nat} {P : List Pt} {Jo Jy o a b : By} {V : World} (h : Mg w1 G H m cr P Jo Jy o a b V) : Mg w1 G H m cr P Jo Jy o a b V.drew := ⟨h.own, h.row, h.frz, below_drew h.bel⟩
theorem Mg.at {w1 : World} {G H m cr : Nat} {P : List Pt} {Jo Jy o a b : By} {V : World} (h : Mg w1 G H m cr P Jo Jy o a b V) (hP : P.length = m) : V.cell? ⟨G, m * 4 + 1, none⟩ = some (.string (bs o)) ∧ V.cell? ⟨G, m * 4 + 2, none⟩ = some (.string (bs a)) ∧ V.cell? ⟨G, m * 4 + 3, none⟩ = some (.string (bs b)) ∧ V.frozen? ⟨G, m * 4 + 1, none⟩ = false ∧ V.frozen? ⟨G, m * 4 + 2, none⟩ = false ∧ V.frozen? ⟨G, m * 4 + 3, none⟩ = false := by
  obtain ⟨gr, cr', er, -, -, -, -, -, hcells⟩ := own_cells h.own (by omega)
  cases er
  obtain ⟨cs, hr⟩ := h.frz
  have hat : ∀ j v, (rowP ⟨false, o, a, b⟩)[j]? = some v → V.cell? ⟨G, m * 4 + j, none⟩ = some v := fun j v hj => hcells _ _ (by
    rw [pv_snoc, List.getElem?_append_right (by rw [pv_len, hP]; omega), pv_len, hP, Nat.add_sub_cancel_left]
    exact hj)
  exact ⟨hat 1 _ rfl, hat 2 _ rfl, hat 3 _ rfl, hr.frozen _, hr.frozen _, hr.frozen _⟩
theorem Mg.set1 {w1 : World} {G H m cr : Nat} {P : List Pt} {Jo Jy o a b : By} {V : World} (h : Mg w1 G H m cr P Jo Jy o a b V) (hP : P.length = m) (hG : w1.heap.size ≤ G) (hne : H ≠ G) (u : By) : Mg w1 G H m cr P Jo Jy (o ++ u) a b (V.setCell ⟨G, m * 4 + 1, none⟩ (.string (bs o ++ bs u))) := by
  obtain ⟨cs, hr⟩ := h.frz
  refine ⟨?_, h.row.other hne _ _, ⟨_, hr.set _ _⟩, h.bel.setCell (p := ⟨G, m * 4 + 1, none⟩) hG _⟩
  have k := own_store h.own (j := m * 4 + 1) (by omega) (.string (bs (o ++ u)))
  rw [← hP, pv_set1, hP, bs_cat] at k
  exact k
theorem Mg.set2 {w1 : World} {G H m cr : Nat} {P : List Pt} {Jo Jy o a b : By} {V : World} (h : Mg w1 G H m cr P Jo Jy o a b V) (hP : P.length = m) (hG : w1.heap.size ≤ G) (hne : H ≠ G) (u : By) : Mg w1 G H m cr P Jo Jy o (a ++ u) b (V.setCell ⟨G, m * 4 + 2, none⟩ (.string (bs a ++ bs u))) := by
  obtain ⟨cs, hr⟩ := h.frz
  refine ⟨?_, h.row.other hne _ _, ⟨_, hr.set _ _⟩, h.bel.setCell (p := ⟨G, m * 4 + 2, none⟩) hG _⟩
  have k := own_store h.own (j := m * 4 + 2) (by omega) (.string (bs (a ++ u)))
  rw [← hP, pv_set2, hP, bs_cat] at k
  exact k
theorem Mg.set3 {w1 : World} {G H m cr : Nat} {P : List Pt} {Jo Jy o a b : By} {V : World} (h : Mg w1 G H m cr P Jo Jy o a b V) (hP : P.length = m) (hG : w1.heap.size ≤ G) (hne : H ≠ G) (u : By) : Mg w1 G H m cr P Jo Jy o a (b ++ u) (V.setCell ⟨G, m * 4 + 3, none⟩ (.string (bs b ++ bs u))) := by
  obtain ⟨cs, hr⟩ := h.frz
  refine ⟨?_, h.row.other hne _ _, ⟨_, hr.set _ _⟩, h.bel.setCell (p := ⟨G, m * 4 + 3, none⟩) hG _⟩
  have k := own_store h.own (j := m * 4 + 3) (by omega) (.string (bs (b ++ u)))
  rw [← hP, pv_set3, hP, bs_cat] at k
  exact k

set_option maxRecDepth 100000 in
set_option maxHeartbeats 16000000 in
theorem RefParts08_any (v1 v2 v3 : Value) (o a b : TL) (w : World) (h1 : L.Vals w v1 (o.map .string)) (h2 : L.Vals w v2 (a.map .string)) (h3 : L.Vals w v3 (b.map .string)) (l1 : o.length ≤ 2000) (l2 : a.length ≤ 2000) (l3 : b.length ≤ 2000) (m1 : ∀ s ∈ o, s.size ≤ 2000) (m2 : ∀ s ∈ a, s.size ≤ 2000) (m3 : ∀ s ∈ b, s.size ≤ 2000) :
    Calls Tryz.prog 39 #[v1, v2, v3] w (Gives2 w (wovenP o a b)) := by
  have CP := Lib.hid (L.RefParts_any v1 v2 v3 o a b w h1 h2 h3 l1 l2 l3 (fun s hs => by have := m1 s hs; unfold maxLen; omega) (fun s hs => by have := m2 s hs; unfold maxLen; omega) (fun s hs => by have := m3 s hs; unfold maxLen; omega))
  have H1 := Lib.hid h1
  have H2 := Lib.hid h2
  have H3 := Lib.hid h3
  have M1 := Lib.hid (slc_bytes m1 l1)
  have M2 := Lib.hid (slc_bytes m2 l2)
  have M3 := Lib.hid (slc_bytes m3 l3)
  have HSm := Lib.hid (pSt_small l1 l2 l3 m1 m2 m3)
  have HOk := Lib.hid (chunksT_ok l1 l2 l3)
  have hCl := chunksT_len (o := o) (a := a) (b := b)
  obtain ⟨i0, hi0, hz0, hz1, hz2⟩ := info_parts infoPt
  obtain ⟨p1, k1, rfl, c1, d1, -⟩ := h1.at
  obtain ⟨p2, k2, rfl, c2, d2, -⟩ := h2.at
  obtain ⟨p3, k3, rfl, c3, d3, -⟩ := h3.at
  rw [List.length_map] at c1 c2 c3
  unfold maxLen at d1 d2 d3
  simp only [List.length_map] at CP H1 H2 H3 ⊢
  clear h1 h2 h3 m1 m2 m3
  have HL1 := Lib.hid l1
  have HL2 := Lib.hid l2
  have HL3 := Lib.hid l3
  obtain ⟨C, hC⟩ : ∃ C, Hid (L.chunksT o a b = C) := ⟨_, Lib.hid rfl⟩
  have hW : Hid (wovenP o a b = pSt (stOf o a b C)) := Lib.hid (by rw [← hC.out]; rfl)
  rw [hC.out] at CP HOk hCl
  rw [hW.out]
  obtain ⟨n, hn⟩ : ∃ n, Hid (C.length = n) := ⟨_, Lib.hid rfl⟩
  rw [hn.out] at CP hCl
  obtain ⟨z1, hz1'⟩ : ∃ z, Hid (o.length = z) := ⟨_, Lib.hid rfl⟩
  obtain ⟨z2, hz2'⟩ : ∃ z, Hid (a.length = z) := ⟨_, Lib.hid rfl⟩
  obtain ⟨z3, hz3'⟩ : ∃ z, Hid (b.length = z) := ⟨_, Lib.hid rfl⟩
  rw [hz1'.out] at CP H1 c1 l1 hCl ⊢
  rw [hz2'.out] at CP H2 c2 l2 hCl ⊢
  rw [hz3'.out] at CP H3 c3 l3 hCl ⊢
  unfold Gives2
  go_enter Tryz.func39, Tryz.ntmps39
  go_wp2_with fail
  refine CP.out.mono ?_
  rintro e w1 ⟨vc, rfl, hown, b1⟩
  have B1 := Lib.hid b1
  obtain ⟨ac, cc, rfl, hnn, hcc, hcm, hat⟩ := cks_at hown
  have Hat := Lib.hid hat
  unfold maxLen at hcm
  clear hat hown b1 hnn
  go_wp2_with fail
  go_loopw [7, 9] (fun q c wr => ∃ k : Nat, c = .int .i64 k ∧ k ≤ n ∧ Hid (wr.ownsRow w1.heap.size 59 4 q (pSt (stOf o a b (C.take k))).length (pv (pSt (stOf o a b (C.take k))))) ∧ Hid (Below w1.heap.size w1 wr)) (fun _ c _ => n - (intOf c).toNat)
  case atStart => exact ⟨0, rfl, Nat.zero_le _, Lib.hid (World.ownsRow_nil _ _ _ _), Lib.hid (Below.refl _ _)⟩
  case round =>
    obtain ⟨k, rfl, hk, hO, hB⟩ := hrel
    have hX : ∃ X, Hid (pSt (stOf o a b (C.take k)) = X) := ⟨_, Lib.hid rfl⟩
    obtain ⟨X, hX⟩ := hX
    obtain ⟨np, hnp⟩ : ∃ np, Hid (X.length = np) := ⟨_, Lib.hid rfl⟩
    rw [hX.out, hnp.out] at hO
    obtain ⟨ao, co, rfl⟩ := own_form hO.out
    have hnpl : np ≤ 12001 := by
      have h := pSt_len o a b (C.take k)
      rw [hX.out, hnp.out, List.length_take, hn.out] at h
      omega
    obtain ⟨wo, rfl⟩ : ∃ wo, wo = wr := ⟨wr, rfl⟩
    rcases Nat.lt_or_ge k n with hlt | hlt
    · obtain ⟨c, hc⟩ := get_lt (l := C) (k := k) (by rw [hn.out]; exact hlt)
      obtain ⟨gc, rfl, e0, e1, e2, e3, e4, e5, e6⟩ := Hat.out wo hB.out k c hc
      obtain ⟨⟨o1, o2⟩, ⟨a1, a2⟩, b2, b3⟩ := HOk.out c (List.mem_of_getElem? hc)
      have q1 : decide (k < n) = true := decide_eq_true hlt
      have q2 : (0 : Int) ≤ (k : Int) := by omega
      have q3 : (k : Int) < (n : Int) := by omega
      have hadd := Lib.hid (pSt_add (o := o) (a := a) (b := b) (altS_of o a b (C.take k)) c)
      have hnext := Lib.hid (stOf_take (o := o) (a := a) (b := b) hc)
      rw [hX.out] at hadd
      have hsm : Hid (∀ p ∈ X, p.o.length ≤ 24000000000 ∧ p.a.length ≤ 24000000000 ∧ p.b.length ≤ 24000000000) := Lib.hid (by
        have h := HSm.out (C.take k) (by rw [List.length_take, hn.out]; omega)
        rwa [hX.out] at h)
      clear hc
      have hbs := hB.out.size
      obtain ⟨s1, r1, j1⟩ := vals_cut (n1 := w.heap.size) H1.out (Nat.le_refl _) c.p.o c.q.o o1 o2
      obtain ⟨s2, r2, j2⟩ := vals_cut (n1 := w.heap.size) H2.out (Nat.le_refl _) c.p.a c.q.a a1 a2
      obtain ⟨s3, r3, j3⟩ := vals_cut (n1 := w.heap.size) H3.out (Nat.le_refl _) c.p.b c.q.b b2 b3
      have Bw : Hid (Below w.heap.size w wo) := Lib.hid (B1.out.trans (hB.out.mono B1.out.size))
      have J1 : Hid (∀ U, Below wo.heap.size wo U → Calls Tryz.prog 67 #[s1] U fun e w' => e = .returned (.string (bs (joinT (L.slc o c.p.o c.q.o)))) ∧ w' = U) := Lib.hid (fun U hU => RefJoinS_any s1 _ U (j1 w.heap.size U (Bw.out.trans (hU.mono Bw.out.size))).vals (by have := M1.out c.p.o c.q.o; omega))
      have J2 : Hid (∀ U, Below wo.heap.size wo U → Calls Tryz.prog 67 #[s2] U fun e w' => e = .returned (.string (bs (joinT (L.slc a c.p.a c.q.a)))) ∧ w' = U) := Lib.hid (fun U hU => RefJoinS_any s2 _ U (j2 w.heap.size U (Bw.out.trans (hU.mono Bw.out.size))).vals (by have := M2.out c.p.a c.q.a; omega))
      have J3 : Hid (∀ U, Below wo.heap.size wo U → Calls Tryz.prog 67 #[s3] U fun e w' => e = .returned (.string (bs (joinT (L.slc b c.p.b c.q.b)))) ∧ w' = U) := Lib.hid (fun U hU => RefJoinS_any s3 _ U (j3 w.heap.size U (Bw.out.trans (hU.mono Bw.out.size))).vals (by have := M3.out c.p.b c.q.b; omega))
      have S1 := M1.out c.p.o c.q.o
      have S2 := M2.out c.p.a c.q.a
      have S3 := M3.out c.p.b c.q.b
      have hck : Hid (pCk o a b c = if c.kind = 4 then ⟨true, joinT (L.slc o c.p.o c.q.o), joinT (L.slc a c.p.a c.q.a), joinT (L.slc b c.p.b c.q.b)⟩ else ⟨false, joinT (L.slc o c.p.o c.q.o), joinT (if c.kind = 2 then L.slc b c.p.b c.q.b else L.slc a c.p.a c.q.a), joinT (if c.kind = 2 then L.slc b c.p.b c.q.b else L.slc a c.p.a c.q.a)⟩) := Lib.hid rfl
      obtain ⟨Jo, hJo⟩ : ∃ J, Hid (joinT (L.slc o c.p.o c.q.o) = J) := ⟨_, Lib.hid rfl⟩
      obtain ⟨Ja, hJa⟩ : ∃ J, Hid (joinT (L.slc a c.p.a c.q.a) = J) := ⟨_, Lib.hid rfl⟩
      obtain ⟨Jb, hJb⟩ : ∃ J, Hid (joinT (L.slc b c.p.b c.q.b) = J) := ⟨_, Lib.hid rfl⟩
      have hck2 : Hid (pCk o a b c = if c.kind = 4 then ⟨true, Jo, Ja, Jb⟩ else ⟨false, Jo, if c.kind = 2 then Jb else Ja, if c.kind = 2 then Jb else Ja⟩) := Lib.hid (by
        rw [hck.out, hJo.out, hJa.out, hJb.out]
        by_cases h2 : c.kind = 2
        · simp only [if_pos h2, hJb.out]
        · simp only [if_neg h2, hJa.out])
      rw [hJo.out] at J1 S1
      rw [hJa.out] at J2 S2
      rw [hJb.out] at J3 S3
      clear hck hJo hJa hJb j1 j2 j3 o1 o2 a1 a2 b2 b3
      obtain ⟨kd, hkd⟩ : ∃ kd, Hid (c.kind = kd) := ⟨_, Lib.hid rfl⟩
      rw [hkd.out] at e0 hck2 hadd
      obtain ⟨W2, hW2⟩ : ∃ W2, Hid ((wo.alloc (.cells #[.int .i64 kd, .int .i64 (c.p.o : Nat), .int .i64 (c.q.o : Nat), .int .i64 (c.p.a : Nat), .int .i64 (c.q.a : Nat), .int .i64 (c.p.b : Nat), .int .i64 (c.q.b : Nat)] 96)).alloc (.cells #[.bool (kd == 4), .string ⟨#[]⟩, .string ⟨#[]⟩, .string ⟨#[]⟩] 59) = W2) := ⟨_, Lib.hid rfl⟩
      have R10 : RowAt W2 wo.heap.size 96 #[.int .i64 kd, .int .i64 (c.p.o : Nat), .int .i64 (c.q.o : Nat), .int .i64 (c.p.a : Nat), .int .i64 (c.q.a : Nat), .int .i64 (c.p.b : Nat), .int .i64 (c.q.b : Nat)] := by rw [← hW2.out]; exact (RowAt.new wo 96 _).alloc _
      have R11 : RowAt W2 (wo.heap.size + 1) 59 #[.bool (kd == 4), .string ⟨#[]⟩, .string ⟨#[]⟩, .string ⟨#[]⟩] := by
        rw [← hW2.out]
        have h := RowAt.new (wo.alloc (.cells #[.int .i64 kd, .int .i64 (c.p.o : Nat), .int .i64 (c.q.o : Nat), .int .i64 (c.p.a : Nat), .int .i64 (c.q.a : Nat), .int .i64 (c.p.b : Nat), .int .i64 (c.q.b : Nat)] 96)) 59 #[.bool (kd == 4), .string ⟨#[]⟩, .string ⟨#[]⟩, .string ⟨#[]⟩]
        rwa [World.size_alloc] at h
      have BW2 : Hid (Below wo.heap.size wo W2) := Lib.hid (by rw [← hW2.out]; exact ((Below.refl _ wo).alloc (Nat.le_refl _) _).alloc (by simp) _)
      go_wp2_with fail
      rw [hW2.out]
      clear hW2 e0 e1 e2 e3 e4 e5 e6
      have hne : wo.heap.size ≠ wo.heap.size + 1 := by omega
      refine (J1.out W2 BW2.out).mono ?_
      rintro e w3 ⟨rfl, rfl⟩
      obtain ⟨W3, hW3⟩ : ∃ V, Hid (w3.setCell ⟨wo.heap.size + 1, 1, none⟩ (.string (bs Jo)) = V) := ⟨_, Lib.hid rfl⟩
      have R20 := R10.other hne 1 (.string (bs Jo))
      rw [hW3.out] at R20
      have R21 : RowAt W3 (wo.heap.size + 1) 59 #[.bool (kd == 4), .string (bs Jo), .string ⟨#[]⟩, .string ⟨#[]⟩] := by rw [← hW3.out]; exact R11.set 1 _
      have BW3 : Hid (Below wo.heap.size wo W3) := Lib.hid (by rw [← hW3.out]; exact BW2.out.setCell (p := ⟨wo.heap.size + 1, 1, none⟩) (by simp) _)
      obtain ⟨y0, y1, y2, y3, f0, f1, f2, f3⟩ := row4 R11
      obtain ⟨x0, x1, x2, x3, x4, x5, x6⟩ := row7 R20
      go_upto_region 9 with fail
      rw [hW3.out]
      clear hW3 y0 y1 y2 y3 f0 f1 f2 f3 R10 R11 BW2
      go_wp2_with fail
      refine (J2.out W3 BW3.out).mono ?_
      rintro e w4 ⟨rfl, rfl⟩
      obtain ⟨W4, hW4⟩ : ∃ V, Hid (w4.setCell ⟨wo.heap.size + 1, 2, none⟩ (.string (bs Ja)) = V) := ⟨_, Lib.hid rfl⟩
      have R30 := R20.other hne 2 (.string (bs Ja))
      rw [hW4.out] at R30
      have R31 : RowAt W4 (wo.heap.size + 1) 59 #[.bool (kd == 4), .string (bs Jo), .string (bs Ja), .string ⟨#[]⟩] := by rw [← hW4.out]; exact R21.set 2 _
      have BW4 : Hid (Below wo.heap.size wo W4) := Lib.hid (by rw [← hW4.out]; exact BW3.out.setCell (p := ⟨wo.heap.size + 1, 2, none⟩) (by simp) _)
      obtain ⟨y0, y1, y2, y3, f0, f1, f2, f3⟩ := row4 R21
      go_upto_region 10 with fail
      rw [hW4.out]
      clear hW4 y0 y1 y2 y3 f0 f1 f2 f3 R20 R21 BW3 x0 x1 x2 x3 x4 x5 x6
      obtain ⟨x0, x1, x2, x3, x4, x5, x6⟩ := row7 R30
      go_wp2_with fail
      refine (J3.out W4 BW4.out).mono ?_
      rintro e w5 ⟨rfl, rfl⟩
      obtain ⟨W5, hW5⟩ : ∃ V, Hid (w5.setCell ⟨wo.heap.size + 1, 3, none⟩ (.string (bs Jb)) = V) := ⟨_, Lib.hid rfl⟩
      have R40 := R30.other hne 3 (.string (bs Jb))
      rw [hW5.out] at R40
      have R41 : RowAt W5 (wo.heap.size + 1) 59 #[.bool (kd == 4), .string (bs Jo), .string (bs Ja), .string (bs Jb)] := by rw [← hW5.out]; exact R31.set 3 _
      have BW5 : Hid (Below wo.heap.size wo W5) := Lib.hid (by rw [← hW5.out]; exact BW4.out.setCell (p := ⟨wo.heap.size + 1, 3, none⟩) (by simp) _)
      obtain ⟨y0, y1, y2, y3, f0, f1, f2, f3⟩ := row4 R31
      go_upto_region 11 with fail
      rw [hW5.out]
      clear hW5 y0 y1 y2 y3 f0 f1 f2 f3 R30 R31 BW4 x0 x1 x2 x3 x4 x5 x6
      obtain ⟨x0, -, -, -, -, -, -⟩ := row7 R40
      obtain ⟨y0, y1, y2, y3, f0, f1, f2, f3⟩ := row4 R41
      obtain ⟨b2, hb2⟩ : ∃ b2, (kd == 2) = b2 := ⟨_, rfl⟩
      have HR41 := Lib.hid R41
      clear R41 R40
      obtain ⟨Jy, hJy⟩ : ∃ J, Hid ((if kd = 2 then Jb else Ja) = J) := ⟨_, Lib.hid rfl⟩
      have hck3 : Hid (pCk o a b c = if kd = 4 then ⟨true, Jo, Jy, Jb⟩ else ⟨false, Jo, Jy, Jy⟩) := Lib.hid (by
        rw [hck2.out, ← hJy.out]
        by_cases h4 : kd = 4
        · rw [if_pos h4, if_pos h4, if_neg (by omega)]
        · rw [if_neg h4, if_neg h4])
      have Sy : Jy.length ≤ 4000000 := by rw [← hJy.out]; split <;> omega
      go_upto_if 63 with fail
      go_cut [] from 64 to 66 (fun wx => Hid (Below wo.heap.size wo wx ∧ RowAt wx (wo.heap.size + 1) 59 #[.bool (kd == 4), .string (bs Jo), .string (bs Jy), .string (bs Jb)]))
      case first =>
        cases b2 with
        | true =>
          have h2 : kd = 2 := eq_of_beq hb2
          have Hf : Hid (Below wo.heap.size wo (W5.setCell ⟨wo.heap.size + 1, 2, none⟩ (.string (bs Jb))) ∧ RowAt (W5.setCell ⟨wo.heap.size + 1, 2, none⟩ (.string (bs Jb))) (wo.heap.size + 1) 59 #[.bool (kd == 4), .string (bs Jo), .string (bs Jy), .string (bs Jb)]) := Lib.hid ⟨BW5.out.setCell (p := ⟨wo.heap.size + 1, 2, none⟩) (by simp) _, by
            rw [← hJy.out, if_pos h2]
            exact HR41.out.set 2 _⟩
          clear h2
          go_wp2_with fail
          go_meet
          exact Hf
        | false =>
          have h2 : ¬ kd = 2 := fun h => by rw [h] at hb2; cases hb2
          have Hf : Hid (Below wo.heap.size wo W5 ∧ RowAt W5 (wo.heap.size + 1) 59 #[.bool (kd == 4), .string (bs Jo), .string (bs Jy), .string (bs Jb)]) := Lib.hid ⟨BW5.out, by
            rw [← hJy.out, if_neg h2]
            exact HR41.out⟩
          clear h2
          go_wp2_with fail
          go_meet
          exact Hf
      case rest =>
      clear x0 y0 y1 y2 y3 f0 f1 f2 f3 HR41 BW5 hb2
      obtain ⟨W6, rfl⟩ : ∃ V, V = wc := ⟨_, rfl⟩
      obtain ⟨BW6, R6⟩ := hcut.out
      have HBW6 := Lib.hid BW6
      clear hcut BW6
      obtain ⟨kb, hkb⟩ : ∃ kb, (kd == 4) = kb := ⟨_, rfl⟩
      rw [hkb] at R6
      obtain ⟨y0, y1, y2, y3, f0, f1, f2, f3⟩ := row4 R6
      cases kb with
      | true =>
        have h4 : kd = 4 := eq_of_beq hkb
        have HX2 : Hid (pSt ((stOf o a b (C.take k)).add o a b c) = X ++ [⟨true, Jo, Jy, Jb⟩]) := Lib.hid (by rw [hadd.out.1 h4, hck3.out, if_pos h4])
        clear h4
        have RX := R6
        clear R6
        obtain ⟨u0, u1, u2, u3, -, -, -, -⟩ := row4 RX
        have Own8 := Lib.hid ((own_below hO.out HBW6.out).alloc (.cells #[.bool true, .string (bs Jo), .string (bs Jy), .string (bs Jb)] 59))
        have hsz7 : w1.heap.size ≤ W6.heap.size := Nat.le_trans hbs HBW6.out.size
        clear RX
        go_wp2_with (at_builtin; refine wpList_append_own _ rfl _ _ 24 rfl w1.heap.size 59 i0 _ 4 56 Tryz.underlying24 hi0 hz0 hz1 hz2 rfl (by decide) _ np _ rfl Own8.out ⟨W6.heap.size, 0, none⟩ 1 1 [.bool true, .string (bs Jo), .string (bs Jy), .string (bs Jb)] rfl rfl (pt_new W6 _ _ _ _) (pt_one _ _ _ _) (by unfold maxLen; omega) (by omega) (by simp; omega) ?_; intro v' w8 hown' hgrow _)
        have hnew : Below w1.heap.size w1 w8 := ((hB.out.trans (HBW6.out.mono hbs)).alloc hsz7 _).grown hgrow (by simp; omega) (fun j e => (hO.out.lt j e).1)
        have HNew := Lib.hid hnew
        have Hf : Hid (w8.ownsRow w1.heap.size 59 4 v' (pSt (stOf o a b (C.take (k + 1)))).length (pv (pSt (stOf o a b (C.take (k + 1)))))) := Lib.hid (by
          rw [hnext.out, HX2.out, List.length_append, hnp.out, pv_snoc]
          exact hown')
        clear hown' hgrow hnew
        exact ⟨⟨k + 1, by go_num, by omega, Hf, HNew⟩, by simp [intOf]; omega⟩
      | false =>
        have h4 : ¬ kd = 4 := fun h => by rw [h] at hkb; cases hkb
        have hadd2 := Lib.hid (hadd.out.2 h4)
        have hck4 : Hid (pCk o a b c = ⟨false, Jo, Jy, Jy⟩) := Lib.hid (by rw [hck3.out, if_neg h4])
        clear h4
        obtain ⟨W7, hW7⟩ : ∃ V, Hid (W6.setCell ⟨wo.heap.size + 1, 3, none⟩ (.string (bs Jy)) = V) := ⟨_, Lib.hid rfl⟩
        have R7 : RowAt W7 (wo.heap.size + 1) 59 #[.bool false, .string (bs Jo), .string (bs Jy), .string (bs Jy)] := by rw [← hW7.out]; exact R6.set 3 _
        have BW7 : Hid (Below wo.heap.size wo W7) := Lib.hid (by rw [← hW7.out]; exact HBW6.out.setCell (p := ⟨wo.heap.size + 1, 3, none⟩) (by simp) _)
        go_upto_region 16 with fail
        rw [hW7.out]
        clear hW7 y0 y1 y2 y3 f0 f1 f2 f3 R6 HBW6
        rcases Nat.eq_zero_or_pos np with hz | hpos
        · have g0 : decide (0 < np) = false := decide_eq_false (by omega)
          have g1 : decide ((np : Int) > 0) = false := decide_eq_false (by omega)
          have HX2 : Hid (pSt ((stOf o a b (C.take k)).add o a b c) = X ++ [⟨false, Jo, Jy, Jy⟩]) := Lib.hid (by
            rw [hadd2.out.1 (fun p hp => by rw [List.eq_nil_of_length_eq_zero (hnp.out.trans hz)] at hp; cases hp), hck4.out])
          clear hz
          have RX := R7
          clear R7
          obtain ⟨u0, u1, u2, u3, -, -, -, -⟩ := row4 RX
          have Own8 := Lib.hid ((own_below hO.out BW7.out).alloc (.cells #[.bool false, .string (bs Jo), .string (bs Jy), .string (bs Jy)] 59))
          have hsz7 : w1.heap.size ≤ W7.heap.size := Nat.le_trans hbs BW7.out.size
          clear RX
          go_wp2_with (at_builtin; refine wpList_append_own _ rfl _ _ 24 rfl w1.heap.size 59 i0 _ 4 56 Tryz.underlying24 hi0 hz0 hz1 hz2 rfl (by decide) _ np _ rfl Own8.out ⟨W7.heap.size, 0, none⟩ 1 1 [.bool false, .string (bs Jo), .string (bs Jy), .string (bs Jy)] rfl rfl (pt_new W7 _ _ _ _) (pt_one _ _ _ _) (by unfold maxLen; omega) (by omega) (by simp; omega) ?_; intro v' w8 hown' hgrow _)
          have hnew : Below w1.heap.size w1 w8 := ((hB.out.trans (BW7.out.mono hbs)).alloc hsz7 _).grown hgrow (by simp; omega) (fun j e => (hO.out.lt j e).1)
          have HNew := Lib.hid hnew
          have Hf : Hid (w8.ownsRow w1.heap.size 59 4 v' (pSt (stOf o a b (C.take (k + 1)))).length (pv (pSt (stOf o a b (C.take (k + 1)))))) := Lib.hid (by
            rw [hnext.out, HX2.out, List.length_append, hnp.out, pv_snoc]
            exact hown')
          clear hown' hgrow hnew
          exact ⟨⟨k + 1, by go_num, by omega, Hf, HNew⟩, by simp [intOf]; omega⟩
        · obtain ⟨P, x, hPx⟩ : ∃ P x, X = P ++ [x] := by
            have hne : X ≠ [] := fun h => by rw [h] at hnp; have := hnp.out; simp at this; omega
            exact ⟨_, _, (List.dropLast_concat_getLast hne).symm⟩
          have hPn : P.length + 1 = np := by have h := hnp.out; rw [hPx, List.length_append] at h; simpa using h
          obtain ⟨m, hm⟩ : ∃ m, Hid (P.length = m) := ⟨_, Lib.hid rfl⟩
          rw [hm.out] at hPn
          subst hPn
          rw [hPx] at hO hsm
          obtain ⟨gr, cr, er, hgr1, hgr2, -, hcr, ⟨csr, hrr⟩, hcells⟩ := own_cells hO.out (by omega)
          cases er
          unfold maxLen at hcr
          obtain ⟨xc, xo, xa, xb⟩ := x
          have hat : ∀ j v, (rowP ⟨xc, xo, xa, xb⟩)[j]? = some v → wo.cell? ⟨gr, m * 4 + j, none⟩ = some v := fun j v hj => hcells _ _ (by
            rw [pv_snoc, List.getElem?_append_right (by rw [pv_len, hm.out]; omega), pv_len, hm.out, Nat.add_sub_cancel_left]
            exact hj)
          have t0 : W7.cell? ⟨gr, m * 4, none⟩ = some (.bool xc) := (BW7.out.cell (p := ⟨gr, m * 4, none⟩) hgr2).trans (hat 0 _ rfl)
          have t1 : W7.cell? ⟨gr, m * 4 + 1, none⟩ = some (.string (bs xo)) := (BW7.out.cell (p := ⟨gr, m * 4 + 1, none⟩) hgr2).trans (hat 1 _ rfl)
          have t2 : W7.cell? ⟨gr, m * 4 + 2, none⟩ = some (.string (bs xa)) := (BW7.out.cell (p := ⟨gr, m * 4 + 2, none⟩) hgr2).trans (hat 2 _ rfl)
          have t3 : W7.cell? ⟨gr, m * 4 + 3, none⟩ = some (.string (bs xb)) := (BW7.out.cell (p := ⟨gr, m * 4 + 3, none⟩) hgr2).trans (hat 3 _ rfl)
          have HRR : Hid (RowAt W7 gr 59 csr) := Lib.hid (hrr.later (BW7.out.mono (Nat.le_refl _)))
          have g0 : decide (0 < m + 1) = true := decide_eq_true (by omega)
          have g2 : IntKind.i64.wrap ((m : Int) + 1 - 1) = (m : Int) := by rw [Int.add_sub_cancel]; exact Go.IntWalk.i64_in _ (by omega)
          have g3 : (m : Int) < (m : Int) + 1 := by omega
          clear hat hcells hrr hpos
          cases xc with
          | true =>
            have HX2 : Hid (pSt ((stOf o a b (C.take k)).add o a b c) = X ++ [⟨false, Jo, Jy, Jy⟩]) := Lib.hid (by
              rw [hadd2.out.1 (fun p hp => by rw [hPx] at hp; simp at hp; rw [← hp]), hck4.out])
            clear t1 t2 t3 HRR
            have RX := R7
            clear R7
            obtain ⟨u0, u1, u2, u3, -, -, -, -⟩ := row4 RX
            have Own8 := Lib.hid ((own_below hO.out BW7.out).alloc (.cells #[.bool false, .string (bs Jo), .string (bs Jy), .string (bs Jy)] 59))
            have hsz7 : w1.heap.size ≤ W7.heap.size := Nat.le_trans hbs BW7.out.size
            clear RX
            go_wp2_with (at_builtin; refine wpList_append_own _ rfl _ _ 24 rfl w1.heap.size 59 i0 _ 4 56 Tryz.underlying24 hi0 hz0 hz1 hz2 rfl (by decide) _ (m + 1) _ rfl Own8.out ⟨W7.heap.size, 0, none⟩ 1 1 [.bool false, .string (bs Jo), .string (bs Jy), .string (bs Jy)] rfl rfl (pt_new W7 _ _ _ _) (pt_one _ _ _ _) (by unfold maxLen; omega) (by omega) (by simp; omega) ?_; intro v' w8 hown' hgrow _)
            have hnew : Below w1.heap.size w1 w8 := ((hB.out.trans (BW7.out.mono hbs)).alloc hsz7 _).grown hgrow (by simp; omega) (fun j e => (hO.out.lt j e).1)
            have HNew := Lib.hid hnew
            have Hf : Hid (w8.ownsRow w1.heap.size 59 4 v' (pSt (stOf o a b (C.take (k + 1)))).length (pv (pSt (stOf o a b (C.take (k + 1)))))) := Lib.hid (by
              rw [hnext.out, HX2.out, List.length_append, hnp.out, pv_snoc, hPx]
              exact hown')
            clear hown' hgrow hnew
            exact ⟨⟨k + 1, by go_num, by omega, Hf, HNew⟩, by simp [intOf]; omega⟩
          | false =>
            have HX2 : Hid (pSt ((stOf o a b (C.take k)).add o a b c) = P ++ [⟨false, xo ++ Jo, xa ++ Jy, xb ++ Jy⟩]) := Lib.hid (by
              rw [hadd2.out.2 P ⟨false, xo, xa, xb⟩ hPx rfl, hck4.out])
            obtain ⟨zo, za, zb⟩ := hsm.out ⟨false, xo, xa, xb⟩ (by simp)
            dsimp only at zo za zb
            have hneg : wo.heap.size + 1 ≠ gr := by omega
            have MA : Hid (Mg w1 gr (wo.heap.size + 1) m co P Jo Jy xo xa xb W7) := Lib.hid ⟨own_below hO.out BW7.out, R7, ⟨_, HRR.out⟩, hB.out.trans (BW7.out.mono hbs)⟩
            clear R7 HRR BW7 hadd hadd2 t1 t2 t3
            go_upto_region 17 with fail
            clear t0
            have q0 : (0 : Int) ≤ (m : Int) := by omega
            obtain ⟨u0, u1, u2, u3, -, -, -, -⟩ := row4 MA.out.row
            obtain ⟨t1, t2, t3, f1, f2, f3⟩ := MA.out.at hm.out
            have zt : ¬ ((9223372036854775807 : Int) < ((bs xo).size : Int) + ((bs Jo).size : Int)) := by rw [bs_size, bs_size]; omega
            have zv : ¬ ((9223372036854775807 : Int) < (xo.length : Int) + (Jo.length : Int)) := by omega
            obtain ⟨W8, hW8⟩ : ∃ V, Hid ((W7.setCell ⟨gr, m * 4 + 1, none⟩ (.string (bs xo ++ bs Jo))).drew = V) := ⟨_, Lib.hid rfl⟩
            have MB : Hid (Mg w1 gr (wo.heap.size + 1) m co P Jo Jy (xo ++ Jo) xa xb W8) := Lib.hid (by rw [← hW8.out]; exact (MA.out.set1 hm.out hgr1 hneg Jo).drew)
            go_region
            rw [hW8.out]
            clear u0 u1 u2 u3 t1 t2 t3 f1 f2 f3 zt zv hW8 MA
            go_wp2_with fail
            obtain ⟨u0, u1, u2, u3, -, -, -, -⟩ := row4 MB.out.row
            obtain ⟨t1, t2, t3, f1, f2, f3⟩ := MB.out.at hm.out
            have zt : ¬ ((9223372036854775807 : Int) < ((bs xa).size : Int) + ((bs Jy).size : Int)) := by rw [bs_size, bs_size]; omega
            have zv : ¬ ((9223372036854775807 : Int) < (xa.length : Int) + (Jy.length : Int)) := by omega
            obtain ⟨W9, hW9⟩ : ∃ V, Hid ((W8.setCell ⟨gr, m * 4 + 2, none⟩ (.string (bs xa ++ bs Jy))).drew = V) := ⟨_, Lib.hid rfl⟩
            have MC : Hid (Mg w1 gr (wo.heap.size + 1) m co P Jo Jy (xo ++ Jo) (xa ++ Jy) xb W9) := Lib.hid (by rw [← hW9.out]; exact (MB.out.set2 hm.out hgr1 hneg Jy).drew)
            go_region
            rw [hW9.out]
            clear u0 u1 u2 u3 t1 t2 t3 f1 f2 f3 zt zv hW9 MB
            go_wp2_with fail
            obtain ⟨u0, u1, u2, u3, -, -, -, -⟩ := row4 MC.out.row
            obtain ⟨t1, t2, t3, f1, f2, f3⟩ := MC.out.at hm.out
            have zt : ¬ ((9223372036854775807 : Int) < ((bs xb).size : Int) + ((bs Jy).size : Int)) := by rw [bs_size, bs_size]; omega
            have zv : ¬ ((9223372036854775807 : Int) < (xb.length : Int) + (Jy.length : Int)) := by omega
            obtain ⟨W10, hW10⟩ : ∃ V, Hid ((W9.setCell ⟨gr, m * 4 + 3, none⟩ (.string (bs xb ++ bs Jy))).drew = V) := ⟨_, Lib.hid rfl⟩
            have MD : Hid (Mg w1 gr (wo.heap.size + 1) m co P Jo Jy (xo ++ Jo) (xa ++ Jy) (xb ++ Jy) W10) := Lib.hid (by rw [← hW10.out]; exact (MC.out.set3 hm.out hgr1 hneg Jy).drew)
            go_region
            rw [hW10.out]
            clear u0 u1 u2 u3 t1 t2 t3 f1 f2 f3 zt zv hW10 MC
            have Hf : Hid (W10.ownsRow w1.heap.size 59 4 (.slice (some ⟨gr, 0, none⟩) (m + 1) co) (pSt (stOf o a b (C.take (k + 1)))).length (pv (pSt (stOf o a b (C.take (k + 1)))))) := Lib.hid (by
              rw [hnext.out, HX2.out, List.length_append, hm.out]
              exact MD.out.own)
            have Hb := Lib.hid MD.out.bel
            go_wp2_with fail
            exact ⟨⟨k + 1, by go_num, by omega, Hf, Hb⟩, by simp [intOf]; omega⟩
    · have q1 : decide (k < n) = false := decide_eq_false (by omega)
      have hO2 := hO.out
      rw [← hX.out, List.take_of_length_le (by rw [hn.out]; exact hlt)] at hO2
      have Hf : Hid (Prts wo (.slice ao np co) (pSt (stOf o a b C))) := Lib.hid (own_prts hO2)
      have Hb : Hid (Below w.heap.size w wo) := Lib.hid (B1.out.trans (hB.out.mono B1.out.size))
      clear hO2
      go_wp2_with fail
      go_ret
      exact ⟨_, rfl, Hf.out, Hb.out⟩

end Go.Proofs.YtfjmhnnjgjcmeaaGreatDoor
/-
  For the laws of weave: the document's own units of a text. Condition: at most 1,000,000 bytes.
-/
namespace Go.Proofs.YtfjmhnnjgjcmeaaGreatDoor
open Go.RowKit Go.Shelf
set_option linter.unusedSimpArgs false
set_option linter.unusedVariables false
set_option maxRecDepth 100000 in
set_option maxHeartbeats 8000000 in
theorem RefUnits_any (s : ByteArray) (w : World) (hs : s.size ≤ 1000000) : Calls Tryz.prog 14 #[.string s] w (UnitGives w (unitsP (tl s)).1 (unitsP (tl s)).2) := by
  have C1 := Lib.hid (X.RefLex_any s w (by omega))
  obtain ⟨⟨T, p, er⟩, hT⟩ : ∃ q, Hid (X.lexR 0 (tl s) = q) := ⟨_, Lib.hid rfl⟩
  have hTl : T.length ≤ 1000001 := by
    have := lexR_len _ (tl s) 0 (Nat.le_refl _)
    rw [hT.out, tl_length] at this
    simp only at this
    omega
  obtain ⟨⟨us, ub⟩, hU⟩ : ∃ q, Hid (unitsP (tl s) = q) := ⟨_, Lib.hid rfl⟩
  rw [hU.out]
  dsimp only
  have C2 : Hid (Calls Tryz.prog 40 #[.string s] w fun e w' => (∃ v, e = .returned (.tuple #[v, .int .i64 (p : Nat), .int .i64 er]) ∧ X.Toks w' v T) ∧ Below w.heap.size w w') := Lib.hid (by
    have h := C1.out
    unfold X.LexGives at h
    rw [show X.tl s = tl s from rfl, hT.out] at h
    exact h)
  clear C1
  obtain ⟨i0, hi0, hz0, hz1, hz2⟩ := info_parts infoStr
  unfold UnitGives
  by_cases her : er = 0
  · subst her
    have hu2 : Hid (us = T.map unitT ∧ ub = true) := Lib.hid (by
      have h := hU.out
      unfold unitsP at h
      rw [hT.out] at h
      simp only [if_true] at h
      exact ⟨(congrArg Prod.fst h).symm, (congrArg Prod.snd h).symm⟩)
    obtain ⟨n, hn⟩ : ∃ n, Hid (T.length = n) := ⟨_, Lib.hid rfl⟩
    rw [hn.out] at hTl
    go_enter Tryz.func14, Tryz.ntmps14
    go_wp2_with fail
    refine C2.out.mono ?_
    rintro e w1 ⟨⟨v, rfl, ht⟩, b1⟩
    obtain ⟨a, cap, rfl, hc, hm, hx⟩ := toks_at ht
    rw [hn.out] at hc ⊢
    unfold maxLen at hm
    have HX := Lib.hid hx
    have B1 := Lib.hid b1
    clear hx ht b1
    go_wp2_with fail
    go_loopw [7, 8] (fun o c wr => ∃ k : Nat, c = .int .i64 k ∧ k ≤ n ∧ Hid (wr.ownsRow w1.heap.size 9 1 o k ((T.take k).map fun t => Value.string (unitT t))) ∧ Hid (Below w1.heap.size w1 wr)) (fun _ c _ => n - (intOf c).toNat)
    case atStart => exact ⟨0, rfl, Nat.zero_le _, Lib.hid (World.ownsRow_nil _ _ _ _), Lib.hid (Below.refl _ _)⟩
    case round =>
      obtain ⟨k, rfl, hk, hO, hB⟩ := hrel
      obtain ⟨ao, no, co, rfl⟩ := own_slice hO.out
      rcases Nat.lt_or_ge k n with hlt | hlt
      · obtain ⟨t, ht⟩ := get_lt (l := T) (k := k) (by rw [hn.out]; exact hlt)
        obtain ⟨b, off, rfl, c0, c1, c2, c3⟩ := HX.out wr hB.out k t ht
        have d1 : decide (k < n) = true := decide_eq_true hlt
        have d2 : (0 : Int) ≤ (k : Int) := by omega
        have d3 : (k : Int) < (n : Int) := by omega
        have hnx : Hid ((T.take (k + 1)).map (fun t => Value.string (unitT t)) = (T.take k).map (fun t => Value.string (unitT t)) ++ [.string (X.bs t.lead ++ X.bs t.text)]) := Lib.hid (by
          rw [List.take_add_one, ht, List.map_append]
          simp only [Option.toList_some, List.map_cons, List.map_nil]
          congr 3)
        have hsz : Hid (k + 1 ≤ 1000001) := Lib.hid (by omega)
        have hle : (X.bs t.lead).size + (X.bs t.text).size ≤ 1000000 := by
          have h := lexR_mem _ (tl s) 0 (Nat.le_refl _) t (by rw [hT.out]; exact List.mem_of_getElem? ht)
          rw [tl_length] at h
          rw [X.bs_size, X.bs_size]
          omega
        have Ht := Lib.hid ht
        clear ht
        have hbs := hB.out.size
        have Hl : Hid (∀ W', Below w1.heap.size w1 W' → W'.cell? ⟨b, off + k * 4 + 3, none⟩ = some (.string (X.bs t.lead)) ∧ W'.cell? ⟨b, off + k * 4 + 1, none⟩ = some (.string (X.bs t.text))) := Lib.hid (fun W' hb => by
          obtain ⟨b', off', e, x0, x1, x2, x3⟩ := HX.out W' hb k t (Ht.out)
          cases e
          exact ⟨x3, x1⟩)
        have z1 : ¬ ((9223372036854775807 : Int) < ((X.bs t.lead).size : Int) + ((X.bs t.text).size : Int)) := by omega
        have z2 : ((X.bs t.lead).size : Int) + ((X.bs t.text).size : Int) ≤ 9223372036854775807 := by omega
        have z3 : ¬ ((((X.bs t.lead).size + (X.bs t.text).size : Nat) : Int) > IntKind.i64.max) := by show ¬ (_ > (9223372036854775807 : Int)); omega
        have z4 : ¬ ((9223372036854775807 : Int) < (t.lead.length : Int) + (t.text.length : Int)) := by rw [X.bs_size, X.bs_size] at z1; exact z1
        go_wp2_with fail
        go_region_held_law (fun W => W.cell? ⟨b, off + k * 4 + 3, none⟩ = some (.string (X.bs t.lead)) ∧ W.cell? ⟨b, off + k * 4 + 1, none⟩ = some (.string (X.bs t.text)))
          (first | go_keep | exact Hl.out _ HB2.out)
          ((refine step_append_lies _ (by rfl) _ _ _ (by rfl) w1.heap.size 9 i0 _ 1 16 Tryz.underlying27 hi0 hz0 hz1 hz2 rfl (by decide) _ k _ (by rfl) (hO.out.alloc _) ⟨wr.heap.size, 0, none⟩ 1 1 [.string (X.bs t.lead ++ X.bs t.text)] (by rfl) rfl (S.cell_one_new wr _ 9) (by simp [Value.oneCell']) (by omega) (by unfold maxLen; omega) (by omega) (by simp; omega) (wr.heap.size + 1) (by simp) ?_; intro g cap' w2 hown' hgrow _ _; have HB2 : Hid (Below w1.heap.size w1 w2) := by first | exact Lib.hid (Below.grown (hB.out.alloc hbs _) hgrow (by simp; omega) (fun k hk => (hO.out.lt k hk).1)) | exact Lib.hid (Below.grown (below_draws (hB.out.alloc hbs _) _) hgrow (by simp; omega) (fun k hk => (hO.out.lt k hk).1)) | exact Lib.hid (Below.grown ((below_draws hB.out _).alloc hbs _) hgrow (by simp; omega) (fun k hk => (hO.out.lt k hk).1)) | (trace_state; fail)))
        have hnew : Hid (w2.ownsRow w1.heap.size 9 1 (.slice (some ⟨g, 0, none⟩) (k + 1) cap') (k + 1) ((T.take (k + 1)).map fun t => Value.string (unitT t))) := Lib.hid (by rw [hnx.out]; exact hown')
        clear hown' hgrow hO hB
        go_wp2_with fail
        exact ⟨⟨k + 1, by go_num, by omega, hnew, HB2⟩, by simp [intOf]; omega⟩
      · have d1 : decide (k < n) = false := decide_eq_false (by omega)
        obtain rfl : k = n := by omega
        have hO2 := hO.out
        rw [List.take_of_length_le (by rw [hn.out]; exact Nat.le_refl _)] at hO2
        have Hf : Hid (L.Vals wr (.slice ao no co) (us.map .string)) := Lib.hid (by
          rw [hu2.out.1, List.map_map]
          exact own_vals' hO2 (Below.refl _ _))
        have Hb : Hid (Below w.heap.size w wr) := Lib.hid (B1.out.trans (hB.out.mono B1.out.size))
        clear hO2
        go_wp2_with fail
        go_ret2
        exact ⟨_, by rw [hu2.out.2]; rfl, Hf.out, Hb.out⟩
  · have f0 : (er != 0) = true := by simpa using her
    have hu2 : Hid (us = [] ∧ ub = false) := Lib.hid (by
      have h := hU.out
      unfold unitsP at h
      rw [hT.out] at h
      simp only [if_neg her] at h
      exact ⟨(congrArg Prod.fst h).symm, (congrArg Prod.snd h).symm⟩)
    clear her
    go_enter Tryz.func14, Tryz.ntmps14
    go_wp2_with fail
    refine C2.out.mono ?_
    rintro e w1 ⟨⟨v, rfl, ht⟩, b1⟩
    obtain ⟨a, cap, rfl, -⟩ := ht
    have B1 := Lib.hid b1
    clear b1
    go_wp2_with fail
    go_ret2
    exact ⟨_, by rw [hu2.out.2]; rfl, by rw [hu2.out.1]; exact L.vals_nil _, B1.out⟩
end Go.Proofs.YtfjmhnnjgjcmeaaGreatDoor
