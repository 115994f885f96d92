/-
  For the laws of weave: the lines of a text, by its bytes; no program. No condition.
-/
import Derived.Test.YtfjmhnnjgjcmeaaDoorSEach
import Derived.Test.YtfjmhnnjgjcmeaaDoorWn
import Derived.Test.YtfjmhnnjgjcmeaaDoorWq
namespace Go.Proofs.YtfjmhnnjgjcmeaaDoor.S
open Go.RowKit
set_option linter.unusedSimpArgs false
set_option linter.unusedVariables false

/-- The lines of acc ++ l, acc having no newline. -/
def lgo : List UInt8 → List UInt8 → List (List UInt8)
  | acc, [] => if acc = [] then [] else [acc]
  | acc, c :: r => if c = 10 then (acc ++ [c]) :: lgo [] r else lgo (acc ++ [c]) r

theorem lgo_flatten : ∀ (l acc : List UInt8), (lgo acc l).flatten = acc ++ l
  | [], acc => by unfold lgo; split <;> simp_all
  | c :: r, acc => by
    unfold lgo
    split
    · simp [lgo_flatten r []]
    · rw [lgo_flatten r (acc ++ [c])]; simp

/-- A line: some bytes that are no newlines, and one more. -/
def isLine (x : List UInt8) : Prop := x ≠ [] ∧ ∀ k, k + 1 < x.length → x[k]?.getD 0 ≠ 10

theorem isLine_snoc {acc : List UInt8} {c : UInt8} (h : ∀ y ∈ acc, y ≠ 10) : isLine (acc ++ [c]) := by
  refine ⟨by simp, fun k hk => ?_⟩
  simp at hk
  rw [List.getElem?_append_left (by omega), List.getElem?_eq_getElem (by omega)]
  exact h _ (List.getElem_mem _)
theorem isLine_acc {acc : List UInt8} (h0 : acc ≠ []) (h : ∀ y ∈ acc, y ≠ 10) : isLine acc := by
  refine ⟨h0, fun k hk => ?_⟩
  rw [List.getElem?_eq_getElem (by omega)]
  exact h _ (List.getElem_mem _)

theorem lgo_lines : ∀ (l acc : List UInt8), (∀ y ∈ acc, y ≠ 10) → ∀ x ∈ lgo acc l, isLine x
  | [], acc, h, x, hx => by
    unfold lgo at hx
    split at hx
    · simp at hx
    · simp at hx; subst hx; exact isLine_acc (by assumption) h
  | c :: r, acc, h, x, hx => by
    unfold lgo at hx
    split at hx
    · rcases List.mem_cons.1 hx with rfl | hx
      · exact isLine_snoc h
      · exact lgo_lines r [] (by simp) x hx
    · exact lgo_lines r (acc ++ [c]) (by intro y hy; rcases List.mem_append.1 hy with hy | hy; exact h y hy; simp at hy; subst hy; assumption) x hx

theorem lgo_ends : ∀ (l acc : List UInt8) (j : Nat) (x : List UInt8), (lgo acc l)[j]? = some x → j + 1 < (lgo acc l).length → x.getLast? = some 10
  | [], acc, j, x, hx, hl => by
    unfold lgo at hl
    split at hl <;> simp at hl
  | c :: r, acc, j, x, hx, hl => by
    unfold lgo at hx hl
    split at hx
    · rename_i hc
      rw [if_pos hc] at hl
      match j, hx with
      | 0, hx => simp at hx; subst hx; simp [hc]
      | j + 1, hx =>
        simp at hx hl
        exact lgo_ends r [] j x hx hl
    · rename_i hc
      rw [if_neg hc] at hl
      exact lgo_ends r (acc ++ [c]) j x hx hl

/-- Behind a newline the lines begin anew. -/
theorem lgo_append : ∀ (l r acc : List UInt8), (l = [] ∧ acc = [] ∨ l.getLast? = some 10) → lgo acc (l ++ r) = lgo acc l ++ lgo [] r
  | [], r, acc, h => by
    rcases h with ⟨_, h⟩ | h
    · subst h; simp [lgo]
    · simp at h
  | c :: l, r, acc, h => by
    have h' : c = 10 ∧ l = [] ∨ l.getLast? = some 10 := by
      rcases h with ⟨h, _⟩ | h
      · cases h
      · cases l with
        | nil => simp at h; exact .inl ⟨h, rfl⟩
        | cons d l => rw [List.getLast?_cons_cons] at h; exact .inr h
    by_cases hc : c = 10
    · simp only [List.cons_append, lgo, if_pos hc]
      rw [lgo_append l r [] (by rcases h' with ⟨_, h⟩ | h; exact .inl ⟨h, rfl⟩; exact .inr h)]
    · simp only [List.cons_append, lgo, if_neg hc]
      exact lgo_append l r (acc ++ [c]) (by rcases h' with ⟨h, _⟩ | h; exact absurd h hc; exact .inr h)

/-- One newline more ends the last line. -/
theorem lgo_snoc : ∀ (l acc : List UInt8), (l = [] ∧ acc ≠ [] ∨ ∃ c, l.getLast? = some c ∧ c ≠ 10) → (lgo acc (l ++ [10])).length = (lgo acc l).length
  | [], acc, h => by
    rcases h with ⟨_, h⟩ | ⟨c, h, _⟩
    · simp [lgo, h]
    · simp at h
  | c :: l, acc, h => by
    have h' : c ≠ 10 ∧ l = [] ∨ ∃ d, l.getLast? = some d ∧ d ≠ 10 := by
      rcases h with ⟨h, _⟩ | ⟨d, h, hd⟩
      · cases h
      · cases l with
        | nil => simp at h; subst h; exact .inl ⟨hd, rfl⟩
        | cons e l => rw [List.getLast?_cons_cons] at h; exact .inr ⟨d, h, hd⟩
    by_cases hc : c = 10
    · simp only [List.cons_append, lgo, if_pos hc, List.length_cons]
      rw [lgo_snoc l [] (by rcases h' with ⟨h, _⟩ | h; exact absurd hc h; exact .inr h)]
    · simp only [List.cons_append, lgo, if_neg hc]
      exact lgo_snoc l (acc ++ [c]) (by rcases h' with ⟨_, h⟩ | h; exact .inl ⟨h, by simp⟩; exact .inr h)

theorem nlB_get {s : ByteArray} {k : Nat} (h : k < s.size) : nlB s k = decide (s.data.toList[k]'(by simpa using h) = 10) := by
  unfold nlB
  rw [Array.getElem?_eq_getElem (by simpa using h)]
  simp [Bool.beq_eq_decide_eq]

theorem extract_list (s : ByteArray) (a b : Nat) : (s.extract a b).data.toList = (s.data.toList.take b).drop a := by
  simp [ByteArray.data_extract, List.extract_eq_take_drop, List.drop_take]

theorem st_lgo (s : ByteArray) : ∀ k, k ≤ s.size → lgo [] s.data.toList = (st s k).1.map (·.data.toList) ++ lgo ((s.data.toList.take k).drop (st s k).2) (s.data.toList.drop k)
  | 0, _ => by simp [st]
  | k + 1, hk => by
    have ih := st_lgo s k (by omega)
    have hle := st_le s k
    have hlen : k < s.data.toList.length := by simp; omega
    have hd : s.data.toList.drop k = s.data.toList[k] :: s.data.toList.drop (k + 1) := List.drop_eq_getElem_cons hlen
    have ht : (s.data.toList.take (k + 1)).drop (st s k).2 = (s.data.toList.take k).drop (st s k).2 ++ [s.data.toList[k]] := by
      rw [← List.take_append_getElem hlen, List.drop_append_of_le_length (by rw [List.length_take]; omega)]
    rw [ih, hd]
    cases h : nlB s k with
    | true =>
      have hc : s.data.toList[k] = 10 := by rw [nlB_get (by omega)] at h; simpa using h
      rw [st_yes h]
      simp only [lgo, if_pos hc, List.map_append, List.map_cons, List.map_nil, extract_list, ht, List.append_assoc, List.cons_append, List.nil_append]
      rw [show List.drop (k + 1) (List.take (k + 1) s.data.toList) = [] from List.drop_eq_nil_of_le (by rw [List.length_take]; omega)]
    | false =>
      have hc : ¬ s.data.toList[k] = 10 := by rw [nlB_get (by omega)] at h; simpa using h
      rw [st_no h, ht]
      simp only [lgo, if_neg hc]

theorem lns_lgo (s : ByteArray) : (lns s).map (·.data.toList) = lgo [] s.data.toList := by
  have h := st_lgo s s.size (Nat.le_refl _)
  have hle := st_le s s.size
  have hz : s.data.toList.length = s.size := by simp
  rw [h, show List.drop s.size s.data.toList = [] from List.drop_eq_nil_of_le (by omega)]
  unfold lns
  by_cases hf : (st s s.size).2 < s.size
  · rw [if_pos hf]
    have hne : (s.data.toList.take s.size).drop (st s s.size).2 ≠ [] := by
      intro e
      have := congrArg List.length e
      rw [List.length_drop, List.length_take] at this
      simp at this
      omega
    simp only [lgo, if_neg hne, List.map_append, List.map_cons, List.map_nil, extract_list]
  · rw [if_neg hf, show List.drop (st s s.size).2 (List.take s.size s.data.toList) = [] from List.drop_eq_nil_of_le (by rw [List.length_take]; omega)]
    simp [lgo]

theorem lns_isLine {s x : ByteArray} (h : x ∈ lns s) : isLine x.data.toList :=
  lgo_lines s.data.toList [] (by simp) _ (by rw [← lns_lgo]; exact List.mem_map_of_mem h)
theorem lns_ends {s x : ByteArray} {j : Nat} (h : (lns s)[j]? = some x) (hj : j + 1 < (lns s).length) : x.data.toList.getLast? = some 10 :=
  lgo_ends s.data.toList [] j _ (by rw [← lns_lgo, List.getElem?_map, h]; rfl) (by rw [← lns_lgo, List.length_map]; exact hj)
end Go.Proofs.YtfjmhnnjgjcmeaaDoor.S
/-
  For the laws of weave: rows of lines and their texts; the numbers that texts have. No condition.
-/
namespace Go.Proofs.YtfjmhnnjgjcmeaaDoor
set_option linter.unusedSimpArgs false
set_option linter.unusedVariables false
namespace L
/-- Numbers of texts, by the last list of known ones. -/
theorem known_prefix (L : List (List UInt8)) (ss : List ByteArray) : L <+: knownBy L ss := by
  induction ss generalizing L with
  | nil => exact List.prefix_refl _
  | cons s ss ih =>
    refine List.IsPrefix.trans ?_ (ih (numStep L s))
    unfold numStep
    split
    · exact List.prefix_refl _
    · exact List.prefix_append _ _
theorem idx_prefix {L K : List (List UInt8)} {x : List UInt8} (h : L <+: K) (hx : x ∈ L) : K.idxOf x = L.idxOf x := by
  obtain ⟨t, rfl⟩ := h
  rw [List.idxOf_append, if_pos hx]
theorem mem_step (L : List (List UInt8)) (s : ByteArray) : wd s ∈ numStep L s := by
  unfold numStep
  split <;> simp_all
theorem idx_step (L : List (List UInt8)) (s : ByteArray) : (numStep L s).idxOf (wd s) = L.idxOf (wd s) := by
  unfold numStep
  split
  · rfl
  · rename_i h
    rw [List.idxOf_append, if_neg h, List.idxOf_eq_length h]
    simp
theorem numRow_last : ∀ (ss : List ByteArray) (L K : List (List UInt8)), knownBy L ss <+: K → numRow L ss = ss.map (fun s => (K.idxOf (wd s) : Int))
  | [], _, _, _ => rfl
  | s :: ss, L, K, h => by
    have h' : knownBy (numStep L s) ss <+: K := h
    rw [numRow, numRow_last ss (numStep L s) K h', List.map_cons]
    rw [idx_prefix ((known_prefix (numStep L s) ss).trans h') (mem_step L s), idx_step]
theorem known_mem : ∀ (ss : List ByteArray) (L : List (List UInt8)) (s : ByteArray), s ∈ ss → wd s ∈ knownBy L ss
  | x :: ss, L, s, h => by
    rcases List.mem_cons.1 h with rfl | h
    · exact (known_prefix (numStep L s) ss).subset (mem_step L s)
    · exact known_mem ss (numStep L x) s h
theorem wd_inj {s t : ByteArray} (h : wd s = wd t) : s = t := by
  cases s; cases t
  simp [wd] at h
  rw [h]
theorem idx_inj {K : List (List UInt8)} {x y : List UInt8} (hx : x ∈ K) (hy : y ∈ K) (h : K.idxOf x = K.idxOf y) : x = y := by
  have h1 := List.getElem_idxOf (List.idxOf_lt_length_of_mem hx)
  have h2 := List.getElem_idxOf (List.idxOf_lt_length_of_mem hy)
  rw [← h1, ← h2]
  simp only [h]
end L

theorem joinT_lns (s : ByteArray) : joinT (S.lns s) = tl s := by
  unfold joinT
  rw [show (S.lns s).map tl = S.lgo [] (tl s) from S.lns_lgo s, S.lgo_flatten]
  rfl
/-- A row of lines: each but the last ends with a newline. -/
def Lin (xs : TL) : Prop := ∀ j x, xs[j]? = some x → S.isLine (tl x) ∧ (j + 1 < xs.length → (tl x).getLast? = some 10)
theorem lin_lns (s : ByteArray) : Lin (S.lns s) := fun j x h => ⟨S.lns_isLine (List.mem_of_getElem? h), fun hj => S.lns_ends h hj⟩
theorem lin_slc {xs : TL} (h : Lin xs) (i j : Nat) (hj : j ≤ xs.length) : Lin (L.slc xs i j) := by
  intro k x hk
  have hl := (List.getElem?_eq_some_iff.1 hk).1
  have hlen : (L.slc xs i j).length = j - i := slc_len hj
  rw [hlen] at hl
  unfold L.slc at hk
  rw [List.getElem?_take_of_lt (by omega), List.getElem?_drop] at hk
  obtain ⟨h1, h2⟩ := h _ _ hk
  exact ⟨h1, fun hh => h2 (by omega)⟩
theorem lin_tail {x : ByteArray} {xs : TL} (h : Lin (x :: xs)) : Lin xs := fun j y hy => by
  obtain ⟨h1, h2⟩ := h (j + 1) y (by simpa using hy)
  exact ⟨h1, fun hh => h2 (by simpa using hh)⟩
theorem lgo_line : ∀ (x acc : List UInt8), x ≠ [] → (∀ k, k + 1 < x.length → x[k]?.getD 0 ≠ 10) → S.lgo acc x = [acc ++ x]
  | [], _, h, _ => absurd rfl h
  | [c], acc, _, _ => by
    unfold S.lgo
    split
    · simp [S.lgo]
    · unfold S.lgo; simp
  | c :: d :: r, acc, _, h => by
    have hc : c ≠ 10 := by simpa using h 0 (by simp)
    unfold S.lgo
    rw [if_neg hc, lgo_line (d :: r) (acc ++ [c]) (by simp) (fun k hk => by simpa using h (k + 1) (by simpa using hk))]
    simp
theorem lin_lgo : ∀ xs : TL, Lin xs → S.lgo [] (joinT xs) = xs.map tl
  | [], _ => by simp [joinT, S.lgo]
  | [x], h => by
    obtain ⟨h1, -⟩ := h 0 x rfl
    have e : joinT [x] = tl x := by simp [joinT]
    rw [e, lgo_line _ _ h1.1 h1.2]
    rfl
  | x :: y :: r, h => by
    obtain ⟨h1, h2⟩ := h 0 x rfl
    have e : joinT (x :: y :: r) = tl x ++ joinT (y :: r) := rfl
    rw [e, S.lgo_append _ _ _ (.inr (h2 (by simp))), lgo_line _ _ h1.1 h1.2, lin_lgo (y :: r) (lin_tail h)]
    rfl
theorem map_bs_tl (xs : TL) : (xs.map tl).map bs = xs := by
  rw [List.map_map, show bs ∘ tl = id from funext bs_tl, List.map_id]
theorem joinT_inj {xs ys : TL} (h1 : Lin xs) (h2 : Lin ys) (h : joinT xs = joinT ys) : xs = ys := by
  rw [← map_bs_tl xs, ← map_bs_tl ys, ← lin_lgo xs h1, ← lin_lgo ys h2, h]

/-- The number of a text. -/
def nm (K : List (List UInt8)) (s : ByteArray) : Int := (K.idxOf (tl s) : Int)
def lastK (o a b : TL) : List (List UInt8) := L.knownBy (L.knownBy (L.knownBy [] o) a) b
theorem num3_nm (o a b : TL) : L.num3 o a b = (o.map (nm (lastK o a b)), a.map (nm (lastK o a b)), b.map (nm (lastK o a b))) := by
  have e1 := L.numRow_last o [] (lastK o a b) ((L.known_prefix _ _).trans (L.known_prefix _ _))
  have e2 := L.numRow_last a (L.knownBy [] o) (lastK o a b) (L.known_prefix _ _)
  have e3 := L.numRow_last b (L.knownBy (L.knownBy [] o) a) (lastK o a b) (List.prefix_refl _)
  unfold L.num3
  rw [e1, e2, e3]
  rfl
/-- Texts of one of three rows. -/
def Of3 (o a b : TL) (s : ByteArray) : Prop := s ∈ o ∨ s ∈ a ∨ s ∈ b
theorem lastK_mem {o a b : TL} {s : ByteArray} (h : Of3 o a b s) : tl s ∈ lastK o a b := by
  rcases h with h | h | h
  · exact ((L.known_prefix _ _).trans (L.known_prefix _ _)).subset (L.known_mem o [] s h)
  · exact (L.known_prefix _ _).subset (L.known_mem a _ s h)
  · exact L.known_mem b _ s h
/-- Numbers that tell such texts apart. -/
def On (P : ByteArray → Prop) (f : ByteArray → Int) : Prop := ∀ s t, P s → P t → f s = f t → s = t
theorem nm_on (o a b : TL) : On (Of3 o a b) (nm (lastK o a b)) := by
  intro s t hs ht h
  unfold nm at h
  have e := L.idx_inj (lastK_mem hs) (lastK_mem ht) (by omega)
  rw [← bs_tl s, ← bs_tl t, e]
theorem map_on {P : ByteArray → Prop} {f : ByteArray → Int} (hf : On P f) : ∀ x y : TL, (∀ s ∈ x, P s) → (∀ s ∈ y, P s) → (x.map f = y.map f ↔ x = y)
  | [], [], _, _ => by simp
  | [], t :: y, _, _ => by simp
  | s :: x, [], _, _ => by simp
  | s :: x, t :: y, hx, hy => by
    have ih := map_on hf x y (fun u hu => hx u (List.mem_cons_of_mem _ hu)) (fun u hu => hy u (List.mem_cons_of_mem _ hu))
    rw [List.map_cons, List.map_cons, List.cons.injEq, List.cons.injEq, ih]
    exact ⟨fun h => ⟨hf s t (hx s (by simp)) (hy t (by simp)) h.1, h.2⟩, fun h => ⟨by rw [h.1], h.2⟩⟩
theorem lc_map {P : ByteArray → Prop} {f g : ByteArray → Int} (hf : On P f) (hg : On P g) : ∀ x y : TL, (∀ s ∈ x, P s) → (∀ s ∈ y, P s) → L.lc (x.map f) (y.map f) = L.lc (x.map g) (y.map g)
  | [], y, _, _ => by simp [L.lc_nil_left]
  | s :: x, [], _, _ => by simp [L.lc_nil_right]
  | s :: x, t :: y, hx, hy => by
    have hx' : ∀ u ∈ x, P u := fun u hu => hx u (List.mem_cons_of_mem _ hu)
    have hy' : ∀ u ∈ y, P u := fun u hu => hy u (List.mem_cons_of_mem _ hu)
    by_cases e : s = t
    · subst e
      have := lc_map hf hg x y hx' hy'
      simp only [List.map_cons]
      rw [L.lc_same, L.lc_same, this]
    · have e1 : f s ≠ f t := fun h => e (hf s t (hx s (by simp)) (hy t (by simp)) h)
      have e2 : g s ≠ g t := fun h => e (hg s t (hx s (by simp)) (hy t (by simp)) h)
      have i1 := lc_map hf hg x (t :: y) hx' hy
      have i2 := lc_map hf hg (s :: x) y hx hy'
      simp only [List.map_cons] at i1 i2 ⊢
      rw [L.lc_diff e1, L.lc_diff e2, i1, i2]
termination_by x y => x.length + y.length
theorem gm_map {P : ByteArray → Prop} {f g : ByteArray → Int} (hf : On P f) (hg : On P g) : ∀ (x y : TL) (k : Int), (∀ s ∈ x, P s) → (∀ s ∈ y, P s) → L.gm (x.map f) (y.map f) k = L.gm (x.map g) (y.map g) k
  | [], y, k, _, _ => by simp [L.gm]
  | s :: x, [], k, _, _ => by rw [List.map_nil, List.map_nil, L.gm_nil_right, L.gm_nil_right, List.length_map, List.length_map]
  | s :: x, t :: y, k, hx, hy => by
    have hx' : ∀ u ∈ x, P u := fun u hu => hx u (List.mem_cons_of_mem _ hu)
    have hy' : ∀ u ∈ y, P u := fun u hu => hy u (List.mem_cons_of_mem _ hu)
    by_cases e : s = t
    · subst e
      have := gm_map hf hg x y (k + 1) hx' hy'
      simp only [List.map_cons]
      rw [L.gm_same, L.gm_same, this]
    · have e1 : f s ≠ f t := fun h => e (hf s t (hx s (by simp)) (hy t (by simp)) h)
      have e2 : g s ≠ g t := fun h => e (hg s t (hx s (by simp)) (hy t (by simp)) h)
      have l1 := lc_map hf hg x (t :: y) hx' hy
      have l2 := lc_map hf hg (s :: x) y hx hy'
      have i1 := gm_map hf hg x (t :: y) k hx' hy
      have i2 := gm_map hf hg (s :: x) y (k + 1) hx hy'
      simp only [List.map_cons] at i1 i2 l1 l2 ⊢
      by_cases hl : L.lc (f s :: x.map f) (y.map f) ≤ L.lc (x.map f) (f t :: y.map f)
      · rw [L.gm_skip e1 _ _ _ hl, L.gm_skip e2 _ _ _ (by rw [← l1, ← l2]; exact hl), i1]
      · rw [L.gm_next e1 _ _ _ hl, L.gm_next e2 _ _ _ (by rw [← l1, ← l2]; exact hl), i2]
termination_by x y => x.length + y.length
theorem match_map {P : ByteArray → Prop} {f g : ByteArray → Int} (hf : On P f) (hg : On P g) {x y : TL} (l1 : x.length ≤ 2000) (l2 : y.length ≤ 2000) (hx : ∀ s ∈ x, P s) (hy : ∀ s ∈ y, P s) : L.matchOf (x.map f) (y.map f) = L.matchOf (x.map g) (y.map g) := by
  unfold L.matchOf
  rw [if_neg (by rw [List.length_map, List.length_map]; omega), if_neg (by rw [List.length_map, List.length_map]; omega)]
  exact gm_map hf hg x y 0 hx hy

/-- The kind of a chunk, by its texts. -/
def kindT (x y z : TL) : Int := if x = y then (if x = z then 0 else 2) else if x = z then 1 else if y = z then 3 else 4
theorem slc_map {α β : Type} (f : α → β) (xs : List α) (i j : Nat) : L.slc (xs.map f) i j = (L.slc xs i j).map f := by unfold L.slc; rw [List.map_take, List.map_drop]
theorem slc_mem {α : Type} {xs : List α} {i j : Nat} {s : α} (h : s ∈ L.slc xs i j) : s ∈ xs := List.mem_of_mem_drop (List.mem_of_mem_take h)
theorem kind_map {P : ByteArray → Prop} {f : ByteArray → Int} (hf : On P f) {x y z : TL} (hx : ∀ s ∈ x, P s) (hy : ∀ s ∈ y, P s) (hz : ∀ s ∈ z, P s) : L.kindN (x.map f) (y.map f) (z.map f) = kindT x y z := by
  unfold L.kindN kindT
  simp only [map_on hf x y hx hy, map_on hf x z hx hz, map_on hf y z hy hz]
def ckT (o a b : TL) (c : L.P3 × L.P3) : L.Ck := ⟨kindT (L.slc o c.1.o c.2.o) (L.slc a c.1.a c.2.a) (L.slc b c.1.b c.2.b), c.1, c.2⟩
/-- The match of two rows of texts. -/
def mT (x y : TL) : List Int := L.matchOf (x.map (nm (lastK x y []))) (y.map (nm (lastK x y [])))
theorem on_mono {P Q : ByteArray → Prop} {f : ByteArray → Int} (h : On P f) (k : ∀ s, Q s → P s) : On Q f := fun s t hs ht => h s t (k s hs) (k t ht)
theorem chunksT_eq {o a b : TL} (l1 : o.length ≤ 2000) (l2 : a.length ≤ 2000) (l3 : b.length ≤ 2000) : L.chunksT o a b = (L.cutsAt (mT o a) (mT o b) ⟨o.length, a.length, b.length⟩ ⟨0, 0, 0⟩).map (ckT o a b) := by
  have hf := nm_on o a b
  have m1 : L.matchOf (o.map (nm (lastK o a b))) (a.map (nm (lastK o a b))) = mT o a :=
    match_map (P := Of3 o a []) (on_mono hf (fun s hs => by rcases hs with h | h | h; exact .inl h; exact .inr (.inl h); cases h)) (nm_on o a []) l1 l2 (fun s h => .inl h) (fun s h => .inr (.inl h))
  have m2 : L.matchOf (o.map (nm (lastK o a b))) (b.map (nm (lastK o a b))) = mT o b :=
    match_map (P := Of3 o b []) (on_mono hf (fun s hs => by rcases hs with h | h | h; exact .inl h; exact .inr (.inr h); cases h)) (nm_on o b []) l1 l3 (fun s h => .inl h) (fun s h => .inr (.inl h))
  unfold L.chunksT L.chunksOf
  rw [num3_nm]
  simp only [List.length_map]
  rw [m1, m2]
  apply List.map_congr_left
  intro c hc
  unfold L.ckOf ckT
  rw [slc_map, slc_map, slc_map, kind_map hf (fun s h => .inl (slc_mem h)) (fun s h => .inr (.inl (slc_mem h))) (fun s h => .inr (.inr (slc_mem h)))]
theorem chunksT_kind {o a b : TL} (l1 : o.length ≤ 2000) (l2 : a.length ≤ 2000) (l3 : b.length ≤ 2000) : ∀ c ∈ L.chunksT o a b, c.kind = kindT (L.slc o c.p.o c.q.o) (L.slc a c.p.a c.q.a) (L.slc b c.p.b c.q.b) := by
  rw [chunksT_eq l1 l2 l3]
  intro c hc
  obtain ⟨d, -, rfl⟩ := List.mem_map.1 hc
  rfl
end Go.Proofs.YtfjmhnnjgjcmeaaDoor
/-
  For the laws of weave: turned about; what the parts of lines are. Condition: at most 2,000 units a row.
-/
namespace Go.Proofs.YtfjmhnnjgjcmeaaDoor
set_option linter.unusedSimpArgs false
set_option linter.unusedVariables false

def P3.sw (p : L.P3) : L.P3 := ⟨p.o, p.b, p.a⟩
theorem sw_eq {p q : L.P3} : P3.sw p = P3.sw q ↔ p = q := by
  cases p; cases q
  simp only [P3.sw, L.P3.mk.injEq]
  exact ⟨fun h => ⟨h.1, h.2.2, h.2.1⟩, fun h => ⟨h.1, h.2.2, h.2.1⟩⟩
theorem stab_sw : ∀ (M R : List Int) (a b : Nat), L.stab R M b a = L.stab M R a b
  | l :: M, r :: R, a, b => by
    have := stab_sw M R (a + 1) (b + 1)
    unfold L.stab
    rw [this]
    by_cases h : l = a ∧ r = b
    · rw [if_pos h, if_pos ⟨h.2, h.1⟩]
    · rw [if_neg h, if_neg (fun k => h ⟨k.2, k.1⟩)]
  | [], [], _, _ => by simp [L.stab]
  | [], _ :: _, _, _ => by simp [L.stab]
  | _ :: _, [], _, _ => by simp [L.stab]
theorem uns_sw : ∀ (M R : List Int) (i : Nat), L.uns R M i = (L.uns M R i).map P3.sw
  | l :: M, r :: R, i => by
    have := uns_sw M R (i + 1)
    unfold L.uns
    by_cases h : 0 ≤ l ∧ 0 ≤ r
    · rw [if_pos h, if_pos ⟨h.2, h.1⟩]; rfl
    · rw [if_neg h, if_neg (fun k => h ⟨k.2, k.1⟩)]; exact this
  | [], [], _ => by simp [L.uns]
  | [], _ :: _, _ => by simp [L.uns]
  | _ :: _, [], _ => by simp [L.uns]
theorem nxt_sw (M R : List Int) (E p : L.P3) : L.nxt R M (P3.sw E) (P3.sw p) = P3.sw (L.nxt M R E p) := by
  unfold L.nxt
  rw [show (P3.sw p).o = p.o from rfl, show (P3.sw p).a = p.b from rfl, show (P3.sw p).b = p.a from rfl, stab_sw, uns_sw]
  split
  · cases L.uns (M.drop p.o) (R.drop p.o) p.o <;> rfl
  · rfl
theorem cuts_sw (M R : List Int) (E : L.P3) : ∀ (n : Nat) (p : L.P3), L.cuts R M (P3.sw E) n (P3.sw p) = (L.cuts M R E n p).map (fun c => (P3.sw c.1, P3.sw c.2))
  | 0, p => by simp [L.cuts]
  | n + 1, p => by
    unfold L.cuts
    by_cases h : p = E
    · rw [if_pos h, if_pos (sw_eq.2 h)]; rfl
    · rw [if_neg h, if_neg (fun k => h (sw_eq.1 k)), nxt_sw, cuts_sw M R E n]; rfl
theorem cutsAt_sw (M R : List Int) (E p : L.P3) : L.cutsAt R M (P3.sw E) (P3.sw p) = (L.cutsAt M R E p).map (fun c => (P3.sw c.1, P3.sw c.2)) := by
  unfold L.cutsAt
  have e : ∀ q : L.P3, (P3.sw q).sum = q.sum := fun q => by unfold L.P3.sum P3.sw; simp only; omega
  rw [e, e]
  exact cuts_sw M R E _ p
def tk (k : Int) : Int := if k = 1 then 2 else if k = 2 then 1 else k
theorem kindT_sw (x y z : TL) : kindT x z y = tk (kindT x y z) := by
  unfold kindT tk
  by_cases h1 : x = y
  · by_cases h2 : x = z
    · simp [h1, ← h2]
    · rw [if_neg h2, if_pos h1, if_pos h1, if_neg h2]; simp
  · by_cases h2 : x = z
    · rw [if_pos h2, if_neg h1, if_neg h1, if_pos h2]; simp
    · rw [if_neg h2, if_neg h1, if_neg h1, if_neg h2]
      by_cases h3 : y = z
      · rw [if_pos h3, if_pos h3.symm]; simp
      · rw [if_neg h3, if_neg (fun h => h3 h.symm)]; simp
def Ck.sw (c : L.Ck) : L.Ck := ⟨tk c.kind, P3.sw c.p, P3.sw c.q⟩
theorem chunksT_sw {o a b : TL} (l1 : o.length ≤ 2000) (l2 : a.length ≤ 2000) (l3 : b.length ≤ 2000) : L.chunksT o b a = (L.chunksT o a b).map Ck.sw := by
  rw [chunksT_eq l1 l3 l2, chunksT_eq l1 l2 l3, List.map_map]
  have h := cutsAt_sw (mT o a) (mT o b) ⟨o.length, a.length, b.length⟩ ⟨0, 0, 0⟩
  rw [show P3.sw ⟨o.length, a.length, b.length⟩ = ⟨o.length, b.length, a.length⟩ from rfl, show P3.sw ⟨0, 0, 0⟩ = ⟨0, 0, 0⟩ from rfl] at h
  rw [h, List.map_map]
  apply List.map_congr_left
  intro c _
  show ckT o b a (P3.sw c.1, P3.sw c.2) = Ck.sw (ckT o a b c)
  show (⟨kindT (L.slc o c.1.o c.2.o) (L.slc b c.1.b c.2.b) (L.slc a c.1.a c.2.a), P3.sw c.1, P3.sw c.2⟩ : L.Ck) = ⟨tk (kindT (L.slc o c.1.o c.2.o) (L.slc a c.1.a c.2.a) (L.slc b c.1.b c.2.b)), P3.sw c.1, P3.sw c.2⟩
  rw [kindT_sw]
def Pc.sw (x : Pc) : Pc := if x.clash then ⟨true, x.o, x.b, x.a⟩ else x
def St.sw (s : St) : St := (s.1.map Pc.sw, s.2)
theorem fin_sw (s : St) : (St.sw s).fin = s.fin.map Pc.sw := by
  cases h : s.2 with
  | none => rw [fin_nil s h, fin_nil (St.sw s) h]; rfl
  | some q =>
    rw [fin_cons s q h, fin_cons (St.sw s) q h, List.map_append]
    rfl
/-- A chunk whose kind is that of its texts. -/
def okK (o a b : TL) (c : L.Ck) : Prop := c.kind = kindT (L.slc o c.p.o c.q.o) (L.slc a c.p.a c.q.a) (L.slc b c.p.b c.q.b)
theorem y_sw {o a b : TL} {c : L.Ck} (h : okK o a b c) (h4 : c.kind ≠ 4) : yOf b a (Ck.sw c) = yOf a b c := by
  unfold okK at h
  unfold yOf Ck.sw
  simp only [P3.sw]
  generalize L.slc a c.p.a c.q.a = y at h ⊢
  generalize L.slc b c.p.b c.q.b = z at h ⊢
  generalize L.slc o c.p.o c.q.o = x at h ⊢
  unfold kindT at h
  by_cases h1 : x = y
  · rw [if_pos h1] at h
    by_cases h2 : x = z
    · rw [if_pos h2] at h
      rw [h]
      simp [tk, ← h1, ← h2]
    · rw [if_neg h2] at h
      rw [h]
      simp [tk]
  · rw [if_neg h1] at h
    by_cases h2 : x = z
    · rw [if_pos h2] at h
      rw [h]
      simp [tk]
    · rw [if_neg h2] at h
      by_cases h3 : y = z
      · rw [if_pos h3] at h
        rw [h]
        simp [tk, h3]
      · rw [if_neg h3] at h
        exact absurd h h4
theorem tk4 (k : Int) : tk k = 4 ↔ k = 4 := by
  unfold tk
  by_cases h1 : k = 1
  · rw [if_pos h1]; omega
  · rw [if_neg h1]
    by_cases h2 : k = 2
    · rw [if_pos h2]; omega
    · rw [if_neg h2]
theorem add_sw {o a b : TL} {s : St} {c : L.Ck} (h : okK o a b c) : (St.sw s).add o b a (Ck.sw c) = St.sw (s.add o a b c) := by
  by_cases h4 : c.kind = 4
  · have e1 : s.add o a b c = (s.fin ++ [⟨true, L.slc o c.p.o c.q.o, L.slc a c.p.a c.q.a, L.slc b c.p.b c.q.b⟩], none) := by unfold St.add; rw [if_pos h4]
    have e2 : (St.sw s).add o b a (Ck.sw c) = ((St.sw s).fin ++ [⟨true, L.slc o c.p.o c.q.o, L.slc b c.p.b c.q.b, L.slc a c.p.a c.q.a⟩], none) := by have h4'' : (Ck.sw c).kind = 4 := (tk4 _).2 h4; unfold St.add; rw [if_pos h4'']; rfl
    rw [e1, e2, fin_sw]
    unfold St.sw
    rw [List.map_append]
    rfl
  · have h4' : (Ck.sw c).kind ≠ 4 := fun k => h4 ((tk4 _).1 k)
    have hy := y_sw h h4
    cases hs : s.2 with
    | none =>
      have e1 : s.add o a b c = (s.1, some (L.slc o c.p.o c.q.o, yOf a b c)) := by unfold St.add; rw [if_neg h4, hs]
      have e2 : (St.sw s).add o b a (Ck.sw c) = ((St.sw s).1, some (L.slc o c.p.o c.q.o, yOf b a (Ck.sw c))) := by unfold St.add; rw [if_neg h4', show (St.sw s).2 = none from hs]; rfl
      rw [e1, e2, hy]; rfl
    | some q =>
      have e1 : s.add o a b c = (s.1, some (q.1 ++ L.slc o c.p.o c.q.o, q.2 ++ yOf a b c)) := by unfold St.add; rw [if_neg h4, hs]
      have e2 : (St.sw s).add o b a (Ck.sw c) = ((St.sw s).1, some (q.1 ++ L.slc o c.p.o c.q.o, q.2 ++ yOf b a (Ck.sw c))) := by unfold St.add; rw [if_neg h4', show (St.sw s).2 = some q from hs]; rfl
      rw [e1, e2, hy]; rfl
theorem stOf_sw {o a b : TL} : ∀ l : List L.Ck, (∀ c ∈ l, okK o a b c) → ∀ s : St, (l.map Ck.sw).foldl (St.add o b a) (St.sw s) = St.sw (l.foldl (St.add o a b) s)
  | [], _, s => rfl
  | c :: l, h, s => by
    rw [List.map_cons, List.foldl_cons, List.foldl_cons, add_sw (h c (by simp))]
    exact stOf_sw l (fun d hd => h d (List.mem_cons_of_mem _ hd)) _
theorem combP_sw {o a b : TL} (l1 : o.length ≤ 2000) (l2 : a.length ≤ 2000) (l3 : b.length ≤ 2000) : combP o b a = (combP o a b).map Pc.sw := by
  unfold combP stOf
  rw [chunksT_sw l1 l2 l3, show (([], none) : St) = St.sw ([], none) from rfl, stOf_sw _ (chunksT_kind l1 l2 l3), fin_sw]
  rfl
def Pt.sw (p : Pt) : Pt := ⟨p.clash, p.o, p.b, p.a⟩
theorem ptOf_sw (x : Pc) : ptOf (Pc.sw x) = Pt.sw (ptOf x) := by
  unfold Pc.sw ptOf Pt.sw
  cases h : x.clash <;> simp [h]
theorem wovenP_sw {o a b : TL} (l1 : o.length ≤ 2000) (l2 : a.length ≤ 2000) (l3 : b.length ≤ 2000) : wovenP o b a = (wovenP o a b).map Pt.sw := by
  unfold wovenP
  rw [combP_sw l1 l2 l3, List.map_map, List.map_map]
  apply List.map_congr_left
  intro x _
  exact ptOf_sw x
theorem wovenP_ab (o a b : TL) : ∀ p ∈ wovenP o a b, p.clash = false → p.a = p.b := by
  intro p hp h
  obtain ⟨x, -, rfl⟩ := List.mem_map.1 hp
  have hc : x.clash = false := h
  simp [ptOf, hc]
theorem clashP_sw (l : List Pt) : clashP (l.map Pt.sw) = clashP l := by
  unfold clashP
  rw [List.any_map]
  rfl
theorem side_ab : ∀ l : List Pt, (∀ p ∈ l, p.a = p.b) → sideP l 1 = sideP l 2
  | [], _ => rfl
  | p :: l, h => by
    have ih := side_ab l (fun q hq => h q (List.mem_cons_of_mem _ hq))
    unfold sideP at ih ⊢
    rw [List.flatMap_cons, List.flatMap_cons, ih]
    congr 1
    show Pt.side 1 p = Pt.side 2 p
    have e := h p (by simp)
    simp [Pt.side, e]
theorem side_sw (l : List Pt) : sideP (l.map Pt.sw) 1 = sideP l 2 := by
  unfold sideP
  rw [List.flatMap_map]
  congr 1
theorem clashP_no {l : List Pt} (h : clashP l = false) : ∀ p ∈ l, p.clash = false := by
  intro p hp
  unfold clashP at h
  rw [List.any_eq_false] at h
  simpa using h p hp
theorem joinP_sw {l : List Pt} (h : ∀ p ∈ l, p.clash = false → p.a = p.b) : joinP (l.map Pt.sw) = joinP l := by
  unfold joinP
  rw [clashP_sw]
  cases hc : clashP l with
  | true => rfl
  | false =>
    have e := side_ab l (fun p hp => h p hp (clashP_no hc p hp))
    rw [side_sw, e]
theorem wovenQ_sw {x y z : TL × Bool} (l1 : x.1.length ≤ 2000) (l2 : y.1.length ≤ 2000) (l3 : z.1.length ≤ 2000) : wovenQ x z y = ((wovenQ x y z).1.map Pt.sw, (wovenQ x y z).2) := by
  unfold wovenQ
  cases h1 : x.2 <;> cases h2 : y.2 <;> cases h3 : z.2 <;> simp [h1, h2, h3, wovenP_sw l1 l2 l3]
theorem textP_sw (o a b : ByteArray) (h1 : o.size ≤ 600) (h2 : a.size ≤ 600) (h3 : b.size ≤ 600) : textP o b a = textP o a b := by
  have u1 := unitsP_len o
  have u2 := unitsP_len a
  have u3 := unitsP_len b
  have t := wovenQ_sw (x := unitsP (tl o)) (y := unitsP (tl a)) (z := unitsP (tl b)) (by omega) (by omega) (by omega)
  have hab : ∀ p ∈ (wovenQ (unitsP (tl o)) (unitsP (tl a)) (unitsP (tl b))).1, p.clash = false → p.a = p.b := by
    unfold wovenQ
    split
    · exact wovenP_ab _ _ _
    · intro p hp; cases hp
  have n := wovenP_sw (o := S.lns o) (a := S.lns a) (b := S.lns b) (Nat.le_trans (S.lns_len o) (by omega)) (Nat.le_trans (S.lns_len a) (by omega)) (Nat.le_trans (S.lns_len b) (by omega))
  unfold textP
  by_cases e1 : a = o
  · rw [if_pos e1]
    by_cases e2 : b = o
    · rw [if_pos e2, e1, e2]
    · rw [if_neg e2, if_pos (.inl e1)]
  · rw [if_neg e1]
    by_cases e2 : b = o
    · rw [if_pos e2, if_pos (.inl e2)]
    · rw [if_neg e2]
      by_cases e3 : b = a
      · have x1 : a = o ∨ a = b := .inr e3.symm
        have x2 : b = o ∨ b = a := .inr e3
        rw [if_pos x1, if_pos x2, e3]
      · have x1 : ¬ (a = o ∨ a = b) := by rintro (h | h); exact e1 h; exact e3 h.symm
        have x2 : ¬ (b = o ∨ b = a) := by rintro (h | h); exact e2 h; exact e3 h
        rw [if_neg x1, if_neg x2]
        unfold toksP linesP
        rw [t, n, joinP_sw (wovenP_ab _ _ _), joinP_sw hab, clashP_sw]

/-- The pieces, one by one: what is a clash differs, what is none never stands behind another such. -/
def Alt (l : List Pc) : Prop := ∀ k x y, l[k]? = some x → l[k + 1]? = some y → y.clash = false → x.clash = true
def LastC (l : List Pc) : Prop := ∀ p, l.getLast? = some p → p.clash = true
theorem alt_snoc {l : List Pc} {z : Pc} (h : Alt l) (hz : z.clash = true ∨ LastC l) : Alt (l ++ [z]) := by
  intro k x y hx hy hc
  rcases Nat.lt_or_ge (k + 1) l.length with hk | hk
  · rw [List.getElem?_append_left (by omega)] at hx
    rw [List.getElem?_append_left hk] at hy
    exact h k x y hx hy hc
  · have hl := (List.getElem?_eq_some_iff.1 hy).1
    rw [List.length_append, List.length_singleton] at hl
    have hk1 : k + 1 = l.length := by omega
    rw [List.getElem?_append_right hk, hk1, Nat.sub_self] at hy
    obtain rfl : z = y := by simpa using hy
    rw [List.getElem?_append_left (by omega)] at hx
    rcases hz with hz | hz
    · rw [hz] at hc; cases hc
    · refine hz x ?_
      rw [List.getLast?_eq_getElem?, ← hk1, Nat.add_sub_cancel]
      exact hx
def AltS (s : St) : Prop := Alt s.1 ∧ LastC s.1
theorem altS_fin {s : St} (h : AltS s) : Alt s.fin := by
  cases hs : s.2 with
  | none => rw [fin_nil s hs]; exact h.1
  | some q => rw [fin_cons s q hs]; exact alt_snoc h.1 (.inr h.2)
theorem altS_add {o a b : TL} {s : St} {c : L.Ck} (h : AltS s) : AltS (s.add o a b c) := by
  unfold St.add
  split
  · refine ⟨alt_snoc (altS_fin h) (.inl rfl), fun p hp => ?_⟩
    simp only at hp
    rw [List.getLast?_append] at hp
    simp at hp
    rw [← hp]
  · cases s.2 <;> exact h
theorem combP_alt (o a b : TL) : Alt (combP o a b) := by
  have : ∀ (l : List L.Ck) (s : St), AltS s → AltS (l.foldl (St.add o a b) s) := by
    intro l
    induction l with
    | nil => intro s h; exact h
    | cons c l ih => intro s h; exact ih _ (altS_add h)
  exact altS_fin (this _ ([], none) ⟨fun k x y hx => by simp at hx, fun p hp => by simp at hp⟩)
/-- Each clash comes out of a chunk. -/
def ClS (o a b : TL) (l : List Pc) : Prop := ∀ x ∈ l, x.clash = true → ∃ c ∈ L.chunksT o a b, c.kind = 4 ∧ x.a = L.slc a c.p.a c.q.a ∧ x.b = L.slc b c.p.b c.q.b
theorem cls_fin {o a b : TL} {s : St} (h : ClS o a b s.1) : ClS o a b s.fin := by
  cases hs : s.2 with
  | none => rw [fin_nil s hs]; exact h
  | some q =>
    rw [fin_cons s q hs]
    intro x hx hc
    rcases List.mem_append.1 hx with hx | hx
    · exact h x hx hc
    · obtain rfl := List.mem_singleton.1 hx
      cases hc
theorem combP_cls (o a b : TL) : ClS o a b (combP o a b) := by
  have : ∀ (l : List L.Ck) (s : St), (∀ c ∈ l, c ∈ L.chunksT o a b) → ClS o a b s.1 → ClS o a b (l.foldl (St.add o a b) s).1 := by
    intro l
    induction l with
    | nil => intro s _ h; exact h
    | cons c l ih =>
      intro s hm h
      refine ih _ (fun d hd => hm d (List.mem_cons_of_mem _ hd)) ?_
      unfold St.add
      split
      · rename_i h4
        intro x hx hc
        rcases List.mem_append.1 hx with hx | hx
        · exact cls_fin h x hx hc
        · obtain rfl := List.mem_singleton.1 hx
          exact ⟨c, hm c (by simp), h4, rfl, rfl⟩
      · cases s.2 <;> exact h
  exact cls_fin (this _ ([], none) (fun c hc => hc) (fun x hx => by simp at hx))
theorem kindT_4 {x y z : TL} (h : kindT x y z = 4) : y ≠ z := by
  rintro rfl
  unfold kindT at h
  by_cases e : x = y
  · rw [if_pos e, if_pos e] at h; exact absurd h (by decide)
  · rw [if_neg e, if_neg e, if_pos rfl] at h; exact absurd h (by decide)
/-- What holds of the parts of lines. -/
def SidesOk (l : List Pt) : Prop := (∀ (k : Nat) (p : Pt), l[k]? = some p → (p.clash = true → p.a ≠ p.b) ∧ (p.clash = false → p.a = p.b ∧ ∀ q, 0 < k → l[k - 1]? = some q → q.clash = true))
theorem linesP_sides (o a b : ByteArray) (h1 : o.size ≤ 600) (h2 : a.size ≤ 600) (h3 : b.size ≤ 600) : SidesOk (linesP o a b) := by
  have l1 : (S.lns o).length ≤ 2000 := Nat.le_trans (S.lns_len o) (by omega)
  have l2 : (S.lns a).length ≤ 2000 := Nat.le_trans (S.lns_len a) (by omega)
  have l3 : (S.lns b).length ≤ 2000 := Nat.le_trans (S.lns_len b) (by omega)
  intro k p hp
  have hmem := List.mem_of_getElem? hp
  unfold linesP wovenP at hp
  rw [List.getElem?_map] at hp
  cases hx : (combP (S.lns o) (S.lns a) (S.lns b))[k]? with
  | none => rw [hx] at hp; cases hp
  | some x =>
    rw [hx] at hp
    obtain rfl : ptOf x = p := by simpa using hp
    refine ⟨fun hc => ?_, fun hc => ⟨wovenP_ab _ _ _ _ hmem hc, fun q hk hq => ?_⟩⟩
    · have hxc : x.clash = true := hc
      obtain ⟨c, hcm, h4, ea, eb⟩ := combP_cls _ _ _ x (List.mem_of_getElem? hx) hxc
      have hk := chunksT_kind l1 l2 l3 c hcm
      obtain ⟨-, ⟨-, ca⟩, -, cb⟩ := chunksT_ok l1 l2 l3 c hcm
      rw [h4] at hk
      have hne := kindT_4 hk.symm
      intro hab
      have e : joinT x.a = joinT x.b := by
        have : (ptOf x).b = joinT x.b := by simp [ptOf, hxc]
        rw [← this]; exact hab
      rw [ea, eb] at e
      exact hne (joinT_inj (lin_slc (lin_lns a) _ _ ca) (lin_slc (lin_lns b) _ _ cb) e)
    · unfold linesP wovenP at hq
      rw [List.getElem?_map] at hq
      cases hy : (combP (S.lns o) (S.lns a) (S.lns b))[k - 1]? with
      | none => rw [hy] at hq; cases hq
      | some y =>
        rw [hy] at hq
        obtain rfl : ptOf y = q := by simpa using hq
        exact combP_alt _ _ _ (k - 1) y x hy (by rw [Nat.sub_add_cancel hk]; exact hx) hc
theorem linesP_o (o a b : ByteArray) (h1 : o.size ≤ 600) (h2 : a.size ≤ 600) (h3 : b.size ≤ 600) : sideP (linesP o a b) 0 = tl o := by
  have h := wovenP_o (o := S.lns o) (a := S.lns a) (b := S.lns b) (Nat.le_trans (S.lns_len o) (by omega)) (Nat.le_trans (S.lns_len a) (by omega)) (Nat.le_trans (S.lns_len b) (by omega))
  rw [joinT_lns] at h
  exact h
theorem side3 : ∀ l : List Pt, sideP l 3 = []
  | [] => rfl
  | p :: l => by
    have ih := side3 l
    unfold sideP at ih ⊢
    rw [List.flatMap_cons, ih]
    rfl
theorem join_ab {l : List Pt} (h : SidesOk l) (hc : clashP l = false) : sideP l 1 = sideP l 2 := by
  refine side_ab l fun p hp => ?_
  obtain ⟨k, hk⟩ := List.mem_iff_getElem?.1 hp
  exact (((h k p hk).2) (clashP_no hc p hp)).1
/-- How many parts are clashes. -/
def nCl (l : List Pt) : Nat := (l.filter Pt.clash).length
theorem nCl_0 (l : List Pt) : (nCl l = 0) ↔ clashP l = false := by
  unfold nCl clashP
  rw [List.length_eq_zero_iff, List.filter_eq_nil_iff, List.any_eq_false]
theorem nCl_le (l : List Pt) : nCl l ≤ l.length := List.length_filter_le _ _
theorem nCl_take (l : List Pt) (k : Nat) (p : Pt) (h : l[k]? = some p) : nCl (l.take (k + 1)) = nCl (l.take k) + (if p.clash then 1 else 0) := by
  unfold nCl
  rw [List.take_add_one, h, List.filter_append, List.length_append]
  cases hc : p.clash <;> simp [hc]
end Go.Proofs.YtfjmhnnjgjcmeaaDoor
