/-
  For the laws of lines: facts on lists of bytes; no program.
-/
import Derived.Test.YthojjmebjhempaaStart
namespace Go.Proofs.Ythojjmebjhempaa
open Go.RowKit

/-- The lines of acc ++ l, acc having no newline. -/
def lgo : List UInt8 → List UInt8 → List (List UInt8)
  | acc, [] => if acc = [] then [] else [acc]
  | acc, c :: r => if c = 10 then (acc ++ [c]) :: lgo [] r else lgo (acc ++ [c]) r

theorem lgo_flatten : ∀ (l acc : List UInt8), (lgo acc l).flatten = acc ++ l
  | [], acc => by unfold lgo; split <;> simp_all
  | c :: r, acc => by
    unfold lgo
    split
    · simp [lgo_flatten r []]
    · rw [lgo_flatten r (acc ++ [c])]; simp

/-- A line: some bytes that are no newlines, and one more. -/
def isLine (x : List UInt8) : Prop := x ≠ [] ∧ ∀ k, k + 1 < x.length → x[k]?.getD 0 ≠ 10

theorem isLine_snoc {acc : List UInt8} {c : UInt8} (h : ∀ y ∈ acc, y ≠ 10) : isLine (acc ++ [c]) := by
  refine ⟨by simp, fun k hk => ?_⟩
  simp at hk
  rw [List.getElem?_append_left (by omega), List.getElem?_eq_getElem (by omega)]
  exact h _ (List.getElem_mem _)
theorem isLine_acc {acc : List UInt8} (h0 : acc ≠ []) (h : ∀ y ∈ acc, y ≠ 10) : isLine acc := by
  refine ⟨h0, fun k hk => ?_⟩
  rw [List.getElem?_eq_getElem (by omega)]
  exact h _ (List.getElem_mem _)

theorem lgo_lines : ∀ (l acc : List UInt8), (∀ y ∈ acc, y ≠ 10) → ∀ x ∈ lgo acc l, isLine x
  | [], acc, h, x, hx => by
    unfold lgo at hx
    split at hx
    · simp at hx
    · simp at hx; subst hx; exact isLine_acc (by assumption) h
  | c :: r, acc, h, x, hx => by
    unfold lgo at hx
    split at hx
    · rcases List.mem_cons.1 hx with rfl | hx
      · exact isLine_snoc h
      · exact lgo_lines r [] (by simp) x hx
    · exact lgo_lines r (acc ++ [c]) (by intro y hy; rcases List.mem_append.1 hy with hy | hy; exact h y hy; simp at hy; subst hy; assumption) x hx

theorem lgo_ends : ∀ (l acc : List UInt8) (j : Nat) (x : List UInt8), (lgo acc l)[j]? = some x → j + 1 < (lgo acc l).length → x.getLast? = some 10
  | [], acc, j, x, hx, hl => by
    unfold lgo at hl
    split at hl <;> simp at hl
  | c :: r, acc, j, x, hx, hl => by
    unfold lgo at hx hl
    split at hx
    · rename_i hc
      rw [if_pos hc] at hl
      match j, hx with
      | 0, hx => simp at hx; subst hx; simp [hc]
      | j + 1, hx =>
        simp at hx hl
        exact lgo_ends r [] j x hx hl
    · rename_i hc
      rw [if_neg hc] at hl
      exact lgo_ends r (acc ++ [c]) j x hx hl

/-- Behind a newline the lines begin anew. -/
theorem lgo_append : ∀ (l r acc : List UInt8), (l = [] ∧ acc = [] ∨ l.getLast? = some 10) → lgo acc (l ++ r) = lgo acc l ++ lgo [] r
  | [], r, acc, h => by
    rcases h with ⟨_, h⟩ | h
    · subst h; simp [lgo]
    · simp at h
  | c :: l, r, acc, h => by
    have h' : c = 10 ∧ l = [] ∨ l.getLast? = some 10 := by
      rcases h with ⟨h, _⟩ | h
      · cases h
      · cases l with
        | nil => simp at h; exact .inl ⟨h, rfl⟩
        | cons d l => rw [List.getLast?_cons_cons] at h; exact .inr h
    by_cases hc : c = 10
    · simp only [List.cons_append, lgo, if_pos hc]
      rw [lgo_append l r [] (by rcases h' with ⟨_, h⟩ | h; exact .inl ⟨h, rfl⟩; exact .inr h)]
    · simp only [List.cons_append, lgo, if_neg hc]
      exact lgo_append l r (acc ++ [c]) (by rcases h' with ⟨h, _⟩ | h; exact absurd h hc; exact .inr h)

/-- One newline more ends the last line. -/
theorem lgo_snoc : ∀ (l acc : List UInt8), (l = [] ∧ acc ≠ [] ∨ ∃ c, l.getLast? = some c ∧ c ≠ 10) → (lgo acc (l ++ [10])).length = (lgo acc l).length
  | [], acc, h => by
    rcases h with ⟨_, h⟩ | ⟨c, h, _⟩
    · simp [lgo, h]
    · simp at h
  | c :: l, acc, h => by
    have h' : c ≠ 10 ∧ l = [] ∨ ∃ d, l.getLast? = some d ∧ d ≠ 10 := by
      rcases h with ⟨h, _⟩ | ⟨d, h, hd⟩
      · cases h
      · cases l with
        | nil => simp at h; subst h; exact .inl ⟨hd, rfl⟩
        | cons e l => rw [List.getLast?_cons_cons] at h; exact .inr ⟨d, h, hd⟩
    by_cases hc : c = 10
    · simp only [List.cons_append, lgo, if_pos hc, List.length_cons]
      rw [lgo_snoc l [] (by rcases h' with ⟨h, _⟩ | h; exact absurd hc h; exact .inr h)]
    · simp only [List.cons_append, lgo, if_neg hc]
      exact lgo_snoc l (acc ++ [c]) (by rcases h' with ⟨_, h⟩ | h; exact .inl ⟨h, by simp⟩; exact .inr h)

theorem nlB_get {s : ByteArray} {k : Nat} (h : k < s.size) : nlB s k = decide (s.data.toList[k]'(by simpa using h) = 10) := by
  unfold nlB
  rw [Array.getElem?_eq_getElem (by simpa using h)]
  simp [Bool.beq_eq_decide_eq]

theorem extract_list (s : ByteArray) (a b : Nat) : (s.extract a b).data.toList = (s.data.toList.take b).drop a := by
  simp [ByteArray.data_extract, List.extract_eq_take_drop, List.drop_take]

theorem st_lgo (s : ByteArray) : ∀ k, k ≤ s.size → lgo [] s.data.toList = (st s k).1.map (·.data.toList) ++ lgo ((s.data.toList.take k).drop (st s k).2) (s.data.toList.drop k)
  | 0, _ => by simp [st]
  | k + 1, hk => by
    have ih := st_lgo s k (by omega)
    have hle := st_le s k
    have hlen : k < s.data.toList.length := by simp; omega
    have hd : s.data.toList.drop k = s.data.toList[k] :: s.data.toList.drop (k + 1) := List.drop_eq_getElem_cons hlen
    have ht : (s.data.toList.take (k + 1)).drop (st s k).2 = (s.data.toList.take k).drop (st s k).2 ++ [s.data.toList[k]] := by
      rw [← List.take_append_getElem hlen, List.drop_append_of_le_length (by rw [List.length_take]; omega)]
    rw [ih, hd]
    cases h : nlB s k with
    | true =>
      have hc : s.data.toList[k] = 10 := by rw [nlB_get (by omega)] at h; simpa using h
      rw [st_yes h]
      simp only [lgo, if_pos hc, List.map_append, List.map_cons, List.map_nil, extract_list, ht, List.append_assoc, List.cons_append, List.nil_append]
      rw [show List.drop (k + 1) (List.take (k + 1) s.data.toList) = [] from List.drop_eq_nil_of_le (by rw [List.length_take]; omega)]
    | false =>
      have hc : ¬ s.data.toList[k] = 10 := by rw [nlB_get (by omega)] at h; simpa using h
      rw [st_no h, ht]
      simp only [lgo, if_neg hc]

theorem lns_lgo (s : ByteArray) : (lns s).map (·.data.toList) = lgo [] s.data.toList := by
  have h := st_lgo s s.size (Nat.le_refl _)
  have hle := st_le s s.size
  have hz : s.data.toList.length = s.size := by simp
  rw [h, show List.drop s.size s.data.toList = [] from List.drop_eq_nil_of_le (by omega)]
  unfold lns
  by_cases hf : (st s s.size).2 < s.size
  · rw [if_pos hf]
    have hne : (s.data.toList.take s.size).drop (st s s.size).2 ≠ [] := by
      intro e
      have := congrArg List.length e
      rw [List.length_drop, List.length_take] at this
      simp at this
      omega
    simp only [lgo, if_neg hne, List.map_append, List.map_cons, List.map_nil, extract_list]
  · rw [if_neg hf, show List.drop (st s s.size).2 (List.take s.size s.data.toList) = [] from List.drop_eq_nil_of_le (by rw [List.length_take]; omega)]
    simp [lgo]

theorem lns_isLine {s x : ByteArray} (h : x ∈ lns s) : isLine x.data.toList :=
  lgo_lines s.data.toList [] (by simp) _ (by rw [← lns_lgo]; exact List.mem_map_of_mem h)
theorem lns_ends {s x : ByteArray} {j : Nat} (h : (lns s)[j]? = some x) (hj : j + 1 < (lns s).length) : x.data.toList.getLast? = some 10 :=
  lgo_ends s.data.toList [] j _ (by rw [← lns_lgo, List.getElem?_map, h]; rfl) (by rw [← lns_lgo, List.length_map]; exact hj)
theorem join_flat : ∀ xs : List (List UInt8), Lib.join xs [] = xs.flatten
  | [] => rfl
  | x :: r => by rw [Lib.join_cons]; simp [Lib.joinTail]
theorem join_lns (s : ByteArray) : joinB (lns s) = s := by
  unfold joinB
  rw [lns_lgo, join_flat, lgo_flatten]
  rfl
theorem ext_list {s t : ByteArray} (h : s.data.toList = t.data.toList) : s = t := ByteArray.ext (Array.toList_inj.1 h)
theorem suffix_last (l : List UInt8) : Lib.hasSuffix l [10] = true ↔ l.getLast? = some 10 := by
  unfold Lib.hasSuffix
  rw [List.isSuffixOf_iff_suffix]
  constructor
  · rintro ⟨t, rfl⟩; simp
  · intro h
    obtain ⟨t, rfl⟩ := List.getLast?_eq_some_iff.1 h
    exact ⟨t, rfl⟩
theorem whole_id {s : ByteArray} (h : s.data.toList = [] ∨ s.data.toList.getLast? = some 10) : whole s = s := by
  unfold whole
  rw [if_pos]
  rcases h with h | h
  · rw [Lib.toList_data, h]; rfl
  · rw [(suffix_last _).2 h, Bool.or_true]
theorem whole_cases (s : ByteArray) : ((s.data.toList = [] ∨ s.data.toList.getLast? = some 10) ∧ whole s = s) ∨ (∃ c, s.data.toList.getLast? = some c ∧ c ≠ 10 ∧ (whole s).data.toList = s.data.toList ++ [10]) := by
  cases hl : s.data.toList.getLast? with
  | none =>
    have h : s.data.toList = [] := List.getLast?_eq_none_iff.1 hl
    exact .inl ⟨.inl h, whole_id (.inl h)⟩
  | some c =>
    by_cases hc : c = 10
    · subst hc
      exact .inl ⟨.inr rfl, whole_id (.inr hl)⟩
    · refine .inr ⟨c, rfl, hc, ?_⟩
      have h1 : Lib.hasSuffix s.data.toList [10] = false := by
        cases h : Lib.hasSuffix s.data.toList [10] with
        | false => rfl
        | true => rw [suffix_last, hl] at h; simp at h; exact absurd h hc
      have h0 : s.toList.isEmpty = false := by
        rw [Lib.toList_data]
        cases h : s.data.toList with
        | nil => rw [h] at hl; simp at hl
        | cons a r => rfl
      unfold whole
      rw [h0, h1]
      simp
theorem whole_last (s : ByteArray) : (whole s).data.toList = [] ∨ (whole s).data.toList.getLast? = some 10 := by
  rcases whole_cases s with ⟨h, e⟩ | ⟨c, _, _, e⟩
  · rw [e]; exact h
  · rw [e]; exact .inr (by simp)
theorem whole_whole (s : ByteArray) : whole (whole s) = whole s := whole_id (whole_last s)
theorem lns_whole (s : ByteArray) : (lns (whole s)).length = (lns s).length := by
  rcases whole_cases s with ⟨_, e⟩ | ⟨c, h1, h2, e⟩
  · rw [e]
  · have h := lgo_snoc s.data.toList [] (.inr ⟨c, h1, h2⟩)
    rw [← e, ← lns_lgo, ← lns_lgo, List.length_map, List.length_map] at h
    exact h
theorem whole_size (s : ByteArray) : (whole s).size ≤ s.size + 1 := by
  have h := congrArg List.length (show (whole s).data.toList = (whole s).data.toList from rfl)
  rcases whole_cases s with ⟨_, e⟩ | ⟨c, _, _, e⟩
  · rw [e]; omega
  · have := congrArg List.length e
    simp at this
    omega
/-- A text that ends behind a newline, and one more. -/
theorem lns_append {s t : ByteArray} (h : s.data.toList = [] ∨ s.data.toList.getLast? = some 10) : lns (s ++ t) = lns s ++ lns t := by
  have e := lgo_append s.data.toList t.data.toList [] (by rcases h with h | h; exact .inl ⟨h, rfl⟩; exact .inr h)
  have e2 : (s ++ t).data.toList = s.data.toList ++ t.data.toList := by simp
  rw [← e2, ← lns_lgo, ← lns_lgo, ← lns_lgo, ← List.map_append] at e
  exact (List.map_inj_right (fun a b h => ext_list h)).1 e
end Go.Proofs.Ythojjmebjhempaa
