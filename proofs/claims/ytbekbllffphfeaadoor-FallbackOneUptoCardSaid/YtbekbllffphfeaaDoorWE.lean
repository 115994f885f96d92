/-
  For the laws of fallback: sizes of the parts of three texts, line by line; no program. Condition: texts of at most 600 bytes where it is said.
-/
import Derived.Test.YtbekbllffphfeaaDoorWC
import Derived.Test.YtbekbllffphfeaaDoorWB
import Derived.Test.YtbekbllffphfeaaDoorPA
namespace Go.Proofs.YtbekbllffphfeaaDoor
open Go.RowKit Go.Shelf
set_option linter.unusedSimpArgs false
set_option linter.unusedVariables false

namespace S
/-- The lines of acc ++ l, acc having no newline. -/
def lgo : List UInt8 → List UInt8 → List (List UInt8)
  | acc, [] => if acc = [] then [] else [acc]
  | acc, c :: r => if c = 10 then (acc ++ [c]) :: lgo [] r else lgo (acc ++ [c]) r

theorem lgo_flatten : ∀ (l acc : List UInt8), (lgo acc l).flatten = acc ++ l
  | [], acc => by unfold lgo; split <;> simp_all
  | c :: r, acc => by
    unfold lgo
    split
    · simp [lgo_flatten r []]
    · rw [lgo_flatten r (acc ++ [c])]; simp

theorem nlB_get {s : ByteArray} {k : Nat} (h : k < s.size) : nlB s k = decide (s.data.toList[k]'(by simpa using h) = 10) := by
  unfold nlB
  rw [Array.getElem?_eq_getElem (by simpa using h)]
  simp [Bool.beq_eq_decide_eq]

theorem extract_list (s : ByteArray) (a b : Nat) : (s.extract a b).data.toList = (s.data.toList.take b).drop a := by
  simp [ByteArray.data_extract, List.extract_eq_take_drop, List.drop_take]

theorem st_lgo (s : ByteArray) : ∀ k, k ≤ s.size → lgo [] s.data.toList = (st s k).1.map (·.data.toList) ++ lgo ((s.data.toList.take k).drop (st s k).2) (s.data.toList.drop k)
  | 0, _ => by simp [st]
  | k + 1, hk => by
    have ih := st_lgo s k (by omega)
    have hle := st_le s k
    have hlen : k < s.data.toList.length := by simp; omega
    have hd : s.data.toList.drop k = s.data.toList[k] :: s.data.toList.drop (k + 1) := List.drop_eq_getElem_cons hlen
    have ht : (s.data.toList.take (k + 1)).drop (st s k).2 = (s.data.toList.take k).drop (st s k).2 ++ [s.data.toList[k]] := by
      rw [← List.take_append_getElem hlen, List.drop_append_of_le_length (by rw [List.length_take]; omega)]
    rw [ih, hd]
    cases h : nlB s k with
    | true =>
      have hc : s.data.toList[k] = 10 := by rw [nlB_get (by omega)] at h; simpa using h
      rw [st_yes h]
      simp only [lgo, if_pos hc, List.map_append, List.map_cons, List.map_nil, extract_list, ht, List.append_assoc, List.cons_append, List.nil_append]
      rw [show List.drop (k + 1) (List.take (k + 1) s.data.toList) = [] from List.drop_eq_nil_of_le (by rw [List.length_take]; omega)]
    | false =>
      have hc : ¬ s.data.toList[k] = 10 := by rw [nlB_get (by omega)] at h; simpa using h
      rw [st_no h, ht]
      simp only [lgo, if_neg hc]

theorem lns_lgo (s : ByteArray) : (lns s).map (·.data.toList) = lgo [] s.data.toList := by
  have h := st_lgo s s.size (Nat.le_refl _)
  have hle := st_le s s.size
  have hz : s.data.toList.length = s.size := by simp
  rw [h, show List.drop s.size s.data.toList = [] from List.drop_eq_nil_of_le (by omega)]
  unfold lns
  by_cases hf : (st s s.size).2 < s.size
  · rw [if_pos hf]
    have hne : (s.data.toList.take s.size).drop (st s s.size).2 ≠ [] := by
      intro e
      have := congrArg List.length e
      rw [List.length_drop, List.length_take] at this
      simp at this
      omega
    simp only [lgo, if_neg hne, List.map_append, List.map_cons, List.map_nil, extract_list]
  · rw [if_neg hf, show List.drop (st s s.size).2 (List.take s.size s.data.toList) = [] from List.drop_eq_nil_of_le (by rw [List.length_take]; omega)]
    simp [lgo]

end S
/-- Chunks that lie one behind the other, from p to e. -/
def chainC : L.P3 → List (L.P3 × L.P3) → L.P3 → Prop
  | p, [], e => p = e
  | p, c :: l, e => c.1 = p ∧ (c.1.o ≤ c.2.o ∧ c.1.a ≤ c.2.a ∧ c.1.b ≤ c.2.b) ∧ chainC c.2 l e
theorem cutsAt_chain {M R : List Int} {E : L.P3} : ∀ (n : Nat) (p : L.P3), E.sum - p.sum ≤ n → L.InvP M R E p → chainC p (L.cutsAt M R E p) E := by
  intro n
  induction n with
  | zero =>
    intro p hn h
    by_cases hp : p = E
    · subst hp; rw [L.cutsAt_end]; exact rfl
    · obtain ⟨h1, h2, h3, h4, h5⟩ := h.next hp
      have e1 := h1.o
      have e2 := h1.a
      have e3 := h1.b
      unfold L.P3.sum at hn h5
      omega
  | succ n ih =>
    intro p hn h
    by_cases hp : p = E
    · subst hp; rw [L.cutsAt_end]; exact rfl
    · obtain ⟨h1, h2, h3, h4, h5⟩ := h.next hp
      rw [L.cutsAt_next h hp]
      refine ⟨rfl, ⟨h2, h3, h4⟩, ih _ ?_ h1⟩
      have e1 := h1.o
      have e2 := h1.a
      have e3 := h1.b
      unfold L.P3.sum at hn h5 ⊢
      (simp only [L.P3.sum] at hn h5 ⊢; omega)
theorem slc_cat {α : Type} (xs : List α) {i j k : Nat} (h1 : i ≤ j) (h2 : j ≤ k) : L.slc xs i j ++ L.slc xs j k = L.slc xs i k := by
  unfold L.slc
  have e : xs.drop j = (xs.drop i).drop (j - i) := by rw [List.drop_drop]; congr 1; omega
  rw [e, show k - i = (j - i) + (k - j) by omega, List.take_add]
theorem slc_self {α : Type} (xs : List α) (i : Nat) : L.slc xs i i = [] := by unfold L.slc; rw [Nat.sub_self]; rfl
theorem chain_le {e : L.P3} : ∀ {l : List (L.P3 × L.P3)} {p : L.P3}, chainC p l e → p.o ≤ e.o ∧ p.a ≤ e.a ∧ p.b ≤ e.b
  | [], p, h => by cases h; exact ⟨Nat.le_refl _, Nat.le_refl _, Nat.le_refl _⟩
  | c :: l, p, h => by
    obtain ⟨rfl, ⟨h1, h2, h3⟩, h4⟩ := h
    obtain ⟨g1, g2, g3⟩ := chain_le h4
    exact ⟨Nat.le_trans h1 g1, Nat.le_trans h2 g2, Nat.le_trans h3 g3⟩
theorem chain_o {e : L.P3} (xs : TL) : ∀ {l : List (L.P3 × L.P3)} {p : L.P3}, chainC p l e → (l.flatMap fun c => L.slc xs c.1.o c.2.o) = L.slc xs p.o e.o
  | [], p, h => by cases h; rw [slc_self]; rfl
  | c :: l, p, h => by
    obtain ⟨rfl, ⟨h1, h2, h3⟩, h4⟩ := h
    rw [List.flatMap_cons, chain_o xs h4, slc_cat xs h1 (chain_le h4).1]
theorem chain_a {e : L.P3} (xs : TL) : ∀ {l : List (L.P3 × L.P3)} {p : L.P3}, chainC p l e → (l.flatMap fun c => L.slc xs c.1.a c.2.a) = L.slc xs p.a e.a
  | [], p, h => by cases h; rw [slc_self]; rfl
  | c :: l, p, h => by
    obtain ⟨rfl, ⟨h1, h2, h3⟩, h4⟩ := h
    rw [List.flatMap_cons, chain_a xs h4, slc_cat xs h2 (chain_le h4).2.1]
theorem chain_b {e : L.P3} (xs : TL) : ∀ {l : List (L.P3 × L.P3)} {p : L.P3}, chainC p l e → (l.flatMap fun c => L.slc xs c.1.b c.2.b) = L.slc xs p.b e.b
  | [], p, h => by cases h; rw [slc_self]; rfl
  | c :: l, p, h => by
    obtain ⟨rfl, ⟨h1, h2, h3⟩, h4⟩ := h
    rw [List.flatMap_cons, chain_b xs h4, slc_cat xs h3 (chain_le h4).2.2]
/-- The chunks of three rows of units. -/
theorem chunksT_chain {o a b : TL} (l1 : o.length ≤ 2600) (l2 : a.length ≤ 2600) (l3 : b.length ≤ 2600) : ∃ l, chainC ⟨0, 0, 0⟩ l ⟨o.length, a.length, b.length⟩ ∧ (L.chunksT o a b).map (fun c => (c.p, c.q)) = l := by
  refine ⟨_, ?_, rfl⟩
  have e1 : (L.num3 o a b).1.length = o.length := L.numRow_length _ _
  have e2 : (L.num3 o a b).2.1.length = a.length := L.numRow_length _ _
  have e3 : (L.num3 o a b).2.2.length = b.length := L.numRow_length _ _
  generalize hx : (L.num3 o a b).1 = x at e1
  generalize hy : (L.num3 o a b).2.1 = y at e2
  generalize hz : (L.num3 o a b).2.2 = z at e3
  have hi : L.InvP (L.matchOf x y) (L.matchOf x z) ⟨x.length, y.length, z.length⟩ ⟨0, 0, 0⟩ := L.InvP.start (L.matchOf_length x y) (L.matchOf_length x z) (L.match_ok (by omega) (by omega)).1 (L.match_ok (by omega) (by omega)).1
  have hc := cutsAt_chain _ _ (Nat.le_refl _) hi
  unfold L.chunksT L.chunksOf
  rw [hx, hy, hz, List.map_map, ← e1, ← e2, ← e3]
  have : ((fun c : L.Ck => (c.p, c.q)) ∘ L.ckOf x y z) = id := by funext c; rfl
  rw [this, List.map_id]
  exact hc
theorem cover_o {o a b : TL} (l1 : o.length ≤ 2600) (l2 : a.length ≤ 2600) (l3 : b.length ≤ 2600) : ((L.chunksT o a b).flatMap fun c => L.slc o c.p.o c.q.o) = o := by
  obtain ⟨l, h, e⟩ := chunksT_chain l1 l2 l3
  have := chain_o o h
  rw [← e, List.flatMap_map] at this
  rw [this]
  unfold L.slc
  rw [List.drop_zero, Nat.sub_zero, List.take_length]
theorem cover_a {o a b : TL} (l1 : o.length ≤ 2600) (l2 : a.length ≤ 2600) (l3 : b.length ≤ 2600) : ((L.chunksT o a b).flatMap fun c => L.slc a c.p.a c.q.a) = a := by
  obtain ⟨l, h, e⟩ := chunksT_chain l1 l2 l3
  have := chain_a a h
  rw [← e, List.flatMap_map] at this
  rw [this]
  unfold L.slc
  rw [List.drop_zero, Nat.sub_zero, List.take_length]
theorem cover_b {o a b : TL} (l1 : o.length ≤ 2600) (l2 : a.length ≤ 2600) (l3 : b.length ≤ 2600) : ((L.chunksT o a b).flatMap fun c => L.slc b c.p.b c.q.b) = b := by
  obtain ⟨l, h, e⟩ := chunksT_chain l1 l2 l3
  have := chain_b b h
  rw [← e, List.flatMap_map] at this
  rw [this]
  unfold L.slc
  rw [List.drop_zero, Nat.sub_zero, List.take_length]
/-- A row out of each piece grows by what a chunk adds. -/
theorem add_flat_ {f : Pc → TL} {o a b : TL} (s : St) (c : L.Ck) (new : TL) (h4 : c.kind = 4 → f ⟨true, L.slc o c.p.o c.q.o, L.slc a c.p.a c.q.a, L.slc b c.p.b c.q.b⟩ = new) (h0 : c.kind ≠ 4 → f ⟨false, L.slc o c.p.o c.q.o, yOf a b c, []⟩ = new)
    (hq : ∀ q : TL × TL, c.kind ≠ 4 → f ⟨false, q.1 ++ L.slc o c.p.o c.q.o, q.2 ++ yOf a b c, []⟩ = f ⟨false, q.1, q.2, []⟩ ++ new) : (s.add o a b c).fin.flatMap f = s.fin.flatMap f ++ new := by
  unfold St.add
  split
  · rename_i hk
    rw [fin_nil _ rfl, List.flatMap_append]
    simp [h4 hk]
  · rename_i hk
    cases hs : s.2 with
    | none =>
      rw [fin_cons _ _ rfl, fin_nil s hs, List.flatMap_append]
      simp [h0 hk]
    | some q =>
      rw [fin_cons _ _ rfl, fin_cons s q hs, List.flatMap_append, List.flatMap_append]
      simp [hq q hk]
theorem stOf_flat {f : Pc → TL} {o a b : TL} (new : L.Ck → TL) (h4 : ∀ c : L.Ck, c.kind = 4 → f ⟨true, L.slc o c.p.o c.q.o, L.slc a c.p.a c.q.a, L.slc b c.p.b c.q.b⟩ = new c) (h0 : ∀ c : L.Ck, c.kind ≠ 4 → f ⟨false, L.slc o c.p.o c.q.o, yOf a b c, []⟩ = new c)
    (hq : ∀ (c : L.Ck) (q : TL × TL), c.kind ≠ 4 → f ⟨false, q.1 ++ L.slc o c.p.o c.q.o, q.2 ++ yOf a b c, []⟩ = f ⟨false, q.1, q.2, []⟩ ++ new c) (l : List L.Ck) : (stOf o a b l).fin.flatMap f = l.flatMap new := by
  have : ∀ (l : List L.Ck) (s : St), (l.foldl (St.add o a b) s).fin.flatMap f = s.fin.flatMap f ++ l.flatMap new := by
    intro l
    induction l with
    | nil => intro s; simp
    | cons c l ih =>
      intro s
      rw [List.foldl_cons, ih, add_flat_ s c (new c) (h4 c) (h0 c) (hq c), List.flatMap_cons, List.append_assoc]
  have h := this l ([], none)
  exact h
theorem combP_o {o a b : TL} (l1 : o.length ≤ 2600) (l2 : a.length ≤ 2600) (l3 : b.length ≤ 2600) : (combP o a b).flatMap Pc.o = o := by
  unfold combP
  rw [stOf_flat (fun c => L.slc o c.p.o c.q.o) (fun c _ => rfl) (fun c _ => rfl) (fun c q _ => rfl)]
  exact cover_o l1 l2 l3
theorem mem_flat_len (f : Pc → TL) : ∀ (X : List Pc) (x : Pc), x ∈ X → (joinT (f x)).length ≤ (joinT (X.flatMap f)).length
  | y :: X, x, h => by
    rw [List.flatMap_cons, joinT_app, List.length_append]
    rcases List.mem_cons.1 h with rfl | h
    · omega
    · have := mem_flat_len f X x h
      omega
theorem two_flat_len (f g h : L.Ck → TL) (hf : ∀ c, f c = g c ∨ f c = h c) : ∀ l : List L.Ck, (joinT (l.flatMap f)).length ≤ (joinT (l.flatMap g)).length + (joinT (l.flatMap h)).length
  | [] => by simp [joinT]
  | c :: l => by
    have := two_flat_len f g h hf l
    simp only [List.flatMap_cons, joinT_app, List.length_append]
    rcases hf c with e | e <;> rw [e] <;> omega
theorem combP_fits {o a b : TL} (l1 : o.length ≤ 2600) (l2 : a.length ≤ 2600) (l3 : b.length ≤ 2600) (x : Pc) (hx : x ∈ combP o a b) : (joinT x.o).length ≤ (joinT o).length ∧ (joinT x.a).length ≤ (joinT a).length + (joinT b).length ∧ (joinT x.b).length ≤ (joinT a).length + (joinT b).length := by
  have ca := cover_a l1 l2 l3
  have cb := cover_b l1 l2 l3
  refine ⟨?_, ?_, ?_⟩
  · have := mem_flat_len Pc.o _ x hx
    rwa [combP_o l1 l2 l3] at this
  · have h1 := mem_flat_len Pc.a _ x hx
    unfold combP at h1
    rw [stOf_flat (fun c => if c.kind = 4 then L.slc a c.p.a c.q.a else yOf a b c) (fun c h => by simp [h]) (fun c h => by simp [h]) (fun c q h => by simp [h])] at h1
    have h2 := two_flat_len (fun c => if c.kind = 4 then L.slc a c.p.a c.q.a else yOf a b c) (fun c => L.slc a c.p.a c.q.a) (fun c => L.slc b c.p.b c.q.b) (fun c => by
      unfold yOf
      by_cases h : c.kind = 4
      · left; simp only [h, if_true]
      · simp only [if_neg h]
        by_cases h' : c.kind = 2
        · right; simp only [h', if_true]
        · left; simp only [if_neg h']) (L.chunksT o a b)
    rw [ca, cb] at h2
    omega
  · have h1 := mem_flat_len Pc.b _ x hx
    unfold combP at h1
    rw [stOf_flat (fun c => if c.kind = 4 then L.slc b c.p.b c.q.b else []) (fun c h => by simp [h]) (fun c h => by simp [h]) (fun c q h => by simp [h])] at h1
    have h2 := two_flat_len (fun c => if c.kind = 4 then L.slc b c.p.b c.q.b else []) (fun c => L.slc b c.p.b c.q.b) (fun _ => []) (fun c => by
      by_cases h : c.kind = 4
      · left; simp only [h, if_true]
      · right; simp only [if_neg h]) (L.chunksT o a b)
    have h3 : ((L.chunksT o a b).flatMap fun _ => ([] : TL)) = [] := by simp
    rw [cb, h3] at h2
    have h4 : (joinT []).length = 0 := rfl
    omega
theorem joinT_lns (s : ByteArray) : joinT (S.lns s) = tl s := by
  unfold joinT
  rw [show (S.lns s).map tl = S.lgo [] (tl s) from S.lns_lgo s, S.lgo_flatten]
  rfl
theorem linesF (o a b : ByteArray) (h1 : o.size ≤ 2599) (h2 : a.size ≤ 2599) (h3 : b.size ≤ 2599) : (linesP o a b).length ≤ 20000 ∧ ∀ p ∈ linesP o a b, p.o.length ≤ 6000 ∧ p.a.length ≤ 6000 ∧ p.b.length ≤ 6000 := by
  have l1 := Nat.le_trans (S.lns_len o) h1
  have l2 := Nat.le_trans (S.lns_len a) h2
  have l3 := Nat.le_trans (S.lns_len b) h3
  have j1 : (joinT (S.lns o)).length = o.size := by rw [joinT_lns]; simp [tl]
  have j2 : (joinT (S.lns a)).length = a.size := by rw [joinT_lns]; simp [tl]
  have j3 : (joinT (S.lns b)).length = b.size := by rw [joinT_lns]; simp [tl]
  refine ⟨?_, ?_⟩
  · unfold linesP wovenP
    rw [List.length_map]
    have k1 := combP_len (S.lns o) (S.lns a) (S.lns b)
    have k2 := chunksT_len (o := S.lns o) (a := S.lns a) (b := S.lns b)
    omega
  · intro p hp
    obtain ⟨x, hx, rfl⟩ := List.mem_map.1 hp
    obtain ⟨g1, g2, g3⟩ := combP_fits (by omega) (by omega) (by omega) x hx
    refine ⟨?_, ?_, ?_⟩
    · show (joinT x.o).length ≤ _; omega
    · show (joinT x.a).length ≤ _; omega
    · show (if x.clash then joinT x.b else joinT x.a).length ≤ _
      split <;> omega
end Go.Proofs.YtbekbllffphfeaaDoor
