/-
  For the laws of fallback: one side is as it was, or both are alike: what comes of three texts and of three trees, on lists alone. Condition: texts of at most 2,599 bytes.
-/
import Derived.Test.YtbekbllffphfeaaDoorFz
namespace Go.Proofs.YtbekbllffphfeaaDoor
set_option linter.unusedSimpArgs false
set_option linter.unusedVariables false

namespace L
/-- Numbers of texts, by the last list of known ones. -/
theorem known_prefix (L : List (List UInt8)) (ss : List ByteArray) : L <+: knownBy L ss := by
  induction ss generalizing L with
  | nil => exact List.prefix_refl _
  | cons s ss ih =>
    refine List.IsPrefix.trans ?_ (ih (numStep L s))
    unfold numStep
    split
    · exact List.prefix_refl _
    · exact List.prefix_append _ _
theorem idx_prefix {L K : List (List UInt8)} {x : List UInt8} (h : L <+: K) (hx : x ∈ L) : K.idxOf x = L.idxOf x := by
  obtain ⟨t, rfl⟩ := h
  rw [List.idxOf_append, if_pos hx]
theorem mem_step (L : List (List UInt8)) (s : ByteArray) : wd s ∈ numStep L s := by
  unfold numStep
  split <;> simp_all
theorem idx_step (L : List (List UInt8)) (s : ByteArray) : (numStep L s).idxOf (wd s) = L.idxOf (wd s) := by
  unfold numStep
  split
  · rfl
  · rename_i h
    rw [List.idxOf_append, if_neg h, List.idxOf_eq_length h]
    simp
theorem numRow_last : ∀ (ss : List ByteArray) (L K : List (List UInt8)), knownBy L ss <+: K → numRow L ss = ss.map (fun s => (K.idxOf (wd s) : Int))
  | [], _, _, _ => rfl
  | s :: ss, L, K, h => by
    have h' : knownBy (numStep L s) ss <+: K := h
    rw [numRow, numRow_last ss (numStep L s) K h', List.map_cons]
    rw [idx_prefix ((known_prefix (numStep L s) ss).trans h') (mem_step L s), idx_step]
theorem known_mem : ∀ (ss : List ByteArray) (L : List (List UInt8)) (s : ByteArray), s ∈ ss → wd s ∈ knownBy L ss
  | x :: ss, L, s, h => by
    rcases List.mem_cons.1 h with rfl | h
    · exact (known_prefix (numStep L s) ss).subset (mem_step L s)
    · exact known_mem ss (numStep L x) s h
theorem idx_inj {K : List (List UInt8)} {x y : List UInt8} (hx : x ∈ K) (hy : y ∈ K) (h : K.idxOf x = K.idxOf y) : x = y := by
  have h1 := List.getElem_idxOf (List.idxOf_lt_length_of_mem hx)
  have h2 := List.getElem_idxOf (List.idxOf_lt_length_of_mem hy)
  rw [← h1, ← h2]
  simp only [h]
end L

/-- The number of a text. -/
def nm (K : List (List UInt8)) (s : ByteArray) : Int := (K.idxOf (tl s) : Int)
def lastK (o a b : TL) : List (List UInt8) := L.knownBy (L.knownBy (L.knownBy [] o) a) b
theorem num3_nm (o a b : TL) : L.num3 o a b = (o.map (nm (lastK o a b)), a.map (nm (lastK o a b)), b.map (nm (lastK o a b))) := by
  have e1 := L.numRow_last o [] (lastK o a b) ((L.known_prefix _ _).trans (L.known_prefix _ _))
  have e2 := L.numRow_last a (L.knownBy [] o) (lastK o a b) (L.known_prefix _ _)
  have e3 := L.numRow_last b (L.knownBy (L.knownBy [] o) a) (lastK o a b) (List.prefix_refl _)
  unfold L.num3
  rw [e1, e2, e3]
  rfl
/-- Texts of one of three rows. -/
def Of3 (o a b : TL) (s : ByteArray) : Prop := s ∈ o ∨ s ∈ a ∨ s ∈ b
theorem lastK_mem {o a b : TL} {s : ByteArray} (h : Of3 o a b s) : tl s ∈ lastK o a b := by
  rcases h with h | h | h
  · exact ((L.known_prefix _ _).trans (L.known_prefix _ _)).subset (L.known_mem o [] s h)
  · exact (L.known_prefix _ _).subset (L.known_mem a _ s h)
  · exact L.known_mem b _ s h
/-- Numbers that tell such texts apart. -/
def On (P : ByteArray → Prop) (f : ByteArray → Int) : Prop := ∀ s t, P s → P t → f s = f t → s = t
theorem nm_on (o a b : TL) : On (Of3 o a b) (nm (lastK o a b)) := by
  intro s t hs ht h
  unfold nm at h
  have e := L.idx_inj (lastK_mem hs) (lastK_mem ht) (by omega)
  rw [← bs_tl s, ← bs_tl t, e]
theorem map_on {P : ByteArray → Prop} {f : ByteArray → Int} (hf : On P f) : ∀ x y : TL, (∀ s ∈ x, P s) → (∀ s ∈ y, P s) → (x.map f = y.map f ↔ x = y)
  | [], [], _, _ => by simp
  | [], t :: y, _, _ => by simp
  | s :: x, [], _, _ => by simp
  | s :: x, t :: y, hx, hy => by
    have ih := map_on hf x y (fun u hu => hx u (List.mem_cons_of_mem _ hu)) (fun u hu => hy u (List.mem_cons_of_mem _ hu))
    rw [List.map_cons, List.map_cons, List.cons.injEq, List.cons.injEq, ih]
    exact ⟨fun h => ⟨hf s t (hx s (by simp)) (hy t (by simp)) h.1, h.2⟩, fun h => ⟨by rw [h.1], h.2⟩⟩

namespace L
theorem pfx_self : ∀ l : List Int, pfx l l = l.length
  | [] => rfl
  | x :: l => by unfold pfx; rw [if_pos rfl, pfx_self l, List.length_cons]
theorem matchOf_self (l : List Int) : matchOf l l = (List.range l.length).map (fun j : Nat => (j : Int)) := by
  unfold matchOf
  split
  · refine List.map_congr_left (fun j hj => ?_)
    have hj2 := List.mem_range.1 hj
    unfold longAt
    rw [pfx_self, if_pos hj2]
  · rw [gm_pfx, pfx_self, List.drop_length]
    simp [gm]
theorem uns_spec : ∀ (M R : List Int) (i : Nat) (q : P3), uns M R i = some q → ∃ j l r, q.o = i + j ∧ M[j]? = some l ∧ R[j]? = some r ∧ q.a = l.toNat ∧ q.b = r.toNat
  | l :: M, r :: R, i, q, h => by
    unfold uns at h
    split at h
    · cases h
      exact ⟨0, l, r, rfl, rfl, rfl, rfl, rfl⟩
    · obtain ⟨j, l', r', h1, h2, h3, h4, h5⟩ := uns_spec M R (i + 1) q h
      exact ⟨j + 1, l', r', by omega, by simpa using h2, by simpa using h3, h4, h5⟩
  | [], _, _, _, h => by unfold uns at h; cases h
  | _ :: _, [], _, _, h => by unfold uns at h; cases h
theorem cuts_all {J : P3 → Prop} {M R : List Int} {E : P3} (hn : ∀ p, J p → J (nxt M R E p)) : ∀ (n : Nat) (p : P3), J p → ∀ c ∈ cuts M R E n p, J c.1 ∧ J c.2
  | 0, _, _, c, hc => by cases hc
  | n + 1, p, hp, c, hc => by
    unfold cuts at hc
    split at hc
    · cases hc
    · rcases List.mem_cons.1 hc with rfl | hc
      · exact ⟨hp, hn p hp⟩
      · exact cuts_all hn n _ (hn p hp) c hc
theorem nxt_all {J : P3 → Prop} {M R : List Int} {E : P3} (hE : J E) (hs : ∀ (p : P3) (s : Nat), J p → J ⟨p.o + s, p.a + s, p.b + s⟩) (hu : ∀ (q : P3) (l r : Int), M[q.o]? = some l → R[q.o]? = some r → q.a = l.toNat → q.b = r.toNat → J q) (p : P3) (hp : J p) : J (nxt M R E p) := by
  unfold nxt
  split
  · cases h : uns (M.drop p.o) (R.drop p.o) p.o with
    | none => exact hE
    | some q =>
      obtain ⟨j, l, r, h1, h2, h3, h4, h5⟩ := uns_spec _ _ _ _ h
      rw [List.getElem?_drop, ← h1] at h2 h3
      exact hu q l r h2 h3 h4 h5
  · exact hs p _ hp
theorem range_at {n i : Nat} {x : Int} (h : ((List.range n).map (fun j : Nat => (j : Int)))[i]? = some x) : x = i := by
  rw [List.getElem?_map] at h
  obtain ⟨j, hj, rfl⟩ := Option.map_eq_some_iff.1 h
  obtain ⟨_, rfl⟩ := List.getElem?_eq_some_iff.1 hj
  simp
theorem kind_xxz (x z : List Int) : kindN x x z = if x = z then 0 else 2 := by unfold kindN; rw [if_pos rfl]
theorem kind_xyx (x y : List Int) : kindN x y x = if x = y then 0 else 1 := by unfold kindN; split <;> simp_all
theorem kind_xyy (x y : List Int) : kindN x y y = if x = y then 0 else 3 := by
  unfold kindN
  by_cases h : x = y
  · rw [if_pos h, if_pos h, if_pos h]
  · rw [if_neg h, if_neg h, if_pos rfl, if_neg h]
end L
theorem slc_map' {α β : Type} (f : α → β) (xs : List α) (i j : Nat) : L.slc (xs.map f) i j = (L.slc xs i j).map f := by unfold L.slc; rw [List.map_take, List.map_drop]
theorem slc_mem' {α : Type} {xs : List α} {i j : Nat} {s : α} (h : s ∈ L.slc xs i j) : s ∈ xs := List.mem_of_mem_drop (List.mem_of_mem_take h)
theorem ck_mem {o a b : TL} {c : L.Ck} (h : c ∈ L.chunksT o a b) : ∃ d, c = L.ckOf (L.num3 o a b).1 (L.num3 o a b).2.1 (L.num3 o a b).2.2 d ∧ d ∈ L.cutsAt (L.matchOf (L.num3 o a b).1 (L.num3 o a b).2.1) (L.matchOf (L.num3 o a b).1 (L.num3 o a b).2.2) ⟨(L.num3 o a b).1.length, (L.num3 o a b).2.1.length, (L.num3 o a b).2.2.length⟩ ⟨0, 0, 0⟩ := by
  unfold L.chunksT L.chunksOf at h
  obtain ⟨d, hd, rfl⟩ := List.mem_map.1 h
  exact ⟨d, rfl, hd⟩
/-- The left side is as it was: each chunk gives what is right. -/
theorem ck_right {o b : TL} {c : L.Ck} (h : c ∈ L.chunksT o o b) : c.kind ≠ 4 ∧ yOf o b c = L.slc b c.p.b c.q.b := by
  obtain ⟨d, rfl, hd⟩ := ck_mem h
  rw [num3_nm] at hd ⊢
  dsimp only at hd ⊢
  have on := nm_on o o b
  generalize nm (lastK o o b) = f at hd on ⊢
  rw [L.matchOf_self] at hd
  obtain ⟨j1, j2⟩ := L.cuts_all (J := fun p => p.o = p.a) (L.nxt_all (J := fun p => p.o = p.a) rfl (fun p s hp => by show p.o + s = p.a + s; rw [hp]) (fun q l r h1 h2 h3 h4 => by have := L.range_at h1; show q.o = q.a; omega)) _ _ rfl d hd
  have e : (L.ckOf (o.map f) (o.map f) (b.map f) d).kind = if L.slc o d.1.o d.2.o = L.slc b d.1.b d.2.b then 0 else 2 := by
    show L.kindN _ _ _ = _
    rw [j1, j2, L.kind_xxz, slc_map', slc_map']
    have hm := map_on on (L.slc o d.1.a d.2.a) (L.slc b d.1.b d.2.b) (fun s hs => .inl (slc_mem' hs)) (fun s hs => .inr (.inr (slc_mem' hs)))
    by_cases hh : L.slc o d.1.a d.2.a = L.slc b d.1.b d.2.b
    · rw [if_pos hh, if_pos (hm.2 hh)]
    · rw [if_neg hh, if_neg (fun e => hh (hm.1 e))]
  refine ⟨by rw [e]; split <;> decide, ?_⟩
  unfold yOf
  rw [e]
  by_cases hh : L.slc o d.1.o d.2.o = L.slc b d.1.b d.2.b
  · rw [if_pos hh, if_neg (by decide)]
    show L.slc o d.1.a d.2.a = L.slc b d.1.b d.2.b
    rw [← j1, ← j2]
    exact hh
  · rw [if_neg hh, if_pos rfl]
/-- The right side is as it was. -/
theorem ck_left {o a : TL} {c : L.Ck} (h : c ∈ L.chunksT o a o) : c.kind ≠ 4 ∧ yOf a o c = L.slc a c.p.a c.q.a := by
  obtain ⟨d, rfl, hd⟩ := ck_mem h
  rw [num3_nm] at hd ⊢
  dsimp only at hd ⊢
  generalize nm (lastK o a o) = f at hd ⊢
  rw [L.matchOf_self] at hd
  obtain ⟨j1, j2⟩ := L.cuts_all (J := fun p => p.o = p.b) (L.nxt_all (J := fun p => p.o = p.b) rfl (fun p s hp => by show p.o + s = p.b + s; rw [hp]) (fun q l r h1 h2 h3 h4 => by have := L.range_at h2; show q.o = q.b; omega)) _ _ rfl d hd
  have e : (L.ckOf (o.map f) (a.map f) (o.map f) d).kind = 0 ∨ (L.ckOf (o.map f) (a.map f) (o.map f) d).kind = 1 := by
    show L.kindN _ _ _ = _ ∨ L.kindN _ _ _ = _
    rw [j1, j2, L.kind_xyx]
    split
    · exact .inl rfl
    · exact .inr rfl
  refine ⟨by rcases e with e | e <;> rw [e] <;> decide, ?_⟩
  unfold yOf
  rcases e with e | e <;> rw [e] <;> rw [if_neg (by decide)]
/-- Both sides are alike. -/
theorem ck_both {o a : TL} {c : L.Ck} (h : c ∈ L.chunksT o a a) : c.kind ≠ 4 ∧ yOf a a c = L.slc a c.p.a c.q.a := by
  obtain ⟨d, rfl, hd⟩ := ck_mem h
  rw [num3_nm] at hd ⊢
  dsimp only at hd ⊢
  generalize nm (lastK o a a) = f at hd ⊢
  obtain ⟨j1, j2⟩ := L.cuts_all (J := fun p => p.a = p.b) (L.nxt_all (J := fun p => p.a = p.b) rfl (fun p s hp => by show p.a + s = p.b + s; rw [hp]) (fun q l r h1 h2 h3 h4 => by rw [h1] at h2; cases h2; show q.a = q.b; omega)) _ _ rfl d hd
  have e : (L.ckOf (o.map f) (a.map f) (a.map f) d).kind = 0 ∨ (L.ckOf (o.map f) (a.map f) (a.map f) d).kind = 3 := by
    show L.kindN _ _ _ = _ ∨ L.kindN _ _ _ = _
    rw [j1, j2, L.kind_xyy]
    split
    · exact .inl rfl
    · exact .inr rfl
  refine ⟨by rcases e with e | e <;> rw [e] <;> decide, ?_⟩
  unfold yOf
  rcases e with e | e <;> rw [e] <;> rw [if_neg (by decide)]
theorem stOf_calm {o a b : TL} : ∀ (l : List L.Ck) (s : St), (∀ c ∈ l, c.kind ≠ 4) → (∀ p ∈ s.1, p.clash = false) → ∀ p ∈ (l.foldl (St.add o a b) s).1, p.clash = false
  | [], s, _, h => h
  | c :: l, s, hc, h => by
    rw [List.foldl_cons]
    refine stOf_calm l _ (fun d hd => hc d (List.mem_cons_of_mem _ hd)) ?_
    have h4 := hc c List.mem_cons_self
    unfold St.add
    rw [if_neg h4]
    cases s.2 <;> exact h
/-- No chunk clashes: no piece does, and their left texts are the chunks' ones. -/
theorem comb_calm {o a b : TL} (g : L.Ck → TL) (h : ∀ c ∈ L.chunksT o a b, c.kind ≠ 4 ∧ yOf a b c = g c) : (∀ x ∈ combP o a b, x.clash = false) ∧ (combP o a b).flatMap Pc.a = (L.chunksT o a b).flatMap g := by
  constructor
  · intro x hx
    unfold combP St.fin at hx
    rcases List.mem_append.1 hx with hx | hx
    · exact stOf_calm _ _ (fun c hc => (h c hc).1) (fun p hp => by cases hp) x hx
    · split at hx
      · cases hx
      · obtain rfl := List.mem_singleton.1 hx
        rfl
  · unfold combP
    rw [stOf_flat (fun c => if c.kind = 4 then L.slc a c.p.a c.q.a else yOf a b c) (fun c hc => by rw [if_pos hc]) (fun c hc => by rw [if_neg hc]) (fun c q hc => by rw [if_neg hc])]
    generalize hl : L.chunksT o a b = l at h
    clear hl
    induction l with
    | nil => rfl
    | cons c l ih =>
      obtain ⟨h4, hg⟩ := h c List.mem_cons_self
      rw [List.flatMap_cons, List.flatMap_cons, if_neg h4, hg, ih (fun d hd => h d (List.mem_cons_of_mem _ hd))]
theorem woven_calm {o a b : TL} {t : TL} (h1 : ∀ x ∈ combP o a b, x.clash = false) (h2 : (combP o a b).flatMap Pc.a = t) : clashP (wovenP o a b) = false ∧ (wovenP o a b).flatMap Pt.a = joinT t := by
  unfold wovenP
  constructor
  · unfold clashP
    rw [List.any_map, List.any_eq_false]
    intro x hx
    show ¬ (x.clash = true)
    rw [h1 x hx]
    decide
  · rw [← h2]
    generalize combP o a b = l
    induction l with
    | nil => rfl
    | cons x l ih =>
      rw [List.map_cons, List.flatMap_cons, List.flatMap_cons, joinT_app, ih]
      rfl
theorem show_calm {Q : List Pt} (h : clashP Q = false) (old : Bool) : showS Q old = Q.flatMap Pt.a := by
  unfold showS K.printM
  generalize K.showN (Q.map kp) = m
  unfold clashP at h
  induction Q with
  | nil => rfl
  | cons x l ih =>
    rw [List.any_cons, Bool.or_eq_false_iff] at h
    rw [List.map_cons, List.flatMap_cons, List.flatMap_cons, ih h.2]
    congr 1
    unfold K.oneP kp
    dsimp only
    rw [h.1]
    rfl
theorem lines_calm {x y z t : ByteArray} (h : clashP (linesP x y z) = false ∧ (linesP x y z).flatMap Pt.a = joinT (S.lns t)) (old : Bool) : bs (showS (linesP x y z) old) = t ∧ clashI (linesP x y z) = 0 := by
  constructor
  · rw [show_calm h.1, h.2, joinT_lns]
  · unfold clashI
    rw [h.1]
    exact if_neg (by decide)
theorem lns_ok {s : ByteArray} (h : s.size ≤ 2599) : (S.lns s).length ≤ 2600 := by have := S.lns_len s; omega
theorem lines_right {x z : ByteArray} (h1 : x.size ≤ 2599) (h3 : z.size ≤ 2599) (old : Bool) : bs (showS (linesP x x z) old) = z ∧ clashI (linesP x x z) = 0 := by
  obtain ⟨k1, k2⟩ := comb_calm (fun c => L.slc (S.lns z) c.p.b c.q.b) (fun c hc => ck_right (o := S.lns x) (b := S.lns z) hc)
  exact lines_calm (woven_calm k1 (k2.trans (cover_b (lns_ok h1) (lns_ok h1) (lns_ok h3)))) old
theorem lines_left {x y : ByteArray} (h1 : x.size ≤ 2599) (h2 : y.size ≤ 2599) (old : Bool) : bs (showS (linesP x y x) old) = y ∧ clashI (linesP x y x) = 0 := by
  obtain ⟨k1, k2⟩ := comb_calm (fun c => L.slc (S.lns y) c.p.a c.q.a) (fun c hc => ck_left (o := S.lns x) (a := S.lns y) hc)
  exact lines_calm (woven_calm k1 (k2.trans (cover_a (lns_ok h1) (lns_ok h2) (lns_ok h1)))) old
theorem lines_both {x y : ByteArray} (h1 : x.size ≤ 2599) (h2 : y.size ≤ 2599) (old : Bool) : bs (showS (linesP x y y) old) = y ∧ clashI (linesP x y y) = 0 := by
  obtain ⟨k1, k2⟩ := comb_calm (fun c => L.slc (S.lns y) c.p.a c.q.a) (fun c hc => ck_both (o := S.lns x) (a := S.lns y) hc)
  exact lines_calm (woven_calm k1 (k2.trans (cover_a (lns_ok h1) (lns_ok h2) (lns_ok h2)))) old
theorem nzI {s : ByteArray} (h : s.size ≤ 2599) (t : Bool) : (nz s t).size ≤ 2599 := nz_le h
theorem nz_true (s : ByteArray) : nz s true = s := rfl
theorem file_right {x z : ByteArray} (h1 : x.size ≤ 2599) (h3 : z.size ≤ 2599) (p r old : Bool) : fileP x x z p p r old = if r then (z, true, 0) else (⟨#[]⟩, false, 0) := by
  unfold fileP fileU
  cases p <;> cases r
  · simp
  · simp [nz]
  · simp [nz]
  · obtain ⟨e1, e2⟩ := lines_right h1 h3 old
    simp [nz_true, e1, e2]
theorem file_left {x y : ByteArray} (h1 : x.size ≤ 2599) (h2 : y.size ≤ 2599) (p q old : Bool) : fileP x y x p q p old = if q then (y, true, 0) else (⟨#[]⟩, false, 0) := by
  unfold fileP fileU
  cases p <;> cases q
  · simp
  · simp [nz]
  · simp [nz]
  · obtain ⟨e1, e2⟩ := lines_left h1 h2 old
    simp [nz_true, e1, e2]
theorem file_both {x y : ByteArray} (h1 : x.size ≤ 2599) (h2 : y.size ≤ 2599) (p q old : Bool) : fileP x y y p q q old = if q then (y, true, 0) else (⟨#[]⟩, false, 0) := by
  unfold fileP fileU
  cases q
  · simp
  · obtain ⟨e1, e2⟩ := lines_both (nzI h1 p) h2 old
    simp [nz_true, e1, e2]
/-- Of each path what a tree holds. -/
def backT (B : List T.Fl) (ps : List By) : List T.Fl := ps.filterMap fun p => (T.getT B p).map fun t => ⟨p, t⟩
theorem fold_back (O A C B : List T.Fl) (old : Bool) (h : ∀ p, fileT O A C old p = if (gT B p).2 then ((gT B p).1, true, 0) else (⟨#[]⟩, false, 0)) : ∀ (ps : List By) (F : List T.Fl), ps.foldl (stepT O A C old) (F, []) = (F ++ backT B ps, [])
  | [], F => by simp [backT]
  | p :: ps, F => by
    rw [List.foldl_cons]
    have e : stepT O A C old (F, []) p = (F ++ backT B [p], []) := by
      unfold stepT addT backT
      rw [h]
      unfold gT
      rw [tl_bs]
      cases hg : T.getT B p with
      | none => simp [hg]
      | some t => simp [hg, tl_bs]
    rw [e, fold_back O A C B old h ps]
    congr 1
    rw [List.append_assoc]
    congr 1
    unfold backT
    rw [show p :: ps = [p] ++ ps from rfl, List.filterMap_append]
theorem back_all {B : List T.Fl} (hB : T.Rising B) {ps : List By} (hp : ps.Pairwise (· < ·)) (hm : ∀ f ∈ B, f.path ∈ ps) : backT B ps = B := by
  have hr : T.Rising (backT B ps) := by
    unfold backT T.Rising
    rw [List.pairwise_filterMap]
    refine hp.imp (fun {a b} hab f hf g hg => ?_)
    obtain ⟨_, _, rfl⟩ := Option.map_eq_some_iff.1 hf
    obtain ⟨_, _, rfl⟩ := Option.map_eq_some_iff.1 hg
    exact hab
  have hmem : ∀ f, f ∈ backT B ps ↔ f ∈ B := by
    intro f
    unfold backT
    rw [List.mem_filterMap]
    constructor
    · rintro ⟨p, hp, he⟩
      obtain ⟨t, ht, rfl⟩ := Option.map_eq_some_iff.1 he
      exact T.mem_get ht
    · intro hf
      exact ⟨f.path, hm f hf, by rw [T.get_mem hB hf]; rfl⟩
  refine T.rising_ext hr hB (fun q => ?_)
  cases h1 : T.getT B q with
  | some t =>
    have := (hmem _).2 (T.mem_get h1)
    exact T.get_mem hr this
  | none =>
    cases h2 : T.getT (backT B ps) q with
    | none => rfl
    | some t =>
      have := T.get_mem hB ((hmem _).1 (T.mem_get h2))
      dsimp only at this
      rw [h1] at this
      cases this
theorem trees_back {O A C B : List T.Fl} {old : Bool} (hB : T.Rising B) (hm : ∀ f ∈ B, f ∈ O ∨ f ∈ A ∨ f ∈ C) (h : ∀ p, fileT O A C old p = if (gT B p).2 then ((gT B p).1, true, 0) else (⟨#[]⟩, false, 0)) : treesP O A C old = (B, []) := by
  unfold treesP
  rw [fold_back O A C B old h]
  unfold pathsT
  rw [back_all hB (T.pathsOf_lt _) (fun f hf => ?_)]
  · rfl
  · rw [T.pathsOf_mem, T.ps, List.mem_map]
    refine ⟨f, ?_, rfl⟩
    rw [List.mem_flatten]
    rcases hm f hf with h | h | h
    · exact ⟨O, by simp, h⟩
    · exact ⟨A, by simp, h⟩
    · exact ⟨C, by simp, h⟩
/-- The left side is as it was, the right one is, both are alike. -/
theorem trees_right {S B : List T.Fl} (hB : T.Rising B) (k0 : ∀ f ∈ S, f.text.length ≤ 2599) (k2 : ∀ f ∈ B, f.text.length ≤ 2599) (old : Bool) : treesP S S B old = (B, []) :=
  trees_back hB (fun f hf => .inr (.inr hf)) (fun p => by unfold fileT; exact file_right (gT_le k0) (gT_le k2) _ _ _)
theorem trees_left {S B : List T.Fl} (hB : T.Rising B) (k0 : ∀ f ∈ S, f.text.length ≤ 2599) (k2 : ∀ f ∈ B, f.text.length ≤ 2599) (old : Bool) : treesP S B S old = (B, []) :=
  trees_back hB (fun f hf => .inr (.inl hf)) (fun p => by unfold fileT; exact file_left (gT_le k0) (gT_le k2) _ _ _)
theorem trees_both {S B : List T.Fl} (hB : T.Rising B) (k0 : ∀ f ∈ S, f.text.length ≤ 2599) (k2 : ∀ f ∈ B, f.text.length ≤ 2599) (old : Bool) : treesP S B B old = (B, []) :=
  trees_back hB (fun f hf => .inr (.inl hf)) (fun p => by unfold fileT; exact file_both (gT_le k0) (gT_le k2) _ _ _)
end Go.Proofs.YtbekbllffphfeaaDoor
