/-
  For the laws on the parser: what a node is called stands in a token. No program. No condition.
-/
import Derived.Test.YtbnbmjdjkadgoaaDoorXPa
namespace Go.Proofs.YtbnbmjdjkadgoaaDoor.X
set_option linter.unusedSimpArgs false
set_option linter.unusedVariables false

/-- What comes well has a property. -/
def Ev {α : Type} (P : α → Prop) (r : Option (PR α)) : Prop := ∀ x m, r = some (.ok x m) → P x
theorem Ev.none {α : Type} {P : α → Prop} : Ev P none := fun _ _ h => by cases h
theorem Ev.bad {α : Type} {P : α → Prop} (p : Nat) (c : Int) : Ev P (some (.bad p c)) := fun _ _ h => by cases h
theorem Ev.ok {α : Type} {P : α → Prop} {x : α} {m : Nat} (h : P x) : Ev P (some (.ok x m)) := fun _ _ e => by cases e; exact h
theorem Ev.bind {α β : Type} {P : α → Prop} {R : β → Prop} {r : Option (PR α)} {g : α → Nat → Option (PR β)} (h : Ev P r) (hg : ∀ x m, P x → Ev R (g x m)) : Ev R (bindP r g) := by
  match r, h with
  | .none, _ => exact Ev.none
  | some (.bad p c), _ => exact Ev.bad p c
  | some (.ok x m), h => exact hg x m (h x m rfl)
theorem Ev.map_bad {P : Nd → Prop} {r : Option (PR Nd)} {c : Prop} [Decidable c] {p : Nat} {e : Int} (h : Ev P r) : Ev P (r.map (fun r => if c then .bad p e else r)) := by
  intro x m hx
  cases r with
  | none => cases hx
  | some q =>
    simp only [Option.map_some, Option.some.injEq] at hx
    split at hx
    · cases hx
    · exact h x m (by rw [hx])
/-- Kinds that are declared. -/
def declK (k : Int) : Bool := (k == 1) || (k == 2) || (k == 3) || (k == 4) || (k == 6)
/-- A node's name is a token's; if it is declared, a name, where it stands. -/
def HdT (T : List Tk) (h : Hd) : Prop := (h.text = [] ∨ ∃ t ∈ T, h.text = t.text) ∧ (declK h.kind = true → ∃ t ∈ T, t.kind = 1 ∧ h.text = t.text ∧ h.at_ = t.at_)
mutual
def AllN (T : List Tk) : Nd → Prop | .mk h ks => HdT T h ∧ AllL T ks
def AllL (T : List Tk) : List Nd → Prop
  | [] => True
  | t :: ts => AllN T t ∧ AllL T ts
end
theorem an_mk {T : List Tk} {h : Hd} {l : List Nd} (hk : HdT T h) (hl : AllL T l) : AllN T (.mk h l) := by rw [AllN]; exact ⟨hk, hl⟩
theorem an_nil {T : List Tk} : AllL T [] := by rw [AllL]; trivial
theorem an_cons {T : List Tk} {n : Nd} {l : List Nd} (h : AllN T n) (hl : AllL T l) : AllL T (n :: l) := by rw [AllL]; exact ⟨h, hl⟩
theorem an_snoc {T : List Tk} {n : Nd} {l : List Nd} (h : AllN T n) (hl : AllL T l) : AllL T (l ++ [n]) := by
  induction l with
  | nil => exact an_cons h hl
  | cons t ts ih => rw [List.cons_append]; rw [AllL] at hl; exact an_cons hl.1 (ih hl.2)
theorem an_app {T : List Tk} {a b : List Nd} (h : AllL T a) (hl : AllL T b) : AllL T (a ++ b) := by
  induction a with
  | nil => exact hl
  | cons t ts ih => rw [List.cons_append]; rw [AllL] at h; exact an_cons h.1 (ih h.2)
theorem an_kids {T : List Tk} {t : Nd} (h : AllN T t) : AllL T t.kids := by cases t; rw [AllN] at h; exact h.2
theorem an_hd {T : List Tk} {t : Nd} (h : AllN T t) : HdT T t.hd := by cases t; rw [AllN] at h; exact h.1
theorem an_mem {T : List Tk} {l : List Nd} (h : AllL T l) {t : Nd} (ht : t ∈ l) : AllN T t := by
  induction l with
  | nil => cases ht
  | cons a l ih =>
    rw [AllL] at h
    rcases List.mem_cons.1 ht with rfl | ht
    · exact h.1
    · exact ih h.2 ht
theorem tok_text (T : List Tk) (k : Nat) : (tokT T k).text = [] ∨ ∃ t ∈ T, (tokT T k).text = t.text := by
  unfold tokT
  cases h : T[k]? with
  | none => exact .inl rfl
  | some t => exact .inr ⟨t, List.mem_of_getElem? h, rfl⟩
theorem tok_name {T : List Tk} {k : Nat} (h : nmT T k = true) : ∃ t ∈ T, t.kind = 1 ∧ (tokT T k).text = t.text ∧ (tokT T k).at_ = t.at_ := by
  unfold nmT at h
  cases hk : T[k]? with
  | none => rw [hk] at h; cases h
  | some t =>
    rw [hk] at h
    refine ⟨t, List.mem_of_getElem? hk, by simpa using h, ?_, ?_⟩
    · unfold tokT; rw [hk]; rfl
    · unfold tokT; rw [hk]; rfl
/-- An undeclared node without a name. -/
theorem ht_plain {T : List Tk} {h : Hd} (h1 : h.text = []) (h2 : declK h.kind = false) : HdT T h := ⟨.inl h1, fun e => by rw [h2] at e; cases e⟩
theorem ht_text {T : List Tk} {h : Hd} {k : Nat} (h1 : h.text = (tokT T k).text) (h2 : declK h.kind = false) : HdT T h := ⟨by rw [h1]; exact tok_text T k, fun e => by rw [h2] at e; cases e⟩
theorem ht_name {T : List Tk} {h : Hd} {k : Nat} (hn : nmT T k = true) (h1 : h.text = (tokT T k).text) (h3 : h.at_ = (tokT T k).at_) : HdT T h := by
  obtain ⟨t, m, e1, e2, e3⟩ := tok_name hn
  exact ⟨.inr ⟨t, m, by rw [h1, e2]⟩, fun _ => ⟨t, m, e1, by rw [h1, e2], by rw [h3, e3]⟩⟩
structure ExT (f : Nat) : Prop where
  prim : ∀ T a d, Ev (AllN T) (primF f T a d)
  args : ∀ T a d, Ev (AllL T) (argsF f T a d)
  argL : ∀ T a d acc, AllL T acc → Ev (AllL T) (argLF f T a d acc)
  unary : ∀ T a d, Ev (AllN T) (unaryF f T a d)
  dot : ∀ T a d next n, AllN T n → Ev (AllN T) (dotF f T a d next n)
  level : ∀ T a d l, Ev (AllN T) (levelF f T a d l)
  levL : ∀ T a d l next n, AllN T n → Ev (AllN T) (levLF f T a d l next n)
theorem ex_tok : ∀ f, ExT f
  | 0 => by
    constructor
    · intro T a d; rw [primF]; exact Ev.none
    · intro T a d; rw [argsF]; exact Ev.none
    · intro T a d acc h; rw [argLF]; exact Ev.none
    · intro T a d; rw [unaryF]; exact Ev.none
    · intro T a d next n h; rw [dotF]; exact Ev.none
    · intro T a d l; rw [levelF]; exact Ev.none
    · intro T a d l next n h; rw [levLF]; exact Ev.none
  | f + 1 => by
    have ih := ex_tok f
    constructor
    · intro T a d
      rw [primF]
      repeat' split
      all_goals first
        | exact Ev.bad _ _
        | exact Ev.ok (an_mk (ht_plain rfl rfl) an_nil)
        | exact Ev.ok (an_mk (ht_text rfl rfl) an_nil)
        | (refine Ev.bind (ih.level _ _ _ _) (fun n next hn => ?_)
           split
           · exact Ev.ok hn
           · exact Ev.bad _ _)
        | exact Ev.bind (ih.args _ _ _) (fun l next hl => Ev.ok (an_mk (ht_text (k := a) rfl rfl) hl))
    · intro T a d
      rw [argsF]
      split
      · exact Ev.ok an_nil
      · exact ih.argL _ _ _ _ an_nil
    · intro T a d acc h
      rw [argLF]
      refine Ev.bind (ih.level _ _ _ _) (fun n next hn => ?_)
      split
      · exact Ev.ok (an_snoc hn h)
      split
      · exact ih.argL _ _ _ _ (an_snoc hn h)
      · exact Ev.bad _ _
    · intro T a d
      rw [unaryF]
      split
      · exact Ev.bad _ _
      split
      · refine Ev.bind (ih.unary _ _ _) (fun n next hn => Ev.ok (an_mk (ht_plain rfl ?_) (an_cons hn an_nil)))
        unfold madeH
        split <;> rfl
      · exact Ev.bind (ih.prim _ _ _) (fun n next hn => ih.dot _ _ _ _ _ hn)
    · intro T a d next n h
      rw [dotF]
      split
      · split
        · split
          · exact Ev.bind (ih.args _ _ _) (fun l b hl => ih.dot _ _ _ _ _ (an_mk (ht_text (k := next + 1) rfl rfl) (an_cons h hl)))
          · exact ih.dot _ _ _ _ _ (an_mk (ht_text (k := next + 1) rfl rfl) (an_cons h an_nil))
        · exact Ev.bad _ _
      · exact Ev.ok h
    · intro T a d l
      rw [levelF]
      split
      · exact ih.unary _ _ _
      · exact Ev.bind (ih.level _ _ _ _) (fun n next hn => ih.levL _ _ _ _ _ _ hn)
    · intro T a d l next n h
      rw [levLF]
      split
      · exact Ev.bind (ih.level _ _ _ _) (fun r b hr => ih.levL _ _ _ _ _ _ (an_mk (ht_text (k := next) rfl rfl) (an_cons h (an_cons hr an_nil))))
      · exact Ev.ok h
theorem brac_tok (f : Nat) (T : List Tk) (a d : Nat) : Ev (AllN T) (bracF f T a d) := by
  unfold bracF
  split
  · refine Ev.bind ((ex_tok f).level _ _ _ _) (fun n next hn => ?_)
    split
    · exact Ev.ok hn
    · exact Ev.bad _ _
  · exact Ev.bad _ _
theorem locals_tok (f : Nat) (T : List Tk) (a d : Nat) : Ev (AllN T) (localsF f T a d) := by
  unfold localsF
  split
  · exact Ev.bad _ _
  split
  · rename_i hn1
    split
    · refine Ev.bind ((ex_tok f).level _ _ _ _) (fun x next hx => ?_)
      split
      · exact Ev.ok (an_mk (ht_name hn1 rfl rfl) (an_cons hx an_nil))
      · exact Ev.bad _ _
    · exact Ev.bad _ _
  · exact Ev.bad _ _
theorem simple_tok (f : Nat) (T : List Tk) (a d : Nat) : Ev (AllN T) (simpleF f T a d) := by
  unfold simpleF
  split
  · refine Ev.bind (brac_tok f _ _ _) (fun n next hn => ?_)
    split
    · exact Ev.ok (an_mk (ht_plain rfl rfl) (an_cons hn an_nil))
    · exact Ev.bad _ _
  split
  · exact Ev.ok (an_mk (ht_plain rfl rfl) an_nil)
  · refine Ev.bind ((ex_tok f).level _ _ _ _) (fun n next hn => ?_)
    split
    · exact Ev.ok (an_mk (ht_plain rfl rfl) (an_cons hn an_nil))
    · exact Ev.bad _ _
theorem expr_tok (f : Nat) (T : List Tk) (a d : Nat) : Ev (AllN T) (exprF f T a d) := by
  unfold exprF
  refine Ev.bind ((ex_tok f).level _ _ _ _) (fun n next hn => ?_)
  split
  · refine Ev.bind ((ex_tok f).level _ _ _ _) (fun r b hr => ?_)
    split
    · exact Ev.ok (an_mk (ht_plain rfl rfl) (an_cons hn (an_cons hr an_nil)))
    · exact Ev.bad _ _
  split
  · exact Ev.ok (an_mk (ht_plain rfl rfl) (an_cons hn an_nil))
  · exact Ev.bad _ _
structure StT (f : Nat) : Prop where
  st : ∀ T a d, Ev (AllN T) (stF f T a d)
  grd : ∀ T a d, Ev (AllN T) (grdF f T a d)
  blk : ∀ T a d, Ev (AllN T) (blkF f T a d)
  blkL : ∀ T a next d acc, AllL T acc → Ev (AllN T) (blkLF f T a next d acc)
theorem st_tok : ∀ f, StT f
  | 0 => by
    constructor
    · intro T a d; rw [stF]; exact Ev.none
    · intro T a d; rw [grdF]; exact Ev.none
    · intro T a d; rw [blkF]; exact Ev.none
    · intro T a next d acc h; rw [blkLF]; exact Ev.none
  | f + 1 => by
    have ih := st_tok f
    constructor
    · intro T a d
      rw [stF]
      split
      · exact Ev.bad _ _
      split
      · exact ih.blk _ _ _
      split
      · exact ih.grd _ _ _
      split
      · exact simple_tok _ _ _ _
      · exact expr_tok _ _ _ _
    · intro T a d
      rw [grdF]
      refine Ev.bind (brac_tok _ _ _ _) (fun c next hc => ?_)
      refine Ev.bind (ih.st _ _ _) (fun s b hs => ?_)
      split
      · exact Ev.ok (an_mk (ht_plain rfl rfl) (an_cons hc (an_cons hs an_nil)))
      split
      · exact Ev.bind (ih.st _ _ _) (fun e m he => Ev.ok (an_mk (ht_plain rfl rfl) (an_cons hc (an_cons hs (an_cons he an_nil)))))
      · exact Ev.ok (an_mk (ht_plain rfl rfl) (an_cons hc (an_cons hs an_nil)))
    · intro T a d
      rw [blkF]
      split
      · exact ih.blkL _ _ _ _ _ an_nil
      · exact Ev.bad _ _
    · intro T a next d acc h
      rw [blkLF]
      split
      · exact Ev.ok (an_mk (ht_plain rfl rfl) h)
      · refine Ev.bind (P := AllN T) ?_ (fun n b hn => ih.blkL _ _ _ _ _ (an_snoc hn h))
        split
        · exact (locals_tok _ _ _ _).map_bad
        · exact ih.st _ _ _
theorem parL_tok : ∀ f T a acc, AllL T acc → Ev (AllL T) (parLF f T a acc)
  | 0, T, a, acc, h => by rw [parLF]; exact Ev.none
  | f + 1, T, a, acc, h => by
    rw [parLF]
    split
    · split
      · rename_i hn1
        split
        · exact Ev.ok (an_snoc (an_mk (ht_name hn1 rfl rfl) an_nil) h)
        split
        · exact parL_tok f T _ _ (an_snoc (an_mk (ht_name hn1 rfl rfl) an_nil) h)
        · exact Ev.bad _ _
      · exact Ev.bad _ _
    · exact Ev.bad _ _
theorem par_tok (f : Nat) (T : List Tk) (a : Nat) : Ev (AllL T) (parF f T a) := by
  unfold parF
  split
  · exact Ev.ok an_nil
  · exact parL_tok f T a [] an_nil
theorem memAt_tok (f : Nat) (T : List Tk) (fr a : Nat) (st : Bool) : Ev (AllN T) (memAtF f T fr a st) := by
  unfold memAtF
  split
  · split
    · rename_i hn1
      split
      · split
        · exact Ev.bad _ _
        · exact Ev.ok (an_mk (ht_name hn1 rfl rfl) an_nil)
      split
      · refine Ev.bind (par_tok f T _) (fun l b hl => ?_)
        refine Ev.bind ((st_tok f).blk _ _ _) (fun x m hx => ?_)
        exact Ev.ok (an_mk (ht_name hn1 rfl rfl) (an_snoc hx hl))
      · exact Ev.bad _ _
    · exact Ev.bad _ _
  · exact Ev.bad _ _
theorem clsL_tok : ∀ f T a acc, AllL T acc → Ev (AllL T) (clsLF f T a acc)
  | 0, T, a, acc, h => by rw [clsLF]; exact Ev.none
  | f + 1, T, a, acc, h => by
    rw [clsLF]
    split
    · exact Ev.ok h
    · exact Ev.bind (memAt_tok f T _ _ _) (fun m b hm => clsL_tok f T b _ (an_snoc hm h))
theorem clsBody_tok (f : Nat) (T : List Tk) (a b : Nat) (sup : Option Nat) (hn : nmT T (a + 1) = true) : Ev (fun n => AllN T n ∧ n.hd.kind = 1) (clsBodyF f T a b sup) := by
  unfold clsBodyF
  split
  · refine Ev.bind (clsL_tok f T _ [] an_nil) (fun l m hl => Ev.ok ?_)
    cases sup with
    | none => exact ⟨an_mk (ht_name hn rfl rfl) hl, rfl⟩
    | some k => exact ⟨an_mk (ht_name hn rfl rfl) hl, rfl⟩
  · exact Ev.bad _ _
theorem cls_tok (f : Nat) (T : List Tk) (a : Nat) : Ev (fun n => AllN T n ∧ n.hd.kind = 1) (clsF f T a) := by
  unfold clsF
  split
  · split
    · rename_i hn1
      split
      · split
        · exact clsBody_tok f T a _ _ hn1
        · exact Ev.bad _ _
      · exact clsBody_tok f T a _ _ hn1
    · exact Ev.bad _ _
  · exact Ev.bad _ _
theorem filL_tok : ∀ f T a acc, (AllL T acc ∧ ∀ n ∈ acc, n.hd.kind = 1) → Ev (fun l => AllL T l ∧ ∀ n ∈ l, n.hd.kind = 1) (filLF f T a acc)
  | 0, T, a, acc, h => by rw [filLF]; exact Ev.none
  | f + 1, T, a, acc, h => by
    rw [filLF]
    split
    · exact Ev.ok h
    · refine Ev.bind (cls_tok f T a) (fun n b hn => filL_tok f T b _ ⟨an_snoc hn.1 h.1, fun x hx => ?_⟩)
      rcases List.mem_append.1 hx with hx | hx
      · exact h.2 x hx
      · obtain rfl := List.mem_singleton.1 hx; exact hn.2
/-- The classes of a text: their names are its tokens'. -/
theorem file_tok (l : By) : ((lexR 0 l).2.2 ≠ 0 ∧ (fileR l).1 = []) ∨ ((lexR 0 l).2.2 = 0 ∧ AllL (lexR 0 l).1 (fileR l).1 ∧ ∀ n ∈ (fileR l).1, n.hd.kind = 1) := by
  unfold fileR
  by_cases h0 : (lexR 0 l).2.2 = 0
  · right
    rw [if_neg (by simpa using h0)]
    refine ⟨h0, ?_⟩
    have h := filL_tok (fuelT (lexR 0 l).1) (lexR 0 l).1 0 [] ⟨an_nil, fun n hn => by cases hn⟩
    generalize filLF (fuelT (lexR 0 l).1) (lexR 0 l).1 0 [] = q at h
    unfold fileQ
    match q, h with
    | none, _ => exact ⟨an_nil, fun n hn => by cases hn⟩
    | some (.bad p c), _ => exact ⟨an_nil, fun n hn => by cases hn⟩
    | some (.ok l m), h =>
      simp only
      split
      · exact h l m rfl
      · exact ⟨an_nil, fun n hn => by cases hn⟩
  · left
    rw [if_pos h0]
    exact ⟨h0, rfl⟩
theorem file_len (l : By) : ∀ t ∈ (if (lexR 0 l).2.2 = 0 then (lexR 0 l).1 else []), t.text.length ≤ l.length := by
  intro t ht
  split at ht
  · rename_i h0
    have h1 := (lex_good l.length 0 l (Nat.le_refl _) h0).tk t ht
    have h2 := h1.lo
    have h3 := h1.hi
    omega
  · cases ht
end Go.Proofs.YtbnbmjdjkadgoaaDoor.X
