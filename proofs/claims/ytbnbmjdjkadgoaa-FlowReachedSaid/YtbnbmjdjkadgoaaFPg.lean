/-
  For the laws of flow: what the parser gives is such that nothing is dead just where all statements are reached. No program. No condition.
-/
import Derived.Test.YtbnbmjdjkadgoaaFFl
import Derived.Test.YtbnbmjdjkadgoaaXPa
namespace Go.Proofs.Ytbnbmjdjkadgoaa.F
open Go.Proofs.Ytbnbmjdjkadgoaa.X
set_option linter.unusedSimpArgs false
set_option linter.unusedVariables false

mutual
/-- How many statements there are. -/
def stmtsN : Nd → Nat | .mk h ks => (if stmtK h.kind then 1 else 0) + stmtsL ks
def stmtsL : List Nd → Nat
  | [] => 0
  | t :: ts => stmtsN t + stmtsL ts
end
mutual
/-- What is no statement holds none; what lies in a block is one. -/
def goodN : Nd → Prop | .mk h ks => (stmtK h.kind = false → stmtsL ks = 0) ∧ (h.kind = 5 → ∀ t ∈ ks, stmtK t.hd.kind = true) ∧ goodL ks
def goodL : List Nd → Prop
  | [] => True
  | t :: ts => goodN t ∧ goodL ts
end
def sumL (l : List Nat) : Nat := l.foldl (· + ·) 0
theorem sum_cons (x : Nat) (l : List Nat) : sumL (x :: l) = x + sumL l := by
  unfold sumL
  rw [List.foldl_cons, foldl_add]
  omega
theorem sum_one (l : List Nat) : l.foldl (· + ·) 1 = 1 + sumL l := foldl_add l 1
theorem stmts_pos {t : Nd} (h : stmtK t.hd.kind = true) : 1 ≤ stmtsN t := by
  cases t with
  | mk h' ks => rw [stmtsN]; rw [show stmtK h'.kind = true from h]; simp
theorem or_none {a b : Option Nd} : a.or b = none ↔ a = none ∧ b = none := by cases a <;> simp
mutual
theorem reach_stmts : ∀ t, goodN t → reachN t ≤ stmtsN t ∧ (reachN t = stmtsN t ↔ deadN t = none)
  | .mk h ks, hg => by
    rw [goodN] at hg
    obtain ⟨g1, g2, g3⟩ := hg
    rw [reachN, stmtsN, deadN]
    cases hs : stmtK h.kind with
    | false =>
      have h5 : h.kind ≠ 5 := fun e => by rw [e] at hs; exact absurd hs (by decide)
      have hz := g1 hs
      obtain ⟨a1, a2⟩ := reach_flat false ks g3
      rw [reachH_zero hs, hz, decide_eq_false h5]
      have : sumL (reachL ks) = stmtsL ks := by omega
      exact ⟨Nat.zero_le _, fun _ => a2.1 this, fun _ => by simp⟩
    | true =>
      unfold reachH
      rw [hs, if_pos rfl, if_pos rfl]
      by_cases h5 : h.kind = 5
      · rw [if_pos h5, decide_eq_true h5, sum_one]
        obtain ⟨a1, a2⟩ := reach_block ks g3 (g2 h5)
        rw [← a2]
        constructor <;> omega
      · rw [if_neg h5, decide_eq_false h5, sum_one]
        obtain ⟨a1, a2⟩ := reach_flat false ks g3
        rw [← a2]
        constructor <;> omega
theorem reach_flat (e : Bool) : ∀ ks, goodL ks → sumL (reachL ks) ≤ stmtsL ks ∧ (sumL (reachL ks) = stmtsL ks ↔ deadL false e ks = none)
  | [], _ => by rw [reachL, stmtsL, deadL]; exact ⟨Nat.le_refl _, fun _ => rfl, fun _ => rfl⟩
  | t :: ts, hg => by
    rw [goodL] at hg
    rw [reachL, stmtsL, deadL, sum_cons]
    obtain ⟨a1, a2⟩ := reach_stmts t hg.1
    obtain ⟨b1, b2⟩ := reach_flat (e || !endsN t) ts hg.2
    simp only [Bool.false_and, Bool.false_eq_true, if_false]
    rw [or_none, ← a2, ← b2]
    constructor
    · omega
    · constructor
      · intro h; constructor <;> omega
      · intro h; omega
theorem reach_block : ∀ ks, goodL ks → (∀ t ∈ ks, stmtK t.hd.kind = true) → sumL ((reachL ks).take (stopE (endsL ks))) ≤ stmtsL ks ∧ (sumL ((reachL ks).take (stopE (endsL ks))) = stmtsL ks ↔ deadL true false ks = none)
  | [], _, _ => by rw [reachL, stmtsL, deadL]; exact ⟨by simp [sumL], fun _ => rfl, fun _ => by simp [sumL]⟩
  | t :: ts, hg, hk => by
    rw [goodL] at hg
    obtain ⟨a1, a2⟩ := reach_stmts t hg.1
    rw [reachL, stmtsL, deadL, endsL, stopE]
    simp only [Bool.and_false, Bool.false_eq_true, if_false, Bool.false_or]
    cases he : endsN t with
    | true =>
      obtain ⟨b1, b2⟩ := reach_block ts hg.2 (fun x hx => hk x (List.mem_cons_of_mem _ hx))
      rw [if_pos rfl, List.take_succ_cons, sum_cons, or_none, ← a2, Bool.not_true, ← b2]
      constructor
      · omega
      · constructor
        · intro h; constructor <;> omega
        · intro h; omega
    | false =>
      rw [if_neg (by simp), List.take_succ_cons, List.take_zero, sum_cons, or_none, ← a2, Bool.not_false]
      rw [show sumL [] = 0 from rfl]
      cases ts with
      | nil =>
        rw [stmtsL, deadL]
        constructor
        · omega
        · constructor
          · intro h; exact ⟨by omega, rfl⟩
          · intro h; omega
      | cons u us =>
        have := stmts_pos (hk u (by simp))
        rw [stmtsL, deadL]
        simp only [Bool.and_self, if_true]
        constructor
        · omega
        · constructor
          · intro h; omega
          · intro h; exact absurd h.2 (by simp)
end
theorem all_reached {t : Nd} (h : goodN t) : decide (reachN t = stmtsN t) = !(deadN t).isSome := by
  have := (reach_stmts t h).2
  cases hd : deadN t with
  | none => simp [this.2 hd]
  | some x =>
    simp only [Option.isSome_some, Bool.not_true, decide_eq_false_iff_not]
    intro e
    rw [this.1 e] at hd
    cases hd
mutual
theorem good_zero : ∀ t, stmtsN t = 0 → goodN t
  | .mk h ks, hz => by
    rw [stmtsN] at hz
    rw [goodN]
    have hk : stmtK h.kind = false := by
      cases hs : stmtK h.kind with
      | false => rfl
      | true => rw [hs] at hz; simp at hz
    have hz2 : stmtsL ks = 0 := by rw [hk] at hz; simpa using hz
    exact ⟨fun _ => hz2, fun h5 => by rw [h5] at hk; exact absurd hk (by decide), good_zeroL ks hz2⟩
theorem good_zeroL : ∀ ks, stmtsL ks = 0 → goodL ks
  | [], _ => by rw [goodL]; trivial
  | t :: ts, hz => by
    rw [stmtsL] at hz
    rw [goodL]
    exact ⟨good_zero t (by omega), good_zeroL ts (by omega)⟩
end
theorem stmtsL_snoc (l : List Nd) (n : Nd) : stmtsL (l ++ [n]) = stmtsL l + stmtsN n := by
  induction l with
  | nil => simp only [List.nil_append, stmtsL]; omega
  | cons t ts ih => rw [List.cons_append, stmtsL, ih, stmtsL]; omega
theorem goodL_snoc {l : List Nd} {n : Nd} (h : goodL l) (hn : goodN n) : goodL (l ++ [n]) := by
  induction l with
  | nil => rw [List.nil_append, goodL, goodL]; exact ⟨hn, trivial⟩
  | cons t ts ih => rw [List.cons_append, goodL]; rw [goodL] at h; exact ⟨h.1, ih h.2⟩
/-- What comes well has a property. -/
def Ev {α : Type} (P : α → Prop) (r : Option (PR α)) : Prop := ∀ x m, r = some (.ok x m) → P x
theorem Ev.none {α : Type} {P : α → Prop} : Ev P none := fun _ _ h => by cases h
theorem Ev.bad {α : Type} {P : α → Prop} (p : Nat) (c : Int) : Ev P (some (.bad p c)) := fun _ _ h => by cases h
theorem Ev.ok {α : Type} {P : α → Prop} {x : α} {m : Nat} (h : P x) : Ev P (some (.ok x m)) := fun _ _ e => by cases e; exact h
theorem Ev.bind {α β : Type} {P : α → Prop} {R : β → Prop} {r : Option (PR α)} {g : α → Nat → Option (PR β)} (h : Ev P r) (hg : ∀ x m, P x → Ev R (g x m)) : Ev R (bindP r g) := by
  match r, h with
  | .none, _ => exact Ev.none
  | some (.bad p c), _ => exact Ev.bad p c
  | some (.ok x m), h => exact hg x m (h x m rfl)
def Ez (n : Nd) : Prop := stmtsN n = 0
def EzL (l : List Nd) : Prop := stmtsL l = 0
theorem ez_mk {h : Hd} {l : List Nd} (hk : stmtK h.kind = false) (hl : EzL l) : Ez (.mk h l) := by
  unfold Ez
  rw [stmtsN, hk, show stmtsL l = 0 from hl]; rfl
theorem ezL_nil : EzL [] := by unfold EzL; rw [stmtsL]
theorem ezL_cons {n : Nd} {l : List Nd} (h : Ez n) (hl : EzL l) : EzL (n :: l) := by
  unfold EzL
  rw [stmtsL, show stmtsN n = 0 from h, show stmtsL l = 0 from hl]
theorem ezL_snoc {n : Nd} {l : List Nd} (h : Ez n) (hl : EzL l) : EzL (l ++ [n]) := by
  unfold EzL
  rw [stmtsL_snoc, show stmtsN n = 0 from h, show stmtsL l = 0 from hl]
structure ExG (f : Nat) : Prop where
  prim : ∀ T a d, Ev Ez (primF f T a d)
  args : ∀ T a d, Ev EzL (argsF f T a d)
  argL : ∀ T a d acc, EzL acc → Ev EzL (argLF f T a d acc)
  unary : ∀ T a d, Ev Ez (unaryF f T a d)
  dot : ∀ T a d next n, Ez n → Ev Ez (dotF f T a d next n)
  level : ∀ T a d l, Ev Ez (levelF f T a d l)
  levL : ∀ T a d l next n, Ez n → Ev Ez (levLF f T a d l next n)
theorem ex_good : ∀ f, ExG f
  | 0 => by
    constructor
    · intro T a d; rw [primF]; exact Ev.none
    · intro T a d; rw [argsF]; exact Ev.none
    · intro T a d acc h; rw [argLF]; exact Ev.none
    · intro T a d; rw [unaryF]; exact Ev.none
    · intro T a d next n h; rw [dotF]; exact Ev.none
    · intro T a d l; rw [levelF]; exact Ev.none
    · intro T a d l next n h; rw [levLF]; exact Ev.none
  | f + 1 => by
    have ih := ex_good f
    constructor
    · intro T a d
      rw [primF]
      repeat' split
      all_goals first
        | exact Ev.bad _ _
        | exact Ev.ok (ez_mk rfl ezL_nil)
        | (refine Ev.bind (ih.level _ _ _ _) (fun n next hn => ?_)
           split
           · exact Ev.ok hn
           · exact Ev.bad _ _)
        | exact Ev.bind (ih.args _ _ _) (fun l next hl => Ev.ok (ez_mk rfl hl))
    · intro T a d
      rw [argsF]
      split
      · exact Ev.ok ezL_nil
      · exact ih.argL _ _ _ _ ezL_nil
    · intro T a d acc h
      rw [argLF]
      refine Ev.bind (ih.level _ _ _ _) (fun n next hn => ?_)
      split
      · exact Ev.ok (ezL_snoc hn h)
      split
      · exact ih.argL _ _ _ _ (ezL_snoc hn h)
      · exact Ev.bad _ _
    · intro T a d
      rw [unaryF]
      split
      · exact Ev.bad _ _
      split
      · refine Ev.bind (ih.unary _ _ _) (fun n next hn => Ev.ok (ez_mk ?_ (ezL_cons hn ezL_nil)))
        unfold madeH
        split <;> rfl
      · exact Ev.bind (ih.prim _ _ _) (fun n next hn => ih.dot _ _ _ _ _ hn)
    · intro T a d next n h
      rw [dotF]
      split
      · split
        · split
          · exact Ev.bind (ih.args _ _ _) (fun l b hl => ih.dot _ _ _ _ _ (ez_mk rfl (ezL_cons h hl)))
          · exact ih.dot _ _ _ _ _ (ez_mk rfl (ezL_cons h ezL_nil))
        · exact Ev.bad _ _
      · exact Ev.ok h
    · intro T a d l
      rw [levelF]
      split
      · exact ih.unary _ _ _
      · exact Ev.bind (ih.level _ _ _ _) (fun n next hn => ih.levL _ _ _ _ _ _ hn)
    · intro T a d l next n h
      rw [levLF]
      split
      · exact Ev.bind (ih.level _ _ _ _) (fun r b hr => ih.levL _ _ _ _ _ _ (ez_mk rfl (ezL_cons h (ezL_cons hr ezL_nil))))
      · exact Ev.ok h
def Gs (n : Nd) : Prop := stmtK n.hd.kind = true ∧ goodN n
theorem gs_mk {h : Hd} {l : List Nd} (hk : stmtK h.kind = true) (h5 : h.kind = 5 → ∀ t ∈ l, stmtK t.hd.kind = true) (hl : goodL l) : Gs (.mk h l) := by
  refine ⟨hk, ?_⟩
  rw [goodN]
  exact ⟨fun e => (by rw [hk] at e; cases e), h5, hl⟩
theorem gs_el {h : Hd} {l : List Nd} (hk : stmtK h.kind = true) (h5 : decide (h.kind = 5) = false) (hl : goodL l) : Gs (.mk h l) := gs_mk hk (fun e => absurd e (of_decide_eq_false h5)) hl
theorem goodL_nil : goodL [] := by rw [goodL]; trivial
theorem goodL_cons {n : Nd} {l : List Nd} (h : goodN n) (hl : goodL l) : goodL (n :: l) := by rw [goodL]; exact ⟨h, hl⟩
theorem brac_good (f : Nat) (T : List Tk) (a d : Nat) : Ev Ez (bracF f T a d) := by
  unfold bracF
  split
  · refine Ev.bind ((ex_good f).level _ _ _ _) (fun n next hn => ?_)
    split
    · exact Ev.ok hn
    · exact Ev.bad _ _
  · exact Ev.bad _ _
theorem locals_good (f : Nat) (T : List Tk) (a d : Nat) : Ev Gs (localsF f T a d) := by
  unfold localsF
  split
  · exact Ev.bad _ _
  split
  · split
    · refine Ev.bind ((ex_good f).level _ _ _ _) (fun x next hx => ?_)
      split
      · exact Ev.ok (gs_el rfl rfl (goodL_cons (good_zero _ hx) goodL_nil))
      · exact Ev.bad _ _
    · exact Ev.bad _ _
  · exact Ev.bad _ _
theorem simple_good (f : Nat) (T : List Tk) (a d : Nat) : Ev Gs (simpleF f T a d) := by
  unfold simpleF
  split
  · refine Ev.bind (brac_good f _ _ _) (fun n next hn => ?_)
    split
    · exact Ev.ok (gs_el rfl rfl (goodL_cons (good_zero _ hn) goodL_nil))
    · exact Ev.bad _ _
  split
  · exact Ev.ok (gs_el rfl rfl goodL_nil)
  · refine Ev.bind ((ex_good f).level _ _ _ _) (fun n next hn => ?_)
    split
    · exact Ev.ok (gs_el rfl rfl (goodL_cons (good_zero _ hn) goodL_nil))
    · exact Ev.bad _ _
theorem expr_good (f : Nat) (T : List Tk) (a d : Nat) : Ev Gs (exprF f T a d) := by
  unfold exprF
  refine Ev.bind ((ex_good f).level _ _ _ _) (fun n next hn => ?_)
  split
  · refine Ev.bind ((ex_good f).level _ _ _ _) (fun r b hr => ?_)
    split
    · exact Ev.ok (gs_el rfl rfl (goodL_cons (good_zero _ hn) (goodL_cons (good_zero _ hr) goodL_nil)))
    · exact Ev.bad _ _
  split
  · exact Ev.ok (gs_el rfl rfl (goodL_cons (good_zero _ hn) goodL_nil))
  · exact Ev.bad _ _
structure StG (f : Nat) : Prop where
  st : ∀ T a d, Ev Gs (stF f T a d)
  grd : ∀ T a d, Ev Gs (grdF f T a d)
  blk : ∀ T a d, Ev Gs (blkF f T a d)
  blkL : ∀ T a next d acc, goodL acc → (∀ t ∈ acc, stmtK t.hd.kind = true) → Ev Gs (blkLF f T a next d acc)
theorem Ev.map_bad {P : Nd → Prop} {r : Option (PR Nd)} {c : Prop} [Decidable c] {p : Nat} {e : Int} (h : Ev P r) : Ev P (r.map (fun r => if c then .bad p e else r)) := by
  intro x m hx
  cases r with
  | none => cases hx
  | some q =>
    simp only [Option.map_some, Option.some.injEq] at hx
    split at hx
    · cases hx
    · exact h x m (by rw [hx])
theorem st_good : ∀ f, StG f
  | 0 => by
    constructor
    · intro T a d; rw [stF]; exact Ev.none
    · intro T a d; rw [grdF]; exact Ev.none
    · intro T a d; rw [blkF]; exact Ev.none
    · intro T a next d acc h h2; rw [blkLF]; exact Ev.none
  | f + 1 => by
    have ih := st_good f
    constructor
    · intro T a d
      rw [stF]
      split
      · exact Ev.bad _ _
      split
      · exact ih.blk _ _ _
      split
      · exact ih.grd _ _ _
      split
      · exact simple_good _ _ _ _
      · exact expr_good _ _ _ _
    · intro T a d
      rw [grdF]
      refine Ev.bind (brac_good _ _ _ _) (fun c next hc => ?_)
      refine Ev.bind (ih.st _ _ _) (fun s b hs => ?_)
      split
      · exact Ev.ok (gs_el rfl rfl (goodL_cons (good_zero _ hc) (goodL_cons hs.2 goodL_nil)))
      split
      · exact Ev.bind (ih.st _ _ _) (fun e m he => Ev.ok (gs_el rfl rfl (goodL_cons (good_zero _ hc) (goodL_cons hs.2 (goodL_cons he.2 goodL_nil)))))
      · exact Ev.ok (gs_el rfl rfl (goodL_cons (good_zero _ hc) (goodL_cons hs.2 goodL_nil)))
    · intro T a d
      rw [blkF]
      split
      · exact ih.blkL _ _ _ _ _ goodL_nil (fun t ht => by cases ht)
      · exact Ev.bad _ _
    · intro T a next d acc h h2
      rw [blkLF]
      split
      · exact Ev.ok (gs_mk rfl (fun _ => h2) h)
      · refine Ev.bind (P := Gs) ?_ (fun n b hn => ih.blkL _ _ _ _ _ (goodL_snoc h hn.2) (fun t ht => ?_))
        · split
          · exact (locals_good _ _ _ _).map_bad
          · exact ih.st _ _ _
        · rcases List.mem_append.1 ht with ht | ht
          · exact h2 t ht
          · obtain rfl := List.mem_singleton.1 ht
            exact hn.1
theorem one_goodF (f : Nat) (T : List Tk) : Ev Gs (oneF f T 2) := by
  unfold oneF
  rw [if_neg (by decide), if_pos rfl]
  split
  · exact locals_good _ _ _ _
  · exact (st_good f).st _ _ _
/-- What is told of a text that is a statement. -/
theorem one_good (l : By) (z : Nd) (hz : goodN z) : goodN ((oneR l 2).1.getD z) := by
  unfold oneR
  split
  · exact hz
  · have h := one_goodF (fuelT (lexR 0 l).1) (lexR 0 l).1
    generalize oneF (fuelT (lexR 0 l).1) (lexR 0 l).1 2 = q at h
    unfold oneQ
    match q, h with
    | none, _ => exact hz
    | some (.bad p c), _ => exact hz
    | some (.ok n m), h =>
      simp only
      split
      · exact hz
      split
      · exact hz
      · exact (h n m rfl).2
end Go.Proofs.Ytbnbmjdjkadgoaa.F
