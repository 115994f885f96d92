/-
  For the laws of marker: which lines are marks, and the parts of a text; bytes alone, no program. Condition: marks of at least one byte.
-/
import Derived.Test.YtbekbllffphfeaaDoorKPure
namespace Go.Proofs.YtbekbllffphfeaaDoor.K

/-- The byte with which a section's mark is made. -/
def signB : Nat → UInt8
  | 0 => 62
  | 1 => 60
  | 2 => 124
  | _ => 61
/-- The word behind a section's mark. -/
def labB : Nat → By
  | 0 => theirsW
  | 1 => oursW
  | 2 => baseW
  | _ => []
/-- The line l is a mark of length n that begins section s. -/
def IsM (n : Nat) (l : By) (s : Nat) (cut : Bool) : Prop := s < 4 ∧ (l = mk (signB s) n cut [] ∨ l = mk (signB s) n cut (labB s))
instance (n : Nat) (l : By) (s : Nat) (cut : Bool) : Decidable (IsM n l s cut) := by unfold IsM; infer_instance
/-- What stands between a mark's run and its newline. -/
def midB (cut : Bool) (w : By) : By := (if cut then [33] else []) ++ (if w = [] then [] else 32 :: w)
theorem mk_mid (c : UInt8) (n : Nat) (cut : Bool) (w : By) : mk c n cut w = List.replicate n c ++ midB cut w ++ [10] := by
  simp [mk, midB]
theorem signB_inj {s t : Nat} (hs : s < 4) (ht : t < 4) (h : signB s = signB t) : s = t := by
  have : ∀ s, s < 4 → ∀ t, t < 4 → signB s = signB t → s = t := by decide
  exact this s hs t ht h
theorem signB_mark {s : Nat} : isMark (signB s) = true := by
  unfold signB
  split <;> decide
theorem isMark_sign {c : UInt8} (h : isMark c = true) : ∃ s, s < 4 ∧ signB s = c := by
  unfold isMark at h
  simp only [Bool.or_eq_true, beq_iff_eq] at h
  rcases h with ((rfl | rfl) | rfl) | rfl
  · exact ⟨1, by omega, rfl⟩
  · exact ⟨2, by omega, rfl⟩
  · exact ⟨3, by omega, rfl⟩
  · exact ⟨0, by omega, rfl⟩
/-- The words that may stand in a mark of section s. -/
def restOk (s : Nat) (r : By) : Bool := decide (r = [] ∨ (labB s ≠ [] ∧ r = 32 :: labB s))
def cutR (r : By) : Bool := decide (r.head? = some 33)
def restR (r : By) : By := if r.head? = some 33 then r.tail else r
theorem mid_read (s : Nat) (r : By) (cut : Bool) : (r = midB cut [] ∨ r = midB cut (labB s)) ↔ (cut = cutR r ∧ restOk s (restR r) = true) := by
  have hw : ∀ w : By, r = midB cut w ↔ (cut = cutR r ∧ restR r = midB false w) := by
    intro w
    have h33 : (midB false w).head? ≠ some 33 := by
      unfold midB
      by_cases e : w = [] <;> simp [e]
    have hc : midB true w = 33 :: midB false w := by simp [midB]
    cases cut with
    | true =>
      rw [hc]
      constructor
      · rintro rfl
        simp [cutR, restR]
      · rintro ⟨h1, h2⟩
        have h3 : r.head? = some 33 := by simpa [cutR] using h1.symm
        rw [restR, if_pos h3] at h2
        cases r with
        | nil => simp at h3
        | cons x r => simp at h3 h2; rw [h3, h2]
    | false =>
      constructor
      · rintro rfl
        have : cutR (midB false w) = false := by simpa [cutR] using h33
        rw [this, restR, if_neg h33]
        exact ⟨rfl, rfl⟩
      · rintro ⟨h1, h2⟩
        have h3 : ¬ r.head? = some 33 := by simpa [cutR] using h1.symm
        rw [restR, if_neg h3] at h2
        exact h2
  rw [hw, hw, ← and_or_left]
  unfold restOk
  rw [decide_eq_true_eq]
  refine and_congr_right fun _ => ?_
  have e1 : midB false [] = [] := rfl
  rw [e1]
  by_cases e : labB s = []
  · rw [e, e1]; simp
  · have e2 : midB false (labB s) = 32 :: labB s := by simp [midB, e]
    rw [e2]; simp [e]
theorem rep_cancel {n : Nat} {c d : UInt8} {x y : By} (hn : 1 ≤ n) (h : List.replicate n c ++ x = List.replicate n d ++ y) : c = d ∧ x = y := by
  obtain ⟨m, rfl⟩ : ∃ m, n = m + 1 := ⟨n - 1, by omega⟩
  rw [List.replicate_succ, List.replicate_succ] at h
  have hc : c = d := by simpa using congrArg List.head? h
  subst hc
  exact ⟨rfl, by simpa using h⟩
/-- A line that begins with n bytes c: whether it is a mark. -/
theorem isM_read {n s t : Nat} {l r : By} {cut : Bool} (hn : 1 ≤ n) (hs : s < 4) (h : l = List.replicate n (signB s) ++ r ++ [10]) : IsM n l t cut ↔ (t = s ∧ cut = cutR r ∧ restOk s (restR r) = true) := by
  unfold IsM
  rw [mk_mid, mk_mid, h]
  have key : ∀ m : By, (List.replicate n (signB s) ++ r ++ [10] = List.replicate n (signB t) ++ m ++ [10]) ↔ (signB s = signB t ∧ r = m) := by
    intro m
    constructor
    · intro e
      exact rep_cancel hn (List.append_cancel_right e)
    · rintro ⟨e, rfl⟩
      rw [e]
  rw [key, key, ← and_or_left]
  constructor
  · rintro ⟨h1, h2, h3⟩
    obtain rfl := signB_inj hs h1 h2
    exact ⟨rfl, (mid_read s r cut).1 h3⟩
  · rintro ⟨rfl, h3⟩
    exact ⟨hs, rfl, (mid_read t r cut).2 h3⟩
theorem mid_head (s : Nat) (cut : Bool) (w : By) : (midB cut w ++ [10]).head? ≠ some (signB s) := by
  have h : (midB cut w ++ [10]).head? = some 33 ∨ (midB cut w ++ [10]).head? = some 32 ∨ (midB cut w ++ [10]).head? = some 10 := by
    unfold midB
    cases cut <;> by_cases e : w = [] <;> simp [e]
  have h2 : signB s ≠ 33 ∧ signB s ≠ 32 ∧ signB s ≠ 10 := by unfold signB; split <;> decide
  rcases h with h | h | h <;> rw [h] <;> simp only [ne_eq, Option.some.injEq] <;> (first | exact fun e => h2.1 e.symm | exact fun e => h2.2.1 e.symm | exact fun e => h2.2.2 e.symm)
theorem lead_rep (c : UInt8) (n : Nat) (x : By) (h : x.head? ≠ some c) : lead c (List.replicate n c ++ x) = n := by
  induction n with
  | zero =>
    cases x with
    | nil => rfl
    | cons d x => exact lead_other x (by simpa using h)
  | succ n ih => rw [List.replicate_succ, List.cons_append, lead_cons, ih]
theorem runL_rep {n : Nat} {c : UInt8} {x : By} (hn : 1 ≤ n) (hc : isMark c = true) (h : x.head? ≠ some c) : runL (List.replicate n c ++ x) = n := by
  obtain ⟨m, rfl⟩ : ∃ m, n = m + 1 := ⟨n - 1, by omega⟩
  have := lead_rep c (m + 1) x h
  rw [List.replicate_succ, List.cons_append] at this ⊢
  rw [runL, if_pos hc, this]
/-- A mark is a line of more than n bytes, with a run of n, and a newline at its end. -/
theorem IsM.facts {n s : Nat} {l : By} {cut : Bool} (hn : 1 ≤ n) (h : IsM n l s cut) : n < l.length ∧ runL l = n ∧ l.getLast? = some 10 := by
  have one : ∀ w, l = mk (signB s) n cut w → n < l.length ∧ runL l = n ∧ l.getLast? = some 10 := by
    rintro w rfl
    rw [mk_mid, List.append_assoc]
    refine ⟨by simp, runL_rep hn signB_mark (mid_head s cut w), by rw [← List.append_assoc]; simp⟩
  exact h.2.elim (one _) (one _)
theorem IsM.one {n s t : Nat} {l : By} {c d : Bool} (hn : 1 ≤ n) (h : IsM n l s c) (g : IsM n l t d) : s = t ∧ c = d := by
  have hl : ∃ r, l = List.replicate n (signB s) ++ r ++ [10] := by
    rcases h.2 with e | e
    · exact ⟨_, e.trans (mk_mid _ _ _ _)⟩
    · exact ⟨_, e.trans (mk_mid _ _ _ _)⟩
  obtain ⟨r, hr⟩ := hl
  have h1 := (isM_read hn h.1 hr).1 h
  have h2 := (isM_read hn h.1 hr).1 g
  exact ⟨h2.1.symm, h1.2.1.trans h2.2.1.symm⟩
def opts8 : List (Nat × Bool) := [(0, false), (0, true), (1, false), (1, true), (2, false), (2, true), (3, false), (3, true)]
/-- Which mark a line is, if any: the section that it begins, and whether it has the sign. -/
def markOf (n : Nat) (l : By) : Option (Nat × Bool) := opts8.find? fun p => decide (IsM n l p.1 p.2)
theorem markOf_some {n s : Nat} {l : By} {c : Bool} (hn : 1 ≤ n) (h : IsM n l s c) : markOf n l = some (s, c) := by
  have hm : (s, c) ∈ opts8 := by
    have : ∀ s, s < 4 → ∀ c : Bool, (s, c) ∈ opts8 := by decide
    exact this s h.1 c
  cases e : markOf n l with
  | none => exact absurd (List.find?_eq_none.1 e _ hm) (by simpa using h)
  | some p =>
    have hp := List.find?_some e
    obtain ⟨h1, h2⟩ := IsM.one hn h (of_decide_eq_true hp)
    obtain ⟨a, b⟩ := p
    simp at h1 h2
    rw [h1, h2]
theorem markOf_none {n : Nat} {l : By} (h : ∀ s c, ¬ IsM n l s c) : markOf n l = none :=
  List.find?_eq_none.2 fun p _ => by simpa using h p.1 p.2
theorem markOf_isM {n s : Nat} {l : By} {c : Bool} (h : markOf n l = some (s, c)) : IsM n l s c := by
  have := List.find?_some h
  exact of_decide_eq_true this
theorem markOf_lt {n s : Nat} {l : By} {c : Bool} (h : markOf n l = some (s, c)) : s < 4 := (markOf_isM h).1
theorem markOf_run {n : Nat} {l : By} (hn : 1 ≤ n) (h : runL l ≠ n) : markOf n l = none := markOf_none fun _ _ hm => h (hm.facts hn).2.1
theorem markOf_len {n : Nat} {l : By} (hn : 1 ≤ n) (h : l.length ≤ n) : markOf n l = none := markOf_none fun _ _ hm => absurd (hm.facts hn).1 (by omega)
theorem markOf_last {n : Nat} {l : By} (hn : 1 ≤ n) (h : l.getLast? ≠ some 10) : markOf n l = none := markOf_none fun _ _ hm => h (hm.facts hn).2.2
theorem markOf_read {n s : Nat} {l r : By} (hn : 1 ≤ n) (hs : s < 4) (h : l = List.replicate n (signB s) ++ r ++ [10]) : markOf n l = if restOk s (restR r) then some (s, cutR r) else none := by
  by_cases e : restOk s (restR r) = true
  · rw [if_pos e]
    exact markOf_some hn ((isM_read hn hs h).2 ⟨rfl, rfl, e⟩)
  · rw [if_neg e]
    exact markOf_none fun t c hm => e ((isM_read hn hs h).1 hm).2.2
/-- A line with a run of n marks' bytes and a newline, taken apart. -/
theorem run_shape {n : Nat} {l : By} (hn : 1 ≤ n) (h1 : n < l.length) (h2 : runL l = n) (h3 : l.getLast? = some 10) : ∃ s, s < 4 ∧ l = List.replicate n (signB s) ++ (l.drop n).dropLast ++ [10] ∧ l.head? = some (signB s) := by
  cases l with
  | nil => simp at h1
  | cons c l =>
    rw [runL] at h2
    by_cases hm : isMark c = true
    · rw [if_pos hm] at h2
      obtain ⟨s, hs, rfl⟩ := isMark_sign hm
      refine ⟨s, hs, ?_, rfl⟩
      have hd : (signB s :: l).drop n ≠ [] := by simp at h1 ⊢; omega
      have ht : (signB s :: l).take n = List.replicate n (signB s) := by
        rw [List.eq_replicate_iff]
        refine ⟨by simp at h1 ⊢; omega, fun b hb => ?_⟩
        have hp : (signB s :: l).take n <+: (signB s :: l).takeWhile (· == signB s) := by
          refine List.prefix_of_prefix_length_le (List.take_prefix _ _) (List.takeWhile_prefix _) ?_
          rw [List.length_take]; unfold lead at h2; omega
        have := List.all_eq_true.1 (List.all_takeWhile (p := (· == signB s)) (l := signB s :: l)) b (hp.subset hb)
        simpa using this
      have hl : ((signB s :: l).drop n).getLast hd = 10 := by
        have : ((signB s :: l).drop n).getLast? = some 10 := by
          rw [List.getLast?_drop, if_neg (by omega)]; exact h3
        rw [List.getLast?_eq_some_getLast hd] at this
        simpa using this
      rw [← ht, List.append_assoc]
      conv => lhs; rw [← List.take_append_drop n (signB s :: l), ← List.dropLast_concat_getLast hd, hl]
    · rw [if_neg hm] at h2
      omega
/-- Which part is being read, what was read of it, the clash, and the parts before. -/
structure St where
  sec : Nat
  now : By
  p : Pt
  out : List Pt
def noPt : Pt := ⟨false, [], [], []⟩
def freshPt : Pt := ⟨true, [], [], []⟩
def mayB (s next : Nat) : Bool := if next = 1 then s == 0 else if next = 2 then s == 1 else if next = 3 then (s == 1 || s == 2) else s == 3
/-- A section ends, with the text t. -/
def endS (st : St) (t : By) : St :=
  if st.sec = 0 then { st with p := freshPt, out := st.out ++ (if t = [] then [] else [⟨false, t, t, t⟩]) }
  else if st.sec = 1 then { st with p := { st.p with a := t } }
  else if st.sec = 2 then { st with p := { st.p with o := t } }
  else { st with p := { st.p with b := t }, out := st.out ++ [{ st.p with b := t }] }
def badB (st : St) (k : Nat) (cut : Bool) : Bool := (cut && !decide (st.now.getLast? = some 10)) || ((cut && k == 1) || !mayB st.sec k)
def cutT (t : By) (cut : Bool) : By := if cut then t.dropLast else t
/-- A line is read. -/
def stepS (n : Nat) (st : St) (l : By) : Option St :=
  match markOf n l with
  | none => some { st with now := st.now ++ l }
  | some (k, cut) => if badB st k cut then none else some { endS st (cutT st.now cut) with sec := k, now := [] }
def parseS (n : Nat) (st : St) : List By → Option St
  | [] => some st
  | l :: ls => (stepS n st l).bind fun st' => parseS n st' ls
def finS (st : St) : Option (List Pt) := if st.sec = 0 then some (endS st st.now).out else none
def st0 : St := ⟨0, [], noPt, []⟩
/-- The parts of lines, or none. -/
def parseL (n : Nat) (ls : List By) : Option (List Pt) := (parseS n st0 ls).bind finS
theorem parseS_append (n : Nat) (a b : List By) : ∀ st, parseS n st (a ++ b) = (parseS n st a).bind fun s => parseS n s b := by
  induction a with
  | nil => exact fun st => rfl
  | cons x a ih =>
    intro st
    rw [List.cons_append, parseS, parseS, Option.bind_assoc]
    congr 1
    funext s
    exact ih s
theorem parseS_take {n i : Nat} {ls : List By} {l : By} {st : St} (h : ls[i]? = some l) (hs : parseS n st0 (ls.take i) = some st) : parseS n st0 (ls.take (i + 1)) = stepS n st l := by
  rw [List.take_add_one, h, parseS_append, hs]
  show (stepS n st l).bind (fun s => parseS n s []) = _
  cases stepS n st l <;> rfl
/-- Once there is none, there is none. -/
theorem parseL_none {n i : Nat} {ls : List By} {l : By} {st : St} (h : ls[i]? = some l) (hs : parseS n st0 (ls.take i) = some st) (hn : stepS n st l = none) : parseL n ls = none := by
  have h1 := parseS_take h hs
  rw [hn] at h1
  unfold parseL
  rw [← List.take_append_drop (i + 1) ls, parseS_append, h1]
  rfl
theorem parseL_end {n : Nat} {ls : List By} {st : St} (hs : parseS n st0 ls = some st) : parseL n ls = finS st := by
  unfold parseL
  rw [hs]; rfl
end Go.Proofs.YtbekbllffphfeaaDoor.K
