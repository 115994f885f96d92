/-
  For the law FallbackSides: what is printed with marks longer than any run is read back, both sides; FallbackSides returns true. Condition: marker's table is as it is laid.
-/
import Derived.Test.YtbekbllffphfeaaGreatDoorFz
namespace Go.Proofs.YtbekbllffphfeaaGreatDoor.K
set_option linter.unusedVariables false

/-- The lines of acc ++ l, acc having no newline. -/
def lg : By → By → List By
  | acc, [] => if acc = [] then [] else [acc]
  | acc, c :: r => if c = 10 then (acc ++ [c]) :: lg [] r else lg (acc ++ [c]) r
theorem lg_flat : ∀ (l acc : By), (lg acc l).flatten = acc ++ l
  | [], acc => by unfold lg; split <;> simp_all
  | c :: r, acc => by
    unfold lg
    split
    · simp [lg_flat r []]
    · rw [lg_flat r (acc ++ [c])]; simp
/-- A text that is empty, or ends with a newline. -/
def Ends (t : By) : Prop := t = [] ∨ t.getLast? = some 10
theorem lg_nl (acc r : By) : lg acc (10 :: r) = (acc ++ [10]) :: lg [] r := by rw [lg, if_pos rfl]
theorem lg_other {c : UInt8} (h : ¬ c = 10) (acc r : By) : lg acc (c :: r) = lg (acc ++ [c]) r := by rw [lg, if_neg h]
theorem lg_app : ∀ (t acc u : By), t.getLast? = some 10 → lg acc (t ++ u) = lg acc t ++ lg [] u
  | [], acc, u, h => by cases h
  | c :: r, acc, u, h => by
    by_cases hc : c = 10
    · subst hc
      cases r with
      | nil => simp [lg]
      | cons d r =>
        have ih := lg_app (d :: r) [] u (by rw [List.getLast?_cons_cons] at h; exact h)
        rw [List.cons_append, lg_nl, ih, lg_nl]
        rfl
    · cases r with
      | nil => exact absurd (by simpa using h) hc
      | cons d r =>
        have ih := lg_app (d :: r) (acc ++ [c]) u (by rw [List.getLast?_cons_cons] at h; exact h)
        rw [List.cons_append, lg_other hc, ih, lg_other hc]
theorem lg_ends {t u : By} (h : Ends t) : lg [] (t ++ u) = lg [] t ++ lg [] u := by
  rcases h with rfl | h
  · rfl
  · exact lg_app t [] u h
theorem lg_line : ∀ (x acc : By), (∀ c ∈ x, c ≠ 10) → lg acc (x ++ [10]) = [acc ++ x ++ [10]]
  | [], acc, _ => by simp [lg]
  | c :: x, acc, h => by
    rw [List.cons_append, lg, if_neg (h c (by simp)), lg_line x (acc ++ [c]) (fun d hd => h d (by simp [hd]))]
    simp
theorem lg_mid : ∀ (l acc : By) (i : Nat) (x : By), (lg acc l)[i]? = some x → i + 1 < (lg acc l).length → x.getLast? = some 10
  | [], acc, i, x, h, hl => by
    unfold lg at hl
    split at hl <;> simp at hl
  | c :: r, acc, i, x, h, hl => by
    unfold lg at h hl
    split at h
    · rename_i hc
      rw [if_pos hc] at hl
      cases i with
      | zero =>
        obtain rfl : acc ++ [c] = x := by simpa using h
        rw [hc]; simp
      | succ i => exact lg_mid r [] i x (by simpa using h) (by simpa using hl)
    · rename_i hc
      rw [if_neg hc] at hl
      exact lg_mid r _ i x h hl
theorem lead_snoc {c : UInt8} (h : c ≠ 10) : ∀ l : By, lead c (l ++ [10]) = lead c l
  | [] => by rw [List.nil_append, lead_other [] (fun e => h e.symm)]; rfl
  | d :: l => by
    rw [List.cons_append]
    by_cases e : d = c
    · subst e
      rw [lead_cons, lead_cons, lead_snoc h l]
    · rw [lead_other _ e, lead_other _ e]
theorem runL_snoc (l : By) : runL (l ++ [10]) = runL l := by
  cases l with
  | nil => decide
  | cons c l =>
    rw [List.cons_append, runL, runL]
    by_cases h : isMark c = true
    · rw [if_pos h, if_pos h, ← List.cons_append]
      exact lead_snoc (by rintro rfl; exact absurd h (by decide)) _
    · rw [if_neg h, if_neg h]
/-- No line of the text begins with a run of n marks' bytes. -/
def Short (n : Nat) (t : By) : Prop := ∀ l ∈ lg [] t, runL l < n
theorem lg_snoc : ∀ (t acc l : By), l ∈ lg acc (t ++ [10]) → l ∈ lg acc t ∨ ∃ l', (l' = [] ∨ l' ∈ lg acc t) ∧ l = l' ++ [10]
  | [], acc, l, h => by
    simp [lg] at h
    subst h
    by_cases e : acc = []
    · exact .inr ⟨[], .inl rfl, by rw [e]⟩
    · exact .inr ⟨acc, .inr (by simp [lg, e]), rfl⟩
  | c :: r, acc, l, h => by
    rw [List.cons_append] at h
    unfold lg at h ⊢
    by_cases hc : c = 10
    · rw [if_pos hc] at h
      rw [if_pos hc]
      rcases List.mem_cons.1 h with rfl | h
      · exact .inl (by simp)
      · rcases lg_snoc r [] l h with k | ⟨l', k, rfl⟩
        · exact .inl (by simp [k])
        · exact .inr ⟨l', k.imp id (fun k => by simp [k]), rfl⟩
    · rw [if_neg hc] at h
      rw [if_neg hc]
      exact lg_snoc r _ l h
theorem Short.whole {n : Nat} {t : By} (hn : 1 ≤ n) (h : Short n t) : Short n (whole t) := by
  unfold K.whole
  split
  · exact h
  · intro l hl
    rcases lg_snoc t [] l hl with k | ⟨l', k, rfl⟩
    · exact h l k
    · rw [runL_snoc]
      rcases k with rfl | k
      · exact hn
      · exact h l' k
theorem ends_whole (t : By) : Ends (whole t) := by
  unfold whole Ends
  split
  · assumption
  · exact .inr (by simp)
theorem Ends.app {s t : By} (hs : Ends s) (ht : Ends t) : Ends (s ++ t) := by
  rcases ht with rfl | ht
  · rw [List.append_nil]; exact hs
  · exact .inr (by rw [List.getLast?_append, ht]; rfl)
theorem ends_mk (c : UInt8) (n : Nat) (cut : Bool) (w : By) : Ends (mk c n cut w) := .inr (by rw [mk_mid]; simp)
theorem lg_mk {c : UInt8} (hc : c ≠ 10) (n : Nat) (cut : Bool) {w : By} (hw : ∀ x ∈ w, x ≠ 10) : lg [] (mk c n cut w) = [mk c n cut w] := by
  rw [mk_mid]
  have h := lg_line (List.replicate n c ++ midB cut w) [] (fun x hx => by
    rcases List.mem_append.1 hx with hx | hx
    · rw [(List.mem_replicate.1 hx).2]; exact hc
    · unfold midB at hx
      rcases List.mem_append.1 hx with hx | hx
      · cases cut
        · simp at hx
        · simp at hx; rw [hx]; decide
      · by_cases e : w = []
        · simp [e] at hx
        · simp [e] at hx
          rcases hx with rfl | hx
          · decide
          · exact hw x hx)
  rw [h]; rfl
/-- A text with no long run is read as it stands. -/
theorem parse_text {n : Nat} (hn : 1 ≤ n) {t : By} (h : Short n t) (q : St) : parseS n q (lg [] t) = some { q with now := q.now ++ t } := by
  rw [parseS_plain (fun l hl => markOf_run hn (by have := h l hl; omega)), lg_flat]
  rfl
theorem cut_last {t : By} (h : cutOf t = true) : (whole t).getLast? = some 10 := by
  unfold cutOf at h
  have h2 := of_decide_eq_true h
  unfold whole at h2 ⊢
  split
  · rename_i h3; rw [if_pos h3] at h2; exact absurd rfl h2
  · simp
theorem cut_back (t : By) : cutT (whole t) (cutOf t) = t := by
  unfold cutT
  by_cases h : cutOf t = true
  · rw [if_pos h]
    unfold cutOf at h
    have h2 := of_decide_eq_true h
    unfold whole at h2 ⊢
    split
    · rename_i h3; rw [if_pos h3] at h2; exact absurd rfl h2
    · simp
  · rw [if_neg h]
    have h1 : cutOf t = false := by simpa using h
    unfold cutOf at h1
    have := of_decide_eq_false h1
    exact Classical.not_not.1 this
theorem cut_ok (t : By) : (cutOf t && !decide ((whole t).getLast? = some 10)) = false := by
  cases h : cutOf t with
  | false => rfl
  | true => rw [cut_last h]; rfl
/-- A mark that may stand where it stands. -/
theorem step_mark {n s : Nat} {c : Bool} {w : By} (hn : 1 ≤ n) (hs : s < 4) (hw : w = [] ∨ w = labB s) {q : St} (hb : badB q s c = false) : stepS n q (mk (signB s) n c w) = some { endS q (cutT q.now c) with sec := s, now := [] } := by
  have hm : markOf n (mk (signB s) n c w) = some (s, c) := markOf_some hn ⟨hs, by rcases hw with rfl | rfl <;> simp⟩
  rw [stepS, hm]
  simp only [hb]
  rfl
theorem parse_cons {n : Nat} {q q1 : St} {l : By} {ls : List By} (h : stepS n q l = some q1) : parseS n q (l :: ls) = parseS n q1 ls := by
  rw [parseS, h]; rfl
theorem parse_app {n : Nat} {q q1 : St} {a b : List By} (h : parseS n q a = some q1) : parseS n q (a ++ b) = parseS n q1 b := by
  rw [parseS_append, h]; rfl
def nowP (t : By) : List Pt := if t = [] then [] else [⟨false, t, t, t⟩]
theorem no10_words : (∀ x ∈ oursW, x ≠ 10) ∧ (∀ x ∈ baseW, x ≠ 10) ∧ (∀ x ∈ theirsW, x ≠ 10) ∧ ∀ x ∈ ([] : By), x ≠ 10 := by decide
/-- A clash is read back, but what was where it isn't told. -/
theorem parse_clash {n : Nat} (hn : 1 ≤ n) {p : Pt} (ha : Short n p.a) (ho : Short n p.o) (hb : Short n p.b) (old : Bool) (q : St) (hq : q.sec = 0) :
    ∃ (q' : St) (o' : By), parseS n q (lg [] (clashL p n old)) = some q' ∧ q'.sec = 0 ∧ q'.now = [] ∧ q'.out = q.out ++ nowP q.now ++ [⟨true, o', p.a, p.b⟩] := by
  obtain ⟨w1, w2, w3, w4⟩ := no10_words
  obtain ⟨sec, now, p0, out⟩ := q
  obtain rfl : sec = 0 := hq
  -- the first mark, and ours
  have s1 : stepS n ⟨0, now, p0, out⟩ (mk 60 n false oursW) = some ⟨1, [], freshPt, out ++ nowP now⟩ := step_mark (s := 1) hn (by decide) (.inr rfl) rfl
  have t1 : parseS n ⟨1, [], freshPt, out ++ nowP now⟩ (lg [] (whole p.a)) = some ⟨1, whole p.a, freshPt, out ++ nowP now⟩ := parse_text hn (ha.whole hn) _
  have e1 : lg [] (mk 60 n false oursW) = [mk 60 n false oursW] := lg_mk (by decide) n false w1
  cases old with
  | true =>
    have s2 : stepS n ⟨1, whole p.a, freshPt, out ++ nowP now⟩ (mk 124 n (cutOf p.a) baseW) = some ⟨2, [], ⟨true, [], p.a, []⟩, out ++ nowP now⟩ := by
      have h := step_mark (n := n) (s := 2) (c := cutOf p.a) (w := baseW) (q := ⟨1, whole p.a, freshPt, out ++ nowP now⟩) hn (by decide) (.inr rfl) (by
        unfold badB; dsimp only; rw [cut_ok]; simp [mayB])
      rw [show signB 2 = 124 from rfl] at h
      rw [h]
      dsimp only [endS, freshPt]
      rw [cut_back]; rfl
    have t2 : parseS n ⟨2, [], ⟨true, [], p.a, []⟩, out ++ nowP now⟩ (lg [] (whole p.o)) = some ⟨2, whole p.o, ⟨true, [], p.a, []⟩, out ++ nowP now⟩ := parse_text hn (ho.whole hn) _
    have s3 : stepS n ⟨2, whole p.o, ⟨true, [], p.a, []⟩, out ++ nowP now⟩ (mk 61 n (cutOf p.o) []) = some ⟨3, [], ⟨true, p.o, p.a, []⟩, out ++ nowP now⟩ := by
      have h := step_mark (n := n) (s := 3) (c := cutOf p.o) (w := []) (q := ⟨2, whole p.o, ⟨true, [], p.a, []⟩, out ++ nowP now⟩) hn (by decide) (.inl rfl) (by
        unfold badB; dsimp only; rw [cut_ok]; simp [mayB])
      rw [show signB 3 = 61 from rfl] at h
      rw [h]
      dsimp only [endS]
      rw [cut_back]; rfl
    have t3 : parseS n ⟨3, [], ⟨true, p.o, p.a, []⟩, out ++ nowP now⟩ (lg [] (whole p.b)) = some ⟨3, whole p.b, ⟨true, p.o, p.a, []⟩, out ++ nowP now⟩ := parse_text hn (hb.whole hn) _
    have s4 : stepS n ⟨3, whole p.b, ⟨true, p.o, p.a, []⟩, out ++ nowP now⟩ (mk 62 n (cutOf p.b) theirsW) = some ⟨0, [], ⟨true, p.o, p.a, p.b⟩, out ++ nowP now ++ [⟨true, p.o, p.a, p.b⟩]⟩ := by
      have h := step_mark (n := n) (s := 0) (c := cutOf p.b) (w := theirsW) (q := ⟨3, whole p.b, ⟨true, p.o, p.a, []⟩, out ++ nowP now⟩) hn (by decide) (.inr rfl) (by
        unfold badB; dsimp only; rw [cut_ok]; simp [mayB])
      rw [show signB 0 = 62 from rfl] at h
      rw [h]
      dsimp only [endS]
      rw [cut_back]; rfl
    have e2 : lg [] (mk 124 n (cutOf p.a) baseW) = [mk 124 n (cutOf p.a) baseW] := lg_mk (by decide) n _ w2
    have e3 : lg [] (mk 61 n (cutOf p.o) []) = [mk 61 n (cutOf p.o) []] := lg_mk (by decide) n _ w4
    have e4 : lg [] (mk 62 n (cutOf p.b) theirsW) = [mk 62 n (cutOf p.b) theirsW] := lg_mk (by decide) n _ w3
    refine ⟨⟨0, [], ⟨true, p.o, p.a, p.b⟩, out ++ nowP now ++ [⟨true, p.o, p.a, p.b⟩]⟩, p.o, ?_, rfl, rfl, rfl⟩
    unfold clashL
    rw [if_pos rfl]
    simp only [List.append_assoc]
    rw [lg_ends (ends_mk _ _ _ _), lg_ends (ends_whole _), lg_ends (ends_mk _ _ _ _), lg_ends (ends_whole _), lg_ends (ends_mk _ _ _ _), lg_ends (ends_whole _), e1, e2, e3, e4]
    rw [List.cons_append, List.nil_append, parse_cons s1, parse_app t1, List.cons_append, List.nil_append, parse_cons s2, parse_app t2, List.cons_append, List.nil_append, parse_cons s3, parse_app t3, parse_cons s4, List.append_assoc]
    rfl
  | false =>
    have s3 : stepS n ⟨1, whole p.a, freshPt, out ++ nowP now⟩ (mk 61 n (cutOf p.a) []) = some ⟨3, [], ⟨true, [], p.a, []⟩, out ++ nowP now⟩ := by
      have h := step_mark (n := n) (s := 3) (c := cutOf p.a) (w := []) (q := ⟨1, whole p.a, freshPt, out ++ nowP now⟩) hn (by decide) (.inl rfl) (by
        unfold badB; dsimp only; rw [cut_ok]; simp [mayB])
      rw [show signB 3 = 61 from rfl] at h
      rw [h]
      dsimp only [endS, freshPt]
      rw [cut_back]; rfl
    have t3 : parseS n ⟨3, [], ⟨true, [], p.a, []⟩, out ++ nowP now⟩ (lg [] (whole p.b)) = some ⟨3, whole p.b, ⟨true, [], p.a, []⟩, out ++ nowP now⟩ := parse_text hn (hb.whole hn) _
    have s4 : stepS n ⟨3, whole p.b, ⟨true, [], p.a, []⟩, out ++ nowP now⟩ (mk 62 n (cutOf p.b) theirsW) = some ⟨0, [], ⟨true, [], p.a, p.b⟩, out ++ nowP now ++ [⟨true, [], p.a, p.b⟩]⟩ := by
      have h := step_mark (n := n) (s := 0) (c := cutOf p.b) (w := theirsW) (q := ⟨3, whole p.b, ⟨true, [], p.a, []⟩, out ++ nowP now⟩) hn (by decide) (.inr rfl) (by
        unfold badB; dsimp only; rw [cut_ok]; simp [mayB])
      rw [show signB 0 = 62 from rfl] at h
      rw [h]
      dsimp only [endS]
      rw [cut_back]; rfl
    have e3 : lg [] (mk 61 n (cutOf p.a) []) = [mk 61 n (cutOf p.a) []] := lg_mk (by decide) n _ w4
    have e4 : lg [] (mk 62 n (cutOf p.b) theirsW) = [mk 62 n (cutOf p.b) theirsW] := lg_mk (by decide) n _ w3
    refine ⟨⟨0, [], ⟨true, [], p.a, p.b⟩, out ++ nowP now ++ [⟨true, [], p.a, p.b⟩]⟩, [], ?_, rfl, rfl, rfl⟩
    unfold clashL
    rw [if_neg (by decide)]
    simp only [List.append_assoc]
    rw [lg_ends (ends_mk _ _ _ _), lg_ends (ends_whole _), lg_ends (ends_mk _ _ _ _), lg_ends (ends_whole _), e1, e3, e4]
    rw [List.cons_append, List.nil_append, parse_cons s1, parse_app t1, List.cons_append, List.nil_append, parse_cons s3, parse_app t3, parse_cons s4, List.append_assoc]
    rfl
theorem ends_clash (p : Pt) (n : Nat) (old : Bool) : Ends (clashL p n old) := by
  unfold clashL
  exact (((((ends_mk _ _ _ _).app (ends_whole _)).app (by cases old; exact ends_mk _ _ _ _; exact ((ends_mk _ _ _ _).app (ends_whole _)).app (ends_mk _ _ _ _))).app (ends_whole _)).app (ends_mk _ _ _ _))
/-- A part, printed. -/
def oneQ (m : Nat) (old : Bool) (p : Pt) : By := if p.clash then clashL p m old else p.a
/-- What takes one side of a part. -/
structure Side (f : Pt → By) : Prop where
  same : ∀ t, f ⟨false, t, t, t⟩ = t
  clash : ∀ (p : Pt) o', f ⟨true, o', p.a, p.b⟩ = f p
  plain : ∀ p : Pt, p.b = p.a → f p = p.a
theorem side_a : Side Pt.a := ⟨fun _ => rfl, fun _ _ => rfl, fun _ _ => rfl⟩
theorem side_b : Side Pt.b := ⟨fun _ => rfl, fun _ _ => rfl, fun _ h => h⟩
/-- Parts that can be read back. -/
def EndsL (L : List Pt) : Prop := ∀ k p, L[k]? = some p → k + 1 < L.length → p.clash = false → Ends p.a
theorem EndsL.tail {p : Pt} {L : List Pt} (h : EndsL (p :: L)) : EndsL L := fun k q hk hl hc => h (k + 1) q (by simpa using hk) (by simpa using hl) hc
theorem Side.nowP {f : Pt → By} (h : Side f) (t : By) : (nowP t).flatMap f = t := by
  unfold K.nowP
  split
  · rename_i e; rw [e]; rfl
  · rw [List.flatMap_cons, h.same]; simp
theorem parse_print {n : Nat} (hn : 1 ≤ n) (old : Bool) : ∀ (L : List Pt) (q : St), q.sec = 0 → (∀ p ∈ L, Short n p.o ∧ Short n p.a ∧ Short n p.b ∧ (p.clash = false → p.b = p.a)) → EndsL L →
    ∃ q', parseS n q (lg [] (L.flatMap (oneQ n old))) = some q' ∧ q'.sec = 0 ∧ ∀ f, Side f → q'.out.flatMap f ++ q'.now = q.out.flatMap f ++ q.now ++ L.flatMap f
  | [], q, hq, _, _ => ⟨q, rfl, hq, fun f _ => by simp⟩
  | p :: L, q, hq, hok, he => by
    obtain ⟨h1, h2, h3, h4⟩ := hok p (by simp)
    have hok' : ∀ p ∈ L, Short n p.o ∧ Short n p.a ∧ Short n p.b ∧ (p.clash = false → p.b = p.a) := fun x hx => hok x (by simp [hx])
    rw [List.flatMap_cons]
    by_cases hc : p.clash = true
    · have e : oneQ n old p = clashL p n old := by unfold oneQ; rw [if_pos hc]
      obtain ⟨q1, o', g1, g2, g3, g4⟩ := parse_clash hn h2 h1 h3 old q hq
      obtain ⟨q2, k1, k2, k3⟩ := parse_print hn old L q1 g2 hok' he.tail
      refine ⟨q2, ?_, k2, fun f hf => ?_⟩
      · rw [e, lg_ends (ends_clash _ _ _), parse_app g1, k1]
      · rw [k3 f hf, g3, g4, List.flatMap_append, List.flatMap_append, hf.nowP, List.flatMap_cons, List.flatMap_cons, hf.clash]
        simp
    · have hc' : p.clash = false := by simpa using hc
      have e : oneQ n old p = p.a := by unfold oneQ; rw [if_neg hc]
      have t1 := parse_text hn h2 q
      obtain ⟨q2, k1, k2, k3⟩ := parse_print hn old L { q with now := q.now ++ p.a } hq hok' he.tail
      refine ⟨q2, ?_, k2, fun f hf => ?_⟩
      · rw [e]
        cases L with
        | nil =>
          rw [List.flatMap_nil, List.append_nil, t1]
          exact k1
        | cons x L => rw [lg_ends (he 0 p rfl (by simp) hc'), parse_app t1, k1]
      · rw [k3 f hf, List.flatMap_cons, hf.plain p (h4 hc')]
        simp
theorem parse_back {n : Nat} (hn : 1 ≤ n) (old : Bool) {L : List Pt} (h : ∀ p ∈ L, Short n p.o ∧ Short n p.a ∧ Short n p.b ∧ (p.clash = false → p.b = p.a)) (he : EndsL L) :
    ∃ L2, parseL n (lg [] (L.flatMap (oneQ n old))) = some L2 ∧ ∀ f, Side f → L2.flatMap f = L.flatMap f := by
  obtain ⟨q, g1, g2, g3⟩ := parse_print hn old L st0 rfl h he
  refine ⟨q.out ++ nowP q.now, ?_, fun f hf => ?_⟩
  · rw [parseL_end g1, finS, if_pos g2, endS, if_pos g2]; rfl
  · rw [List.flatMap_append, hf.nowP, g3 f hf]
    rfl
end Go.Proofs.YtbekbllffphfeaaGreatDoor.K
namespace Go.Proofs.YtbekbllffphfeaaGreatDoor
open Go.RowKit Go.Shelf
set_option linter.unusedVariables false

namespace L
/-- Numbers of texts, by the last list of known ones. -/
theorem known_prefix (L : List (List UInt8)) (ss : List ByteArray) : L <+: knownBy L ss := by
  induction ss generalizing L with
  | nil => exact List.prefix_refl _
  | cons s ss ih =>
    refine List.IsPrefix.trans ?_ (ih (numStep L s))
    unfold numStep
    split
    · exact List.prefix_refl _
    · exact List.prefix_append _ _
theorem idx_prefix {L K : List (List UInt8)} {x : List UInt8} (h : L <+: K) (hx : x ∈ L) : K.idxOf x = L.idxOf x := by
  obtain ⟨t, rfl⟩ := h
  rw [List.idxOf_append, if_pos hx]
theorem mem_step (L : List (List UInt8)) (s : ByteArray) : wd s ∈ numStep L s := by
  unfold numStep
  split <;> simp_all
theorem idx_step (L : List (List UInt8)) (s : ByteArray) : (numStep L s).idxOf (wd s) = L.idxOf (wd s) := by
  unfold numStep
  split
  · rfl
  · rename_i h
    rw [List.idxOf_append, if_neg h, List.idxOf_eq_length h]
    simp
theorem numRow_last : ∀ (ss : List ByteArray) (L K : List (List UInt8)), knownBy L ss <+: K → numRow L ss = ss.map (fun s => (K.idxOf (wd s) : Int))
  | [], _, _, _ => rfl
  | s :: ss, L, K, h => by
    have h' : knownBy (numStep L s) ss <+: K := h
    rw [numRow, numRow_last ss (numStep L s) K h', List.map_cons]
    rw [idx_prefix ((known_prefix (numStep L s) ss).trans h') (mem_step L s), idx_step]
theorem known_mem : ∀ (ss : List ByteArray) (L : List (List UInt8)) (s : ByteArray), s ∈ ss → wd s ∈ knownBy L ss
  | x :: ss, L, s, h => by
    rcases List.mem_cons.1 h with rfl | h
    · exact (known_prefix (numStep L s) ss).subset (mem_step L s)
    · exact known_mem ss (numStep L x) s h
theorem wd_inj {s t : ByteArray} (h : wd s = wd t) : s = t := by
  cases s; cases t
  simp [wd] at h
  rw [h]
theorem idx_inj {K : List (List UInt8)} {x y : List UInt8} (hx : x ∈ K) (hy : y ∈ K) (h : K.idxOf x = K.idxOf y) : x = y := by
  have h1 := List.getElem_idxOf (List.idxOf_lt_length_of_mem hx)
  have h2 := List.getElem_idxOf (List.idxOf_lt_length_of_mem hy)
  rw [← h1, ← h2]
  simp only [h]
/-- Two things of rows that have one number are one. -/
theorem same_at {K : List (List UInt8)} {xs ys : List ByteArray} (hx : ∀ s ∈ xs, wd s ∈ K) (hy : ∀ s ∈ ys, wd s ∈ K) {i j : Nat} (h : (xs.map (fun s => (K.idxOf (wd s) : Int)))[i]? = (ys.map (fun s => (K.idxOf (wd s) : Int)))[j]?) : xs[i]? = ys[j]? := by
  rw [List.getElem?_map, List.getElem?_map] at h
  cases h1 : xs[i]? with
  | none =>
    cases h2 : ys[j]? with
    | none => rfl
    | some t => rw [h1, h2] at h; cases h
  | some s =>
    cases h2 : ys[j]? with
    | none => rw [h1, h2] at h; cases h
    | some t =>
      rw [h1, h2] at h
      simp only [Option.map_some, Option.some.injEq] at h
      rw [wd_inj (idx_inj (hx s (List.mem_of_getElem? h1)) (hy t (List.mem_of_getElem? h2)) (by omega))]
theorem cuts_nil {M R : List Int} {E : P3} : ∀ n, cuts M R E n E = []
  | 0 => rfl
  | n + 1 => by rw [cuts, if_pos rfl]
/-- Each chunk but the last: it ends where it is told to, and not at the end. -/
theorem cuts_init {M R : List Int} {E : P3} : ∀ (n : Nat) (p : P3), InvP M R E p → ∀ c ∈ (cuts M R E n p).dropLast, InvP M R E c.1 ∧ c.1 ≠ E ∧ c.2 = nxt M R E c.1 ∧ c.2 ≠ E
  | 0, _, _, c, hc => by simp [cuts] at hc
  | n + 1, p, h, c, hc => by
    unfold cuts at hc
    split at hc
    · cases hc
    · rename_i hne
      obtain ⟨h1, -⟩ := h.next hne
      by_cases he : nxt M R E p = E
      · rw [he, cuts_nil] at hc; cases hc
      · cases hl : cuts M R E n (nxt M R E p) with
        | nil => rw [hl] at hc; cases hc
        | cons x l =>
          rw [hl, List.dropLast_cons_cons] at hc
          rcases List.mem_cons.1 hc with rfl | hc
          · exact ⟨h, hne, rfl, he⟩
          · exact cuts_init n _ h1 c (by rw [hl]; exact hc)
/-- A chunk that isn't the last: it ends within a row, or at it there stands what stands in all three. -/
theorem nxt_last {X Y Z : List Int} {p q : P3} (lX : X.length ≤ 2000) (lY : Y.length ≤ 2000) (lZ : Z.length ≤ 2000) (h : InvP (matchOf X Y) (matchOf X Z) ⟨X.length, Y.length, Z.length⟩ p) (hp : p ≠ ⟨X.length, Y.length, Z.length⟩) (hq : q = nxt (matchOf X Y) (matchOf X Z) ⟨X.length, Y.length, Z.length⟩ p) (hne : q ≠ ⟨X.length, Y.length, Z.length⟩) :
    (q.a < Y.length ∧ q.b < Z.length) ∨ (1 ≤ q.o ∧ 1 ≤ q.a ∧ 1 ≤ q.b ∧ X[q.o - 1]? = Y[q.a - 1]? ∧ X[q.o - 1]? = Z[q.b - 1]? ∧ (q.o < X.length ∨ q.a < Y.length ∨ q.b < Z.length)) := by
  obtain ⟨hI, -⟩ := h.next hp
  rw [← hq] at hI
  have b1 := hI.o
  have b2 := hI.a
  have b3 := hI.b
  have hlt : q.o < X.length ∨ q.a < Y.length ∨ q.b < Z.length := by
    rcases Nat.lt_or_ge q.o X.length with k | k
    · exact .inl k
    rcases Nat.lt_or_ge q.a Y.length with k2 | k2
    · exact .inr (.inl k2)
    rcases Nat.lt_or_ge q.b Z.length with k3 | k3
    · exact .inr (.inr k3)
    exfalso
    apply hne
    cases q
    simp only [P3.mk.injEq]
    simp only at b1 b2 b3 k k2 k3
    omega
  unfold nxt at hq
  by_cases hs : stab ((matchOf X Y).drop p.o) ((matchOf X Z).drop p.o) p.a p.b = 0
  · rw [if_pos hs] at hq
    cases hu : uns ((matchOf X Y).drop p.o) ((matchOf X Z).drop p.o) p.o with
    | none => rw [hu] at hq; exact absurd hq hne
    | some r =>
      rw [hu, Option.getD_some] at hq
      obtain ⟨-, -, -, -, g1, g2, -⟩ := uns_ma _ _ _ _ _ r h.ma h.mb hu (by omega) (by omega)
      subst hq
      simp only at g1 g2
      exact .inl ⟨by omega, by omega⟩
  · rw [if_neg hs] at hq
    obtain ⟨k, hk⟩ : ∃ k, stab ((matchOf X Y).drop p.o) ((matchOf X Z).drop p.o) p.a p.b = k := ⟨_, rfl⟩
    have hrun := fun (hl : k - 1 < stab ((matchOf X Y).drop p.o) ((matchOf X Z).drop p.o) p.a p.b) => stab_run hl
    rw [hk] at hq hs hrun
    obtain ⟨r1, r2⟩ := hrun (by omega)
    rw [List.getElem?_drop] at r1 r2
    have m1 := (match_ok lX lY).2 _ _ r1 (by omega)
    have m2 := (match_ok lX lZ).2 _ _ r2 (by omega)
    rw [Int.toNat_natCast] at m1 m2
    refine .inr ⟨by rw [hq]; simp only; omega, by rw [hq]; simp only; omega, by rw [hq]; simp only; omega, ?_, ?_, hlt⟩
    · rw [hq]
      simp only
      rw [show p.o + k - 1 = p.o + (k - 1) by omega, show p.a + k - 1 = p.a + (k - 1) by omega]
      exact m1
    · rw [hq]
      simp only
      rw [show p.o + k - 1 = p.o + (k - 1) by omega, show p.b + k - 1 = p.b + (k - 1) by omega]
      exact m2
end L
/-- A row of lines: each but the last ends with a newline. -/
def Lin1 (xs : TL) : Prop := ∀ j x, xs[j]? = some x → j + 1 < xs.length → (tl x).getLast? = some 10
/-- Each chunk but the last: what both come to there is empty, or ends with a newline. -/
theorem chunk_ends {o a b : TL} (l1 : o.length ≤ 2000) (l2 : a.length ≤ 2000) (l3 : b.length ≤ 2000) (ho : Lin1 o) (ha : Lin1 a) (hb : Lin1 b) {c : L.Ck} (hc : c ∈ (L.chunksT o a b).dropLast) :
    (∀ x, c.p.a < c.q.a → a[c.q.a - 1]? = some x → (tl x).getLast? = some 10) ∧ ∀ x, c.p.b < c.q.b → b[c.q.b - 1]? = some x → (tl x).getLast? = some 10 := by
  obtain ⟨K, hK⟩ : ∃ K, L.knownBy (L.knownBy (L.knownBy [] o) a) b = K := ⟨_, rfl⟩
  have p3 : L.knownBy (L.knownBy (L.knownBy [] o) a) b <+: K := by rw [hK]; exact List.prefix_refl _
  have p2 : L.knownBy (L.knownBy [] o) a <+: K := (L.known_prefix _ b).trans p3
  have p1 : L.knownBy [] o <+: K := (L.known_prefix _ a).trans p2
  have mo : ∀ s ∈ o, L.wd s ∈ K := fun s hs => p1.subset (L.known_mem o _ s hs)
  have ma : ∀ s ∈ a, L.wd s ∈ K := fun s hs => p2.subset (L.known_mem a _ s hs)
  have mb : ∀ s ∈ b, L.wd s ∈ K := fun s hs => p3.subset (L.known_mem b _ s hs)
  have nX : (L.num3 o a b).1 = o.map (fun s => (K.idxOf (L.wd s) : Int)) := L.numRow_last o [] K p1
  have nY : (L.num3 o a b).2.1 = a.map (fun s => (K.idxOf (L.wd s) : Int)) := L.numRow_last a _ K p2
  have nZ : (L.num3 o a b).2.2 = b.map (fun s => (K.idxOf (L.wd s) : Int)) := L.numRow_last b _ K p3
  unfold L.chunksT L.chunksOf at hc
  rw [← List.map_dropLast] at hc
  obtain ⟨d, hd, rfl⟩ := List.mem_map.1 hc
  have e1 : (L.num3 o a b).1.length = o.length := L.numRow_length _ _
  have e2 : (L.num3 o a b).2.1.length = a.length := L.numRow_length _ _
  have e3 : (L.num3 o a b).2.2.length = b.length := L.numRow_length _ _
  generalize hx : (L.num3 o a b).1 = X at *
  generalize hy : (L.num3 o a b).2.1 = Y at *
  generalize hz : (L.num3 o a b).2.2 = Z at *
  have hi : L.InvP (L.matchOf X Y) (L.matchOf X Z) ⟨X.length, Y.length, Z.length⟩ ⟨0, 0, 0⟩ := L.InvP.start (L.matchOf_length X Y) (L.matchOf_length X Z) (L.match_ok (by omega) (by omega)).1 (L.match_ok (by omega) (by omega)).1
  obtain ⟨g1, g2, g3, g4⟩ := L.cuts_init _ _ hi d hd
  have key := L.nxt_last (by omega) (by omega) (by omega) g1 g2 g3 g4
  have same := fun {xs ys : TL} (hx : ∀ s ∈ xs, L.wd s ∈ K) (hy : ∀ s ∈ ys, L.wd s ∈ K) i j => @L.same_at K xs ys hx hy i j
  show (∀ x, d.1.a < d.2.a → a[d.2.a - 1]? = some x → (tl x).getLast? = some 10) ∧ ∀ x, d.1.b < d.2.b → b[d.2.b - 1]? = some x → (tl x).getLast? = some 10
  rw [e1, e2, e3] at key
  rw [nX, nY, nZ] at key
  rcases key with ⟨k1, k2⟩ | ⟨k1, k2, k3, k4, k5, k6⟩
  · exact ⟨fun x hlt hx => ha _ x hx (by omega), fun x hlt hx => hb _ x hx (by omega)⟩
  · have s1 := same mo ma _ _ k4
    have s2 := same mo mb _ _ k5
    have any : ∀ x, o[d.2.o - 1]? = some x → (tl x).getLast? = some 10 := by
      intro x hx
      rcases k6 with k | k | k
      · exact ho _ x hx (by omega)
      · exact ha _ x (by rw [← s1]; exact hx) (by omega)
      · exact hb _ x (by rw [← s2]; exact hx) (by omega)
    exact ⟨fun x _ hx => any x (by rw [s1]; exact hx), fun x _ hx => any x (by rw [s2]; exact hx)⟩
theorem joinT_ends {xs : TL} (h : ∀ x, xs.getLast? = some x → (tl x).getLast? = some 10) : K.Ends (joinT xs) := by
  rcases List.eq_nil_or_concat xs with rfl | ⟨ys, x, rfl⟩
  · exact .inl rfl
  · have h1 := h x (by simp)
    refine .inr ?_
    rw [List.concat_eq_append, joinT_app, show joinT [x] = tl x by simp [joinT], List.getLast?_append, h1]
    rfl
theorem slc_last {xs : TL} {i j : Nat} (hj : j ≤ xs.length) {x : ByteArray} (h : (L.slc xs i j).getLast? = some x) : i < j ∧ xs[j - 1]? = some x := by
  rw [List.getLast?_eq_getElem?] at h
  have hl : (L.slc xs i j).length = j - i := by unfold L.slc; rw [List.length_take, List.length_drop]; omega
  have hlt := (List.getElem?_eq_some_iff.1 h).1
  rw [hl] at h hlt
  refine ⟨by omega, ?_⟩
  unfold L.slc at h
  rw [List.getElem?_take_of_lt (by omega), List.getElem?_drop] at h
  rw [show j - 1 = i + (j - i - 1) by omega]
  exact h
def SE (s : St) : Prop := (∀ x ∈ s.1, x.clash = false → K.Ends (joinT x.a)) ∧ ∀ q, s.2 = some q → K.Ends (joinT q.2)
theorem SE.fin {s : St} (h : SE s) : ∀ x ∈ s.fin, x.clash = false → K.Ends (joinT x.a) := by
  intro x hx hc
  unfold St.fin at hx
  rcases List.mem_append.1 hx with hx | hx
  · exact h.1 x hx hc
  · cases hs : s.2 with
    | none => rw [hs] at hx; cases hx
    | some q =>
      rw [hs] at hx
      obtain rfl := List.mem_singleton.1 hx
      exact h.2 q hs
theorem SE.add {o a b : TL} {s : St} {c : L.Ck} (h : SE s) (hc : K.Ends (joinT (yOf a b c))) : SE (s.add o a b c) := by
  unfold St.add
  split
  · refine ⟨fun x hx hcl => ?_, fun q hq => by cases hq⟩
    rcases List.mem_append.1 hx with hx | hx
    · exact h.fin x hx hcl
    · obtain rfl := List.mem_singleton.1 hx
      cases hcl
  · split
    · exact ⟨h.1, fun q hq => by cases hq; exact hc⟩
    · rename_i q0 hq0
      refine ⟨h.1, fun q hq => ?_⟩
      cases hq
      show K.Ends (joinT (q0.2 ++ yOf a b c))
      rw [joinT_app]
      exact (h.2 q0 hq0).app hc
theorem SE.of {o a b : TL} {l : List L.Ck} (h : ∀ c ∈ l, K.Ends (joinT (yOf a b c))) : SE (stOf o a b l) := by
  have : ∀ (l : List L.Ck) (s : St), SE s → (∀ c ∈ l, K.Ends (joinT (yOf a b c))) → SE (l.foldl (St.add o a b) s) := by
    intro l
    induction l with
    | nil => intro s h _; exact h
    | cons c l ih => intro s hs h; exact ih _ (hs.add (h c (by simp))) (fun d hd => h d (by simp [hd]))
  exact this l _ ⟨fun x hx => by simp at hx, fun q hq => by cases hq⟩ h
/-- Each piece that is no clash, and not the last one, ends with a newline, or is empty. -/
def EndsC (l : List Pc) : Prop := ∀ k x, l[k]? = some x → k + 1 < l.length → x.clash = false → K.Ends (joinT x.a)
theorem endsC_all {l : List Pc} (h : ∀ x ∈ l, x.clash = false → K.Ends (joinT x.a)) : EndsC l := fun _ x hk _ hc => h x (List.mem_of_getElem? hk) hc
theorem endsC_snoc {l : List Pc} {z : Pc} (h : ∀ x ∈ l, x.clash = false → K.Ends (joinT x.a)) : EndsC (l ++ [z]) := by
  intro k x hk hl hc
  rw [List.length_append, List.length_singleton] at hl
  rw [List.getElem?_append_left (by omega)] at hk
  exact h x (List.mem_of_getElem? hk) hc
theorem SE.last {o a b : TL} {s : St} {c : L.Ck} (h : SE s) : EndsC (s.add o a b c).fin := by
  unfold St.add
  split
  · show EndsC ((s.fin ++ _) ++ [])
    rw [List.append_nil]
    exact endsC_snoc h.fin
  · split
    · exact endsC_snoc h.1
    · exact endsC_snoc h.1
theorem combP_ends {o a b : TL} (l1 : o.length ≤ 2000) (l2 : a.length ≤ 2000) (l3 : b.length ≤ 2000) (ho : Lin1 o) (ha : Lin1 a) (hb : Lin1 b) (hok : ∀ c ∈ L.chunksT o a b, c.q.a ≤ a.length ∧ c.q.b ≤ b.length) : EndsC (combP o a b) := by
  have hE : ∀ c ∈ (L.chunksT o a b).dropLast, K.Ends (joinT (yOf a b c)) := by
    intro c hc
    obtain ⟨h1, h2⟩ := chunk_ends l1 l2 l3 ho ha hb hc
    obtain ⟨k1, k2⟩ := hok c (List.dropLast_subset _ hc)
    refine joinT_ends fun x hx => ?_
    unfold yOf at hx
    split at hx
    · obtain ⟨g1, g2⟩ := slc_last k2 hx
      exact h2 x g1 g2
    · obtain ⟨g1, g2⟩ := slc_last k1 hx
      exact h1 x g1 g2
  unfold combP
  generalize L.chunksT o a b = l at hE
  rcases List.eq_nil_or_concat l with rfl | ⟨ys, c, rfl⟩
  · intro k x hk
    simp [stOf, St.fin] at hk
  · rw [List.concat_eq_append] at hE ⊢
    rw [List.dropLast_concat] at hE
    rw [stOf_snoc]
    exact (SE.of hE).last
namespace K
theorem st_S (s : ByteArray) : ∀ k, st s k = S.st s k
  | 0 => rfl
  | k + 1 => by
    unfold st S.st
    rw [st_S s k]
    rfl
theorem lns_S (s : ByteArray) : lns s = S.lns s := by
  unfold lns S.lns
  rw [st_S]
theorem lg_S : ∀ (l acc : List UInt8), S.lgo acc l = lg acc l
  | [], _ => rfl
  | c :: l, acc => by
    unfold S.lgo lg
    rw [lg_S l [], lg_S l (acc ++ [c])]
theorem lnB_lg (s : ByteArray) : lnB s = lg [] (tl s) := by
  unfold lnB
  rw [lns_S, ← lg_S]
  exact S.lns_lgo s
theorem short_of {L : List Pt} {t : By} (h : t ∈ tx3 L) : Short (showN L) t := by
  intro l hl
  refine (lenL_ge _ 7).2 l ?_
  unfold allL
  refine List.mem_flatMap.2 ⟨bs t, List.mem_map_of_mem h, ?_⟩
  rw [lnB_lg, tl_bs]
  exact hl
end K
/-- What is printed of three texts' parts is read back: both sides. -/
theorem lin_lns (s : ByteArray) : Lin1 (S.lns s) := by
  intro j x hx hj
  have h : (K.lg [] (tl s))[j]? = some (tl x) := by
    rw [← K.lg_S, ← S.lns_lgo, List.getElem?_map, hx]; rfl
  refine K.lg_mid (tl s) [] j (tl x) h ?_
  rw [← K.lg_S, ← S.lns_lgo, List.length_map]
  exact hj
theorem lines_ends (o a b : ByteArray) (h1 : o.size ≤ 1999) (h2 : a.size ≤ 1999) (h3 : b.size ≤ 1999) : K.EndsL ((linesP o a b).map kp) := by
  have l1 := Nat.le_trans (S.lns_len o) h1
  have l2 := Nat.le_trans (S.lns_len a) h2
  have l3 := Nat.le_trans (S.lns_len b) h3
  have h := combP_ends (o := S.lns o) (a := S.lns a) (b := S.lns b) (by omega) (by omega) (by omega) (lin_lns o) (lin_lns a) (lin_lns b) (fun c hc => by
    have := chunksT_ok (o := S.lns o) (a := S.lns a) (b := S.lns b) (by omega) (by omega) (by omega) c hc
    exact ⟨this.2.1.2, this.2.2.2⟩)
  intro k p hk hl hc
  unfold linesP wovenP at hk hl
  rw [List.map_map, List.getElem?_map] at hk
  rw [List.length_map, List.length_map] at hl
  cases hx : (combP (S.lns o) (S.lns a) (S.lns b))[k]? with
  | none => rw [hx] at hk; cases hk
  | some x =>
    rw [hx] at hk
    obtain rfl : kp (ptOf x) = p := by simpa using hk
    exact h k x hx hl hc
theorem lines_same (o a b : ByteArray) : ∀ p ∈ linesP o a b, p.clash = false → p.b = p.a := by
  intro p hp hc
  obtain ⟨x, hx, rfl⟩ := List.mem_map.1 hp
  have hc' : x.clash = false := hc
  show (if x.clash then joinT x.b else joinT x.a) = joinT x.a
  rw [hc']; rfl
theorem sideP_1 (L : List Pt) : sideP L 1 = L.flatMap Pt.a := rfl
theorem sideP_2 (L : List Pt) : sideP L 2 = L.flatMap Pt.b := rfl
theorem sides_back (o a b : ByteArray) (old : Bool) (h1 : o.size ≤ 1999) (h2 : a.size ≤ 1999) (h3 : b.size ≤ 1999) :
    ∃ L2, K.parseT (K.lnB (bs (showS (linesP o a b) old))) (markN (linesP o a b) : Nat) = some L2 ∧ sideP (L2.map pk) 1 = sideP (linesP o a b) 1 ∧ sideP (L2.map pk) 2 = sideP (linesP o a b) 2 := by
  have he := lines_ends o a b h1 h2 h3
  have hs := lines_same o a b
  generalize linesP o a b = L at *
  have hn : 1 ≤ K.showN (L.map kp) := by have := K.showN_ge (L.map kp); omega
  obtain ⟨L2, g1, g2⟩ := K.parse_back (n := K.showN (L.map kp)) hn old (L := L.map kp) (fun p hp => by
    have m : ∀ t, t = p.o ∨ t = p.a ∨ t = p.b → t ∈ K.tx3 (L.map kp) := fun t ht => by
      unfold K.tx3
      refine List.mem_flatMap.2 ⟨p, hp, ?_⟩
      rcases ht with rfl | rfl | rfl <;> simp
    refine ⟨K.short_of (m _ (.inl rfl)), K.short_of (m _ (.inr (.inl rfl))), K.short_of (m _ (.inr (.inr rfl))), ?_⟩
    obtain ⟨q, hq, rfl⟩ := List.mem_map.1 hp
    exact hs q hq) he
  have ea := g2 _ K.side_a
  have eb := g2 _ K.side_b
  refine ⟨L2, ?_, ?_, ?_⟩
  · unfold K.parseT markN
    rw [if_neg (by omega), Int.toNat_natCast, K.lnB_lg]
    have e : K.tl (bs (showS L old)) = (L.map kp).flatMap (K.oneQ (K.showN (L.map kp)) old) := K.tl_bs _
    rw [e]
    exact g1
  · rw [sideP_1, sideP_1]
    rw [List.flatMap_map] at ea ⊢
    exact ea
  · rw [sideP_2, sideP_2]
    rw [List.flatMap_map] at eb ⊢
    exact eb
/-- Without a clash there are no marks, and both sides are one. -/
theorem plain_lines (o a b : ByteArray) (old : Bool) (hc : clashP (linesP o a b) = false) : showS (linesP o a b) old = sideP (linesP o a b) 1 ∧ sideP (linesP o a b) 2 = sideP (linesP o a b) 1 := by
  have hs := lines_same o a b
  generalize linesP o a b = L at *
  unfold clashP at hc
  have hall : ∀ p ∈ L, p.clash = false := fun p hp => by
    have := List.any_eq_false.1 hc p hp
    simpa using this
  unfold showS K.printM
  generalize K.showN (L.map kp) = n
  rw [sideP_1, sideP_2, List.flatMap_map]
  clear hc
  induction L with
  | nil => exact ⟨rfl, rfl⟩
  | cons p L ih =>
    obtain ⟨i1, i2⟩ := ih (fun q hq => hs q (by simp [hq])) (fun q hq => hall q (by simp [hq]))
    have c := hall p (by simp)
    have e : K.oneP n old (kp p) = p.a := by
      unfold K.oneP
      rw [if_neg (by show ¬ p.clash = true; rw [c]; decide)]
      rfl
    rw [List.flatMap_cons, List.flatMap_cons, List.flatMap_cons, i1, i2, hs p (by simp) c, e]
    exact ⟨rfl, rfl⟩
end Go.Proofs.YtbekbllffphfeaaGreatDoor
namespace Go.Proofs.YtbekbllffphfeaaGreatDoor
open Go.RowKit Go.Shelf
set_option linter.unusedSimpArgs false
set_option linter.unusedVariables false

/-- A world that has grown from W0. -/
structure InC (W0 : World) where
  w : World
  h : Below W0.heap.size W0 w
instance (W0 : World) : Nonempty (InC W0) := ⟨⟨W0, Below.refl _ _⟩⟩
theorem wp_region_quiet_in {P : Program} {id : Nat} {Q : Exit → Act → World → Prop} {a : Act} {w : World} {l : List Oper} (W0 : World) (hw : Below W0.heap.size W0 w) (hm : P.follows .mixedOrders = true) (hB : Region.lexB .any l.toArray = true)
    (h : wpQuiet P l.toArray (fun w' => ∃ p : InC W0, w' = p.w) (fun a' => ∀ w', (∃ p : InC W0, w' = p.w) → Q .normal a' w') l a) : (Code.region id l.toArray true).wp P Q a w :=
  wp_region_quiet (C := fun w' => ∃ p : InC W0, w' = p.w) hm hB ⟨⟨w.drew, below_drew hw⟩, rfl⟩ (by simpa using h)
theorem quiet_in {P : Program} {f : FuncId} {args : Array Value} {W0 : World} {p : InC W0} {v : Value}
    (h : Calls P f args p.w fun e w' => e = .returned v ∧ Below p.w.heap.size p.w w') : Calls P f args p.w fun e w'' => e = .returned v ∧ ∃ q : InC W0, w'' = q.w :=
  h.mono fun _ w' ⟨he, hb⟩ => ⟨he, ⟨w', p.h.trans (hb.mono p.h.size)⟩, rfl⟩
theorem fileP_all (s0 s1 s2 : ByteArray) (old : Bool) : fileP s0 s1 s2 true true true old = (bs (showS (linesP s0 s1 s2) old), true, clashI (linesP s0 s1 s2)) := rfl
theorem sides_of {s : ByteArray} {n : Int} {L2 : List K.Pt} (h : K.parseT (K.lnB s) n = some L2) : sidesP s n = (side3 (L2.map pk), 0) := by unfold sidesP; rw [h]; rfl
set_option maxRecDepth 100000 in
set_option maxHeartbeats 16000000 in
theorem fallbackSides_any (s0 s1 s2 : ByteArray) (w : World) (hW : K.MkW w) : Calls Tryz.prog 5 #[.string s0, .string s1, .string s2] w fun e w' => e = .returned (.bool true) ∧ Below w.heap.size w w' := by
  have hs : 1 ≤ w.heap.size := hW.size
  have HW := Lib.hid hW
  obtain ⟨m0, hm0⟩ : ∃ m, Hid (s0.size = m) := ⟨_, Lib.hid rfl⟩
  obtain ⟨m1, hm1⟩ : ∃ m, Hid (s1.size = m) := ⟨_, Lib.hid rfl⟩
  obtain ⟨m2, hm2⟩ : ∃ m, Hid (s2.size = m) := ⟨_, Lib.hid rfl⟩
  have t0 : s0.size = m0 := hm0.out
  have t1 : s1.size = m1 := hm1.out
  have t2 : s2.size = m2 := hm2.out
  have C1 := Lib.hid (awake_any w hW hs)
  clear hW
  go_enter Tryz.func5, Tryz.ntmps5
  go_wp2_with fail
  refine C1.out.mono ?_
  rintro e w2 ⟨rfl, b1⟩
  have B2 := Lib.hid b1
  clear b1 C1
  rcases Nat.lt_or_ge 500 m0 with g0 | g0
  · have q0 : decide ((m0 : Int) > 500) = true := decide_eq_true (by omega)
    go_wp2_with fail
    go_ret
    exact ⟨rfl, B2.out⟩
  have q0 : decide ((m0 : Int) > 500) = false := decide_eq_false (by omega)
  rcases Nat.lt_or_ge 500 m1 with g1 | g1
  · have q1 : decide ((m1 : Int) > 500) = true := decide_eq_true (by omega)
    go_wp2_with fail
    go_ret
    exact ⟨rfl, B2.out⟩
  have q1 : decide ((m1 : Int) > 500) = false := decide_eq_false (by omega)
  rcases Nat.lt_or_ge 500 m2 with g2 | g2
  · have q2 : decide ((m2 : Int) > 500) = true := decide_eq_true (by omega)
    go_wp2_with fail
    go_ret
    exact ⟨rfl, B2.out⟩
  have q2 : decide ((m2 : Int) > 500) = false := decide_eq_false (by omega)
  have l0 : s0.size ≤ 500 := by omega
  have l1 : s1.size ≤ 500 := by omega
  have l2 : s2.size ≤ 500 := by omega
  have CT := fun old W (hB : Below w.heap.size w W) => File_any s0 s1 s2 true true true old W (HW.out.below hB hs) (by omega) (by omega) (by omega)
  have CM := fun W => Marks_any s0 s1 s2 W (by omega) (by omega) (by omega)
  have CL := Lib.hid (fun W => RefLines_any s0 s1 s2 W (by omega) (by omega) (by omega))
  obtain ⟨L1, p1, a1, b1⟩ := sides_back s0 s1 s2 true (by omega) (by omega) (by omega)
  obtain ⟨L2, p2, a2, b2⟩ := sides_back s0 s1 s2 false (by omega) (by omega) (by omega)
  obtain ⟨k1, k2, k3⟩ := linesOk s0 s1 s2 (by omega) (by omega) (by omega)
  have hf := linesF5 s0 s1 s2 l0 l1 l2
  have z1 := showS_size (old := true) hf.1 hf.2
  have z2 := showS_size (old := false) hf.1 hf.2
  have pl := plain_lines s0 s1 s2
  have es1 := sides_of p1
  have es2 := sides_of p2
  obtain ⟨L, hL⟩ : ∃ L, linesP s0 s1 s2 = L := ⟨_, rfl⟩
  simp only [fileP_all] at CT
  have CS1 := fun W (hB : Below w.heap.size w W) => Sides_any (bs (showS (linesP s0 s1 s2) true)) (markN (linesP s0 s1 s2) : Nat) z1 W (HW.out.below hB hs)
  have CS2 := fun W (hB : Below w.heap.size w W) => Sides_any (bs (showS (linesP s0 s1 s2) false)) (markN (linesP s0 s1 s2) : Nat) z2 W (HW.out.below hB hs)
  rw [es1] at CS1
  rw [es2] at CS2
  rw [hL] at CT CM CL k1 k2 k3 pl a1 b1 a2 b2 CS1 CS2
  obtain ⟨x, hx⟩ : ∃ x, side3 (L1.map pk) = x := ⟨_, rfl⟩
  obtain ⟨y, hy⟩ : ∃ x, side3 (L2.map pk) = x := ⟨_, rfl⟩
  rw [hx] at CS1
  rw [hy] at CS2
  obtain ⟨A, hA⟩ : ∃ A, bs (sideP L 1) = A := ⟨_, rfl⟩
  obtain ⟨B, hB⟩ : ∃ A, bs (sideP L 2) = A := ⟨_, rfl⟩
  have x1 : x.2.1 = A := by rw [← hx, ← hA, ← a1]; rfl
  have x2 : x.2.2 = B := by rw [← hx, ← hB, ← b1]; rfl
  have y1 : y.2.1 = A := by rw [← hy, ← hA, ← a2]; rfl
  have y2 : y.2.2 = B := by rw [← hy, ← hB, ← b2]; rfl
  obtain ⟨X0, X1, X2⟩ := x
  obtain ⟨Y0, Y1, Y2⟩ := y
  obtain rfl : X1 = A := x1
  obtain rfl : X2 = B := x2
  obtain rfl : Y1 = X1 := y1
  obtain rfl : Y2 = X2 := y2
  obtain ⟨n, hn⟩ : ∃ n, markN L = n := ⟨_, rfl⟩
  rw [hn] at CM CS1 CS2
  obtain ⟨S, hS⟩ : ∃ S, bs (showS L true) = S := ⟨_, rfl⟩
  obtain ⟨T, hT⟩ : ∃ S, bs (showS L false) = S := ⟨_, rfl⟩
  have CT1 := CT true
  have CT2 := CT false
  rw [hS] at CT1 CS1
  rw [hT] at CT2 CS2
  have CG := fun (k : Int) v W (hv : Prts W v L) => RefSideG_any v L k (by omega) (fun p hp => by
    obtain ⟨h1, h2, h3⟩ := k2 p hp
    exact ⟨by omega, by omega, by omega⟩) (fun j => by
      have h : (sideP (L.take j) k).length ≤ (L.take j).length * 50000 := by
        generalize hq : L.take j = Q
        have hm : ∀ p ∈ Q, okF p := fun p hp => k2 p (List.mem_of_mem_take (by rw [hq]; exact hp))
        clear hq
        induction Q with
        | nil => exact Nat.zero_le _
        | cons p Q ih =>
          have h1 := ih (fun q hq => hm q (by simp [hq]))
          obtain ⟨g1, g2, g3⟩ := hm p (by simp)
          have h2 : (p.side k).length ≤ 50000 := by
            unfold Pt.side
            split
            · exact g1
            · split
              · exact g2
              · split
                · exact g3
                · exact Nat.zero_le _
          unfold sideP at h1 ⊢
          rw [List.flatMap_cons, List.length_append, List.length_cons]
          omega
      have h2 : (L.take j).length ≤ 20000 := Nat.le_trans (List.length_take_le' _ _) k1
      have h3 : (L.take j).length * 50000 ≤ 20000 * 50000 := Nat.mul_le_mul_right _ h2
      omega) W hv
  have CJ := fun v W (hv : Prts W v L) => RefJoin_any v L (by omega) k3 W hv
  have G1 := CG 1
  have G2 := CG 2
  rw [hA] at G1
  rw [hB] at G2
  obtain ⟨c, hc⟩ : ∃ c, clashP L = c := ⟨_, rfl⟩
  have hci : clashI L = if c then 1 else 0 := by unfold clashI; rw [hc]
  have hj : joinP L = if c then ([], false) else (sideP L 1, true) := by unfold joinP; rw [hc]
  have hpl : c = false → S = Y1 ∧ T = Y1 ∧ Y2 = Y1 := fun h => by
    have p1 := pl true (by rw [hc, h])
    have p2 := pl false (by rw [hc, h])
    rw [← hS, ← hT, ← hA, ← hB, p1.1, p2.1, p1.2]
    exact ⟨rfl, rfl, rfl⟩
  obtain ⟨ci, hci2⟩ : ∃ ci, clashI L = ci := ⟨_, rfl⟩
  rw [hci2] at CT1 CT2
  have Hci := Lib.hid (hci2.symm.trans hci)
  have cc : (ci == ci) = true := beq_self_eq_true ci
  rw [hj] at CJ
  obtain ⟨ln, hln⟩ : ∃ n, L.length = n := ⟨_, rfl⟩
  have CT1 := Lib.hid CT1
  have CT2 := Lib.hid CT2
  have CM := Lib.hid CM
  have CS1 := Lib.hid CS1
  have CS2 := Lib.hid CS2
  have G1 := Lib.hid G1
  have G2 := Lib.hid G2
  have CJ := Lib.hid CJ
  have HA := Lib.hid hA
  have HB := Lib.hid hB
  have HLn := Lib.hid hln
  clear CT CG es1 es2 hx hy hS hT hn hL hc hci hj pl p1 p2 a1 b1 a2 b2 k1 k2 k3 hf z1 z2 l0 l1 l2 hA hB hln hci2 hm0 hm1 hm2
  dsimp only [vec3] at CS1 CS2
  go_wp2_with fail
  refine calls_gen (fun W => RowAt W w2.heap.size 23 #[.bool true, .bool true, .bool true] ∧ Below w2.heap.size w2 W) ⟨row_new rfl, (Below.refl _ _).alloc (Nat.le_refl _) _⟩ ?_
  rintro W3 ⟨r3, b3⟩
  have B3 := B2.out.trans (b3.mono B2.out.size)
  refine (CT1.out W3 B3).mono ?_
  rintro e w4 ⟨rfl, b4⟩
  have R4 := Lib.hid (r3.later b4)
  have B4 := Lib.hid (B3.trans (b4.mono B3.size))
  clear r3 b3 b4 B3 CT1
  have e0 : w4.cell? ⟨w2.heap.size, 0, none⟩ = some (.bool true) := R4.out.cell rfl
  have e1 : w4.cell? ⟨w2.heap.size, 1, none⟩ = some (.bool true) := R4.out.cell rfl
  have e2 : w4.cell? ⟨w2.heap.size, 2, none⟩ = some (.bool true) := R4.out.cell rfl
  go_wp2_with fail
  refine (CT2.out w4 B4.out).mono ?_
  rintro e w5 ⟨rfl, b5⟩
  have B5 := Lib.hid (B4.out.trans (b5.mono B4.out.size))
  clear b5 CT2 e0 e1 e2 R4 B4
  go_wp2_with fail
  refine (CM.out w5).mono ?_
  rintro e w6 ⟨rfl, b6⟩
  have B6 := Lib.hid (B5.out.trans (b6.mono B5.out.size))
  clear b6 CM B5
  go_wp2_with fail
  refine (CS1.out w6 B6.out).mono ?_
  rintro e w7 ⟨rfl, b7⟩
  have B7 := Lib.hid (B6.out.trans (b7.mono B6.out.size))
  clear b7 CS1 B6
  go_wp2_with fail
  refine calls_gen (fun W => RowAt W w7.heap.size 22 #[.string X0, .string Y1, .string Y2] ∧ Below w7.heap.size w7 W) ⟨row_new rfl, (Below.refl _ _).alloc (Nat.le_refl _) _⟩ ?_
  rintro W8 ⟨r8, b8⟩
  have B8 := B7.out.trans (b8.mono B7.out.size)
  refine (CS2.out W8 B8).mono ?_
  rintro e w9 ⟨rfl, b9⟩
  have R9 := Lib.hid (r8.later b9)
  have B9 := Lib.hid (B8.trans (b9.mono B8.size))
  have h79 : w7.heap.size < w9.heap.size := R9.out.lt
  clear r8 b8 b9 B8 B7 CS2
  go_wp2_with fail
  refine calls_gen (fun W => RowAt W w9.heap.size 22 #[.string Y0, .string Y1, .string Y2] ∧ Below w9.heap.size w9 W) ⟨row_new rfl, (Below.refl _ _).alloc (Nat.le_refl _) _⟩ ?_
  rintro W10 ⟨r10, b10⟩
  refine (CL.out W10).mono ?_
  rintro e w11 ⟨v, rfl, hv, b11⟩
  have R11 := Lib.hid (r10.later b11)
  have b911 := b10.trans (b11.mono b10.size)
  have S11 := Lib.hid (R9.out.later b911)
  have B11 := Lib.hid (B9.out.trans (b911.mono B9.out.size))
  have G1 := Lib.hid (fun W (h : Below w11.heap.size w11 W) => G1.out v W (hv.below h))
  have G2 := Lib.hid (fun W (h : Below w11.heap.size w11 W) => G2.out v W (hv.below h))
  have CJ := Lib.hid (CJ.out v w11 hv)
  obtain ⟨av, cv, rfl, -⟩ := hv
  rw [HLn.out] at CJ G1 G2 ⊢
  clear r10 b10 b11 b911 R9 B9 CL h79
  cases c with
  | false =>
    have hz : (ci == 0) = true := by rw [Hci.out]; rfl
    obtain ⟨h1, h2, h3⟩ := hpl rfl
    subst h1
    subst h2
    subst h3
    rw [if_neg (by decide)] at CJ
    dsimp only at CJ
    rw [HA.out] at CJ
    go_wp2_with fail
    refine CJ.out.mono ?_
    rintro e w12 ⟨rfl, b12⟩
    have S12 := S11.out.later b12
    have e0 : w12.cell? ⟨w7.heap.size, 0, none⟩ = some (.string X0) := S12.cell rfl
    have e1 : w12.cell? ⟨w7.heap.size, 1, none⟩ = some (.string Y2) := S12.cell rfl
    have e2 : w12.cell? ⟨w7.heap.size, 2, none⟩ = some (.string Y2) := S12.cell rfl
    have B12 := Lib.hid (B11.out.trans (b12.mono B11.out.size))
    clear b12 S12 R11 S11 B11 CJ G1 G2
    go_wp2_with fail
    go_ret
    exact ⟨rfl, B12.out⟩
  | true =>
    have hz : (ci == 0) = false := by rw [Hci.out]; rfl
    have hz1 : (ci == 1) = true := by rw [Hci.out]; rfl
    clear hpl CJ
    go_upto_region 18 with fail
    refine wp_region_quiet_in w11 (Below.refl _ _) (by kernel_rfl) (by kernel_rfl) ?_
    have x1 : ∀ p : InC w11, p.w.cell? ⟨w7.heap.size, 1, none⟩ = some (.string Y1) := fun p => (S11.out.later p.h).cell rfl
    have x2 : ∀ p : InC w11, p.w.cell? ⟨w7.heap.size, 2, none⟩ = some (.string Y2) := fun p => (S11.out.later p.h).cell rfl
    have y1 : ∀ p : InC w11, p.w.cell? ⟨w9.heap.size, 1, none⟩ = some (.string Y1) := fun p => (R11.out.later p.h).cell rfl
    have y2 : ∀ p : InC w11, p.w.cell? ⟨w9.heap.size, 2, none⟩ = some (.string Y2) := fun p => (R11.out.later p.h).cell rfl
    repeat (quiet_step (first | (go_at_call 20; with_reducible exact quiet_in (G1.out _ (InC.h _))) | (go_at_call 20; with_reducible exact quiet_in (G2.out _ (InC.h _)))))
    refine wpQuiet_nil ?_
    intro _ hw'
    obtain ⟨⟨U, hU⟩, rfl⟩ := hw'
    have Hend := Lib.hid (B11.out.trans (hU.mono B11.out.size))
    clear hU
    go_wp2_with fail
    go_ret
    exact ⟨rfl, Hend.out⟩
end Go.Proofs.YtbekbllffphfeaaGreatDoor
