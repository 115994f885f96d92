/-
  For the laws of token: which tokens two tokens side by side are; facts on lists of bytes alone, no program.
-/
import Derived.Test.YtamhlobjolnlhaaDoorMath
import Derived.Test.YtamhlobjolnlhaaDoorGap
namespace Go.Proofs.YtamhlobjolnlhaaDoor

theorem kind_in_two {l : List UInt8} {T : List Tk} {e : Int} (h : kindIn l T e ≠ 0) : e = 0 ∧ ∃ t u, T = [t, u] ∧ t.text = l ∧ kindIn l T e = t.kind := by
  unfold kindIn at h ⊢
  by_cases he : e = 0
  · rw [if_pos he] at h ⊢
    match T, h with
    | [], h => exact absurd rfl h
    | [_], h => exact absurd rfl h
    | [t, u], h =>
      simp only at h ⊢
      by_cases ht : t.text = l
      · rw [if_pos ht]; exact ⟨he, t, u, rfl, ht, rfl⟩
      · rw [if_neg ht] at h; exact absurd rfl h
    | _ :: _ :: _ :: _, h => exact absurd rfl h
  · rw [if_neg he] at h; exact absurd rfl h
theorem kind_inv {l : List UInt8} {k : Int} (hk : kindOf l = k) (h0 : k ≠ 0) : l ≠ [] ∧ sep l = (0, true) ∧ first l = (k, l.length, 0) := by
  subst hk
  obtain ⟨he, t, u, hT, ht, hkk⟩ := kind_in_two h0
  rw [kindOf, hkk]
  clear hkk h0
  have hsl := sep_le l
  rw [lexR] at he hT
  split at he
  · simp at he
  · rename_i h1
    rw [if_neg h1] at hT
    split at he
    · rename_i h2
      rw [if_pos h2] at hT
      simp at hT
    · rename_i h2
      rw [if_neg h2] at hT
      split at he
      · rename_i h3
        rw [if_pos h3] at hT
        simp at hT
      · rename_i h3
        rw [if_neg h3] at hT
        split at he
        · rename_i h4
          rw [if_pos h4] at hT
          simp at hT
        · rename_i h4
          rw [if_neg h4] at hT
          simp only [List.cons.injEq] at hT
          obtain ⟨e1, -⟩ := hT
          subst e1
          simp only at ht
          have hlen := congrArg List.length ht
          have hpos : 0 < (l.drop (sep l).1).length := List.length_pos_iff.2 h2
          rw [List.length_take, List.length_drop] at hlen
          rw [List.length_drop] at hpos
          have hs0 : (sep l).1 = 0 := by omega
          have hs1 : (sep l).2 = true := by simpa using h1
          rw [hs0, List.drop_zero] at ht hlen h3 ⊢
          rcases first_cases l with ⟨f1, f2, f3, -, -⟩ | ⟨f1, -⟩
          · refine ⟨by intro h; rw [h] at hpos; simp at hpos, Prod.ext hs0 hs1, ?_⟩
            exact Prod.ext rfl (Prod.ext (by show _ = l.length; omega) f2)
          · exact absurd f1 h3
theorem first_kind {x : List UInt8} {k : Int} {n : Nat} (h : first x = (k, n, 0)) : ((k = 1 ∨ k = 3) ∧ nameLen x = n ∧ 0 < n ∧ n ≤ 20) ∨ (k = 2 ∧ nameLen x = 0 ∧ numLen x = n ∧ 0 < n ∧ badNum (x.take n) = false) ∨ (k = 4 ∧ nameLen x = 0 ∧ numLen x = 0 ∧ markLen x = n ∧ 0 < n) := by
  unfold first at h
  split at h
  · split at h
    · simp at h
    · split at h <;> simp only [Prod.mk.injEq, and_true] at h <;> left <;> exact ⟨by omega, h.2, by omega, by omega⟩
  · split at h
    · split at h
      · simp at h
      · rename_i h2 h3
        simp only [Prod.mk.injEq, and_true] at h
        right; left
        refine ⟨h.1.symm, by omega, h.2, by omega, ?_⟩
        rw [← h.2]; simpa using h3
    · split at h
      · simp only [Prod.mk.injEq, and_true] at h
        right; right
        exact ⟨h.1.symm, by omega, by omega, h.2, by omega⟩
      · simp at h
def marksL : List (List UInt8) := twoM ++ oneM.map fun c => [c]
theorem mark_mem {x : List UInt8} (h : markLen x = x.length) (h0 : x ≠ []) : x ∈ marksL := by
  cases x with
  | nil => exact absurd rfl h0
  | cons c r =>
    unfold marksL
    rw [markLen] at h
    split at h
    · rename_i h2
      have hr : r.length = 1 := by simp at h; omega
      match r, hr with
      | [d], _ => exact List.mem_append_left _ (by simpa using h2)
    · split at h
      · rename_i h2
        have hr : r = [] := by
          apply List.eq_nil_of_length_eq_zero
          rw [List.length_cons] at h; omega
        subst hr
        exact List.mem_append_right _ (List.mem_map.2 ⟨c, h2, rfl⟩)
      · simp at h
/-- Would the byte d, right behind the token x of kind k, change that token? -/
def spoils (k : Int) (x : List UInt8) (d : UInt8) : Bool :=
  if k = 4 then decide (x.length = 1) && (decide (x ++ [d] ∈ twoM) || (decide (x = [47]) && (d == 47 || d == 42))) else if k = 2 then dig d else aln d
def Stops (k : Int) (x z : List UInt8) : Prop := ∀ d, z.head? = some d → spoils k x d = false
theorem tw_stop_append {p : UInt8 → Bool} {r z : List UInt8} (h1 : (r.takeWhile p).length = r.length) (h2 : ∀ d, z.head? = some d → p d = false) : ((r ++ z).takeWhile p).length = r.length := by
  have hall : ∀ c ∈ r, p c = true := by
    have e : r.takeWhile p = r := (List.takeWhile_prefix p).eq_of_length h1
    intro c hc
    rw [← e] at hc
    exact tw_all hc
  refine tw_eq ?_ ?_ (by simp)
  · rw [List.take_left]; exact hall
  · intro c hc
    refine h2 c ?_
    rw [List.getElem?_append_right (Nat.le_refl _), Nat.sub_self] at hc
    rw [List.head?_eq_getElem?]; exact hc
theorem aln_head {c : UInt8} {r : List UInt8} (h : 0 < nameLen (c :: r)) : ltr c = true := by
  rw [nameLen] at h
  split at h
  · assumption
  · omega
theorem dig_head {c : UInt8} {r : List UInt8} (h : 0 < numLen (c :: r)) : dig c = true := by
  unfold numLen at h
  rw [List.takeWhile_cons] at h
  split at h
  · assumption
  · simp at h
theorem ltr_47 {c : UInt8} (h : aln c = true) : c ≠ 47 ∧ c ≠ 42 ∧ blank c = false := by
  refine ⟨?_, ?_, ?_⟩
  · rintro rfl; exact absurd h (by decide)
  · rintro rfl; exact absurd h (by decide)
  · cases hb : blank c with
    | false => rfl
    | true =>
      simp only [blank, Bool.or_eq_true, beq_iff_eq] at hb
      rcases hb with ((rfl | rfl) | rfl) | rfl <;> exact absurd h (by decide)
theorem first_of_name {x y : List UInt8} (h1 : 0 < nameLen x) (h2 : nameLen y = nameLen x) (h3 : y.take (nameLen x) = x.take (nameLen x)) : first y = first x := by
  unfold first
  rw [h2, h3, if_pos h1, if_pos h1]
theorem stops_first {x z : List UInt8} {k : Int} (hx : x ≠ []) (h : first x = (k, x.length, 0)) (hs : sep x = (0, true)) (hz : Stops k x z) : sep (x ++ z) = (0, true) ∧ first (x ++ z) = (k, x.length, 0) := by
  obtain ⟨c, r, rfl⟩ := List.exists_cons_of_ne_nil hx
  rcases first_kind h with ⟨hk, hn, h0, h20⟩ | ⟨hk, hn, hm, h0, hbad⟩ | ⟨hk, hn, hm, hl, h0⟩
  · have hal := aln_head (hn ▸ h0)
    have hc := ltr_47 (c := c) (by simp [aln, hal])
    constructor
    · exact sep_else hc.2.2 (by simp [hc.1]) (by simp [hc.1])
    · rw [← h]
      have hl2 : nameLen (c :: r ++ z) = nameLen (c :: r) := by
        rw [nameLen, if_pos hal] at hn
        rw [List.cons_append, nameLen, if_pos hal, nameLen, if_pos hal, tw_stop_append (by simpa using hn) (fun d hd => by
          have := hz d hd
          unfold spoils at this
          rw [if_neg (by omega), if_neg (by omega)] at this
          exact this)]
        simp only [List.length_cons] at hn
        omega
      refine first_of_name (hn ▸ h0) hl2 ?_
      rw [hn, List.take_left, List.take_length]
  · have hal := dig_head (hm ▸ h0)
    have hc := ltr_47 (c := c) (by simp [aln, hal])
    constructor
    · exact sep_else hc.2.2 (by simp [hc.1]) (by simp [hc.1])
    · have hl2 : numLen (c :: r ++ z) = (c :: r).length := by
        unfold numLen at hm ⊢
        exact tw_stop_append hm (fun d hd => by
          have := hz d hd
          unfold spoils at this
          rw [if_neg (by omega), if_pos hk] at this
          exact this)
      unfold first
      rw [List.cons_append, name_zero hn, if_neg (by omega), ← List.cons_append, hl2, if_pos h0, List.take_left, if_neg (by rw [← List.take_length (l := c :: r), hbad]; simp), hk]
  · obtain ⟨s1, s2, s3⟩ := sep_zero hs
    subst hk
    have hsp : ∀ d, z.head? = some d → r = [] → [c, d] ∉ twoM ∧ ¬ (c = 47 ∧ (d = 47 ∨ d = 42)) := by
      rintro d hd rfl
      have := hz d hd
      simp only [spoils, if_pos] at this
      simp only [List.length_singleton, decide_true, Bool.true_and, Bool.or_eq_false_iff, decide_eq_false_iff_not, List.cons_append, List.nil_append, Bool.and_eq_false_imp, decide_eq_true_eq] at this
      refine ⟨this.1, fun hcd => ?_⟩
      have := this.2 (by rw [hcd.1])
      simp at this
      rcases hcd.2 with h | h
      · exact this.1 h
      · exact this.2 h
    constructor
    · rw [List.cons_append]
      refine sep_else s1 ?_ ?_
      · rintro ⟨rfl, he⟩
        cases r with
        | nil => exact (hsp 47 (by simpa using he) rfl).2 ⟨rfl, .inl rfl⟩
        | cons g r => exact s2 ⟨rfl, by simpa using he⟩
      · rintro ⟨rfl, he⟩
        cases r with
        | nil => exact (hsp 42 (by simpa using he) rfl).2 ⟨rfl, .inr rfl⟩
        | cons g r => exact s3 ⟨rfl, by simpa using he⟩
    · have hl2 : markLen (c :: r ++ z) = (c :: r).length := by
        rw [List.cons_append, markLen]
        rw [markLen] at hl
        split at hl
        · rename_i h2
          have hr : r.length = 1 := by simp at hl; omega
          match r, hr with
          | [d], _ => rw [if_pos (by simpa using h2)]; rfl
        · rename_i h2
          split at hl
          · rename_i h3
            have hr : r = [] := by
              apply List.eq_nil_of_length_eq_zero
              rw [List.length_cons] at hl; omega
            subst hr
            rw [if_neg, if_pos h3]; · rfl
            cases z with
            | nil => simpa using h2
            | cons d z => exact fun hm => (hsp d rfl rfl).1 (by simpa using hm)
          · simp at hl
      unfold first
      rw [List.cons_append, name_zero hn, if_neg (by omega), num_zero hm, if_neg (by omega), ← List.cons_append, hl2, if_pos h0]
theorem marks_gap : ∀ x ∈ marksL, ∀ y ∈ marksL, decide ((x, y) ∈ pairsL) = spoils 4 x (y.headD 0) := by decide
theorem marks_aln : ∀ x ∈ marksL, (∀ c ∈ twoM, aln (c.getD 1 0) = false) := by decide
/-- Something must stand between x and y just if y's first byte would change x. -/
theorem gap_spoils {x y : List UInt8} (hx : kindOf x ≠ 0) (hy : kindOf y ≠ 0) : gapOf x y = spoils (kindOf x) x (y.headD 0) := by
  obtain ⟨x0, -, fx⟩ := kind_inv rfl hx
  obtain ⟨y0, -, fy⟩ := kind_inv rfl hy
  obtain ⟨d, z, rfl⟩ := List.exists_cons_of_ne_nil y0
  unfold gapOf gapIn
  rw [if_neg (by simp [hx, hy])]
  simp only [List.headD_cons]
  generalize kindOf x = kx at *
  generalize kindOf (d :: z) = ky at *
  have mk : ∀ {x : List UInt8}, x ≠ [] → first x = (4, x.length, 0) → x ∈ marksL := fun {x} h0 h => by
    rcases first_kind h with ⟨h1, -⟩ | ⟨h1, -⟩ | ⟨-, -, -, h1, -⟩
    · omega
    · omega
    · exact mark_mem h1 h0
  have hd : (ky = 4 ∧ d :: z ∈ marksL ∧ aln d = false) ∨ (ky = 2 ∧ dig d = true) ∨ ((ky = 1 ∨ ky = 3) ∧ ltr d = true ∧ dig d = false) := by
    rcases first_kind fy with ⟨hk, hn, h0, h20⟩ | ⟨hk, hn, hm, h0, hbad⟩ | ⟨hk, hn, hm, hl, h0⟩
    · refine .inr (.inr ⟨hk, aln_head (hn ▸ h0), ?_⟩)
      have := aln_head (hn ▸ h0)
      unfold ltr at this
      unfold dig
      simp only [Bool.or_eq_true, Bool.and_eq_true, decide_eq_true_eq, beq_iff_eq, Bool.and_eq_false_imp, decide_eq_false_iff_not, UInt8.le_iff_toNat_le, ← UInt8.toNat_inj] at this ⊢
      simp at this ⊢
      omega
    · exact .inr (.inl ⟨hk, dig_head (hm ▸ h0)⟩)
    · subst hk
      refine .inl ⟨rfl, mk (by simp) fy, ?_⟩
      have h1 : ltr d = false := by
        cases hc : ltr d with
        | false => rfl
        | true => rw [nameLen, if_pos hc] at hn; omega
      have h2 : dig d = false := by
        cases hc : dig d with
        | false => rfl
        | true => rw [numLen, List.takeWhile_cons, if_pos hc] at hm; simp at hm
      simp [aln, h1, h2]
  by_cases x4 : kx = 4
  · subst x4
    have hxm := mk x0 fx
    rcases hd with ⟨rfl, hm, -⟩ | hd
    · rw [if_pos ⟨rfl, rfl⟩]
      exact marks_gap x hxm _ hm
    · have hal : aln d = true := by
        rcases hd with ⟨-, h⟩ | ⟨-, h, -⟩ <;> simp [aln, h]
      have hy4 : ky ≠ 4 := by rcases hd with ⟨h, -⟩ | ⟨h, -⟩ <;> omega
      rw [if_neg (by simp [hy4]), if_pos (.inl rfl)]
      symm
      unfold spoils
      rw [if_pos rfl]
      have e2 := ltr_47 hal
      have e1 : x ++ [d] ∉ twoM := by
        intro hin
        have := marks_aln x hxm _ hin
        have hlen : ∀ c ∈ twoM, c.length = 2 := by decide
        have hl := hlen _ hin
        have hxl : x.length = 1 := by simp at hl; omega
        rw [List.getD_eq_getElem?_getD, List.getElem?_append_right (by omega), hxl] at this
        simp [hal] at this
      simp [e1, e2.1, e2.2.1]
  · rw [if_neg (by simp [x4])]
    have hxk : kx = 2 ∨ kx = 1 ∨ kx = 3 := by
      rcases first_kind fx with ⟨hk, -⟩ | ⟨hk, -⟩ | ⟨hk, -⟩ <;> omega
    unfold spoils
    rw [if_neg x4]
    rcases hd with ⟨rfl, hm, hal⟩ | hd
    · rw [if_pos (.inr rfl)]
      have h2 : dig d = false := by simp [aln] at hal; exact hal.1
      split
      · exact h2.symm
      · exact hal.symm
    · have hal : aln d = true := by
        rcases hd with ⟨-, h⟩ | ⟨-, h, -⟩ <;> simp [aln, h]
      have hy4 : ky ≠ 4 := by rcases hd with ⟨h, -⟩ | ⟨h, -⟩ <;> omega
      rw [if_neg (by simp [hy4, x4])]
      rcases hxk with rfl | hxk
      · rw [if_pos rfl]
        rcases hd with ⟨rfl, h⟩ | ⟨h1, -, h⟩
        · rw [h]; rfl
        · rw [h]
          rcases h1 with rfl | rfl <;> rfl
      · rw [if_neg (by omega), hal]
        have : (kx != 2) = true := by rw [bne_iff_ne]; omega
        simp [this]
theorem lex_end (n : Nat) : lexR n [] = ([⟨5, [], n, []⟩], 0, 0) := by rw [lexR, sep_nil]; simp
theorem lex_step {n : Nat} {x z : List UInt8} {k : Int} {T : List Tk} (hx : x ≠ []) (hs : sep (x ++ z) = (0, true)) (hf : first (x ++ z) = (k, x.length, 0)) (hT : lexR (n + x.length) z = (T, 0, 0)) : lexR n (x ++ z) = (⟨k, x, n, []⟩ :: T, 0, 0) := by
  have hl := List.length_pos_iff.2 hx
  rw [lexR, hs]
  simp only [List.drop_zero, Nat.add_zero]
  rw [if_neg (by simp), if_neg (by simp [hx]), hf]
  simp only
  rw [if_neg (by omega), List.drop_left, hT]
  simp
theorem lex_space {n : Nat} {x z : List UInt8} {k : Int} {T : List Tk} (hx : x ≠ []) (hs : sep (x ++ z) = (0, true)) (hf : first (x ++ z) = (k, x.length, 0)) (hT : lexR (n + 1 + x.length) z = (T, 0, 0)) : lexR n (32 :: (x ++ z)) = (⟨k, x, (n + 1 : Nat), [32]⟩ :: T, 0, 0) := by
  have hl := List.length_pos_iff.2 hx
  have e : sep (32 :: (x ++ z)) = (1, true) := by rw [sep_blank (by decide), hs]
  rw [lexR, e]
  simp only [List.drop_succ_cons, List.drop_zero]
  rw [if_neg (by simp), if_neg (by simp [hx]), hf]
  simp only
  rw [if_neg (by omega), List.drop_left, hT]
  simp
/-- What the document asks of two tokens side by side. -/
def gap3 (a b : List UInt8) (T : List Tk) (e : Int) : Bool :=
  if e = 0 then (match T with | [t, u, _] => !(decide (t.text = a) && decide (u.text = b) && decide (u.lead = [])) | _ => true) else true
theorem gap3_false {a b : List UInt8} (ha : kindOf a ≠ 0) (hb : kindOf b ≠ 0) (hg : gapOf a b = false) : gap3 a b (lexR 0 (a ++ b)).1 (lexR 0 (a ++ b)).2.2 = false := by
  obtain ⟨a0, sa, fa⟩ := kind_inv rfl ha
  obtain ⟨b0, sb, fb⟩ := kind_inv rfl hb
  rw [gap_spoils ha hb] at hg
  obtain ⟨e1, e2⟩ := stops_first (z := b) a0 fa sa (by
    intro d hd
    cases b with
    | nil => simp at hd
    | cons g b => obtain rfl : g = d := by simpa using hd
                  exact hg)
  have h2 : lexR (0 + a.length) (b ++ []) = _ := lex_step (n := 0 + a.length) (z := []) b0 (by simpa using sb) (by simpa using fb) (lex_end _)
  rw [List.append_nil] at h2
  rw [lex_step a0 e1 e2 h2]
  simp [gap3]
theorem gap3_first {a l : List UInt8} (b : List UInt8) (hs : sep l = (0, true)) (hf : (first l).2.1 ≠ a.length) : gap3 a b (lexR 0 l).1 (lexR 0 l).2.2 = true := by
  have hk : ∀ {T : List Tk} {e : Int}, (e = 0 → ∀ t, T.head? = some t → t.text ≠ a) → gap3 a b T e = true := fun {T e} h => by
    unfold gap3
    split
    · rename_i he
      split
      · rename_i t u v
        have := h he t rfl
        simp [this]
      · rfl
    · rfl
  apply hk
  intro he t ht
  rw [lexR, hs] at he ht
  simp only [List.drop_zero, Nat.add_zero] at he ht
  rw [if_neg (by simp)] at he ht
  split at he
  · rename_i h2
    rw [if_pos h2] at ht
    obtain rfl : _ = t := by simpa using ht
    subst h2
    intro h
    apply hf
    simp only at h
    subst h
    rfl
  · rename_i h2
    rw [if_neg h2] at ht
    split at he
    · rename_i h3
      rw [if_pos h3] at ht
      simp at ht
    · rename_i h3
      rw [if_neg h3] at ht
      split at he
      · rename_i h4
        exact absurd he h4
      · rename_i h4
        rw [if_neg h4] at ht
        obtain rfl : _ = t := by simpa using ht
        intro h
        apply hf
        simp only at h
        subst h
        rw [List.length_take]
        rcases first_cases l with h | h <;> omega
theorem gap3_true {a b : List UInt8} (ha : kindOf a ≠ 0) (hb : kindOf b ≠ 0) (hg : gapOf a b = true) : gap3 a b (lexR 0 (a ++ b)).1 (lexR 0 (a ++ b)).2.2 = true := by
  obtain ⟨a0, sa, fa⟩ := kind_inv rfl ha
  obtain ⟨b0, sb, fb⟩ := kind_inv rfl hb
  have hg' := hg
  rw [gap_spoils ha hb] at hg
  obtain ⟨c, r, rfl⟩ := List.exists_cons_of_ne_nil a0
  obtain ⟨d, z, rfl⟩ := List.exists_cons_of_ne_nil b0
  simp only [List.headD_cons] at hg
  rcases first_kind fa with ⟨hk, hn, h0, h20⟩ | ⟨hk, hn, hm, h0, hbad⟩ | ⟨hk, hn, hm, hl, h0⟩
  · have hal := aln_head (hn ▸ h0)
    have hc := ltr_47 (c := c) (by simp [aln, hal])
    refine gap3_first _ (sep_else hc.2.2 (by simp [hc.1]) (by simp [hc.1])) ?_
    unfold spoils at hg
    rw [if_neg (by omega), if_neg (by omega)] at hg
    have hl : (c :: r).length < nameLen (c :: r ++ d :: z) := by
      rw [nameLen, if_pos hal] at hn
      have e : r.takeWhile aln = r := (List.takeWhile_prefix aln).eq_of_length (by simpa using hn)
      rw [List.cons_append, nameLen, if_pos hal, List.takeWhile_append_of_pos (fun x hx => by rw [← e] at hx; exact tw_all hx), List.takeWhile_cons, if_pos hg]
      simp
    unfold first
    rw [if_pos (by omega)]
    split
    · simp
    · split <;> simp only <;> omega
  · have hal := dig_head (hm ▸ h0)
    have hc := ltr_47 (c := c) (by simp [aln, hal])
    refine gap3_first _ (sep_else hc.2.2 (by simp [hc.1]) (by simp [hc.1])) ?_
    unfold spoils at hg
    rw [if_neg (by omega), if_pos hk] at hg
    have hl : (c :: r).length < numLen (c :: r ++ d :: z) := by
      unfold numLen at hm ⊢
      have e : (c :: r).takeWhile dig = c :: r := (List.takeWhile_prefix dig).eq_of_length hm
      rw [List.takeWhile_append_of_pos (fun x hx => by rw [← e] at hx; exact tw_all hx), List.takeWhile_cons, if_pos hg]
      simp
    unfold first
    rw [List.cons_append, name_zero hn, if_neg (by omega), ← List.cons_append, if_pos (by omega)]
    split
    · simp
    · simp only; omega
  · have hxm : c :: r ∈ marksL := mark_mem hl a0
    have hk2 : kindOf (d :: z) = 4 := by
      rcases first_kind fb with ⟨hkb, hnb, hb0, -⟩ | ⟨hkb, -, hmb, hb0, -⟩ | ⟨hkb, -⟩
      · exfalso
        unfold gapOf gapIn at hg'
        rw [if_neg (by simp [ha, hb]), if_neg (by omega), if_pos (.inl hk)] at hg'
        simp at hg'
      · exfalso
        unfold gapOf gapIn at hg'
        rw [if_neg (by simp [ha, hb]), if_neg (by omega), if_pos (.inl hk)] at hg'
        simp at hg'
      · exact hkb
    unfold gapOf gapIn at hg'
    rw [if_neg (by simp [ha, hb]), if_pos ⟨hk, hk2⟩, decide_eq_true_iff] at hg'
    clear hk hk2 hn hm hl h0 hxm fa fb sa sb ha hb hg
    have hall : ∀ p ∈ pairsL, gap3 p.1 p.2 (lexR 0 (p.1 ++ p.2)).1 (lexR 0 (p.1 ++ p.2)).2.2 = true := by
      intro p hp
      simp only [pairsL, List.mem_cons, List.not_mem_nil, or_false] at hp
      have se : ∀ (c : UInt8) (r : List UInt8), blank c = false → c ≠ 47 → sep (c :: r) = (0, true) := fun c r h1 h2 => sep_else h1 (by simp [h2]) (by simp [h2])
      rcases hp with rfl | rfl | rfl | rfl | rfl | rfl | rfl | rfl | rfl | rfl
      · exact gap3_first _ (se _ _ (by decide) (by decide)) (by decide)
      · exact gap3_first _ (se _ _ (by decide) (by decide)) (by decide)
      · exact gap3_first _ (se _ _ (by decide) (by decide)) (by decide)
      · exact gap3_first _ (se _ _ (by decide) (by decide)) (by decide)
      · exact gap3_first _ (se _ _ (by decide) (by decide)) (by decide)
      · exact gap3_first _ (se _ _ (by decide) (by decide)) (by decide)
      · exact gap3_first _ (se _ _ (by decide) (by decide)) (by decide)
      · exact gap3_first _ (se _ _ (by decide) (by decide)) (by decide)
      · have e : sep [47, 47] = (2, true) := by
          rw [sep_line (by decide), show lineLen [47] = 1 from by decide, show List.drop 1 [(47 : UInt8)] = [] from rfl, sep_nil]
        rw [show ([47], [47]).1 ++ ([47], [47]).2 = ([47, 47] : List UInt8) from rfl, lexR, e]
        simp [gap3]
      · have e : sep [47, 42] = (0, false) := by
          rw [sep_note (by decide)]
          rfl
        rw [show ([47], [42]).1 ++ ([47], [42]).2 = ([47, 42] : List UInt8) from rfl, lexR, e]
        simp [gap3]
    exact hall _ hg'
theorem gap3_eq {a b : List UInt8} (ha : kindOf a ≠ 0) (hb : kindOf b ≠ 0) : gap3 a b (lexR 0 (a ++ b)).1 (lexR 0 (a ++ b)).2.2 = gapOf a b := by
  cases hg : gapOf a b with
  | true => exact gap3_true ha hb hg
  | false => exact gap3_false ha hb hg
end Go.Proofs.YtamhlobjolnlhaaDoor
