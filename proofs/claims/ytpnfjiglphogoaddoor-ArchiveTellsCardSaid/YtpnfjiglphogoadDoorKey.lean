/-
  For the laws of archive: a file that is shown is read, and what is read was shown; no program. Condition: fewer than 2 to the 60 lines.
-/
import Derived.Test.YtpnfjiglphogoadDoorNext
import Derived.Lib.ItoaNum
namespace Go.Proofs.YtpnfjiglphogoadDoor
open Go

def digF (a : Nat) (c : UInt8) : Nat := a * 10 + (c.toNat - 48)
def valA (a : Nat) (l : List UInt8) : Nat := l.foldl digF a
def val (l : List UInt8) : Nat := valA 0 l
def Dig (c : UInt8) : Prop := 48 ≤ c.toNat ∧ c.toNat ≤ 57
theorem valA_append (a : Nat) (l r : List UInt8) : valA a (l ++ r) = valA (valA a l) r := List.foldl_append
theorem valA_cons (a : Nat) (c : UInt8) (r : List UInt8) : valA a (c :: r) = valA (digF a c) r := by unfold valA; rw [List.foldl_cons]
theorem val_snoc (l : List UInt8) (c : UInt8) : val (l ++ [c]) = val l * 10 + (c.toNat - 48) := by unfold val; rw [valA_append]; rfl
theorem valA_ge (l : List UInt8) : ∀ (a : Nat), a ≤ valA a l := by
  induction l with
  | nil => intro a; exact Nat.le_refl _
  | cons c r ih =>
    intro a
    rw [valA_cons]
    have := ih (digF a c)
    have h : a ≤ digF a c := by unfold digF; omega
    omega
theorem valA_lt : ∀ (l : List UInt8) (a : Nat), (∀ c ∈ l, Dig c) → valA a l < (a + 1) * 10 ^ l.length
  | [], a, _ => by simp [valA]
  | c :: r, a, h => by
    rw [valA_cons]
    have h1 := valA_lt r (digF a c) (fun d hd => h d (List.mem_cons_of_mem _ hd))
    have hc := h c List.mem_cons_self
    have h2 : digF a c + 1 ≤ (a + 1) * 10 := by unfold digF; unfold Dig at hc; omega
    have h3 := Nat.mul_le_mul_right (10 ^ r.length) h2
    rw [List.length_cons, Nat.pow_succ, Nat.mul_comm (10 ^ r.length) 10, ← Nat.mul_assoc]
    omega
theorem val_lt (l : List UInt8) (h : ∀ c ∈ l, Dig c) : val l < 10 ^ l.length := by
  have := valA_lt l 0 h
  simpa [val] using this
theorem dig_of {k : Nat} (h : k < 10) : (UInt8.ofNat (48 + k)).toNat = 48 + k := by simp; omega
theorem dec_dig (u : Nat) : ∀ c ∈ Lib.decDigits u, Dig c := by
  induction u using Nat.strongRecOn with
  | _ u ih =>
    intro c hc
    by_cases h : u < 10
    · rw [Lib.decDigits_one h] at hc
      obtain rfl := List.mem_singleton.1 hc
      unfold Dig
      rw [dig_of h]; omega
    · rw [Lib.decDigits, dif_neg h] at hc
      rcases List.mem_append.1 hc with hc | hc
      · exact ih (u / 10) (by omega) c hc
      · obtain rfl := List.mem_singleton.1 hc
        unfold Dig
        rw [dig_of (by omega)]; omega
theorem dec_val (u : Nat) : val (Lib.decDigits u) = u := by
  induction u using Nat.strongRecOn with
  | _ u ih =>
    by_cases h : u < 10
    · rw [Lib.decDigits_one h]
      show 0 * 10 + ((UInt8.ofNat (48 + u)).toNat - 48) = u
      rw [dig_of h]; omega
    · rw [Lib.decDigits, dif_neg h, val_snoc, ih (u / 10) (by omega), dig_of (by omega)]
      omega
theorem dec_ne (u : Nat) : Lib.decDigits u ≠ [] := by
  intro h
  have := Lib.decDigits_length u
  have hp := Lib.nDigits_pos u
  rw [h] at this
  simp at this
  omega
theorem parseU10 : ∀ (l : List UInt8) (a : Nat), (∀ c ∈ l, Dig c) → valA a l ≤ 1000000000000 → Lib.parseUint10 a l = .ok (valA a l)
  | [], a, _, _ => rfl
  | c :: r, a, hd, hl => by
    rw [valA_cons] at hl ⊢
    have hc := hd c List.mem_cons_self
    have h1 := valA_ge r (digF a c)
    have h2 : digF a c = a * 10 + (c.toNat - 48) := rfl
    rw [Lib.parseUint10, if_pos (show 48 ≤ c.toNat ∧ c.toNat ≤ 57 from hc), if_neg (by omega), if_neg (by omega), ← h2]
    exact parseU10 r (digF a c) (fun d h => hd d (List.mem_cons_of_mem _ h)) hl
theorem atoi_dec (n : Nat) (hn : n ≤ 1000000000000) : Lib.atoiAll (Lib.decDigits n) = .ok (n : Int) := by
  cases h : Lib.decDigits n with
  | nil => exact absurd h (dec_ne n)
  | cons c r =>
    have hc : Dig c := dec_dig n c (by rw [h]; exact List.mem_cons_self)
    have hv := dec_val n
    unfold val at hv
    have hp : Lib.parseMag (c :: r) = .ok n := by
      unfold Lib.parseMag
      rw [if_neg (by simp), ← h, parseU10 _ _ (dec_dig n) (by rw [hv]; exact hn), hv]
    unfold Dig at hc
    rw [Lib.atoiAll, if_neg (by omega), hp]
    simp only
    rw [if_neg (by omega), if_neg (by omega), if_neg (by omega)]
open Go.RowKit Go.Shelf
set_option linter.unusedSimpArgs false

theorem ok_not {y : By} (h : pathOk y = true) : (10 : UInt8) ∉ y ∧ (32 : UInt8) ∉ y := by
  unfold pathOk at h
  rw [Bool.and_eq_true, List.all_eq_true] at h
  exact ⟨fun hm => by have := h.2 _ hm; revert this; decide, fun hm => by have := h.2 _ hm; revert this; decide⟩
theorem dig_not {u : Nat} : (10 : UInt8) ∉ Lib.decDigits u ∧ (32 : UInt8) ∉ Lib.decDigits u ∧ (33 : UInt8) ∉ Lib.decDigits u :=
  ⟨fun hm => by have := dec_dig u _ hm; revert this; unfold Dig; decide, fun hm => by have := dec_dig u _ hm; revert this; unfold Dig; decide, fun hm => by have := dec_dig u _ hm; revert this; unfold Dig; decide⟩
/-- The last word of a head. -/
def lastW (f : Fl) : By := Lib.decDigits (cnt f.text) ++ (if cutOf f.text then [33] else []) ++ [10]
theorem headL_words (f : Fl) : headL f = word4 ++ 32 :: (f.path ++ 32 :: lastW f) := by
  simp [headL, lastW, fileW, word4]
theorem lastW_not (f : Fl) : (32 : UInt8) ∉ lastW f := by
  unfold lastW
  intro h
  rcases List.mem_append.1 h with h | h
  · rcases List.mem_append.1 h with h | h
    · exact dig_not.2.1 h
    · split at h <;> simp at h
  · simp at h
theorem three_head {f : Fl} (h : pathOk f.path = true) : three (headL f) = some (word4, f.path, lastW f) := by
  rw [headL_words]
  exact three_of (by decide) (ok_not h).2 (lastW_not f)
/-- A head is one line. -/
theorem head_line {f : Fl} (h : pathOk f.path = true) (r : By) : lineL (headL f ++ r) = (headL f, r) := by
  have e : headL f = (fileW ++ f.path ++ [32] ++ Lib.decDigits (cnt f.text) ++ (if cutOf f.text then [33] else [])) ++ [10] := rfl
  have hn : (10 : UInt8) ∉ fileW ++ f.path ++ [32] ++ Lib.decDigits (cnt f.text) ++ (if cutOf f.text then [33] else []) := by
    intro hm
    rcases List.mem_append.1 hm with hm | hm
    · rcases List.mem_append.1 hm with hm | hm
      · rcases List.mem_append.1 hm with hm | hm
        · rcases List.mem_append.1 hm with hm | hm
          · revert hm; decide
          · exact (ok_not h).1 hm
        · simp at hm
      · exact dig_not.1 hm
    · split at hm <;> simp at hm
  unfold lineL
  rw [e, List.append_assoc, show ([10] : By) ++ r = 10 :: r from rfl, sepAt_some r hn]
theorem last_snoc (a : By) (c : UInt8) : (a ++ [c]).getLast? = some c := by simp
theorem suffix_iff (l p : By) : Lib.hasSuffix l p = true ↔ ∃ t, l = t ++ p := by
  unfold Lib.hasSuffix
  rw [List.isSuffixOf_iff_suffix]
  exact ⟨fun ⟨t, h⟩ => ⟨t, h.symm⟩, fun ⟨t, h⟩ => ⟨t, h.symm⟩⟩
theorem trim_snoc (a p : By) : Lib.trimSuffix (a ++ p) p = a := by
  unfold Lib.trimSuffix
  rw [if_pos ((suffix_iff _ _).2 ⟨a, rfl⟩)]
  simp
theorem trim_not {l p : By} (h : Lib.hasSuffix l p = false) : Lib.trimSuffix l p = l := by
  unfold Lib.trimSuffix
  rw [if_neg (by rw [h]; simp)]
theorem dig_no_mark (u : Nat) : Lib.hasSuffix (Lib.decDigits u ++ [10]) [33, 10] = false := by
  cases h : Lib.hasSuffix (Lib.decDigits u ++ [10]) [33, 10] with
  | false => rfl
  | true =>
    obtain ⟨t, ht⟩ := (suffix_iff _ _).1 h
    have e : Lib.decDigits u = t ++ [33] := by
      have : Lib.decDigits u ++ [10] = (t ++ [33]) ++ [10] := by rw [ht]; simp
      exact List.append_cancel_right this
    exact absurd (show (33 : UInt8) ∈ Lib.decDigits u by rw [e]; simp) dig_not.2.2
theorem dig_no_nl (u : Nat) : Lib.hasSuffix (Lib.decDigits u) [10] = false := by
  cases h : Lib.hasSuffix (Lib.decDigits u) [10] with
  | false => rfl
  | true =>
    obtain ⟨t, ht⟩ := (suffix_iff _ _).1 h
    exact absurd (show (10 : UInt8) ∈ Lib.decDigits u by rw [ht]; simp) dig_not.1
theorem lastW_suffix (f : Fl) : Lib.hasSuffix (lastW f) [33, 10] = cutOf f.text := by
  unfold lastW
  cases cutOf f.text with
  | true => exact (suffix_iff _ _).2 ⟨Lib.decDigits (cnt f.text), by simp⟩
  | false => simpa using dig_no_mark (cnt f.text)
theorem lastW_num (f : Fl) : numOf (lastW f) = Lib.decDigits (cnt f.text) := by
  unfold numOf lastW
  cases cutOf f.text with
  | true =>
    rw [show Lib.decDigits (cnt f.text) ++ (if true = true then [33] else []) ++ [10] = Lib.decDigits (cnt f.text) ++ [33, 10] by simp, trim_snoc, trim_not (dig_no_nl _)]
  | false =>
    rw [show Lib.decDigits (cnt f.text) ++ (if false = true then [33] else []) ++ [10] = Lib.decDigits (cnt f.text) ++ [10] by simp, trim_not (dig_no_mark _), trim_snoc]
theorem bodyN_add (s : By) {k n : Nat} (h : bodyN s k = some n) : ∀ j, bodyN s (k + j) = (bodyN (s.drop n) j).map (n + ·)
  | 0 => by rw [Nat.add_zero, h]; rfl
  | j + 1 => by
    rw [← Nat.add_assoc, bodyN, bodyN_add s h j, bodyN]
    cases hb : bodyN (s.drop n) j with
    | none => rfl
    | some m =>
      simp only [Option.map_some, List.drop_drop]
      split
      · rfl
      · simp [Nat.add_assoc]
/-- Lines, each with its newline: where they end. -/
theorem body_lines : ∀ (m : Nat) (u r : By), u.length ≤ m → (u = [] ∨ u.getLast? = some 10) → bodyN (u ++ r) (u.count 10) = some u.length
  | m, u, r, hm, hu => by
    rcases sepAt_cases 10 u with ⟨h1, -⟩ | ⟨a, b, h1, h2, -⟩
    · have : u = [] := hu.resolve_right fun h => h1 (List.mem_of_getLast? h)
      rw [this]; rfl
    · cases m with
      | zero => rw [h1] at hm; simp at hm
      | succ m =>
        have hc : u.count 10 = 1 + b.count 10 := by
          rw [h1, List.count_append, List.count_cons_self, List.count_eq_zero.2 h2]; omega
        have hb1 : bodyN (u ++ r) 1 = some (a.length + 1) := by
          have e : headN (u ++ r) = a.length + 1 := by
            rw [h1, List.append_assoc, List.cons_append]; exact headN_at _ h2
          rw [bodyN, bodyN]
          simp only [List.drop_zero]
          rw [if_neg (by omega), e]; simp
        have hd : (u ++ r).drop (a.length + 1) = b ++ r := by
          rw [h1, show (a ++ 10 :: b) ++ r = (a ++ [10]) ++ (b ++ r) by simp]
          exact List.drop_left' (by simp)
        have hbl : b = [] ∨ b.getLast? = some 10 := by
          cases b with
          | nil => exact .inl rfl
          | cons x b =>
            refine .inr ?_
            rcases hu with hu | hu
            · rw [hu] at h1; simp at h1
            · rw [h1] at hu
              rw [List.getLast?_append] at hu
              simpa using hu
        rw [hc, bodyN_add _ hb1, hd, body_lines m b r (by rw [h1] at hm; simp at hm; omega) hbl]
        rw [h1]; simp; omega
theorem st_count (s : ByteArray) : ∀ k, k ≤ s.size → (st s k).1.length = ((tl s).take k).count 10
  | 0, _ => by simp [st]
  | k + 1, hk => by
    have ih := st_count s k (by omega)
    have hg := tl_get s (k := k) (by omega)
    rw [List.take_add_one, hg, List.count_append]
    cases h : nlB s k with
    | true =>
      rw [st_yes h, List.length_append, ih]
      have : s[k] = 10 := by
        unfold nlB at h
        rw [Array.getElem?_eq_getElem (by show k < s.data.size; exact (by omega : k < s.size))] at h
        have h2 : s.data[k]'(by exact (by omega : k < s.size)) = 10 := by simpa using h
        exact h2
      simp [this]
    | false =>
      rw [st_no h, ih]
      have : ¬ s[k] = 10 := by
        intro e
        unfold nlB at h
        rw [Array.getElem?_eq_getElem (by show k < s.data.size; exact (by omega : k < s.size))] at h
        simp at h
        exact h e
      simp [this]
theorem st_end (s : ByteArray) : ∀ k, k ≤ s.size → ((st s k).2 = k ↔ ((tl s).take k = [] ∨ ((tl s).take k).getLast? = some 10))
  | 0, _ => by simp [st]
  | k + 1, hk => by
    have hg := tl_get s (k := k) (by omega)
    rw [List.take_add_one, hg]
    cases h : nlB s k with
    | true =>
      rw [st_yes h]
      have : s[k] = 10 := by
        unfold nlB at h
        rw [Array.getElem?_eq_getElem (by show k < s.data.size; exact (by omega : k < s.size))] at h
        have h2 : s.data[k]'(by exact (by omega : k < s.size)) = 10 := by simpa using h
        exact h2
      simp [this]
    | false =>
      rw [st_no h]
      have hle := st_le s k
      have : ¬ s[k] = 10 := by
        intro e
        unfold nlB at h
        rw [Array.getElem?_eq_getElem (by show k < s.data.size; exact (by omega : k < s.size))] at h
        simp at h
        exact h e
      constructor
      · intro e; omega
      · intro e; simp [this] at e
theorem cnt_count (t : By) : cnt t = (whole t).count 10 := by
  have hs : (bs t).size = t.length := bs_size t
  have h1 := st_count (bs t) (bs t).size (Nat.le_refl _)
  have h2 := st_end (bs t) (bs t).size (Nat.le_refl _)
  have hle := st_le (bs t) (bs t).size
  rw [tl_bs, hs, List.take_of_length_le (Nat.le_refl _)] at h1 h2
  rw [hs] at hle
  unfold cnt lns whole
  rw [hs]
  by_cases e : t = [] ∨ t.getLast? = some 10
  · rw [if_pos e, if_neg (by have := h2.2 e; omega), h1]
  · rw [if_neg e, if_pos (by have : (st (bs t) t.length).2 ≠ t.length := fun h => e (h2.1 h)
                             omega), List.length_append, h1, List.count_append]
    simp
theorem whole_end (t : By) : whole t = [] ∨ (whole t).getLast? = some 10 := by
  unfold whole
  split
  · assumption
  · exact .inr (by simp)
theorem body_whole (t r : By) : bodyN (whole t ++ r) (cnt t) = some (whole t).length := by
  rw [cnt_count]
  exact body_lines _ _ r (Nat.le_refl _) (whole_end t)
theorem whole_cut {t : By} (h : cutOf t = true) : whole t = t ++ [10] := by
  unfold cutOf at h
  have h := of_decide_eq_true h
  unfold whole at h ⊢
  split
  · rename_i h2; rw [if_pos h2] at h; exact absurd rfl h
  · rfl
theorem whole_same {t : By} (h : cutOf t = false) : whole t = t := by
  unfold cutOf at h
  simpa using h
theorem lineL_join (s : By) : s = (lineL s).1 ++ (lineL s).2 := by
  rw [line_take]; simp
/-- What is shown is read. -/
theorem next_of {f : Fl} {r : By} (h : pathOk f.path = true) (hc : cnt f.text ≤ 1000000000000) : nextL (oneL f ++ r) = some (f, r) := by
  have hl : lineL (oneL f ++ r) = (headL f, whole f.text ++ r) := by unfold oneL; rw [List.append_assoc]; exact head_line h _
  unfold nextL
  rw [hl]
  simp only
  rw [three_head h]
  simp only
  rw [if_neg (by rw [h]; simp), lastW_num, atoi_dec _ hc]
  simp only [Int.toNat_natCast]
  rw [body_whole]
  simp only [List.take_left, List.drop_left]
  rw [lastW_suffix]
  cases hcut : cutOf f.text with
  | true =>
    have hw := whole_cut hcut
    rw [if_neg (by rw [hw]; simp)]
    simp only [if_true]
    rw [hw, List.dropLast_concat]
    rw [if_pos (by cases f; rfl)]
  | false =>
    have hw := whole_same hcut
    rw [if_neg (by simp)]
    simp only [Bool.false_eq_true, if_false]
    rw [hw, if_pos (by cases f; rfl)]
/-- What is read was shown. -/
theorem of_next {s : By} {f : Fl} {r : By} (h : nextL s = some (f, r)) : pathOk f.path = true ∧ s = oneL f ++ r := by
  unfold nextL at h
  cases h3 : three (lineL s).1 with
  | none => rw [h3] at h; cases h
  | some xyz =>
    obtain ⟨x, y, z⟩ := xyz
    rw [h3] at h
    simp only at h
    split at h
    · cases h
    · rename_i hg
      cases hA : Lib.atoiAll (numOf z) with
      | ok v =>
        rw [hA] at h
        simp only at h
        cases hb : bodyN (lineL s).2 v.toNat with
        | none => rw [hb] at h; cases h
        | some n =>
          rw [hb] at h
          simp only at h
          by_cases hne : Lib.hasSuffix z [33, 10] = true ∧ (lineL s).2.take n = []
          · rw [if_pos hne] at h; cases h
          · rw [if_neg hne] at h
            by_cases heq : headL ⟨y, if Lib.hasSuffix z [33, 10] then ((lineL s).2.take n).dropLast else (lineL s).2.take n⟩ = (lineL s).1
            · rw [if_pos heq] at h
              have h2 := Option.some.inj h
              have hf := congrArg Prod.fst h2
              have hr := congrArg Prod.snd h2
              simp only at hf hr
              subst hf hr
              have hp : pathOk y = true := by
                cases hp : pathOk y with
                | true => rfl
                | false => exact absurd (.inr hp) hg
              refine ⟨hp, ?_⟩
              have hlast := bodyN_last _ _ hb
              have hw : whole (if Lib.hasSuffix z [33, 10] then ((lineL s).2.take n).dropLast else (lineL s).2.take n) = (lineL s).2.take n := by
                cases hz : Lib.hasSuffix z [33, 10] with
                | false =>
                  simp only [Bool.false_eq_true, if_false]
                  unfold whole
                  rw [if_pos hlast]
                | true =>
                  simp only [if_true]
                  rw [hz] at heq hne
                  simp only [if_true] at heq
                  have hT : (lineL s).2.take n ≠ [] := fun e => hne ⟨rfl, e⟩
                  have hl10 := hlast.resolve_left hT
                  have hTe : (lineL s).2.take n = ((lineL s).2.take n).dropLast ++ [10] := by
                    obtain ⟨ys, hys⟩ := List.getLast?_eq_some_iff.1 hl10
                    rw [hys]; simp
                  have hcut : cutOf ((lineL s).2.take n).dropLast = true := by
                    cases hc : cutOf ((lineL s).2.take n).dropLast with
                    | true => rfl
                    | false =>
                      exfalso
                      obtain ⟨t, ht⟩ := (suffix_iff _ _).1 hz
                      have hj := (three_join h3).1
                      rw [← heq, headL, hc] at hj
                      have e1 : (fileW ++ y ++ [32] ++ Lib.decDigits (cnt ((lineL s).2.take n).dropLast)) ++ [10] = (x ++ 32 :: (y ++ 32 :: (t ++ [33]))) ++ [10] := by
                        have e2 : x ++ 32 :: (y ++ 32 :: z) = (x ++ 32 :: (y ++ 32 :: (t ++ [33]))) ++ [10] := by rw [ht]; simp
                        rw [← e2, ← hj]; simp
                      have e3 := List.append_cancel_right e1
                      have e4 := congrArg List.getLast? e3
                      rw [List.getLast?_append] at e4
                      obtain ⟨d, hd⟩ : ∃ d, (Lib.decDigits (cnt ((lineL s).2.take n).dropLast)).getLast? = some d := by
                        rw [List.getLast?_eq_some_getLast (dec_ne _)]; exact ⟨_, rfl⟩
                      rw [hd] at e4
                      replace e4 : some d = _ := e4
                      have e5 : (x ++ 32 :: (y ++ 32 :: (t ++ [33]))).getLast? = some 33 := by
                        rw [show x ++ 32 :: (y ++ 32 :: (t ++ [33])) = (x ++ 32 :: (y ++ 32 :: t)) ++ [33] by simp]; exact last_snoc _ _
                      rw [e5] at e4
                      obtain rfl := Option.some.inj e4
                      exact dig_not.2.2 (List.mem_of_getLast? hd)
                  rw [whole_cut hcut, ← hTe]
              show s = headL _ ++ whole _ ++ _
              rw [hw, heq, List.append_assoc, List.take_append_drop]
              exact lineL_join s
            · rw [if_neg heq] at h; cases h
      | «syntax» => rw [hA] at h; cases h
      | range => rw [hA] at h; cases h
end Go.Proofs.YtpnfjiglphogoadDoor
