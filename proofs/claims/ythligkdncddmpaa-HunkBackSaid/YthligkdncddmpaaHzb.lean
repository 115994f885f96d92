/-
  For the laws of hunk: what the hunks of a match are good for; facts on lists alone.
-/
import Derived.Test.YthligkdncddmpaaHza
import Derived.Test.YthligkdncddmpaaHc
import Derived.Test.YthligkdncddmpaaHp
import Derived.Test.YthligkdncddmpaaWake
namespace Go.Proofs.Ythligkdncddmpaa
open Go.RowKit

theorem good_isMatch : ∀ (l a b : List Int) (k : Int), 0 ≤ k → good l a b k → isMatch (k + b.length) k l ∧ l.length = a.length ∧ ∀ (i : Nat) (x : Int), l[i]? = some x → 0 ≤ x → k ≤ x ∧ a[i]? = b[(x - k).toNat]?
  | [], [], b, k, hk, _ => ⟨by show 0 ≤ k + b.length; omega, rfl, by simp⟩
  | m :: l, x :: a, b, k, hk, h => by
    rcases h with ⟨h1, h2⟩ | ⟨h1, h2, h3, h4⟩
    · obtain ⟨g1, g2, g3⟩ := good_isMatch l a b k hk h2
      refine ⟨⟨by omega, by omega, by omega, by rw [if_neg (by omega)]; exact g1⟩, by simp [g2], ?_⟩
      intro i y hy h0
      cases i with
      | zero => simp at hy; omega
      | succ i => simpa using g3 i y (by simpa using hy) h0
    · obtain ⟨g1, g2, g3⟩ := good_isMatch l a (b.drop ((m - k).toNat + 1)) (m + 1) (by omega) h4
      have e : m + 1 + ((b.drop ((m - k).toNat + 1)).length : Int) = k + b.length := by rw [List.length_drop]; omega
      rw [e] at g1
      refine ⟨⟨by omega, h2, fun _ => h1, by rw [if_pos (by omega)]; exact g1⟩, by simp [g2], ?_⟩
      intro i y hy h0
      cases i with
      | zero =>
        obtain rfl : m = y := by simpa using hy
        exact ⟨h1, by rw [h3]; rfl⟩
      | succ i =>
        obtain ⟨q1, q2⟩ := g3 i y (by simpa using hy) h0
        refine ⟨by omega, ?_⟩
        rw [List.getElem?_cons_succ, q2, List.getElem?_drop]
        congr 1
        omega
  | [], _ :: _, _, _, _, h => h.elim
  | _ :: _, [], _, _, _, h => h.elim

/-- What the places of two rows are good for. -/
def okP {α : Type} (A B : List α) : Int → Int → List (Int × Int) → Prop
  | _, _, [] => False
  | a, b, (i, k) :: ps => a ≤ i ∧ b ≤ k ∧ ((ps = [] ∧ i = A.length ∧ k = B.length) ∨ (i < A.length ∧ k < B.length ∧ A[i.toNat]? = B[k.toNat]? ∧ okP A B (i + 1) (k + 1) ps))
theorem okP_rest {α : Type} (A B : List α) : ∀ (M : List Int) (i : Nat) (a b : Int), i + M.length = A.length → a ≤ i → 0 ≤ b → b ≤ B.length → isMatch B.length b M → (∀ (j : Nat) (x : Int), M[j]? = some x → 0 ≤ x → A[i + j]? = B[x.toNat]?) → okP A B a b (restP B.length i M)
  | [], i, a, b, hl, ha, h0, hb, _, _ => by
    simp only [List.length_nil, Nat.add_zero] at hl
    subst hl
    exact ⟨ha, hb, .inl ⟨rfl, rfl, rfl⟩⟩
  | x :: M, i, a, b, hl, ha, h0, hb, hm, hs => by
    obtain ⟨m1, m2, m3, m4⟩ := hm
    simp only [List.length_cons] at hl
    have hs' : ∀ (j : Nat) (y : Int), M[j]? = some y → 0 ≤ y → A[i + 1 + j]? = B[y.toNat]? := by
      intro j y hj hy
      have := hs (j + 1) y (by simpa using hj) hy
      rw [← this]
      congr 1
      omega
    by_cases hx : 0 ≤ x
    · rw [if_pos hx] at m4
      rw [restP_hit _ _ _ _ hx]
      refine ⟨ha, m3 hx, .inr ⟨by omega, m2, ?_, ?_⟩⟩
      · simpa using hs 0 x rfl hx
      · have := okP_rest A B M (i + 1) ((i : Int) + 1) (x + 1) (by omega) (by omega) (by omega) (by omega) m4 hs'
        exact this
    · rw [if_neg hx] at m4
      rw [restP_miss _ _ _ _ (by omega)]
      exact okP_rest A B M (i + 1) a b (by omega) (by omega) h0 hb m4 hs'
theorem okP_swap {α : Type} {A B : List α} : ∀ {ps : List (Int × Int)} {a b : Int}, okP A B a b ps → okP B A b a (ps.map Prod.swap)
  | (i, k) :: ps, a, b, ⟨h1, h2, h⟩ => by
    refine ⟨h2, h1, ?_⟩
    rcases h with ⟨rfl, h3, h4⟩ | ⟨h3, h4, h5, h6⟩
    · exact .inl ⟨rfl, h4, h3⟩
    · exact .inr ⟨h4, h3, h5.symm, okP_swap h6⟩
theorem from_swap : ∀ (ps : List (Int × Int)) (a b : Int), (from_ a b ps).map Hk.turn = from_ b a (ps.map Prod.swap)
  | [], _, _ => rfl
  | (i, k) :: ps, a, b => by
    have ih := from_swap ps (i + 1) (k + 1)
    simp only [from_, List.map_append, List.map_cons, Prod.swap, ih, gap]
    by_cases h : a < i ∨ b < k
    · rw [if_pos h, if_pos h.symm]; rfl
    · rw [if_neg h, if_neg (fun e => h e.symm)]; rfl
theorem take_drop_on {α : Type} (l : List α) (e b : Nat) (h : e ≤ b) : (l.drop e).take (b - e) ++ l.drop b = l.drop e := by
  have := List.take_append_drop (b - e) (l.drop e)
  rw [List.drop_drop, show e + (b - e) = b from by omega] at this
  exact this
theorem drop_all {α : Type} (l : List α) : l.drop l.length = [] := List.drop_length
/-- One thing more that is the same. -/
theorem same_more {α : Type} {A B : List α} {d e n : Nat} (h : (A.drop d).take n = (B.drop e).take n) (hs : A[d + n]? = B[e + n]?) : (A.drop d).take (n + 1) = (B.drop e).take (n + 1) := by
  rw [List.take_add_one, List.take_add_one, h, List.getElem?_drop, List.getElem?_drop, hs]

theorem patched_from (A B : List ByteArray) : ∀ (ps : List (Int × Int)) (a b d e : Nat), okP A B a b ps → d ≤ a → e ≤ b → a - d = b - e → (A.drop d).take (a - d) = (B.drop e).take (a - d) → patched A B d (from_ a b ps) = B.drop e
  | (i, k) :: ps, a, b, d, e, ⟨h1, h2, h⟩, hd, he, hde, hs => by
    obtain ⟨i, rfl⟩ := Int.eq_ofNat_of_zero_le (show 0 ≤ i by omega)
    obtain ⟨k, rfl⟩ := Int.eq_ofNat_of_zero_le (show 0 ≤ k by omega)
    simp only [from_, gap]
    have e1 : (((a : Int)).toNat - ((d : Int)).toNat) = a - d := by omega
    by_cases hg : (a : Int) < i ∨ (b : Int) < k
    · rw [if_pos hg, List.singleton_append]
      simp only [patched]
      have e2 : ((b : Int) + (k - b)).toNat - ((b : Int)).toNat = k - b := by omega
      rw [show (d : Int).toNat = d from rfl, show (a : Int).toNat = a from rfl, show ((b : Int)).toNat = b from rfl] at *
      rw [e2, hs, show (a : Int) + (i - a) = i from by omega]
      have e3 : (B.drop e).take (a - d) ++ ((B.drop b).take (k - b) ++ B.drop k) = B.drop e := by
        rw [take_drop_on B b k (by omega), hde, take_drop_on B e b he]
      rcases h with ⟨rfl, h3, h4⟩ | ⟨h3, h4, h5, h6⟩
      · have e4 : i = A.length := by omega
        have e5 : k = B.length := by omega
        subst e4 e5
        simp only [from_, patched]
        rw [Int.toNat_natCast, drop_all]
        rw [drop_all] at e3
        exact e3
      · have ih := patched_from A B ps (i + 1) (k + 1) i k (by exact_mod_cast h6) (by omega) (by omega) (by omega) (by
          have := same_more (A := A) (B := B) (d := i) (e := k) (n := 0) (by simp) (by simpa using h5)
          simpa using this)
        rw [show ((i : Int) + 1) = ((i + 1 : Nat) : Int) from by omega, show ((k : Int) + 1) = ((k + 1 : Nat) : Int) from by omega, ih, e3]
    · rw [if_neg hg, List.nil_append]
      obtain rfl : a = i := by omega
      obtain rfl : b = k := by omega
      rcases h with ⟨rfl, h3, h4⟩ | ⟨h3, h4, h5, h6⟩
      · have e4 : a = A.length := by omega
        have e5 : b = B.length := by omega
        simp only [from_, patched]
        rw [Int.toNat_natCast]
        have e6 := take_drop_on A d a hd
        have e7 := take_drop_on B e b he
        rw [← e6, ← e7, ← hde, hs, e4, e5, drop_all, drop_all]
      · have ih := patched_from A B ps (a + 1) (b + 1) d e (by exact_mod_cast h6) (by omega) (by omega) (by omega) (by
          rw [show a + 1 - d = (a - d) + 1 from by omega]
          refine same_more hs ?_
          rw [show d + (a - d) = a from by omega, show e + (a - d) = b from by omega]
          simpa using h5)
        rw [show ((a : Int) + 1) = ((a + 1 : Nat) : Int) from by omega, show ((b : Int) + 1) = ((b + 1 : Nat) : Int) from by omega, ih]

theorem may_from {α : Type} (A B : List α) : ∀ (ps : List (Int × Int)) (a b a' b' : Int) (f : Prop), okP A B a b ps → a' ≤ a → a - a' = b - b' → (a' = a → f) → may A.length B.length a' b' f (from_ a b ps)
  | (i, k) :: ps, a, b, a', b', f, ⟨h1, h2, h⟩, ha, hab, hf => by
    simp only [from_, gap]
    by_cases hg : a < i ∨ b < k
    · rw [if_pos hg, List.singleton_append]
      rcases h with ⟨rfl, h3, h4⟩ | ⟨h3, h4, h5, h6⟩
      · refine ⟨?_, ?_⟩
        · simp only [Hk.good]
          refine ⟨by omega, by omega, by omega, fun e => hf e.symm, by omega, by omega, by omega, by omega, by omega, by omega, by omega⟩
        · simp only [from_, may]; omega
      · refine ⟨?_, ?_⟩
        · simp only [Hk.good]
          refine ⟨by omega, by omega, by omega, fun e => hf e.symm, by omega, by omega, by omega, by omega, by omega, by omega, by omega⟩
        · simp only
          rw [show a + (i - a) = i from by omega, show b + (k - b) = k from by omega]
          exact may_from A B ps (i + 1) (k + 1) i k False h6 (by omega) (by omega) (by omega)
    · rw [if_neg hg, List.nil_append]
      obtain rfl : a = i := by omega
      obtain rfl : b = k := by omega
      rcases h with ⟨rfl, h3, h4⟩ | ⟨h3, h4, h5, h6⟩
      · simp only [from_, may]; omega
      · exact may_from A B ps (a + 1) (b + 1) a' b' f h6 (by omega) (by omega) (by omega)

/-- What hunks cost, as plain numbers. -/
def cost : List Hk → Int
  | [] => 0
  | h :: H => h.an + h.bn + cost H
theorem cost_from {α : Type} (A B : List α) : ∀ (ps : List (Int × Int)) (a b : Int), okP A B a b ps → cost (from_ a b ps) = (A.length - a) + (B.length - b) - 2 * ((ps.length : Int) - 1)
  | (i, k) :: ps, a, b, ⟨h1, h2, h⟩ => by
    have hc : cost (from_ a b ((i, k) :: ps)) = (i - a) + (k - b) + cost (from_ (i + 1) (k + 1) ps) := by
      simp only [from_, gap]
      by_cases hg : a < i ∨ b < k
      · rw [if_pos hg, List.singleton_append]; rfl
      · rw [if_neg hg, List.nil_append]; omega
    rw [hc]
    rcases h with ⟨rfl, h3, h4⟩ | ⟨h3, h4, h5, h6⟩
    · simp [from_, cost]; omega
    · rw [cost_from A B ps _ _ h6, List.length_cons]; push_cast; omega
theorem wf_from {α : Type} (A B : List α) (hA : A.length ≤ 1000000) (hB : B.length ≤ 1000000) : ∀ (ps : List (Int × Int)) (a b : Int), okP A B a b ps → 0 ≤ a → 0 ≤ b → ∀ h ∈ from_ a b ps, h.wf ∧ 0 ≤ h.an ∧ 0 ≤ h.bn ∧ 0 < h.an + h.bn
  | (i, k) :: ps, a, b, ⟨h1, h2, h⟩, ha, hb => by
    have hik : i ≤ A.length ∧ k ≤ B.length := by rcases h with ⟨rfl, h3, h4⟩ | ⟨h3, h4, h5, h6⟩ <;> omega
    intro g hg
    simp only [from_, gap] at hg
    rcases List.mem_append.1 hg with hg | hg
    · split at hg
      · obtain rfl := List.mem_singleton.1 hg
        simp only [Hk.wf]
        omega
      · simp at hg
    · rcases h with ⟨rfl, h3, h4⟩ | ⟨h3, h4, h5, h6⟩
      · simp [from_] at hg
      · exact wf_from A B hA hB ps _ _ h6 (by omega) (by omega) g hg
theorem cost_nonneg : ∀ {H : List Hk}, (∀ h ∈ H, 0 ≤ h.an ∧ 0 ≤ h.bn) → 0 ≤ cost H
  | [], _ => Int.le_refl _
  | h :: H, hs => by
    have h1 := hs h (by simp)
    have h2 := cost_nonneg (H := H) (fun g hg => hs g (by simp [hg]))
    simp only [cost]
    omega
theorem costOf_eq : ∀ (H : List Hk) (n : Int), 0 ≤ n → (∀ h ∈ H, 0 ≤ h.an ∧ 0 ≤ h.bn) → n + cost H ≤ 1000000000 → costOf n H = n + cost H
  | [], n, _, _, _ => by simp [costOf, cost]
  | h :: H, n, h0, hs, hc => by
    have h1 := hs h (by simp)
    have h2 := cost_nonneg (H := H) (fun g hg => hs g (by simp [hg]))
    simp only [cost] at hc ⊢
    have e : wrap64 (n + wrap64 (h.an + h.bn)) = n + (h.an + h.bn) := by unfold wrap64; omega
    have ih := costOf_eq H (n + (h.an + h.bn)) (by omega) (fun g hg => hs g (by simp [hg])) (by omega)
    have : costOf n (h :: H) = costOf (wrap64 (n + wrap64 (h.an + h.bn))) H := rfl
    rw [this, e, ih]
    omega
theorem preP_many (M : List Int) (i : Nat) : (preP i M).length = many M := by
  induction M generalizing i with
  | nil => rfl
  | cons x M ih =>
    unfold preP many
    by_cases h : 0 ≤ x
    · rw [if_pos h, List.filter_cons_of_pos (by simpa using h), List.length_cons, List.length_cons, ih]; rfl
    · rw [if_neg h, List.filter_cons_of_neg (by simpa using h), ih]; rfl
/-- What stays between hunks. -/
def apart (A B : List ByteArray) : Int → Int → List Hk → Prop
  | i, k, [] => (A.length : Int) - i = B.length - k ∧ i ≤ A.length ∧ A.drop i.toNat = B.drop k.toNat
  | i, k, h :: H => i ≤ h.a ∧ h.a - i = h.b - k ∧ (A.drop i.toNat).take (h.a - i).toNat = (B.drop k.toNat).take (h.a - i).toNat ∧ apart A B (h.a + h.an) (h.b + h.bn) H
theorem apart_from (A B : List ByteArray) : ∀ (ps : List (Int × Int)) (a b d e : Nat), okP A B a b ps → d ≤ a → e ≤ b → a - d = b - e → (A.drop d).take (a - d) = (B.drop e).take (a - d) → apart A B d e (from_ a b ps)
  | (i, k) :: ps, a, b, d, e, ⟨h1, h2, h⟩, hd, he, hde, hs => by
    obtain ⟨i, rfl⟩ := Int.eq_ofNat_of_zero_le (show 0 ≤ i by omega)
    obtain ⟨k, rfl⟩ := Int.eq_ofNat_of_zero_le (show 0 ≤ k by omega)
    simp only [from_, gap]
    by_cases hg : (a : Int) < i ∨ (b : Int) < k
    · rw [if_pos hg, List.singleton_append]
      refine ⟨by simp; omega, by simp; omega, ?_, ?_⟩
      · rw [show ((a : Int) - d).toNat = a - d from by omega]; exact hs
      · simp only
        rw [show (a : Int) + (i - a) = i from by omega, show (b : Int) + (k - b) = k from by omega]
        rcases h with ⟨rfl, h3, h4⟩ | ⟨h3, h4, h5, h6⟩
        · refine ⟨by omega, by omega, ?_⟩
          rw [h3, h4, Int.toNat_natCast, Int.toNat_natCast, drop_all, drop_all]
        · exact apart_from A B ps (i + 1) (k + 1) i k (by exact_mod_cast h6) (by omega) (by omega) (by omega) (by
            have := same_more (A := A) (B := B) (d := i) (e := k) (n := 0) (by simp) (by simpa using h5)
            simpa using this)
    · rw [if_neg hg, List.nil_append]
      obtain rfl : a = i := by omega
      obtain rfl : b = k := by omega
      rcases h with ⟨rfl, h3, h4⟩ | ⟨h3, h4, h5, h6⟩
      · have e4 : a = A.length := by omega
        have e5 : b = B.length := by omega
        refine ⟨by omega, by omega, ?_⟩
        rw [Int.toNat_natCast, Int.toNat_natCast]
        have e6 := take_drop_on A d a hd
        have e7 := take_drop_on B e b he
        rw [← e6, ← e7, ← hde, hs, e4, e5, drop_all, drop_all]
      · exact apart_from A B ps (a + 1) (b + 1) d e (by exact_mod_cast h6) (by omega) (by omega) (by omega) (by
          rw [show a + 1 - d = (a - d) + 1 from by omega]
          refine same_more hs ?_
          rw [show d + (a - d) = a from by omega, show e + (a - d) = b from by omega]
          simpa using h5)

/-- Numbers of texts, by the last list of known ones. -/
theorem known_prefix (L : List (List UInt8)) (ss : List ByteArray) : L <+: knownBy L ss := by
  induction ss generalizing L with
  | nil => exact List.prefix_refl _
  | cons s ss ih =>
    refine List.IsPrefix.trans ?_ (ih (numStep L s))
    unfold numStep
    split
    · exact List.prefix_refl _
    · exact List.prefix_append _ _
theorem idx_prefix {L K : List (List UInt8)} {x : List UInt8} (h : L <+: K) (hx : x ∈ L) : K.idxOf x = L.idxOf x := by
  obtain ⟨t, rfl⟩ := h
  rw [List.idxOf_append, if_pos hx]
theorem mem_step (L : List (List UInt8)) (s : ByteArray) : wd s ∈ numStep L s := by
  unfold numStep
  split <;> simp_all
theorem idx_step (L : List (List UInt8)) (s : ByteArray) : (numStep L s).idxOf (wd s) = L.idxOf (wd s) := by
  unfold numStep
  split
  · rfl
  · rename_i h
    rw [List.idxOf_append, if_neg h, List.idxOf_eq_length h]
    simp
theorem numRow_last : ∀ (ss : List ByteArray) (L K : List (List UInt8)), knownBy L ss <+: K → numRow L ss = ss.map (fun s => (K.idxOf (wd s) : Int))
  | [], _, _, _ => rfl
  | s :: ss, L, K, h => by
    have h' : knownBy (numStep L s) ss <+: K := h
    rw [numRow, numRow_last ss (numStep L s) K h', List.map_cons]
    rw [idx_prefix ((known_prefix (numStep L s) ss).trans h') (mem_step L s), idx_step]
theorem known_mem : ∀ (ss : List ByteArray) (L : List (List UInt8)) (s : ByteArray), s ∈ ss → wd s ∈ knownBy L ss
  | x :: ss, L, s, h => by
    rcases List.mem_cons.1 h with rfl | h
    · exact (known_prefix (numStep L s) ss).subset (mem_step L s)
    · exact known_mem ss (numStep L x) s h
theorem wd_inj {s t : ByteArray} (h : wd s = wd t) : s = t := by
  cases s; cases t
  simp [wd] at h
  rw [h]
/-- Both rows' numbers by one list. -/
def lastK (a b : List ByteArray) : List (List UInt8) := knownBy (knownBy [] a) b
theorem nums_left (a b : List ByteArray) : numRow [] a = a.map (fun s => ((lastK a b).idxOf (wd s) : Int)) := numRow_last a [] _ (known_prefix _ _)
theorem nums_right (a b : List ByteArray) : numRow (knownBy [] a) b = b.map (fun s => ((lastK a b).idxOf (wd s) : Int)) := numRow_last b _ _ (List.prefix_refl _)
theorem lastK_left {a b : List ByteArray} {s : ByteArray} (h : s ∈ a) : wd s ∈ lastK a b := (known_prefix _ _).subset (known_mem a [] s h)
theorem lastK_right {a b : List ByteArray} {s : ByteArray} (h : s ∈ b) : wd s ∈ lastK a b := known_mem b _ s h
theorem idx_inj {K : List (List UInt8)} {x y : List UInt8} (hx : x ∈ K) (hy : y ∈ K) (h : K.idxOf x = K.idxOf y) : x = y := by
  have h1 := List.getElem_idxOf (List.idxOf_lt_length_of_mem hx)
  have h2 := List.getElem_idxOf (List.idxOf_lt_length_of_mem hy)
  rw [← h1, ← h2]
  simp only [h]
theorem nums_same {a b : List ByteArray} {i j : Nat} {x : Int} (h1 : (numRow [] a)[i]? = some x) (h2 : (numRow (knownBy [] a) b)[j]? = some x) : a[i]? = b[j]? := by
  rw [nums_left a b, List.getElem?_map] at h1
  rw [nums_right a b, List.getElem?_map] at h2
  cases ha : a[i]? with
  | none => rw [ha] at h1; simp at h1
  | some s =>
    cases hb : b[j]? with
    | none => rw [hb] at h2; simp at h2
    | some t =>
      rw [ha] at h1
      rw [hb] at h2
      simp only [Option.map_some, Option.some.injEq] at h1 h2
      have e : (lastK a b).idxOf (wd s) = (lastK a b).idxOf (wd t) := by omega
      rw [wd_inj (idx_inj (lastK_left (List.mem_of_getElem? ha)) (lastK_right (List.mem_of_getElem? hb)) e)]

/-- The match of two rows of texts, and its hunks. -/
theorem texts_match {a b : List ByteArray} (ha : a.length ≤ 2000) (hb : b.length ≤ 2000) : isMatch b.length 0 (textsOf a b) ∧ (textsOf a b).length = a.length ∧ ∀ (i : Nat) (x : Int), (textsOf a b)[i]? = some x → 0 ≤ x → a[i]? = b[x.toNat]? := by
  have hm : textsOf a b = gm (numRow [] a) (numRow (knownBy [] a) b) 0 := by
    unfold textsOf matchOf
    rw [if_neg (by rw [numRow_length, numRow_length]; omega)]
  have hg := gm_good (numRow [] a) (numRow (knownBy [] a) b) 0
  rw [← hm] at hg
  obtain ⟨g1, g2, g3⟩ := good_isMatch _ _ _ 0 (Int.le_refl _) hg
  rw [numRow_length] at g1 g2
  refine ⟨by simpa using g1, g2, fun i x hx h0 => ?_⟩
  obtain ⟨-, q⟩ := g3 i x hx h0
  rw [Int.sub_zero] at q
  have hil : i < a.length := by rw [← g2]; exact (List.getElem?_eq_some_iff.1 hx).1
  have hs : (numRow [] a)[i]? = some ((numRow [] a)[i]'(by rw [numRow_length]; exact hil)) := List.getElem?_eq_getElem _
  exact nums_same hs (q ▸ hs)
def textHunks (a b : List ByteArray) : List Hk := ofL (textsOf a b) b.length
theorem texts_ok {a b : List ByteArray} (ha : a.length ≤ 2000) (hb : b.length ≤ 2000) : okP a b 0 0 (pairs (textsOf a b) b.length) := by
  obtain ⟨h1, h2, h3⟩ := texts_match ha hb
  rw [← restP_zero]
  exact okP_rest a b (textsOf a b) 0 0 0 (by omega) (Int.le_refl _) (Int.le_refl _) (by omega) h1 (fun j x hx h0 => by rw [Nat.zero_add]; exact h3 j x hx h0)
theorem hunks_texts {a b : List ByteArray} (ha : a.length ≤ 2000) (hb : b.length ≤ 2000) : hunksOf (textsOf a b) b.length = textHunks a b := by
  unfold hunksOf
  rw [if_pos (texts_match ha hb).1]
  rfl
end Go.Proofs.Ythligkdncddmpaa
