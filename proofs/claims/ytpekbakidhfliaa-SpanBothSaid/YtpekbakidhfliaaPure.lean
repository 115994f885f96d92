/-
  For the laws of span: rows of edits; what may be done, what comes of it, where a byte stands then; facts on lists and numbers alone, no program.
-/
import Derived.Lib.IndexMore
namespace Go.Proofs.Ytpekbakidhfliaa
abbrev By := List UInt8
structure Ed where
  fr : Int
  to : Int
  tx : By
deriving DecidableEq
/-- May an edit be done to n bytes? -/
def okB (n : Int) (e : Ed) : Bool := decide (0 ≤ e.fr) && decide (e.fr ≤ e.to) && decide (e.to ≤ n)
/-- May it stand behind another one? -/
def nxB (p e : Ed) : Bool := decide (p.to ≤ e.fr) && decide (p.fr < e.fr)
def chkB (n : Int) : Option Ed → List Ed → Bool
  | _, [] => true
  | none, e :: L => okB n e && chkB n (some e) L
  | some p, e :: L => okB n e && nxB p e && chkB n (some e) L
/-- The one ahead of place k. -/
def pr (L : List Ed) : Nat → Option Ed
  | 0 => none
  | k + 1 => L[k]?
theorem drop_at {L : List Ed} {k : Nat} {e : Ed} (h : L[k]? = some e) : L.drop k = e :: L.drop (k + 1) := by
  obtain ⟨hl, rfl⟩ := List.getElem?_eq_some_iff.1 h
  exact List.drop_eq_getElem_cons hl
theorem chk_first {n : Int} {L : List Ed} {e : Ed} (h : L[0]? = some e) : chkB n (pr L 0) (L.drop 0) = (okB n e && chkB n (pr L 1) (L.drop 1)) := by
  rw [drop_at h, pr, pr, h, chkB]
theorem chk_next {n : Int} {L : List Ed} {k : Nat} {p e : Ed} (hp : L[k]? = some p) (h : L[k + 1]? = some e) : chkB n (pr L (k + 1)) (L.drop (k + 1)) = (okB n e && nxB p e && chkB n (pr L (k + 2)) (L.drop (k + 2))) := by
  rw [drop_at h, pr, pr, h, hp, chkB]
def okTx (e : Ed) : Bool := decide (e.tx.length ≤ 200)
def fewE (L : List Ed) : Bool := decide (L.length ≤ 60) && L.all okTx
theorem few_bd {L : List Ed} (h : fewE L = true) : L.length ≤ 60 ∧ ∀ e ∈ L, e.tx.length ≤ 200 := by
  simpa [fewE, okTx] using h
/-- What comes of edits, from the byte d on. -/
def app (t : By) : Nat → List Ed → By
  | d, [] => t.drop d
  | d, e :: L => (t.drop d).take (e.fr.toNat - d) ++ e.tx ++ app t e.to.toNat L
/-- By how much an edit makes it longer. -/
def gr (e : Ed) : Int := e.tx.length - (e.to - e.fr)
/-- Where a byte stands then. -/
def mv : Int → List Ed → Int → Option Int
  | b, [], x => some (x + b)
  | b, e :: L, x => if x < e.fr then some (x + b) else if x < e.to then none else mv (b + gr e) L x
/-- Edits that may be done to n bytes from d on. -/
def Ok (n : Int) : Int → List Ed → Prop
  | d, [] => d ≤ n
  | d, e :: L => d ≤ e.fr ∧ e.fr ≤ e.to ∧ e.to ≤ n ∧ Ok n e.to L
theorem ok_of {n : Int} : ∀ {L : List Ed} {p : Option Ed} {d : Int}, chkB n p L = true → (∀ e, p = some e → d ≤ e.to) → (p = none → d ≤ 0) → d ≤ n → Ok n d L
  | [], _, _, _, _, _, hd => hd
  | e :: L, none, d, h, _, h0, hd => by
    simp only [chkB, okB, Bool.and_eq_true, decide_eq_true_eq] at h
    have := h0 rfl
    exact ⟨by omega, by omega, by omega, ok_of h.2 (fun x hx => by cases hx; omega) (fun hx => by cases hx) (by omega)⟩
  | e :: L, some p, d, h, h1, _, hd => by
    simp only [chkB, okB, nxB, Bool.and_eq_true, decide_eq_true_eq] at h
    have := h1 p rfl
    exact ⟨by omega, by omega, by omega, ok_of h.2 (fun x hx => by cases hx; omega) (fun hx => by cases hx) (by omega)⟩
theorem mv_spec (t : By) : ∀ (L : List Ed) (d : Nat) (b x n : Int), Ok t.length d L → (d : Int) ≤ x → mv b L x = some n →
    (x < t.length → ∃ k : Nat, n = b + d + k ∧ (app t d L)[k]? = t[x.toNat]?) ∧ (x = t.length → n = b + d + (app t d L).length)
  | [], d, b, x, n, ho, hx, hm => by
    simp only [mv, Option.some.injEq] at hm
    simp only [Ok] at ho
    refine ⟨fun h => ⟨(x - d).toNat, by omega, ?_⟩, fun h => ?_⟩
    · rw [app, List.getElem?_drop]
      congr 1; omega
    · rw [app, List.length_drop]; omega
  | e :: L, d, b, x, n, ⟨h1, h2, h3, h4⟩, hx, hm => by
    simp only [mv] at hm
    by_cases c1 : x < e.fr
    · rw [if_pos c1] at hm
      obtain rfl : x + b = n := by simpa using hm
      refine ⟨fun h => ⟨(x - d).toNat, by omega, ?_⟩, fun h => by omega⟩
      rw [app, List.append_assoc, List.getElem?_append_left (by rw [List.length_take, List.length_drop]; omega), List.getElem?_take_of_lt (by omega), List.getElem?_drop]
      congr 1; omega
    · rw [if_neg c1] at hm
      by_cases c2 : x < e.to
      · rw [if_pos c2] at hm; cases hm
      · rw [if_neg c2] at hm
        have e1 : ((e.to.toNat : Nat) : Int) = e.to := Int.toNat_of_nonneg (by omega)
        have hl : ((t.drop d).take (e.fr.toNat - d) ++ e.tx).length = (e.fr.toNat - d) + e.tx.length := by
          rw [List.length_append, List.length_take, List.length_drop]; omega
        obtain ⟨i1, i2⟩ := mv_spec t L e.to.toNat (b + gr e) x n (by rw [e1]; exact h4) (by omega) hm
        refine ⟨fun h => ?_, fun h => ?_⟩
        · obtain ⟨k, hk, hg⟩ := i1 h
          refine ⟨(e.fr.toNat - d) + e.tx.length + k, ?_, ?_⟩
          · unfold gr at hk
            have e2 : ((e.fr.toNat : Nat) : Int) = e.fr := Int.toNat_of_nonneg (by omega)
            clear i1 i2 hg hl hm h4
            generalize e.fr.toNat = f at *
            generalize e.to.toNat = g at *
            generalize e.tx.length = m at *
            generalize e.fr = f' at *
            generalize e.to = g' at *
            push_cast
            omega
          · rw [app, List.getElem?_append_right (by omega), hl, Nat.add_sub_cancel_left, hg]
        · have := i2 h
          rw [app, List.length_append, hl]
          unfold gr at this
          have e2 : ((e.fr.toNat : Nat) : Int) = e.fr := Int.toNat_of_nonneg (by omega)
          clear i1 i2 hl hm h4
          generalize (app t e.to.toNat L).length = q at *
          generalize e.fr.toNat = f at *
          generalize e.to.toNat = g at *
          generalize e.tx.length = m at *
          generalize e.fr = f' at *
          generalize e.to = g' at *
          push_cast
          omega
theorem mv_low : ∀ (L : List Ed) (N d b x n : Int), Ok N d L → d ≤ x → mv b L x = some n → b + d ≤ n
  | [], N, d, b, x, n, ho, hx, hm => by
    simp only [mv, Option.some.injEq] at hm; omega
  | e :: L, N, d, b, x, n, ⟨h1, h2, h3, h4⟩, hx, hm => by
    simp only [mv] at hm
    by_cases c1 : x < e.fr
    · rw [if_pos c1] at hm
      have : x + b = n := by simpa using hm
      omega
    · rw [if_neg c1] at hm
      by_cases c2 : x < e.to
      · rw [if_pos c2] at hm; cases hm
      · rw [if_neg c2] at hm
        have := mv_low L N e.to (b + gr e) x n h4 (by omega) hm
        unfold gr at this; omega
theorem mv_mono : ∀ (L : List Ed) (N d b x y n m : Int), Ok N d L → d ≤ x → x < y → mv b L x = some n → mv b L y = some m → n < m
  | [], N, d, b, x, y, n, m, ho, hx, hy, h1, h2 => by
    simp only [mv, Option.some.injEq] at h1 h2; omega
  | e :: L, N, d, b, x, y, n, m, ⟨o1, o2, o3, o4⟩, hx, hy, h1, h2 => by
    simp only [mv] at h1 h2
    by_cases c1 : x < e.fr
    · rw [if_pos c1] at h1
      have e1 : x + b = n := by simpa using h1
      by_cases c2 : y < e.fr
      · rw [if_pos c2] at h2
        have : y + b = m := by simpa using h2
        omega
      · rw [if_neg c2] at h2
        by_cases c3 : y < e.to
        · rw [if_pos c3] at h2; cases h2
        · rw [if_neg c3] at h2
          have := mv_low L N e.to (b + gr e) y m o4 (by omega) h2
          unfold gr at this; omega
    · rw [if_neg c1] at h1
      by_cases c3 : x < e.to
      · rw [if_pos c3] at h1; cases h1
      · rw [if_neg c3] at h1
        rw [if_neg (by omega), if_neg (by omega)] at h2
        exact mv_mono L N e.to (b + gr e) x y n m o4 (by omega) hy h1 h2
theorem mv_last : ∀ (L : List Ed) (N d b : Int), Ok N d L → ∃ n, mv b L N = some n
  | [], N, d, b, ho => ⟨N + b, rfl⟩
  | e :: L, N, d, b, ⟨o1, o2, o3, o4⟩ => by
    obtain ⟨n, hn⟩ := mv_last L N e.to (b + gr e) o4
    simp only [mv]
    by_cases c1 : N < e.fr
    · exact absurd c1 (by omega)
    · rw [if_neg c1, if_neg (by omega)]; exact ⟨n, hn⟩
theorem app_len (t : By) : ∀ (L : List Ed) (d : Nat), (∀ e ∈ L, e.tx.length ≤ 200) → (app t d L).length ≤ t.length + L.length * (200 + t.length)
  | [], d, _ => by rw [app, List.length_drop, List.length_nil]; omega
  | e :: L, d, h => by
    have h1 := app_len t L e.to.toNat (fun x hx => h x (List.mem_cons_of_mem _ hx))
    have h2 := h e List.mem_cons_self
    rw [app, List.length_append, List.length_append, List.length_take, List.length_drop, List.length_cons, Nat.add_mul]
    omega
end Go.Proofs.Ytpekbakidhfliaa
