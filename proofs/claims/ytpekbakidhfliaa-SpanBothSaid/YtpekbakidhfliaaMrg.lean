/-
  For the laws of span: two stretches in order become one; rows of places alone, no program.
-/
import Derived.Test.YtpekbakidhfliaaStm
namespace Go.Proofs.Ytpekbakidhfliaa
open Go.Sort

variable {L : List Ed}
theorem le_at {d : Array Nat} {a b p q : Nat} (h : SortedIn (sl L) a b d) (h1 : a ≤ p) (h2 : p ≤ q) (h3 : q < b) : sl L d[q]! d[p]! = false := by
  rcases Nat.lt_or_ge p q with hl | hl
  · exact h p q h1 hl h3
  · obtain rfl : p = q := by omega
    exact (swo_s L).irrefl _
/-- The first one alone goes to its place. -/
theorem leaf_left {d d' : Array Nat} {a m i b : Nat} (hm : m = a + 1) (hmi : m ≤ i) (hib : i ≤ b) (hs : SortedIn (sl L) m b d) (h1 : i = m ∨ sl L d[i - 1]! d[a]! = true) (h2 : i = b ∨ sl L d[i]! d[a]! = false) (hg : ∀ x, get d' x = rot (get d) a m i x) : SortedIn (sl L) a b d' := by
  subst hm
  have g1 : ∀ x, a ≤ x → x + 1 < i → d'[x]! = d[x + 1]! := fun x h3 h4 => (hg x).trans (by unfold rot get; rw [if_pos (by omega)]; congr 1; omega)
  have g2 : d'[i - 1]! = d[a]! := (hg (i - 1)).trans (by unfold rot get; rw [if_neg (by omega), if_pos (by omega)]; congr 1; omega)
  have g3 : ∀ x, i ≤ x → d'[x]! = d[x]! := fun x h3 => (hg x).trans (by unfold rot get; rw [if_neg (by omega), if_neg (by omega)])
  intro p q hp hpq hq
  by_cases c1 : q + 1 < i
  · rw [g1 q (by omega) c1, g1 p hp (by omega)]
    exact le_at hs (by omega) (by omega) (by omega)
  · by_cases c2 : q + 1 = i
    · obtain rfl : q = i - 1 := by omega
      rw [g2, g1 p hp (by omega)]
      rcases h1 with h1 | h1
      · omega
      · exact sl_trans (le_at hs (p := p + 1) (q := i - 1) (by omega) (by omega) (by omega)) (sl_asym h1)
    · rw [g3 q (by omega)]
      by_cases c3 : p + 1 < i
      · rw [g1 p hp c3]
        exact le_at hs (by omega) (by omega) (by omega)
      · by_cases c4 : p + 1 = i
        · obtain rfl : p = i - 1 := by omega
          rw [g2]
          rcases h2 with h2 | h2
          · omega
          · exact sl_trans h2 (le_at hs (by omega) (by omega) hq)
        · rw [g3 p (by omega)]
          exact le_at hs (by omega) (by omega) hq
/-- The last one alone goes to its place. -/
theorem leaf_right {d d' : Array Nat} {a m i b : Nat} (hb : b = m + 1) (hai : a ≤ i) (him : i ≤ m) (hs : SortedIn (sl L) a m d) (h1 : i = a ∨ sl L d[m]! d[i - 1]! = false) (h2 : i = m ∨ sl L d[m]! d[i]! = true) (hg : ∀ x, get d' x = rot (get d) i m b x) : SortedIn (sl L) a b d' := by
  subst hb
  have g1 : ∀ x, x < i → d'[x]! = d[x]! := fun x h3 => (hg x).trans (by unfold rot get; rw [if_neg (by omega), if_neg (by omega)])
  have g2 : d'[i]! = d[m]! := (hg i).trans (by unfold rot get; rw [if_pos (by omega)]; congr 1; omega)
  have g3 : ∀ x, i < x → x ≤ m → d'[x]! = d[x - 1]! := fun x h3 h4 => (hg x).trans (by unfold rot get; rw [if_neg (by omega), if_pos (by omega)]; congr 1; omega)
  intro p q hp hpq hq
  by_cases c1 : q < i
  · rw [g1 q c1, g1 p (by omega)]
    exact le_at hs hp (by omega) (by omega)
  · by_cases c2 : q = i
    · subst c2
      rw [g2, g1 p hpq]
      rcases h1 with h1 | h1
      · omega
      · exact sl_trans (le_at hs (p := p) (q := q - 1) hp (by omega) (by omega)) h1
    · rw [g3 q (by omega) (by omega)]
      by_cases c3 : p < i
      · rw [g1 p c3]
        exact le_at hs hp (by omega) (by omega)
      · by_cases c4 : p = i
        · subst c4
          rw [g2]
          rcases h2 with h2 | h2
          · omega
          · exact sl_trans (sl_asym h2) (le_at hs (p := p) (q := q - 1) hp (by omega) (by omega))
        · rw [g3 p (by omega) (by omega)]
          exact le_at hs (by omega) (by omega) (by omega)
/-- What is there behind the exchange. -/
structure Cut (L : List Ed) (d1 : Array Nat) (a s mid e b : Nat) : Prop where
  a1 : SortedIn (sl L) a s d1
  a2 : SortedIn (sl L) s mid d1
  a3 : SortedIn (sl L) mid e d1
  a4 : SortedIn (sl L) e b d1
  c1 : Crs L d1 a s mid
  c2 : Crs L d1 mid e b
  low : ∀ x y, a ≤ x → x < mid → mid ≤ y → y < b → sl L d1[y]! d1[x]! = false
theorem cut_of {d d1 : Array Nat} {a s m e b mid : Nat} (has : a ≤ s) (hsm : s ≤ m) (hme : m ≤ e) (heb : e ≤ b) (hmid : mid = s + (e - m)) (hs1 : SortedIn (sl L) a m d) (hs2 : SortedIn (sl L) m b d) (hc : Crs L d a m b)
    (h1 : s = m ∨ e = m ∨ sl L d[e - 1]! d[s]! = true) (h2 : s = a ∨ e = b ∨ sl L d[e]! d[s - 1]! = false) (hg : ∀ x, get d1 x = rot (get d) s m e x) : Cut L d1 a s mid e b := by
  subst hmid
  have g1 : ∀ x, x < s → d1[x]! = d[x]! := fun x h3 => (hg x).trans (by unfold rot get; rw [if_neg (by omega), if_neg (by omega)])
  have g2 : ∀ x, s ≤ x → x < s + (e - m) → d1[x]! = d[x - s + m]! := fun x h3 h4 => (hg x).trans (by unfold rot get; rw [if_pos (by omega)])
  have g3 : ∀ x, s + (e - m) ≤ x → x < e → d1[x]! = d[x - (e - m)]! := fun x h3 h4 => (hg x).trans (by unfold rot get; rw [if_neg (by omega), if_pos (by omega)])
  have g4 : ∀ x, e ≤ x → d1[x]! = d[x]! := fun x h3 => (hg x).trans (by unfold rot get; rw [if_neg (by omega), if_neg (by omega)])
  refine ⟨fun p q hp hpq hq => ?_, fun p q hp hpq hq => ?_, fun p q hp hpq hq => ?_, fun p q hp hpq hq => ?_, fun x y hx hxs hy hye => ?_, fun x y hx hxs hy hye => ?_, fun x y hx hxm hy hyb => ?_⟩
  · rw [g1 p (by omega), g1 q hq]; exact le_at hs1 hp (by omega) (by omega)
  · rw [g2 p hp (by omega), g2 q (by omega) hq]; exact le_at hs2 (by omega) (by omega) (by omega)
  · rw [g3 p hp (by omega), g3 q (by omega) hq]; exact le_at hs1 (by omega) (by omega) (by omega)
  · rw [g4 p hp, g4 q (by omega)]; exact le_at hs2 (by omega) (by omega) hq
  · rw [g1 x hxs, g2 y hy hye]; exact hc _ _ hx (by omega) (by omega) (by omega)
  · rw [g3 x hx hxs, g4 y hy]; exact hc _ _ (by omega) (by omega) (by omega) hye
  · by_cases cx : x < s
    · rw [g1 x cx]
      by_cases cy : y < e
      · rw [g3 y hy cy]; exact le_at hs1 hx (by omega) (by omega)
      · rw [g4 y (by omega)]
        rcases h2 with h2 | h2 | h2
        · omega
        · omega
        · exact sl_trans (sl_trans (le_at hs1 (p := x) (q := s - 1) hx (by omega) (by omega)) h2) (le_at hs2 (p := e) (q := y) hme (by omega) hyb)
    · rw [g2 x (by omega) hxm]
      by_cases cy : y < e
      · rw [g3 y hy cy]
        rcases h1 with h1 | h1 | h1
        · omega
        · omega
        · exact sl_trans (sl_trans (le_at hs2 (p := x - s + m) (q := e - 1) (by omega) (by omega) (by omega)) (sl_asym h1)) (le_at hs1 (p := s) (q := y - (e - m)) has (by omega) (by omega))
      · rw [g4 y (by omega)]; exact le_at hs2 (by omega) (by omega) hyb
/-- Both halves put in order: the whole is. -/
theorem cut_join {d1 d2 d3 : Array Nat} {a s mid e b : Nat} (hC : Cut L d1 a s mid e b) (ham : a ≤ mid) (hmb : mid ≤ b) (hb : b ≤ d1.size) (p1 : PermIn a mid d1 d2) (s1 : SortedIn (sl L) a mid d2) (p2 : PermIn mid b d2 d3) (s2 : SortedIn (sl L) mid b d3) : PermIn a b d1 d3 ∧ SortedIn (sl L) a b d3 := by
  refine ⟨permIn_trans _ _ _ a b (permIn_mono _ _ a mid a b (Nat.le_refl _) hmb hb p1) (permIn_mono _ _ mid b a b ham (Nat.le_refl _) (by rw [p1.1]; exact hb) p2), fun p q hp hpq hq => ?_⟩
  have e1 : ∀ x, x < mid → d3[x]! = d2[x]! := fun x h => p2.2.1 x (.inl h)
  have e2 : ∀ x, mid ≤ x → d2[x]! = d1[x]! := fun x h => p1.2.1 x (.inr h)
  by_cases c1 : q < mid
  · rw [e1 q c1, e1 p (by omega)]; exact s1 p q hp hpq c1
  · by_cases c2 : mid ≤ p
    · exact s2 p q c2 hpq hq
    · rw [e1 p (by omega)]
      have k1 : ∀ x, a ≤ x → x < mid → ∀ y, mid ≤ y → y < b → sl L d1[y]! d2[x]! = false := permIn_all d1 d2 a mid (fun z => ∀ y, mid ≤ y → y < b → sl L d1[y]! z = false) (by omega) p1 (fun x h1 h2 y h3 h4 => hC.low x y h1 h2 h3 h4)
      have k2 := permIn_all d2 d3 mid b (fun z => sl L z d2[p]! = false) (by rw [p1.1]; exact hb) p2 (fun y h1 h2 => by rw [e2 y h1]; exact k1 p hp (by omega) y h1 h2)
      exact k2 q (by omega) hq
end Go.Proofs.Ytpekbakidhfliaa
