/-
  For the laws of span: block by block in order, and the blocks twice as long; rows of places alone, no program. Condition: blocks of 20, 40 or 80 places.
-/
import Derived.Test.YtpekbakidhfliaaSmc
namespace Go.Proofs.Ytpekbakidhfliaa
open Go.Sort

theorem symM (L : List Ed) (blk cap len : Nat) (d0 : Array Nat) (w0 : World) (R : RowK (encL L) 3 w0 blk 0 d0) (hs : len = d0.size) (hsz : len < 1000000) (hc : len ≤ cap) (hcm : cap ≤ maxLen) :
    ∀ (N a m b : Nat), b - a ≤ N → a < m → m < b → b ≤ len → Merges L blk cap len w0 a m b
  | 0, a, m, b, h, h1, h2, h3 => by omega
  | N + 1, a, m, b, h, h1, h2, h3 => by
    by_cases c1 : m = a + 1
    · intro d w hd S s1 s2 hcr
      subst hd
      exact symA L blk cap a m b d0 d w0 w R hs S c1 h2 h3 hsz hc hcm s2 hcr
    · by_cases c2 : b = m + 1
      · intro d w hd S s1 s2 hcr
        subst hd
        exact symB L blk cap a m b d0 d w0 w R hs S (by omega) c2 h3 hsz hc hcm s1 hcr
      · exact symC L blk cap len a m b d0 w0 R hs (by omega) (by omega) h3 hsz hc hcm (fun a' m' b' g1 g2 g3 g4 => symM L blk cap len d0 w0 R hs hsz hc hcm N a' m' b' (by omega) g2 g3 g4)

/-- The first a places are in order block by block, the others are as they came. -/
structure InsB (L : List Ed) (n a : Nat) (d : Array Nat) : Prop where
  srt : ∀ p q, p < q → q < a → q < n → p / 20 = q / 20 → sl L d[q]! d[p]! = false
  own : ∀ p, p < n → d[p]! < n ∧ d[p]! / 20 = p / 20
  rest : ∀ x, a ≤ x → x < n → d[x]! = x
  al : a % 20 = 0
  perm : PermIn 0 n (Array.range n) d
theorem range_get {n x : Nat} (h : x < n) : (Array.range n)[x]! = x := by
  rw [getElem!_pos _ x (by simpa using h)]; simp
theorem insB_start (L : List Ed) (n : Nat) : InsB L n 0 (Array.range n) :=
  ⟨fun p q _ h => by omega, fun p h => by rw [range_get h]; exact ⟨h, rfl⟩, fun x _ h => range_get h, rfl, permIn_refl _ 0 n⟩
theorem insB_step {L : List Ed} {n a b : Nat} {d : Array Nat} (h : InsB L n a d) (hs : d.size = n) (hab : a ≤ b) (hb : b ≤ n) (hl : b ≤ a + 20) :
    (∀ p q, p < q → q < b → q < n → p / 20 = q / 20 → sl L (insertionSort (ltOf (cfL L)) d a b)[q]! (insertionSort (ltOf (cfL L)) d a b)[p]! = false) ∧
    (∀ p, p < n → (insertionSort (ltOf (cfL L)) d a b)[p]! < n ∧ (insertionSort (ltOf (cfL L)) d a b)[p]! / 20 = p / 20) ∧
    (∀ x, b ≤ x → x < n → (insertionSort (ltOf (cfL L)) d a b)[x]! = x) ∧ PermIn 0 n (Array.range n) (insertionSort (ltOf (cfL L)) d a b) ∧ (insertionSort (ltOf (cfL L)) d a b).size = n := by
  obtain ⟨h1, h2⟩ := isort_spec L d a b hab (by omega) (fun x g1 g2 => h.rest x g1 (by omega))
  have hal := h.al
  have ho := own_perm (by omega) h1 (fun x g1 g2 => by rw [h.rest x g1 (by omega)]; exact ⟨g1, g2⟩)
  have hout : ∀ x, x < a ∨ b ≤ x → (insertionSort (ltOf (cfL L)) d a b)[x]! = d[x]! := h1.2.1
  refine ⟨fun p q g1 g2 g3 g4 => ?_, fun p g1 => ?_, fun x g1 g2 => ?_, permIn_trans _ _ _ 0 n h.perm (permIn_mono _ _ a b 0 n (by omega) hb (by omega) h1), h1.1.trans hs⟩
  · by_cases c : q < a
    · rw [hout p (.inl (by omega)), hout q (.inl c)]; exact h.srt p q g1 c g3 g4
    · exact h2 p q (by omega) g1 g2
  · by_cases c : a ≤ p ∧ p < b
    · have := ho p c.1 c.2
      omega
    · rw [hout p (by omega)]; exact h.own p g1
  · rw [hout x (.inr g1)]; exact h.rest x (by omega) g2

/-- Up to a blocks of 2 B places are in order, from there on blocks of B. -/
structure Mid (L : List Ed) (n B a : Nat) (d : Array Nat) : Prop where
  lo : ∀ p q, p < q → q < a → q < n → p / (2 * B) = q / (2 * B) → sl L d[q]! d[p]! = false
  hi : ∀ p q, p < q → q < n → a ≤ p → p / B = q / B → sl L d[q]! d[p]! = false
  own : ∀ p, p < n → d[p]! < n ∧ d[p]! / (2 * B) = p / (2 * B)
  ownB : ∀ p, a ≤ p → p < n → d[p]! / B = p / B
  al : a % (2 * B) = 0
  perm : PermIn 0 n (Array.range n) d
def B4 (B : Nat) : Prop := B = 20 ∨ B = 40 ∨ B = 80
/-- Blocks of B places are in order. -/
structure Done (L : List Ed) (n B : Nat) (d : Array Nat) : Prop where
  srt : ∀ p q, p < q → q < n → p / B = q / B → sl L d[q]! d[p]! = false
  own : ∀ p, p < n → d[p]! < n ∧ d[p]! / B = p / B
  perm : PermIn 0 n (Array.range n) d
theorem mid_start {L : List Ed} {n B : Nat} {d : Array Nat} (hB : B4 B) (h : Done L n B d) : Mid L n B 0 d := by
  refine ⟨fun p q _ g => by omega, fun p q g1 g2 _ g3 => h.srt p q g1 g2 g3, fun p g => ?_, fun p _ g => (h.own p g).2, Nat.zero_mod _, h.perm⟩
  have := h.own p g
  rcases hB with rfl | rfl | rfl <;> omega
/-- What a merge asks for. -/
theorem mid_ask {L : List Ed} {n B a b : Nat} {d : Array Nat} (hB : B4 B) (h : Mid L n B a d) (h1 : a + B < b) (h2 : b ≤ a + 2 * B) (h3 : b ≤ n) : SortedIn (sl L) a (a + B) d ∧ SortedIn (sl L) (a + B) b d ∧ Crs L d a (a + B) b := by
  have hal := h.al
  refine ⟨fun p q g1 g2 g3 => h.hi p q g2 (by omega) g1 ?_, fun p q g1 g2 g3 => h.hi p q g2 (by omega) (by omega) ?_, fun x y g1 g2 g3 g4 => kl_sl ?_⟩
  · rcases hB with rfl | rfl | rfl <;> omega
  · rcases hB with rfl | rfl | rfl <;> omega
  · have e1 := h.ownB x g1 (by omega)
    have e2 := h.ownB y (by omega) (by omega)
    rcases hB with rfl | rfl | rfl <;> omega
/-- Behind a merge of two whole blocks. -/
theorem mid_step {L : List Ed} {n B a : Nat} {d d' : Array Nat} (hB : B4 B) (h : Mid L n B a d) (hs : d.size = n) (h3 : a + 2 * B ≤ n) (hP : PermIn a (a + 2 * B) d d') (hS : SortedIn (sl L) a (a + 2 * B) d') : Mid L n B (a + 2 * B) d' := by
  have hal := h.al
  have hout : ∀ x, x < a ∨ a + 2 * B ≤ x → d'[x]! = d[x]! := hP.2.1
  have ho : Own d' a (a + 2 * B) := own_perm (by omega) hP (fun x g1 g2 => by
    have := h.own x (by omega)
    rcases hB with rfl | rfl | rfl <;> omega)
  refine ⟨fun p q g1 g2 g3 g4 => ?_, fun p q g1 g2 g3 g4 => ?_, fun p g => ?_, fun p g1 g2 => ?_, ?_, permIn_trans _ _ _ 0 n h.perm (permIn_mono _ _ a (a + 2 * B) 0 n (by omega) h3 (by omega) hP)⟩
  · by_cases c : q < a
    · rw [hout p (.inl (by omega)), hout q (.inl c)]; exact h.lo p q g1 c g3 g4
    · exact hS p q (by rcases hB with rfl | rfl | rfl <;> omega) g1 g2
  · rw [hout p (.inr g3), hout q (.inr (by omega))]; exact h.hi p q g1 g2 (by omega) g4
  · by_cases c : a ≤ p ∧ p < a + 2 * B
    · have := ho p c.1 c.2
      rcases hB with rfl | rfl | rfl <;> omega
    · rw [hout p (by omega)]; exact h.own p g
  · rw [hout p (.inr g1)]; exact h.ownB p (by omega) g2
  · rcases hB with rfl | rfl | rfl <;> omega
/-- Behind the last merge. -/
theorem mid_last {L : List Ed} {n B a : Nat} {d d' : Array Nat} (hB : B4 B) (h : Mid L n B a d) (hs : d.size = n) (h2 : n < a + 2 * B) (h3 : a ≤ n) (hP : PermIn a n d d') (hS : SortedIn (sl L) a n d') : Done L n (2 * B) d' := by
  have hal := h.al
  have hout : ∀ x, x < a ∨ n ≤ x → d'[x]! = d[x]! := hP.2.1
  have ho : Own d' a n := own_perm (by omega) hP (fun x g1 g2 => by
    have := h.own x (by omega)
    rcases hB with rfl | rfl | rfl <;> omega)
  refine ⟨fun p q g1 g2 g4 => ?_, fun p g => ?_, permIn_trans _ _ _ 0 n h.perm (permIn_mono _ _ a n 0 n (by omega) (Nat.le_refl _) (by omega) hP)⟩
  · by_cases c : q < a
    · rw [hout p (.inl (by omega)), hout q (.inl c)]; exact h.lo p q g1 c g2 g4
    · exact hS p q (by rcases hB with rfl | rfl | rfl <;> omega) g1 g2
  · by_cases c : a ≤ p
    · have := ho p c g
      rcases hB with rfl | rfl | rfl <;> omega
    · rw [hout p (by omega)]; exact h.own p g
/-- Where no merge is left. -/
theorem mid_none {L : List Ed} {n B a : Nat} {d : Array Nat} (hB : B4 B) (h : Mid L n B a d) (h2 : n ≤ a + B) : Done L n (2 * B) d := by
  have hal := h.al
  refine ⟨fun p q g1 g2 g4 => ?_, h.own, h.perm⟩
  by_cases c : q < a
  · exact h.lo p q g1 c g2 g4
  · exact h.hi p q g1 g2 (by rcases hB with rfl | rfl | rfl <;> omega) (by rcases hB with rfl | rfl | rfl <;> omega)
theorem done_all {L : List Ed} {n B : Nat} {d : Array Nat} (h : Done L n B d) (hn : n ≤ B) : SortedIn (sl L) 0 n d := fun p q _ h2 h3 => h.srt p q h2 h3 (by rw [Nat.div_eq_of_lt (by omega), Nat.div_eq_of_lt (by omega)])
end Go.Proofs.Ytpekbakidhfliaa
