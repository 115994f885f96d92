/-
  For the laws of span: what is meant by 'in order, and what is alike as it came'; rows of places alone, no program.
-/
import Derived.Test.YtpekbakidhfliaaRot
import Derived.Sort.LotA
namespace Go.Proofs.Ytpekbakidhfliaa
open Go.Sort

def fk (L : List Ed) (i : Nat) : Int := (L.getD i ⟨0, 0, []⟩).fr
def tk (L : List Ed) (i : Nat) : Int := (L.getD i ⟨0, 0, []⟩).to
theorem cmp_neg (x y : Ed) : cmpE x y < 0 ↔ x.fr < y.fr ∨ (x.fr = y.fr ∧ x.to < y.to) := by
  unfold cmpE Lib.compareInt
  by_cases h1 : x.fr < y.fr
  · simp [h1]
  · by_cases h2 : x.fr > y.fr
    · simp [h1, h2]; omega
    · have h3 : x.fr = y.fr := by omega
      by_cases h4 : x.to < y.to
      · simp [h3, h4]
      · by_cases h5 : x.to > y.to
        · simp [h3, h4, h5]
        · simp [h3, h4, h5]
/-- By what the program asks. -/
def kl (L : List Ed) : Nat → Nat → Bool := ltOf (cfL L)
/-- The same, and of what is alike the one that came first. -/
def sl (L : List Ed) (i j : Nat) : Bool := decide (fk L i < fk L j ∨ (fk L i = fk L j ∧ (tk L i < tk L j ∨ (tk L i = tk L j ∧ i < j))))
theorem kl_iff {L : List Ed} {i j : Nat} : kl L i j = true ↔ fk L i < fk L j ∨ (fk L i = fk L j ∧ tk L i < tk L j) := by
  unfold kl ltOf cfL
  rw [decide_eq_true_eq, cmp_neg]
  rfl
theorem kl_no {L : List Ed} {i j : Nat} : kl L i j = false ↔ ¬ (fk L i < fk L j ∨ (fk L i = fk L j ∧ tk L i < tk L j)) := by
  rw [← kl_iff, Bool.not_eq_true]
theorem sl_iff {L : List Ed} {i j : Nat} : sl L i j = true ↔ fk L i < fk L j ∨ (fk L i = fk L j ∧ (tk L i < tk L j ∨ (tk L i = tk L j ∧ i < j))) := by
  unfold sl; rw [decide_eq_true_eq]
theorem sl_no {L : List Ed} {i j : Nat} : sl L i j = false ↔ ¬ (fk L i < fk L j ∨ (fk L i = fk L j ∧ (tk L i < tk L j ∨ (tk L i = tk L j ∧ i < j)))) := by
  rw [← sl_iff, Bool.not_eq_true]
theorem swo_k (L : List Ed) : SWO (kl L) := by
  refine ⟨fun x => by rw [kl_no]; omega, fun x y z h1 h2 => ?_, fun x y z h1 h2 => ?_⟩
  · rw [kl_iff] at *; omega
  · rw [kl_no] at *; omega
theorem swo_s (L : List Ed) : SWO (sl L) := by
  refine ⟨fun x => by rw [sl_no]; omega, fun x y z h1 h2 => ?_, fun x y z h1 h2 => ?_⟩
  · rw [sl_iff] at *; omega
  · rw [sl_no] at *; omega
theorem anti_s (L : List Ed) (x y : Nat) (h1 : sl L x y = false) (h2 : sl L y x = false) : x = y := by
  rw [sl_no] at *; omega
theorem sl_trans {L : List Ed} {x y z : Nat} (h1 : sl L y x = false) (h2 : sl L z y = false) : sl L z x = false := (swo_s L).ntrans z y x h2 h1
theorem sl_asym {L : List Ed} {x y : Nat} (h : sl L x y = true) : sl L y x = false := (swo_s L).asymmA h
/-- Where an index is the greater one both ways of asking agree. -/
theorem kl_sl {L : List Ed} {i j : Nat} (h : j < i) : kl L i j = sl L i j := by
  rw [Bool.eq_iff_iff, kl_iff, sl_iff]; omega
theorem kl_of_sl {L : List Ed} {i j : Nat} (h : kl L i j = true) : sl L i j = true := by rw [kl_iff] at h; rw [sl_iff]; omega
theorem ins_in (L : List Ed) (a : Nat) : ∀ (j : Nat) (d : Array Nat), j < d.size → (∀ t, a ≤ t → t < j → d[t]! < d[j]!) → insInner (kl L) a j d = insInner (sl L) a j d
  | 0, d, _, _ => rfl
  | j + 1, d, hj, h => by
    unfold insInner
    by_cases hja : j + 1 > a
    · rw [kl_sl (h j (by omega) (by omega))]
      split
      · have g := swp_get d hj (show j < d.size by omega)
        refine ins_in L a j _ (by rw [size_swp]; omega) (fun t h1 h2 => ?_)
        rw [g, g, if_neg (by omega), if_neg (by omega), if_pos rfl]
        exact h t h1 (by omega)
      · rfl
    · simp [hja]
/-- Places a to b hold what came at places a to b. -/
def Own (d : Array Nat) (a b : Nat) : Prop := ∀ x, a ≤ x → x < b → a ≤ d[x]! ∧ d[x]! < b
theorem own_perm {d d' : Array Nat} {a b : Nat} (hb : b ≤ d.size) (hP : PermIn a b d d') (h : Own d a b) : Own d' a b :=
  permIn_all d d' a b (fun z => a ≤ z ∧ z < b) hb hP h
theorem ins_out (L : List Ed) (a b : Nat) : ∀ (n i : Nat) (d : Array Nat), b - i = n → a < i → i ≤ b → b ≤ d.size → (∀ x, i ≤ x → x < b → d[x]! = x) → Own d a i → SortedIn (kl L) a i d → insOuter (kl L) a b i d = insOuter (sl L) a b i d
  | 0, i, d, hn, _, hib, _, _, _, _ => by rw [insOuter, if_neg (by omega), insOuter, if_neg (by omega)]
  | n + 1, i, d, hn, hai, hib, hb, hid, ho, hs => by
    have hlt : i < b := by omega
    have hi := hid i (Nat.le_refl _) hlt
    have h0 := insInner_spec (swo_k L) swp_permIn permIn_refl permIn_trans a (i + 1) i (by omega) i d (by omega) (Nat.le_refl _) (by omega) ⟨fun p q hap hpq hqi _ hq => hs p q hap hpq (by omega), fun q h1 h2 => by omega⟩
    rw [insOuter, if_pos hlt]
    conv => rhs; rw [insOuter, if_pos hlt, ← ins_in L a i d (by omega) (fun t h1 h2 => by rw [hi]; exact (ho t h1 h2).2)]
    refine ins_out L a b n (i + 1) _ (by omega) (by omega) (by omega) (by rw [h0.1.1]; exact hb) (fun x h1 h2 => ?_) ?_ h0.2
    · rw [h0.1.2.1 x (by omega)]; exact hid x (by omega) h2
    · refine own_perm (by omega) h0.1 (fun x h1 h2 => ?_)
      by_cases hx : x = i
      · subst hx; rw [hi]; omega
      · have := ho x h1 (by omega); omega
/-- A stretch that is as it came, put in order. -/
theorem isort_spec (L : List Ed) (d : Array Nat) (a b : Nat) (hab : a ≤ b) (hb : b ≤ d.size) (hid : ∀ x, a ≤ x → x < b → d[x]! = x) : PermIn a b d (insertionSort (ltOf (cfL L)) d a b) ∧ SortedIn (sl L) a b (insertionSort (ltOf (cfL L)) d a b) := by
  have h1 := insertionSort_holds (lt := sl L) (swo_s L) d a b hab hb
  have h2 : insertionSort (ltOf (cfL L)) d a b = insertionSort (sl L) d a b := by
    unfold insertionSort
    by_cases h : a = b
    · subst h; rw [insOuter, if_neg (by omega), insOuter, if_neg (by omega)]
    · exact ins_out L a b _ (a + 1) d rfl (by omega) (by omega) hb (fun x h1 h2 => hid x (by omega) h2) (fun x h1 h2 => by
        obtain rfl : x = a := by omega
        rw [hid x (Nat.le_refl _) (by omega)]; omega) (fun i j h1 h2 h3 => by omega)
  rw [h2]; exact h1
/-- What the two stretches ask of one another is what is meant. -/
def Crs (L : List Ed) (d : Array Nat) (a m b : Nat) : Prop := ∀ x y, a ≤ x → x < m → m ≤ y → y < b → kl L d[y]! d[x]! = sl L d[y]! d[x]!
theorem crs_own {L : List Ed} {d : Array Nat} {a m b : Nat} (h1 : Own d a m) (h2 : Own d m b) : Crs L d a m b := fun x y h3 h4 h5 h6 => kl_sl (by
  have := h1 x h3 h4
  have := h2 y h5 h6
  omega)
end Go.Proofs.Ytpekbakidhfliaa
