/-
  For the laws of report: conflicts, requests and outcomes as texts; facts on lists of bytes alone, no program.
-/
import Derived.Lib.IndexMore
import Derived.Lib.IndexBytes
namespace Go.Proofs.YtmklpanehnkfbaaDoor

def conW : List (List UInt8) := [[116, 101, 120, 116], [111, 114, 100, 101, 114], [103, 111, 110, 101], [114, 101, 112, 108, 97, 121], [116, 121, 112, 101, 115]]
def outW : List (List UInt8) := [[109, 101, 114, 103, 101, 100], [99, 111, 110, 102, 108, 105, 99, 116, 115], [116, 101, 120, 116, 117, 97, 108], [116, 111, 111, 32, 108, 97, 114, 103, 101]]
def reqW : List (List UInt8) := [[114, 101, 110, 97, 109, 101], [109, 111, 118, 101, 45, 109, 101, 109, 98, 101, 114], [109, 111, 118, 101, 45, 99, 108, 97, 115, 115]]
/-- A word and what stands behind it. -/
def withKey (w key : List UInt8) : List UInt8 := if key = [] then w else w ++ [32] ++ key
/-- The conflict as a text; none for a kind that isn't there. -/
def conOf (k : Int) (key : List UInt8) : List UInt8 := if 1 ≤ k ∧ k ≤ 5 then withKey (conW.getD (k - 1).toNat []) key else []
def outOf (k : Int) : List UInt8 := if 1 ≤ k ∧ k ≤ 4 then outW.getD (k - 1).toNat [] else []
def showOf (k : Int) (id to : List UInt8) : List UInt8 := if 1 ≤ k ∧ k ≤ 3 then reqW.getD (k - 1).toNat [] ++ [32] ++ id ++ [32, 116, 111, 32] ++ to else []
theorem conOf_at {i : Nat} {w key : List UInt8} (h : conW[i]? = some w) : conOf ((i : Int) + 1) key = withKey w key := by
  have hi := (List.getElem?_eq_some_iff.1 h).1
  have h5 : conW.length = 5 := rfl
  unfold conOf
  rw [if_pos (by omega), show ((i : Int) + 1 - 1).toNat = i from by omega, List.getD_eq_getElem?_getD, h]
  rfl
theorem conOf_no {k : Int} {key : List UInt8} (h : ¬ (1 ≤ k ∧ k ≤ 5)) : conOf k key = [] := by unfold conOf; rw [if_neg h]
theorem outOf_at {i : Nat} {w : List UInt8} (h : outW[i]? = some w) : outOf ((i : Int) + 1) = w := by
  have hi := (List.getElem?_eq_some_iff.1 h).1
  have h5 : outW.length = 4 := rfl
  unfold outOf
  rw [if_pos (by omega), show ((i : Int) + 1 - 1).toNat = i from by omega, List.getD_eq_getElem?_getD, h]
  rfl
theorem outOf_no {k : Int} (h : ¬ (1 ≤ k ∧ k ≤ 4)) : outOf k = [] := by unfold outOf; rw [if_neg h]
theorem showOf_at {i : Nat} {w id to : List UInt8} (h : reqW[i]? = some w) : showOf ((i : Int) + 1) id to = w ++ [32] ++ id ++ [32, 116, 111, 32] ++ to := by
  have hi := (List.getElem?_eq_some_iff.1 h).1
  have h5 : reqW.length = 3 := rfl
  unfold showOf
  rw [if_pos (by omega), show ((i : Int) + 1 - 1).toNat = i from by omega, List.getD_eq_getElem?_getD, h]
  rfl
theorem showOf_no {k : Int} {id to : List UInt8} (h : ¬ (1 ≤ k ∧ k ≤ 3)) : showOf k id to = [] := by unfold showOf; rw [if_neg h]
/-- The text s is the conflict's of kind k and with that key, which has no newline. -/
def Reads (s : List UInt8) (k : Int) (key : List UInt8) : Prop := 1 ≤ k ∧ k ≤ 5 ∧ conOf k key = s ∧ 10 ∉ key
theorem conW_sp : ∀ w ∈ conW, 32 ∉ w ∧ 10 ∉ w ∧ w ≠ [] := by decide
theorem conW_inj : ∀ i, i < 5 → ∀ j, j < 5 → conW.getD i [] = conW.getD j [] → i = j := by decide
theorem tw_word {w r : List UInt8} (h : 32 ∉ w) : (w ++ [32] ++ r).takeWhile (fun c => c != 32) = w := by
  induction w with
  | nil => simp
  | cons c w ih =>
    simp only [List.mem_cons, not_or] at h
    simp only [List.cons_append, List.takeWhile_cons]
    rw [if_pos (by simp; exact fun e => h.1 e.symm), ih h.2]
theorem tw_alone {w : List UInt8} (h : 32 ∉ w) : w.takeWhile (fun c => c != 32) = w := by
  induction w with
  | nil => rfl
  | cons c w ih =>
    simp only [List.mem_cons, not_or] at h
    rw [List.takeWhile_cons, if_pos (by simp; exact fun e => h.1 e.symm), ih h.2]
theorem withKey_first {w key : List UInt8} (h : 32 ∉ w) : (withKey w key).takeWhile (fun c => c != 32) = w := by
  unfold withKey
  split
  · exact tw_alone h
  · exact tw_word h
theorem withKey_inj {w key key' : List UInt8} (h : withKey w key = withKey w key') : key = key' := by
  unfold withKey at h
  split at h
  · rename_i h1
    split at h
    · rename_i h2; rw [h1, h2]
    · have := congrArg List.length h
      simp at this
  · split at h
    · have := congrArg List.length h
      simp at this
    · simpa using h
theorem conW_get {i : Nat} (h : i < 5) : ∃ w, conW[i]? = some w ∧ conW.getD i [] = w ∧ 32 ∉ w ∧ 10 ∉ w ∧ w ≠ [] := by
  have hx : conW[i]? = some conW[i] := List.getElem?_eq_getElem h
  refine ⟨_, hx, ?_, conW_sp _ (List.getElem_mem h)⟩
  rw [List.getD_eq_getElem?_getD, hx]; rfl
theorem conOf_kind {k : Int} {key : List UInt8} (h1 : 1 ≤ k) (h2 : k ≤ 5) : ∃ w, conW[(k - 1).toNat]? = some w ∧ conOf k key = withKey w key ∧ 32 ∉ w ∧ 10 ∉ w ∧ w ≠ [] := by
  obtain ⟨w, a, b, c, d, e⟩ := conW_get (i := (k - 1).toNat) (by omega)
  refine ⟨w, a, ?_, c, d, e⟩
  unfold conOf
  rw [if_pos ⟨h1, h2⟩, b]
theorem Reads.same {s : List UInt8} {k k' : Int} {key key' : List UInt8} (h : Reads s k key) (h1 : 1 ≤ k') (h2 : k' ≤ 5) (h3 : conOf k' key' = s) : k' = k ∧ key' = key := by
  obtain ⟨a1, a2, a3, a4⟩ := h
  obtain ⟨w, e1, e2, e3, -, -⟩ := conOf_kind (key := key) a1 a2
  obtain ⟨w', e1', e2', e3', -, -⟩ := conOf_kind (key := key') h1 h2
  have hw : w' = w := by
    rw [← withKey_first (key := key') e3', ← withKey_first (key := key) e3, ← e2, ← e2', a3, h3]
  subst hw
  have hk : (k' - 1).toNat = (k - 1).toNat := by
    apply conW_inj _ (by omega) _ (by omega)
    rw [List.getD_eq_getElem?_getD, List.getD_eq_getElem?_getD, e1, e1']
  refine ⟨by omega, ?_⟩
  exact withKey_inj (w := w') (by rw [← e2, ← e2', a3, h3])
theorem withKey_nl {w key : List UInt8} (hw : 10 ∉ w) : 10 ∈ withKey w key ↔ 10 ∈ key := by
  unfold withKey
  split
  · rename_i h; subst h; simp [hw]
  · simp [hw]
/-- What stands ahead of the first space, and behind it. -/
def cutA (s : List UInt8) : List UInt8 := s.takeWhile fun c => c != 32
def cutB (s : List UInt8) : List UInt8 := s.drop ((cutA s).length + 1)
theorem tw_all32 {r : List UInt8} : 32 ∉ r.takeWhile (fun c => c != 32) := by
  intro h
  have : ∀ (r : List UInt8), ∀ c ∈ r.takeWhile (fun c => c != 32), (c != 32) = true := by
    intro r
    induction r with
    | nil => simp
    | cons d r ih =>
      intro c hc
      rw [List.takeWhile_cons] at hc
      split at hc
      · rcases List.mem_cons.1 hc with rfl | hc
        · assumption
        · exact ih c hc
      · simp at hc
  exact absurd (this r 32 h) (by decide)
/-- If s is some conflict's text its first word and its rest are that word, and that key. -/
theorem Reads.cut {s : List UInt8} {k : Int} {key : List UInt8} (h : Reads s k key) : conW[(k - 1).toNat]? = some (cutA s) ∧ cutB s = key := by
  obtain ⟨a1, a2, a3, a4⟩ := h
  obtain ⟨w, e1, e2, e3, -, -⟩ := conOf_kind (key := key) a1 a2
  rw [e2] at a3
  subst a3
  have hA : cutA (withKey w key) = w := withKey_first e3
  refine ⟨by rw [hA]; exact e1, ?_⟩
  unfold cutB
  rw [hA]
  unfold withKey
  split
  · rename_i h; rw [h, List.drop_of_length_le (by omega)]
  · rw [List.append_assoc, show w.length + 1 = w.length + 1 from rfl, ← List.drop_drop, List.drop_left]; rfl
end Go.Proofs.YtmklpanehnkfbaaDoor
