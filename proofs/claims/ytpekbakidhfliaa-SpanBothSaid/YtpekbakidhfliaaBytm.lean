/-
  For the laws of span: where the bytes stand that no edit takes away; rows and numbers alone, no program.
-/
import Derived.Test.YtpekbakidhfliaaMoved
import Derived.Test.YtpekbakidhfliaaApply
namespace Go.Proofs.Ytpekbakidhfliaa
open Go.RowKit

theorem chk_more {n m : Int} (hnm : n ≤ m) : ∀ {L : List Ed} {p : Option Ed}, chkB n p L = true → chkB m p L = true
  | [], _, _ => by cases ‹Option Ed› <;> rfl
  | e :: L, none, h => by
    simp only [chkB, okB, Bool.and_eq_true, decide_eq_true_eq] at h ⊢
    exact ⟨⟨h.1.1, by omega⟩, chk_more hnm h.2⟩
  | e :: L, some p, h => by
    simp only [chkB, okB, Bool.and_eq_true, decide_eq_true_eq] at h ⊢
    exact ⟨⟨⟨h.1.1.1, by omega⟩, h.1.2⟩, chk_more hnm h.2⟩
/-- All bytes from k on stand behind last. -/
def Behind (L : List Ed) (k : Nat) (last : Int) : Prop := ∀ (y : Nat) n, k ≤ y → mv 0 L y = some n → last < n
theorem behind_first {t : By} {L : List Ed} (ho : Ok t.length 0 L) : Behind L 0 (-1) := fun y n _ h => by
  have := mv_low L t.length 0 0 y n ho (by omega) h
  omega
theorem behind_none {L : List Ed} {k : Nat} {last : Int} (h : Behind L k last) : Behind L (k + 1) last := fun y n hy hm => h y n (by omega) hm
theorem behind_some {t : By} {L : List Ed} (ho : Ok t.length 0 L) {k : Nat} {n : Int} (hn : mv 0 L k = some n) : Behind L (k + 1) n := fun y m hy hm =>
  mv_mono L t.length 0 0 k y n m ho (by omega) (by omega) hn hm
theorem at_byte {t : By} {L : List Ed} (ho : Ok t.length 0 L) {k : Nat} (hk : k < t.length) {n : Int} (hn : mv 0 L k = some n) : ∃ (j : Nat) (hj : j < (app t 0 L).length), n = j ∧ (app t 0 L)[j] = t[k] := by
  obtain ⟨j, e, h⟩ := (mv_spec t L 0 0 k n ho (by omega) hn).1 (by omega)
  rw [Int.toNat_natCast, List.getElem?_eq_getElem hk] at h
  obtain ⟨hj, h2⟩ := List.getElem?_eq_some_iff.1 h
  exact ⟨j, hj, by omega, h2⟩
theorem at_end {t : By} {L : List Ed} (ho : Ok t.length 0 L) : mv 0 L t.length = some ((app t 0 L).length : Int) := by
  obtain ⟨n, hn⟩ := mv_last L t.length 0 0 ho
  have := (mv_spec t L 0 0 t.length n ho (by omega) hn).2 rfl
  rw [hn]; congr 1; omega
end Go.Proofs.Ytpekbakidhfliaa
