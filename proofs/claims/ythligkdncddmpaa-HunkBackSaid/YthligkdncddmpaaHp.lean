/-
  For the laws of hunk: a row with hunks: what it is, and a slice's part of texts. Condition: as the hunks may be.
-/
import Derived.Test.YthligkdncddmpaaHc
import Derived.Test.YthligkdncddmpaaHi
import Derived.Test.YthligkdncddmpaaRefn
namespace Go.Proofs.Ythligkdncddmpaa
open Go.RowKit

theorem size9 (w : World) : (Go.sizeOf 9).run Try.prog w = .ok 1 w := by kernel_rfl
theorem slice27 : Try.prog.underlying 27 = some (.slice (Try.prog.elem 27)) := by rw [Try.underlying27]; kernel_rfl
theorem elem27 : Try.prog.elem 27 = 9 := by kernel_rfl
/-- 'v[lo:hi]' of a slice of texts. -/
theorem Vals.cut {W : World} {v : Value} {xs : List Value} (h : Vals W v xs) (l r : Int) (h0 : 0 ≤ l) (h1 : l ≤ r) (h2 : r ≤ xs.length) :
    ∃ v', (∀ V : World, (Instr.slice 27 v (some (.int .i64 l)) (some (.int .i64 r)) none).run Try.prog V = .ok v' V) ∧ Vals W v' ((xs.drop l.toNat).take (r.toNat - l.toNat)) := by
  obtain ⟨lo, rfl⟩ := Int.eq_ofNat_of_zero_le h0
  obtain ⟨hi, rfl⟩ := Int.eq_ofNat_of_zero_le (Int.le_trans h0 h1)
  obtain ⟨a, cap, rfl, hc, hm, hx⟩ := h
  have hrun : ∀ V : World, (Instr.slice 27 (.slice a xs.length cap) (some (.int .i64 (lo : Int))) (some (.int .i64 (hi : Int))) none).run Try.prog V = .ok (.slice (if cap = lo then a else a.map (·.add (lo * 1))) (hi - lo) (cap - lo)) V := by
    intro V
    rw [run_slice_lh V 27 _ _ _ slice27 .i64 .i64 _ _ (by omega) (by omega) (by omega), elem27, size9]
    simp [Result.andThen, sliced]
  refine ⟨_, hrun, ?_⟩
  have hlen : ((xs.drop lo).take (hi - lo)).length = hi - lo := by simp; omega
  refine ⟨_, _, by rw [show ((lo : Int).toNat) = lo by simp, show ((hi : Int).toNat) = hi by simp, hlen], by simp; omega, by omega, ?_⟩
  simp only [Int.toNat_natCast]
  by_cases he : hi - lo = 0
  · left; rw [he]; rfl
  · right
    rcases hx with rfl | ⟨b, off, rfl, hb, hx⟩
    · simp at h2; omega
    · rw [if_neg (by omega)]
      refine ⟨b, off + lo, ?_, hb, fun j x hj => ?_⟩
      · simp [Addr.add]
      · rw [Nat.add_assoc]
        refine hx _ _ ?_
        rw [List.getElem?_take] at hj
        split at hj
        · rw [List.getElem?_drop] at hj; exact hj
        · cases hj
/-- 'v[lo:]' of a slice of texts. -/
theorem Vals.cutFrom {W : World} {v : Value} {xs : List Value} (h : Vals W v xs) (l : Int) (h0 : 0 ≤ l) (h1 : l ≤ xs.length) :
    ∃ v', (∀ V : World, (Instr.slice 27 v (some (.int .i64 l)) none none).run Try.prog V = .ok v' V) ∧ Vals W v' (xs.drop l.toNat) := by
  obtain ⟨lo, rfl⟩ := Int.eq_ofNat_of_zero_le h0
  obtain ⟨a, cap, rfl, hc, hm, hx⟩ := h
  have hrun : ∀ V : World, (Instr.slice 27 (.slice a xs.length cap) (some (.int .i64 (lo : Int))) none none).run Try.prog V = .ok (.slice (if cap = lo then a else a.map (·.add (lo * 1))) (xs.length - lo) (cap - lo)) V := by
    intro V
    rw [run_slice_l V 27 _ xs.length _ slice27 .i64 _ (by omega) (by omega), elem27, size9]
    simp [Result.andThen, sliced]
  refine ⟨_, hrun, ?_⟩
  simp only [Int.toNat_natCast]
  refine ⟨_, _, by rw [List.length_drop], by simp; omega, by omega, ?_⟩
  by_cases he : xs.length - lo = 0
  · left; exact List.drop_of_length_le (by omega)
  · right
    rcases hx with rfl | ⟨b, off, rfl, hb, hx⟩
    · simp at he
    · rw [if_neg (by omega)]
      refine ⟨b, off + lo, ?_, hb, fun j x hj => ?_⟩
      · simp [Addr.add]
      · rw [Nat.add_assoc]
        refine hx _ _ ?_
        rw [List.getElem?_drop] at hj; exact hj
/-- A row with hunks, from the place d on. -/
def patched (A B : List ByteArray) : Int → List Hk → List ByteArray
  | d, [] => A.drop d.toNat
  | d, h :: H => (A.drop d.toNat).take (h.a.toNat - d.toNat) ++ ((B.drop h.b.toNat).take ((h.b + h.bn).toNat - h.b.toNat) ++ patched A B (h.a + h.an) H)
theorem patched_at {A B : List ByteArray} {d : Int} {H : List Hk} {k : Nat} {h : Hk} (hk : H[k]? = some h) : patched A B d (H.drop k) = (A.drop d.toNat).take (h.a.toNat - d.toNat) ++ ((B.drop h.b.toNat).take ((h.b + h.bn).toNat - h.b.toNat) ++ patched A B (h.a + h.an) (H.drop (k + 1))) := by
  obtain ⟨hl, rfl⟩ := List.getElem?_eq_some_iff.1 hk
  rw [List.drop_eq_getElem_cons hl]
  rfl
theorem patched_length (A B : List ByteArray) : ∀ (H : List Hk) (d : Int) (b : Int) (f : Prop), 0 ≤ d → 0 ≤ b → d ≤ A.length → b ≤ B.length → may A.length B.length d b f H → (patched A B d H).length + b.toNat ≤ A.length + B.length := by
  intro H
  induction H with
  | nil =>
    intro d b f h0 h1 h2 h3 hm
    simp only [may] at hm
    simp only [patched, List.length_drop]
    omega
  | cons h H ih =>
    intro d b f h0 h1 h2 h3 hm
    obtain ⟨hg, hm'⟩ := hm
    simp only [Hk.good] at hg
    have := ih (h.a + h.an) (h.b + h.bn) False (by omega) (by omega) (by omega) (by omega) hm'
    simp only [patched, List.length_append, List.length_take, List.length_drop]
    omega
end Go.Proofs.Ythligkdncddmpaa
