/-
  For the laws of span: where a byte stands, as it is reckoned edit by edit; numbers alone, no program.
-/
import Derived.Test.YtpekbakidhfliaaGrown
namespace Go.Proofs.Ytpekbakidhfliaa
open Go.RowKit

def stepTo (x : Int) (y : Int × Ed) : Int := wrap64 (wrap64 (wrap64 (x + y.1) + y.2.tx.length) - wrap64 (y.2.to - y.2.fr))
def toOf (x : Int) (pre : List (Int × Ed)) : Int := match pre.getLast? with | none => x | some y => stepTo x y
theorem toOf_snoc (x : Int) (pre : List (Int × Ed)) (y : Int × Ed) : toOf x (pre ++ [y]) = stepTo x y := by simp [toOf]
def pass (x : Int) (e : Ed) : Prop := e.fr ≤ x ∧ e.to ≤ x
def Passes (x : Int) (pre : List (Int × Ed)) : Prop := ∀ y ∈ pre, pass x y.2
theorem Passes.snoc {x : Int} {pre : List (Int × Ed)} {y : Int × Ed} (h : Passes x pre) (hy : pass x y.2) : Passes x (pre ++ [y]) := fun z hz => by
  rcases List.mem_append.1 hz with hz | hz
  · exact h z hz
  · rw [List.mem_singleton.1 hz]; exact hy
theorem mv_skip {x : Int} : ∀ {A B : List Ed} {b : Int}, (∀ e ∈ A, pass x e) → mv b (A ++ B) x = mv (b + gsum A) B x
  | [], B, b, _ => by simp [gsum]
  | e :: A, B, b, h => by
    have h1 := h e List.mem_cons_self
    unfold pass at h1
    rw [List.cons_append, mv, if_neg (by omega), if_neg (by omega), mv_skip (fun y hy => h y (List.mem_cons_of_mem _ hy)), gsum, Int.add_assoc]
theorem grL_snd (b : Int) (L : List Ed) : (grL b L).map (·.2) = L := by
  induction L generalizing b with
  | nil => rfl
  | cons e L ih => rw [grL, List.map_cons, ih]
theorem toOf_take {L : List Ed} {x : Int} (hx : wrap64 x = x) (k : Nat) (hk : k ≤ L.length) : toOf x ((grL 0 L).take k) = wrap64 (x + gsum (L.take k)) := by
  cases k with
  | zero => simp [toOf, gsum, hx]
  | succ k =>
    obtain ⟨e, he⟩ : ∃ e, L[k]? = some e := ⟨_, List.getElem?_eq_getElem (by omega)⟩
    rw [grL_take he, toOf_snoc, gsum_take he]
    unfold stepTo gr
    simp only
    unfold wrap64
    omega
theorem mv_all {L : List Ed} {x : Int} (hx : wrap64 x = x) (h : Passes x (grL 0 L)) : mv 0 L x = some (x + gsum L) ∧ toOf x (grL 0 L) = wrap64 (x + gsum L) := by
  constructor
  · have h1 : ∀ e ∈ L, pass x e := fun e he => by
      rw [← grL_snd 0 L] at he
      obtain ⟨y, hy, rfl⟩ := List.mem_map.1 he
      exact h y hy
    have h2 := mv_skip (B := []) (b := 0) h1
    rw [List.append_nil] at h2
    rw [h2, mv, Int.zero_add]
  · have h1 := toOf_take hx L.length (Nat.le_refl _)
    rwa [List.take_length, List.take_of_length_le (by rw [grL_len]; exact Nat.le_refl _)] at h1
theorem mv_part {L : List Ed} {x : Int} {pre : List (Int × Ed)} {y : Int × Ed} (hp : pre ++ [y] <+: grL 0 L) (h : Passes x pre) :
    ∃ k, k < L.length ∧ pre = (grL 0 L).take k ∧ mv 0 L x = mv (gsum (L.take k)) (y.2 :: L.drop (k + 1)) x := by
  have h1 : pre = (grL 0 L).take pre.length := by
    have h2 := (List.prefix_append pre [y]).trans hp
    exact (List.prefix_iff_eq_take.1 h2)
  have hl := hp.length_le
  rw [grL_len, List.length_append, List.length_singleton] at hl
  have h3 : (grL 0 L)[pre.length]? = some y := by
    obtain ⟨t, ht⟩ := hp
    rw [← ht, List.append_assoc, List.getElem?_append_right (Nat.le_refl _), Nat.sub_self]; rfl
  obtain ⟨e, he⟩ : ∃ e, L[pre.length]? = some e := ⟨_, List.getElem?_eq_getElem (by omega)⟩
  have h4 := grL_at 0 L _ e he
  rw [h3] at h4
  have h5 : y.2 = e := by cases h4; rfl
  refine ⟨pre.length, by omega, h1, ?_⟩
  have h6 : ∀ e ∈ L.take pre.length, pass x e := fun e he => by
    rw [← grL_snd 0 L, ← List.map_take, ← h1] at he
    obtain ⟨y, hy, rfl⟩ := List.mem_map.1 he
    exact h y hy
  have h7 := mv_skip (B := L.drop pre.length) (b := 0) h6
  rw [List.take_append_drop, Int.zero_add, drop_at he] at h7
  rw [h7, h5]
theorem mv_break {L : List Ed} {x : Int} (hx : wrap64 x = x) {pre : List (Int × Ed)} {y : Int × Ed} (hp : pre ++ [y] <+: grL 0 L) (h : Passes x pre) (hy : x < y.2.fr) : ∃ n, mv 0 L x = some n ∧ toOf x pre = wrap64 n := by
  obtain ⟨k, hk, h1, h2⟩ := mv_part hp h
  refine ⟨x + gsum (L.take k), ?_, ?_⟩
  · rw [h2, mv, if_pos hy]
  · rw [h1]; exact toOf_take hx k (by omega)
theorem mv_ret {L : List Ed} {x : Int} {pre : List (Int × Ed)} {y : Int × Ed} (hp : pre ++ [y] <+: grL 0 L) (h : Passes x pre) (hy : ¬ x < y.2.fr) (hz : x < y.2.to) : mv 0 L x = none := by
  obtain ⟨k, hk, h1, h2⟩ := mv_part hp h
  rw [h2, mv, if_neg hy, if_pos hz]
end Go.Proofs.Ytpekbakidhfliaa
