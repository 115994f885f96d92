/-
  For the laws of node: ways in a tree that is moved on; where a way leads; no program. No condition.
-/
import Derived.Test.YtpnfjiglphogoacPur
import Derived.Test.YtpnfjiglphogoacClo
namespace Go.Proofs.Ytpnfjiglphogoac
open Go.RowKit
set_option linter.unusedSimpArgs false
set_option linter.unusedVariables false

/-- Does a node stand in the first million bytes? -/
def PosH (h : Hd) : Prop := 0 ≤ h.fr ∧ h.fr ≤ 1000000 ∧ 0 ≤ h.to_ ∧ h.to_ ≤ 1000000
theorem AllN.hd {P : Hd → Prop} {t : Nd} (h : AllN P t) : P t.hd := by
  refine h t ?_
  rw [allK_list, pre_kids]
  exact List.mem_cons_self
theorem mem_preL {d : Nat} {x : Nd} : ∀ {ks : List Nd} {y : Nd}, y ∈ ks → x ∈ (y.pre d).map (·.2) → x ∈ (preL d ks).map (·.2)
  | t :: ts, y, h, hx => by
    rw [preL, List.map_append]
    rcases List.mem_cons.1 h with rfl | h
    · exact List.mem_append.2 (.inl hx)
    · exact List.mem_append.2 (.inr (mem_preL h hx))
theorem AllN.kid {P : Hd → Prop} {t y : Nd} (h : AllN P t) (hy : y ∈ t.kids) : AllN P y := by
  intro x hx
  refine h x ?_
  rw [allK_list] at hx ⊢
  rw [pre_kids, List.map_cons]
  refine List.mem_cons_of_mem _ (mem_preL hy ?_)
  rw [pre_snd (0 + 1) 0]
  exact hx
theorem shH_in {by_ at_ : Int} {t : Nd} (h : PosH t.hd) (h1 : 0 ≤ by_) (h2 : by_ ≤ 1000000) : inN (at_ + by_) (t.map (shH by_)) = inN at_ t := by
  obtain ⟨a, b, c, d⟩ := h
  rw [map_kids]
  have e1 : wrap64 (t.hd.fr + by_) = t.hd.fr + by_ := by unfold wrap64; omega
  have e2 : wrap64 (t.hd.to_ + by_) = t.hd.to_ + by_ := by unfold wrap64; omega
  show (decide (wrap64 (t.hd.fr + by_) ≤ at_ + by_) && decide (at_ + by_ < wrap64 (t.hd.to_ + by_))) = (decide (t.hd.fr ≤ at_) && decide (at_ < t.hd.to_))
  rw [e1, e2]
  congr 1
  · exact decide_eq_decide.2 (by omega)
  · exact decide_eq_decide.2 (by omega)
theorem firstIn_shift {by_ at_ : Int} (h1 : 0 ≤ by_) (h2 : by_ ≤ 1000000) : ∀ {ks : List Nd}, (∀ y ∈ ks, PosH y.hd) → firstIn (at_ + by_) (mapL (shH by_) ks) = firstIn at_ ks
  | [], _ => by rw [mapL]; rfl
  | t :: ts, h => by
    have ih := firstIn_shift (at_ := at_) h1 h2 (ks := ts) fun y hy => h y (List.mem_cons_of_mem _ hy)
    unfold firstIn at ih ⊢
    rw [mapL, List.findIdx?_cons, List.findIdx?_cons, shH_in (h t List.mem_cons_self) h1 h2, ih]
theorem wayF_shift {by_ at_ : Int} (h1 : 0 ≤ by_) (h2 : by_ ≤ 1000000) : ∀ (k : Nat) (t : Nd), AllN PosH t → wayF (at_ + by_) k (t.map (shH by_)) = wayF at_ k t
  | 0, t, _ => rfl
  | k + 1, t, h => by
    rw [wayF, wayF, show (t.map (shH by_)).kids = mapL (shH by_) t.kids by rw [map_kids]; rfl, firstIn_shift h1 h2 fun y hy => (h.kid hy).hd]
    cases hf : firstIn at_ t.kids with
    | none => rfl
    | some i =>
      dsimp only
      rw [mapL_eq, List.getElem?_map]
      cases hx : t.kids[i]? with
      | none => rfl
      | some x =>
        simp only [Option.map_some]
        rw [wayF_shift h1 h2 k x (h.kid (List.mem_of_getElem? hx))]
theorem wayT_shift {by_ at_ : Int} {t : Nd} (h : AllN PosH t) (h1 : 0 ≤ by_) (h2 : by_ ≤ 1000000) : wayT (at_ + by_) (t.map (shH by_)) = wayT at_ t := by
  unfold wayT
  rw [shH_in h.hd h1 h2]
  unfold wayN
  rw [map_ht, wayF_shift h1 h2 _ t h]
def zs (L : List Nat) : List Int := L.map fun (i : Nat) => (i : Int)
theorem way_leads (at_ : Int) : ∀ (k : Nat) (t : Nd), t.ht ≤ k → ∃ x, getN t (zs (wayN at_ t)) = some x ∧ firstIn at_ x.kids = none ∧ (inN at_ t = true → inN at_ x = true)
  | 0, t, h => by have := ht_kids t; omega
  | k + 1, t, h => by
    cases hf : firstIn at_ t.kids with
    | none => exact ⟨t, by rw [wayN_none hf]; rfl, hf, id⟩
    | some i =>
      have hi := hf
      unfold firstIn at hi
      obtain ⟨hl, hp, -⟩ := List.findIdx?_eq_some_iff_getElem.1 hi
      have hx : t.kids[i]? = some t.kids[i] := List.getElem?_eq_getElem hl
      have h2 := htL_mem (List.mem_of_getElem? hx)
      have h3 := ht_kids t
      obtain ⟨x, e1, e2, e3⟩ := way_leads at_ k t.kids[i] (by omega)
      refine ⟨x, ?_, e2, fun _ => e3 hp⟩
      rw [wayN_some hf hx]
      show getN t ((i : Int) :: zs (wayN at_ t.kids[i])) = some x
      rw [getN_yes hx]
      exact e1
/-- Where the way to an offset leads. -/
theorem wayT_leads (at_ : Int) (t : Nd) : ∃ x, getN t (zs (wayT at_ t)) = some x ∧ (inN at_ t = true → inN at_ x = true ∧ firstIn at_ x.kids = none) ∧ (inN at_ t = false → wayT at_ t = []) := by
  unfold wayT
  cases hin : inN at_ t with
  | false => exact ⟨t, rfl, (fun h => by cases h), fun _ => rfl⟩
  | true =>
    obtain ⟨x, e1, e2, e3⟩ := way_leads at_ t.ht t (Nat.le_refl _)
    exact ⟨x, e1, fun _ => ⟨e3 hin, e2⟩, fun h => by cases h⟩
end Go.Proofs.Ytpnfjiglphogoac
