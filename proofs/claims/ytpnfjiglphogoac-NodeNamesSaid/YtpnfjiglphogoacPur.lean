/-
  For the laws of node: what is put is got, put back it is as it was; a name there and back; ways that are moved on; no program. No condition.
-/
import Derived.Test.YtpnfjiglphogoacPum
import Derived.Test.YtpnfjiglphogoacAtw
import Derived.Test.YtpnfjiglphogoacAll
namespace Go.Proofs.Ytpnfjiglphogoac
set_option linter.unusedSimpArgs false
set_option linter.unusedVariables false

theorem getN_inv {t x : Nd} {i : Int} {L : List Int} (h : getN t (i :: L) = some x) : ∃ (k : Nat) (y : Nd), i = (k : Int) ∧ t.kids[k]? = some y ∧ getN y L = some x := by
  rw [getN] at h
  split at h
  · rename_i hi
    split at h
    · cases h
    · rename_i y hy
      exact ⟨i.toNat, y, by omega, hy, h⟩
  · cases h
theorem getN_putN : ∀ (way : List Int) (t x was : Nd), getN t way = some was → getN (putN t way x) way = some x
  | [], t, x, was, h => by rw [putN, getN]
  | i :: L, t, x, was, h => by
    obtain ⟨k, y, rfl, hk, hy⟩ := getN_inv h
    have hl := (List.getElem?_eq_some_iff.1 hk).1
    rw [putN_step hk]
    refine (getN_yes (t := .mk t.hd (t.kids.set k (putN y L x))) (x := putN y L x) (k := k) ?_).trans (getN_putN L y x was hy)
    show (t.kids.set k (putN y L x))[k]? = _
    rw [List.getElem?_set_self hl]
theorem putN_back : ∀ (way : List Int) (t x was : Nd), getN t way = some was → putN (putN t way x) way was = t
  | [], t, x, was, h => by
    rw [getN] at h
    rw [putN, ← Option.some.inj h]
  | i :: L, t, x, was, h => by
    obtain ⟨k, y, rfl, hk, hy⟩ := getN_inv h
    obtain ⟨hl, he⟩ := List.getElem?_eq_some_iff.1 hk
    rw [putN_step hk]
    have h2 : (Nd.mk t.hd (t.kids.set k (putN y L x))).kids[k]? = some (putN y L x) := by
      show (t.kids.set k (putN y L x))[k]? = _
      rw [List.getElem?_set_self hl]
    rw [putN_step h2, putN_back L y x was hy]
    show Nd.mk t.hd ((t.kids.set k (putN y L x)).set k y) = t
    rw [List.set_set, ← he, List.set_getElem_self, ← Nd.eta]
theorem cntL_set {ks : List Nd} {k : Nat} {y : Nd} (z : Nd) (h : ks[k]? = some y) : cntL (ks.set k z) + y.cnt = cntL ks + z.cnt := by
  obtain ⟨hl, he⟩ := List.getElem?_eq_some_iff.1 h
  have e1 : ks = ks.take k ++ y :: ks.drop (k + 1) := by rw [← he, List.getElem_cons_drop, List.take_append_drop]
  have e2 : ks.set k z = ks.take k ++ z :: ks.drop (k + 1) := by rw [List.set_eq_take_append_cons_drop, if_pos hl]
  have h1 : cntL ks = cntL (ks.take k) + (y.cnt + cntL (ks.drop (k + 1))) := by
    have := congrArg cntL e1
    rwa [cntL_app, cntL] at this
  rw [e2, cntL_app, cntL, h1]
  omega
theorem cnt_putN : ∀ (way : List Int) (t x was : Nd), getN t way = some was → (putN t way x).cnt + was.cnt = t.cnt + x.cnt
  | [], t, x, was, h => by
    rw [getN] at h
    rw [putN, Option.some.inj h, Nat.add_comm]
  | i :: L, t, x, was, h => by
    obtain ⟨k, y, rfl, hk, hy⟩ := getN_inv h
    rw [putN_step hk]
    have h1 := cnt_putN L y x was hy
    have h2 := cntL_set (putN y L x) hk
    have h3 := cnt_kids t
    have h4 := cnt_kids (Nd.mk t.hd (t.kids.set k (putN y L x)))
    have h5 : (Nd.mk t.hd (t.kids.set k (putN y L x))).kids = t.kids.set k (putN y L x) := rfl
    rw [h5] at h4
    omega
/-- A name there and back, at one node. -/
theorem rnH_back {kind : Int} {a b : List UInt8} {h : Hd} (h1 : h.text ≠ b) (h2 : h.type ≠ b) : rnH kind b a (rnH kind a b h) = h := by
  obtain ⟨k, tx, ty, n, f, t, at_, tat⟩ := h
  simp only at h1 h2
  have e1 : (if rnA kind b (rnH kind a b ⟨k, tx, ty, n, f, t, at_, tat⟩) then a else (rnH kind a b ⟨k, tx, ty, n, f, t, at_, tat⟩).text) = tx := by
    simp only [rnA, rnH]
    by_cases hx : tx = a
    · subst hx
      by_cases hc : ((kind == 0) || (k == kind) || ((kind == 1) && (k == 21))) = true
      · simp [hc]
      · simp [hc]
    · simp [hx, h1]
  have e2 : (if rnB kind b (rnH kind a b ⟨k, tx, ty, n, f, t, at_, tat⟩) then a else (rnH kind a b ⟨k, tx, ty, n, f, t, at_, tat⟩).type) = ty := by
    simp only [rnB, rnH]
    by_cases hx : ty = a
    · subst hx
      by_cases hc : kind = 1
      · simp [hc]
      · simp [hc]
    · simp [hx, h2]
  rw [rnH, e1, e2]
  rfl
/-- Do all nodes hold P? -/
def AllN (P : Hd → Prop) (t : Nd) : Prop := ∀ x ∈ allK 0 t, P x.hd
theorem allK_list (t : Nd) : allK 0 t = (t.pre 0).map (·.2) := by
  unfold allK
  exact List.filter_eq_self.2 fun x _ => rfl
mutual
theorem map_same {f : Hd → Hd} {d : Nat} : ∀ t : Nd, (∀ x ∈ (t.pre d).map (·.2), f x.hd = x.hd) → t.map f = t
  | .mk h ks, hx => by
    rw [Nd.map]
    rw [Nd.pre, List.map_cons] at hx
    have h1 : f h = h := hx (.mk h ks) List.mem_cons_self
    rw [h1, mapL_same ks fun x h => hx x (List.mem_cons_of_mem _ h)]
theorem mapL_same {f : Hd → Hd} {d : Nat} : ∀ ks : List Nd, (∀ x ∈ (preL d ks).map (·.2), f x.hd = x.hd) → mapL f ks = ks
  | [], hx => by rw [mapL]
  | t :: ts, hx => by
    rw [preL, List.map_append] at hx
    rw [mapL, map_same t fun x h => hx x (List.mem_append.2 (.inl h)), mapL_same ts fun x h => hx x (List.mem_append.2 (.inr h))]
end
theorem rn_back {kind : Int} {a b : List UInt8} {t : Nd} (h : AllN (fun h => h.text ≠ b ∧ h.type ≠ b) t) : (t.map (rnH kind a b)).map (rnH kind b a) = t := by
  rw [map_map]
  refine map_same (d := 0) t fun x hx => ?_
  have := h x (by rw [allK_list]; exact hx)
  exact rnH_back this.1 this.2
end Go.Proofs.Ytpnfjiglphogoac
