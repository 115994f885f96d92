/-
  A region that draws its order, inside a fence: an operation may be taken first if the last ones wait for it by whatever road. No condition; of any program.
-/
import Derived.Test.YtfjmhnnjgjcmeaaDoorLLasz
namespace Go.Proofs.YtfjmhnnjgjcmeaaDoor.L

section
variable {F : Fence} {n : Nat} {P : Program} {ops : Array Oper} {Q : Exit → Act → World → Prop} {md : Region.Mode} {S : World → Prop} {zs : List Nat}

/-- Does operation z wait for i, by a road of at most so many edges? -/
def reach (md : Region.Mode) (ops : Array Oper) (i : Nat) : Nat → Nat → Bool
  | 0, _ => false
  | f + 1, z => ((ops[z]?).map fun o => o.after.any fun e => Region.binds md e && (e.on == i || reach md ops i f e.on)).getD false
/-- Whatever is listed: so is all that it waits for. -/
def Closed (md : Region.Mode) (ops : Array Oper) (listed : Array Bool) : Prop := ∀ (j : Nat) (o : Oper), ops[j]? = some o → listed.getD j false = true → ∀ e ∈ o.after, Region.binds md e = true → listed.getD e.on false = true
def closedB (md : Region.Mode) (ops : Array Oper) (listed : Array Bool) : Bool := (List.range ops.size).all fun j => !(listed.getD j false) || ((ops[j]?).map fun o => o.after.all fun e => !Region.binds md e || listed.getD e.on false).getD true
theorem closed_of {listed : Array Bool} (h : closedB md ops listed = true) : Closed md ops listed := by
  intro j o ho hl e he hb
  have hj : j < ops.size := (Array.getElem?_eq_some_iff.1 ho).1
  unfold closedB at h
  rw [List.all_eq_true] at h
  have h1 := h j (List.mem_range.2 hj)
  rw [hl, ho] at h1
  simp only [Bool.not_true, Bool.false_or, Option.map_some, Option.getD_some] at h1
  rw [Array.all_eq_true] at h1
  obtain ⟨k, hk, rfl⟩ := Array.getElem_of_mem he
  have h2 := h1 k hk
  rw [hb] at h2
  simpa using h2
theorem getD_two {listed : Array Bool} {i : Nat} (h : listed.getD i true = false) : listed.getD i false = false := by
  rcases Nat.lt_or_ge i listed.size with h' | h'
  · simp [h'] at h ⊢; exact h
  · simp [Array.getElem?_eq_none h']
theorem reach_listed {listed : Array Bool} {i : Nat} (hc : Closed md ops listed) (hi : listed.getD i true = false) : ∀ (f z : Nat), reach md ops i f z = true → listed.getD z false = false
  | 0, _, h => by simp [reach] at h
  | f + 1, z, h => by
    unfold reach at h
    cases ho : ops[z]? with
    | none => rw [ho] at h; simp at h
    | some o =>
      rw [ho] at h
      simp only [Option.map_some, Option.getD_some, Array.any_eq_true] at h
      obtain ⟨k, hk, he⟩ := h
      rw [Bool.and_eq_true, Bool.or_eq_true, beq_iff_eq] at he
      cases hl : listed.getD z false with
      | false => rfl
      | true =>
        have h1 := hc z o ho hl _ (Array.getElem_mem hk) he.1
        rcases he.2 with e | e
        · rw [e, getD_two hi] at h1; cases h1
        · rw [reach_listed hc hi f _ e] at h1; cases h1
theorem not_yet_far {i f z : Nat} {listed : Array Bool} (hc : Closed md ops listed) (hw : reach md ops i f z = true) (hi : listed.getD i true = false) : z ∉ Region.ready md ops listed := by
  intro hz
  obtain ⟨_, o, ho, hall⟩ := mem_ready.1 hz
  cases f with
  | zero => simp [reach] at hw
  | succ f =>
    unfold reach at hw
    rw [ho] at hw
    simp only [Option.map_some, Option.getD_some, Array.any_eq_true] at hw
    obtain ⟨k, hk, he⟩ := hw
    rw [Bool.and_eq_true, Bool.or_eq_true, beq_iff_eq] at he
    have h1 := hall _ (Array.getElem_mem hk) he.1
    rcases he.2 with e | e
    · rw [e, getD_two hi] at h1; cases h1
    · rw [reach_listed hc hi f _ e] at h1; cases h1
theorem Closed.set {listed : Array Bool} {j : Nat} (hc : Closed md ops listed) (hj : j ∈ Region.ready md ops listed) : Closed md ops (listed.setIfInBounds j true) := by
  obtain ⟨hjun, oj, hoj, hall⟩ := mem_ready.1 hj
  have hmono : ∀ k, listed.getD k false = true → (listed.setIfInBounds j true).getD k false = true := fun k hk => by
    by_cases hkj : j = k
    · subst hkj
      rw [getD_two hjun] at hk; cases hk
    · rw [getD_set_ne false hkj]; exact hk
  intro k o ho hl e he hb
  by_cases hkj : j = k
  · subst hkj
    rw [hoj] at ho
    cases ho
    exact hmono _ (hall e he hb)
  · rw [getD_set_ne false hkj] at hl
    exact hmono _ (hc k o ho hl e he hb)

theorem wpAnyZIn_far {i f : Nat} {oi : Oper} {v : Value} (hi : ops[i]? = some oi) (hsel : ∀ (j : Nat) (o : Oper) cs b, ops[j]? = some o → o.op ≠ .select cs b) (hnd : ∀ (j : Nat) (o : Oper) c, ops[j]? = some o → o.op ≠ .defer c)
    (hQ : ∀ c a w, Q (.panic c) (a.put oi.dst v) w → Q (.panic c) a w) (hw : ∀ z ∈ zs, reach md ops i f z = true) (hiz : i ∉ zs) :
    ∀ (fuel : Nat) (listed : Array Bool) (a : Act) (w : World), Closed md ops listed →
      (∀ j oj, ops[j]? = some oj → j ≠ i → listed.getD j true = false → (∀ e ∈ oj.after, Region.binds md e = true → e.on ≠ i) → oi.apart ops oj = true) →
      i ∈ Region.ready md ops listed → YieldsIfIn P ops S oi v a → S w →
      wpAnyZIn F n P md ops Q S zs fuel (listed.setIfInBounds i true) (a.put oi.dst v) w → wpAnyZIn F n P md ops Q S zs (fuel + 1) listed a w := by
  intro fuel
  induction fuel with
  | zero =>
    intro listed a w _ _ hr hy hS H
    refine ⟨fun h => (by rw [h] at hr; cases hr), fun j hj => ?_⟩
    by_cases hji : j = i
    · subst hji; exact hy.wpOpIn hi hS ⟨fun _ => hS, H⟩
    · have := ready_mono hj hji
      rw [H.1] at this
      cases this
  | succ fuel ih =>
    intro listed a w hcl hfree hr hy hS H
    refine ⟨fun h => (by rw [h] at hr; cases hr), fun j hj => ?_⟩
    by_cases hji : j = i
    · subst hji; exact hy.wpOpIn hi hS ⟨fun _ => hS, H⟩
    · have h1 := H.2 j (ready_mono hj hji)
      have hjz : j ∉ zs := fun e => not_yet_far hcl (hw j e) (mem_ready.1 hr).1 hj
      obtain ⟨hjun, oj, hoj, hall⟩ := mem_ready.1 hj
      have hnot : ∀ e ∈ oj.after, Region.binds md e = true → e.on ≠ i := fun e he hb heq => by
        have h1 := hall e he hb
        have h0 := (mem_ready.1 hr).1
        rw [heq] at h1
        rcases Nat.lt_or_ge i listed.size with h' | h'
        · simp [h'] at h0 h1; rw [h0] at h1; cases h1
        · simp [Array.getElem?_eq_none h'] at h1
      have h2 := wpOpIn_putIf hoj (hfree j oj hoj hji hjun hnot) (fun c => hnd j oj c hoj) (fun cs b => hsel i oi cs b hi) (fun cs b => hsel j oj cs b hoj) hQ hy h1
      have hfree' : ∀ k ok, ops[k]? = some ok → k ≠ i → (listed.setIfInBounds j true).getD k true = false →
          (∀ e ∈ ok.after, Region.binds md e = true → e.on ≠ i) → oi.apart ops ok = true := fun k ok hk hki hun hno => by
        refine hfree k ok hk hki ?_ hno
        by_cases hjk : j = k
        · subst hjk; exact hjun
        · rw [getD_set_ne true hjk] at hun; exact hun
      refine wpOpIn_mono (fun a' w' h3 => ⟨h3.2.1, ih (listed.setIfInBounds j true) a' w' (hcl.set hj) hfree' (ready_mono hr (Ne.symm hji)) h3.1 (h3.2.1 hjz) ?_⟩) h2
      rw [Array.setIfInBounds_comm _ _ hji]
      exact h3.2.2
theorem wpAnyZIn_takeF {i : Nat} (f : Nat) {oi : Oper} {v : Value} {fuel : Nat} {listed : Array Bool} {a : Act} {w : World} (hi : ops[i]? = some oi)
    (hs : Region.noSelect ops = true) (hnd : noDefer ops = true) (hf : Region.free md ops listed i = true) (hr : (Region.ready md ops listed).contains i = true) (hc : closedB md ops listed = true) (hz : (zs.all fun z => reach md ops i f z && !(i == z)) = true)
    (hQ : ∀ c a w, Q (.panic c) (a.put oi.dst v) w → Q (.panic c) a w) (hy : YieldsIf P ops S oi v a) (hab : ∀ w, oi.about P w a.eval = none) (hS : S w)
    (h : wpAnyZIn F n P md ops Q S zs fuel (listed.setIfInBounds i true) (a.put oi.dst v) w) : wpAnyZIn F n P md ops Q S zs (fuel + 1) listed a w := by
  rw [List.all_eq_true] at hz
  have hz1 : ∀ z ∈ zs, reach md ops i f z = true := fun z h => by have := hz z h; rw [Bool.and_eq_true] at this; exact this.1
  have hz2 : i ∉ zs := fun h => by have := hz i h; simp at this
  exact wpAnyZIn_far hi (Region.noSelect_spec hs) (noDefer_spec hnd) hQ hz1 hz2 fuel listed a w (closed_of hc) (Region.free_spec hi hf) (by simpa using hr) ⟨hy, hab, fun c => noDefer_spec hnd i oi c hi⟩ hS h
end
end Go.Proofs.YtfjmhnnjgjcmeaaDoor.L
