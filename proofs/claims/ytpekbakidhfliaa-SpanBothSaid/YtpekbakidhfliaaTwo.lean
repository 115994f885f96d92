/-
  A region that draws its order, of which some operations read no world, some read, and the last ones turn what those read, each of them behind all reads. No condition; of any program.
-/
import Derived.Test.YtpekbakidhfliaaLast
namespace Go.Proofs.Ytpekbakidhfliaa

section
variable {P : Program} {ops : Array Oper} {Q : Exit → Act → World → Prop} {md : Region.Mode} {S : World → Prop} {rd : Nat → Bool}

/-- Whatever order is picked from here on, and S holds behind each operation that rd names. -/
def wpAnyF (P : Program) (md : Region.Mode) (ops : Array Oper) (Q : Exit → Act → World → Prop) (S : World → Prop) (rd : Nat → Bool) : Nat → Array Bool → Act → World → Prop
  | 0, listed, a, w => Region.ready md ops listed = [] ∧ Q .normal a w
  | fuel + 1, listed, a, w =>
    (Region.ready md ops listed = [] → Q .normal a w) ∧
    ∀ i ∈ Region.ready md ops listed, wpOp P ops Q i (fun a' w' => (rd i = true → S w') ∧ wpAnyF P md ops Q S rd fuel (listed.setIfInBounds i true) a' w') a w

theorem wpAny_of_F : ∀ (fuel : Nat) (listed : Array Bool) (a : Act) (w : World), wpAnyF P md ops Q S rd fuel listed a w → wpAny P md ops Q fuel listed a w
  | 0, _, _, _, h => h
  | fuel + 1, _, _, _, h => ⟨h.1, fun i hi => wpOp_mono (fun a' w' h' => wpAny_of_F fuel _ a' w' h'.2) (h.2 i hi)⟩
/-- Each one that is to come reads, or waits for i. -/
def aloneB (md : Region.Mode) (ops : Array Oper) (rd : Nat → Bool) (listed : Array Bool) (i : Nat) : Bool := (List.range ops.size).all fun j => listed.getD j true || j == i || rd j || waits md ops j i
theorem alone_spec {listed : Array Bool} {i j : Nat} (h : aloneB md ops rd listed i = true) (hi : listed.getD i true = false) (hj : j ∈ Region.ready md ops listed) (hji : j ≠ i) : rd j = true := by
  simp only [aloneB, List.all_eq_true, List.mem_range, Bool.or_eq_true, beq_iff_eq] at h
  obtain ⟨hju, o, ho, _⟩ := mem_ready.1 hj
  rcases h j (Array.getElem?_eq_some_iff.1 ho).1 with ((h1 | h1) | h1) | h1
  · rw [hju] at h1; cases h1
  · exact absurd h1 hji
  · exact h1
  · exact absurd hj (not_yet h1 hi)
theorem alone_set {listed : Array Bool} {i j : Nat} (h : aloneB md ops rd listed i = true) : aloneB md ops rd (listed.setIfInBounds j true) i = true := by
  simp only [aloneB, List.all_eq_true, List.mem_range, Bool.or_eq_true, beq_iff_eq] at h ⊢
  intro k hk
  rcases h k hk with ((h1 | h1) | h1) | h1
  · by_cases hjk : j = k
    · subst hjk
      rcases Nat.lt_or_ge j listed.size with h' | h'
      · simp [h']
      · simp
    · exact .inl (.inl (.inl (by rw [getD_set_ne true hjk]; exact h1)))
  · exact .inl (.inl (.inr h1))
  · exact .inl (.inr h1)
  · exact .inr h1
theorem wpAnyF_first {i : Nat} {oi : Oper} {v : Value} {S' : World → Prop} (hi : ops[i]? = some oi) (hsel : ∀ (j : Nat) (o : Oper) cs b, ops[j]? = some o → o.op ≠ .select cs b)
    (hQ : ∀ c a w, Q (.panic c) (a.put oi.dst v) w → Q (.panic c) a w) (hS' : (rd i = false ∧ ∀ w, S' w) ∨ S' = S) :
    ∀ (fuel : Nat) (listed : Array Bool) (a : Act) (w : World), (rd i = false ∧ (∀ w, S' w)) ∨ aloneB md ops rd listed i = true →
      (∀ j oj, ops[j]? = some oj → j ≠ i → listed.getD j true = false → (∀ e ∈ oj.after, Region.binds md e = true → e.on ≠ i) → oi.apart ops oj = true) →
      i ∈ Region.ready md ops listed → YieldsIf P ops S' oi v a → S' w → (rd i = true → S w) →
      wpAnyF P md ops Q S rd fuel (listed.setIfInBounds i true) (a.put oi.dst v) w → wpAnyF P md ops Q S rd (fuel + 1) listed a w := by
  intro fuel
  induction fuel with
  | zero =>
    intro listed a w _ _ hr hy hS hSi H
    refine ⟨fun h => (by rw [h] at hr; cases hr), fun j hj => ?_⟩
    by_cases hji : j = i
    · subst hji; exact hy.wpOp hi hS ⟨hSi, H⟩
    · have := ready_mono hj hji
      rw [H.1] at this
      cases this
  | succ fuel ih =>
    intro listed a w hal hfree hr hy hS hSi H
    refine ⟨fun h => (by rw [h] at hr; cases hr), fun j hj => ?_⟩
    by_cases hji : j = i
    · subst hji; exact hy.wpOp hi hS ⟨hSi, H⟩
    · have h1 := H.2 j (ready_mono hj hji)
      obtain ⟨hjun, oj, hoj, hall⟩ := mem_ready.1 hj
      have hnot : ∀ e ∈ oj.after, Region.binds md e = true → e.on ≠ i := fun e he hb heq => by
        have h1 := hall e he hb
        have h0 := (mem_ready.1 hr).1
        rw [heq] at h1
        rcases Nat.lt_or_ge i listed.size with h' | h'
        · simp [h'] at h0 h1; rw [h0] at h1; cases h1
        · simp [Array.getElem?_eq_none h'] at h1
      have h2 := wpOp_putIf hoj (hfree j oj hoj hji hjun hnot) (fun cs b => hsel i oi cs b hi) (fun cs b => hsel j oj cs b hoj) hQ hy h1
      have hfree' : ∀ k ok, ops[k]? = some ok → k ≠ i → (listed.setIfInBounds j true).getD k true = false →
          (∀ e ∈ ok.after, Region.binds md e = true → e.on ≠ i) → oi.apart ops ok = true := fun k ok hk hki hun hno => by
        refine hfree k ok hk hki ?_ hno
        by_cases hjk : j = k
        · subst hjk; exact hjun
        · rw [getD_set_ne true hjk] at hun; exact hun
      refine wpOp_mono (fun a' w' h3 => ⟨h3.2.1, ?_⟩) h2
      have hw' : S' w' ∧ (rd i = true → S w') := by
        rcases hal with ⟨hf, ht⟩ | hal
        · exact ⟨ht _, fun h => by rw [hf] at h; cases h⟩
        · have hrj := h3.2.1 (alone_spec hal (mem_ready.1 hr).1 hj hji)
          rcases hS' with ⟨hf, ht⟩ | rfl
          · exact ⟨ht _, fun h => by rw [hf] at h; cases h⟩
          · exact ⟨hrj, fun _ => hrj⟩
      refine ih (listed.setIfInBounds j true) a' w' (hal.imp id alone_set) hfree' (ready_mono hr (Ne.symm hji)) h3.1 hw'.1 hw'.2 ?_
      rw [Array.setIfInBounds_comm _ _ hji]
      exact h3.2.2
/-- One that reads no world. -/
theorem wpAnyF_plain {i : Nat} {oi : Oper} {v : Value} {fuel : Nat} {listed : Array Bool} {a : Act} {w : World} (hi : ops[i]? = some oi)
    (hs : Region.noSelect ops = true) (hf : Region.free md ops listed i = true) (hr : (Region.ready md ops listed).contains i = true) (hz : (!(rd i)) = true)
    (hQ : ∀ c a w, Q (.panic c) (a.put oi.dst v) w → Q (.panic c) a w) (hy : YieldsIf P ops (fun _ => True) oi v a)
    (h : wpAnyF P md ops Q S rd fuel (listed.setIfInBounds i true) (a.put oi.dst v) w) : wpAnyF P md ops Q S rd (fuel + 1) listed a w := by
  have hf' : rd i = false := by simpa using hz
  exact wpAnyF_first (S' := fun _ => True) hi (Region.noSelect_spec hs) hQ (.inl ⟨hf', fun _ => trivial⟩) fuel listed a w (.inl ⟨hf', fun _ => trivial⟩) (Region.free_spec hi hf) (by simpa using hr) hy trivial (fun h => by rw [hf'] at h; cases h) h
/-- One that reads. -/
theorem wpAnyF_read {i : Nat} {oi : Oper} {v : Value} {fuel : Nat} {listed : Array Bool} {a : Act} {w : World} (hi : ops[i]? = some oi)
    (hs : Region.noSelect ops = true) (hf : Region.free md ops listed i = true) (hr : (Region.ready md ops listed).contains i = true) (hz : aloneB md ops rd listed i = true)
    (hQ : ∀ c a w, Q (.panic c) (a.put oi.dst v) w → Q (.panic c) a w) (hy : YieldsIf P ops S oi v a) (hS : S w)
    (h : wpAnyF P md ops Q S rd fuel (listed.setIfInBounds i true) (a.put oi.dst v) w) : wpAnyF P md ops Q S rd (fuel + 1) listed a w :=
  wpAnyF_first (S' := S) hi (Region.noSelect_spec hs) hQ (.inr rfl) fuel listed a w (.inr hz) (Region.free_spec hi hf) (by simpa using hr) hy hS (fun _ => hS) h
/-- One alone may come up. -/
theorem wpAnyF_one {i : Nat} {o : Oper} {fuel : Nat} {listed : Array Bool} {a : Act} {w : World} (hr : Region.ready md ops listed = [i]) (ho : ops[i]? = some o)
    (h : ∀ K' : Act → World → Prop, Shut (∀ a w, (rd i = true → S w) → wpAnyF P md ops Q S rd fuel (listed.setIfInBounds i true) a w → K' a w) → if Region.wanted o (yielded ops a.tmps) = true then Oper.wp P o a w K' Q else K' (a.put o.dst undef) w) :
    wpAnyF P md ops Q S rd (fuel + 1) listed a w := by
  refine ⟨fun h0 => (by rw [h0] at hr; cases hr), fun j hj => ?_⟩
  rw [hr] at hj
  obtain rfl : j = i := by simpa using hj
  exact wpOp_step ho (fun K' hK => h K' (fun a w hS hW => hK a w ⟨hS, hW⟩))
theorem wpAnyF_done {listed : Array Bool} {a : Act} {w : World} (hr : Region.ready md ops listed = []) (h : Q .normal a w) : ∀ fuel, wpAnyF P md ops Q S rd fuel listed a w
  | 0 => ⟨hr, h⟩
  | _ + 1 => ⟨fun _ => h, by rw [hr]; simp⟩
theorem wp_region_F {id : Nat} {a : Act} {w : World} (hm : P.follows .mixedOrders = true)
    (h : wpAnyF P .any ops Q S rd ops.size (Array.replicate ops.size false) a w.drew) : (Code.region id ops true).wp P Q a w :=
  wp_region_any hm (wpAny_of_F _ _ _ _ h)
end
end Go.Proofs.Ytpekbakidhfliaa
