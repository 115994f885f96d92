/-
  For the laws of token: in which token a byte lies. Condition: the tokens stand at places from 0 to 2 to the 40.
-/
import Derived.Test.YtamhlobjolnlhaaDoorKind
namespace Go.Proofs.YtamhlobjolnlhaaDoor
open Go.RowKit Go.Shelf

/-- Does the byte at the place p lie in the token? -/
def Tk.has (t : Tk) (p : Int) : Prop := t.at_ ≤ p ∧ p - t.at_ < t.text.length
set_option maxRecDepth 100000 in
set_option maxHeartbeats 8000000 in
theorem At_any (v : Value) (T : List Tk) (p : Nat) (w : World) (h1 : Toks w v T) (hT : T.length ≤ 1000000000) (hp : p ≤ 1000000000) (hb : ∀ t ∈ T, 0 ≤ t.at_ ∧ t.at_ ≤ 1000000000 ∧ t.text.length ≤ 1000000000) :
    Calls Tryd.prog 30 #[v, .int .i64 p] w fun e w' => (∃ r : Int, e = .returned (.int .i64 r) ∧ ((r = -1 ∧ ∀ t ∈ T, ¬ t.has p) ∨ ∃ (k : Nat) (t : Tk), r = k ∧ T[k]? = some t ∧ t.has p)) ∧ Below w.heap.size w w' := by
  obtain ⟨a, cap, rfl, hc, hm, hat⟩ := h1
  have Hat := Lib.hid hat; clear hat
  have Hb := Lib.hid hb; clear hb
  unfold maxLen at hm
  go_enter Tryd.func30, Tryd.ntmps30
  go_wp2_with fail
  go_loopw [9] (fun c wr => ∃ k : Nat, c = .int .i64 k ∧ k ≤ T.length ∧ Below w.heap.size w wr ∧ Hid (∀ j t, j < k → T[j]? = some t → ¬ t.has p)) (fun c _ => T.length - (intOf c).toNat)
  case atStart => exact ⟨0, rfl, by omega, Below.refl _ _, Lib.hid (fun j t h => by omega)⟩
  case round =>
    obtain ⟨k, rfl, hk, hB, hno⟩ := hrel
    by_cases hlt : k < T.length
    · obtain ⟨t, ht⟩ : ∃ t, T[k]? = some t := ⟨_, List.getElem?_eq_getElem hlt⟩
      obtain ⟨b, off, rfl, hbl, hli⟩ := Hat.out k t ht
      obtain ⟨c0, c1, c2, c3⟩ := hli.below hB hbl
      obtain ⟨x1, x2, x3⟩ := Hb.out t (List.mem_of_getElem? ht)
      have hbs := hB.size
      have hBa : Hid (Below w.heap.size w (wr.alloc (.cells #[.int .i64 t.kind, .string (bs t.text), .int .i64 t.at_, .string (bs t.lead)] 30))) := Lib.hid (hB.alloc (by omega) _)
      have z : (bs t.text).size = t.text.length := bs_size _
      have g1 : IntKind.u64.wrap (p : Int) = (p : Int) := IntWalk.u64_in _ (by omega)
      have g2 : IntKind.u64.wrap t.at_ = t.at_ := IntWalk.u64_in _ (by omega)
      have g3 : IntKind.u64.wrap (t.text.length : Int) = (t.text.length : Int) := IntWalk.u64_in _ (by omega)
      have step : ¬ t.has p → Hid (∀ j t, j < k + 1 → T[j]? = some t → ¬ t.has p) := fun h => Lib.hid (fun j u hj hu => by
        rcases Nat.lt_or_ge j k with h' | h'
        · exact hno.out j u h' hu
        · obtain rfl : j = k := by omega
          rw [ht] at hu
          cases hu
          exact h)
      have Step := Lib.hid step
      have Ht := Lib.hid ht
      clear step hli ht
      by_cases y1 : t.at_ ≤ (p : Int)
      · have d1 : decide (t.at_ ≤ (p : Int)) = true := by simpa using y1
        have g4 : IntKind.u64.wrap ((p : Int) - t.at_) = (p : Int) - t.at_ := IntWalk.u64_in _ (by omega)
        by_cases y2 : (p : Int) - t.at_ < (t.text.length : Int)
        · have d2 : decide ((p : Int) - t.at_ < (t.text.length : Int)) = true := by simpa using y2
          have hyes : Hid (t.has p) := Lib.hid ⟨y1, y2⟩
          go_wp2_with fail
          go_ret
          exact ⟨⟨k, rfl, .inr ⟨k, t, rfl, Ht.out, hyes.out⟩⟩, hBa.out⟩
        · have d2 : decide ((p : Int) - t.at_ < (t.text.length : Int)) = false := by simpa using y2
          have hn := Step.out (fun h => y2 h.2)
          go_wp2_with fail
          exact ⟨⟨k + 1, by go_num, by omega, hBa.out, hn⟩, by simp [intOf]; omega⟩
      · have d1 : decide (t.at_ ≤ (p : Int)) = false := by simpa using y1
        have hn := Step.out (fun h => y1 h.1)
        go_wp2_with fail
        exact ⟨⟨k + 1, by go_num, by omega, hBa.out, hn⟩, by simp [intOf]; omega⟩
    · obtain rfl : k = T.length := by omega
      have hall : Hid (∀ t ∈ T, ¬ t.has p) := Lib.hid (fun t ht => by
        obtain ⟨i, hi⟩ := List.mem_iff_getElem?.1 ht
        exact hno.out i t ((List.getElem?_eq_some_iff.1 hi).1) hi)
      clear hno
      go_wp2_with fail
      go_ret
      exact ⟨⟨-1, rfl, .inl ⟨rfl, hall.out⟩⟩, hB⟩
end Go.Proofs.YtamhlobjolnlhaaDoor
