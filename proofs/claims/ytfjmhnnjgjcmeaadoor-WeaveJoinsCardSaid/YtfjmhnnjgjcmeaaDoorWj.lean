/-
  For the laws of weave: three texts woven over their lines, and over their tokens. Condition: texts of at most 1,999 bytes.
-/
import Derived.Test.YtfjmhnnjgjcmeaaDoorWi
namespace Go.Proofs.YtfjmhnnjgjcmeaaDoor
open Go.RowKit Go.Shelf
set_option linter.unusedSimpArgs false
set_option linter.unusedVariables false

/-- The parts over lines. -/
def linesP (o a b : ByteArray) : List Pt := wovenP (S.lns o) (S.lns a) (S.lns b)
/-- The parts over tokens, and whether there are any. -/
def toksP (o a b : ByteArray) : List Pt × Bool := wovenQ (unitsP (tl o)) (unitsP (tl a)) (unitsP (tl b))
def Gives2 (w : World) (L : List Pt) (e : Ending) (w' : World) : Prop := ∃ v, e = .returned v ∧ Prts w' v L ∧ Below w.heap.size w w'
theorem unitsP_len (s : ByteArray) : (unitsP (tl s)).1.length ≤ s.size + 1 := by
  unfold unitsP
  split
  · have := lexR_len _ (tl s) 0 (Nat.le_refl _)
    rw [tl_length] at this
    simpa using this
  · simp
theorem unitsP_mem (s : ByteArray) : ∀ x ∈ (unitsP (tl s)).1, x.size ≤ s.size := by
  unfold unitsP
  split
  · intro x hx
    obtain ⟨t, ht, rfl⟩ := List.mem_map.1 hx
    have h := lexR_mem _ (tl s) 0 (Nat.le_refl _) t ht
    rw [tl_length] at h
    have e : (unitT t).size = t.lead.length + t.text.length := by
      show (X.bs t.lead ++ X.bs t.text).size = _
      rw [ByteArray.size_append, X.bs_size, X.bs_size]
    omega
  · intro x hx
    cases hx
set_option maxRecDepth 100000 in
theorem Lines_any (o a b : ByteArray) (w : World) (h1 : o.size ≤ 1999) (h2 : a.size ≤ 1999) (h3 : b.size ≤ 1999) : Calls Tryd.prog 12 #[.string o, .string a, .string b] w (Gives2 w (linesP o a b)) := by
  have C1 := Lib.hid (woven20_any w o a b (S.lns o, true) (S.lns a, true) (S.lns b, true) (fun W _ => lines_any o W (by omega)) (fun W _ => lines_any a W (by omega)) (fun W _ => lines_any b W (by omega))
    (Nat.le_trans (S.lns_len o) (by omega)) (Nat.le_trans (S.lns_len a) (by omega)) (Nat.le_trans (S.lns_len b) (by omega)) (fun s hs => Nat.le_trans (lns_small o s hs) (by omega)) (fun s hs => Nat.le_trans (lns_small a s hs) (by omega)) (fun s hs => Nat.le_trans (lns_small b s hs) (by omega)))
  have C2 : Hid (Calls Tryd.prog 19 #[.func (.func 20) #[.string o] #[], .func (.func 20) #[.string a] #[], .func (.func 20) #[.string b] #[]] w fun e w' => ∃ v, e = .returned (.tuple #[v, .bool true]) ∧ Prts w' v (linesP o a b) ∧ Below w.heap.size w w') := C1
  clear C1
  obtain ⟨R, hR⟩ : ∃ R, Hid (linesP o a b = R) := ⟨_, Lib.hid rfl⟩
  rw [hR.out] at C2 ⊢
  go_enter Tryd.func12, Tryd.ntmps12
  go_wp2_with fail
  refine C2.out.mono ?_
  rintro e w1 ⟨v, rfl, hv, hb⟩
  have Hv := Lib.hid hv
  have Hb := Lib.hid hb
  obtain ⟨r, c, rfl, -⟩ := hv
  clear hb
  go_wp2_with fail
  go_ret
  exact ⟨_, rfl, Hv.out, Hb.out⟩
set_option maxRecDepth 100000 in
theorem Tokens_any (o a b : ByteArray) (w : World) (hW : X.LexW w) (hs : 4 ≤ w.heap.size) (h1 : o.size ≤ 1999) (h2 : a.size ≤ 1999) (h3 : b.size ≤ 1999) : Calls Tryd.prog 15 #[.string o, .string a, .string b] w fun e w' => ∃ v, e = .returned (.tuple #[v, .bool (toksP o a b).2]) ∧ Prts w' v (toksP o a b).1 ∧ Below w.heap.size w w' := by
  have C1 := Lib.hid (woven21_any w o a b (unitsP (tl o)) (unitsP (tl a)) (unitsP (tl b)) (fun W h => tokens_any o W (hW.below h hs) (by omega)) (fun W h => tokens_any a W (hW.below h hs) (by omega)) (fun W h => tokens_any b W (hW.below h hs) (by omega))
    (Nat.le_trans (unitsP_len o) (by omega)) (Nat.le_trans (unitsP_len a) (by omega)) (Nat.le_trans (unitsP_len b) (by omega)) (fun s hs => Nat.le_trans (unitsP_mem o s hs) (by omega)) (fun s hs => Nat.le_trans (unitsP_mem a s hs) (by omega)) (fun s hs => Nat.le_trans (unitsP_mem b s hs) (by omega)))
  have C2 : Hid (Calls Tryd.prog 19 #[.func (.func 21) #[.string o] #[], .func (.func 21) #[.string a] #[], .func (.func 21) #[.string b] #[]] w fun e w' => ∃ v, e = .returned (.tuple #[v, .bool (toksP o a b).2]) ∧ Prts w' v (toksP o a b).1 ∧ Below w.heap.size w w') := C1
  clear C1
  obtain ⟨⟨R, t⟩, hR⟩ : ∃ R, Hid (toksP o a b = R) := ⟨_, Lib.hid rfl⟩
  rw [hR.out] at C2 ⊢
  dsimp only at C2 ⊢
  go_enter Tryd.func15, Tryd.ntmps15
  go_wp2_with fail
  refine C2.out.mono ?_
  rintro e w1 ⟨v, rfl, hv, hb⟩
  have Hv := Lib.hid hv
  have Hb := Lib.hid hb
  obtain ⟨r, c, rfl, -⟩ := hv
  clear hb
  go_wp2_with fail
  go_ret2
  exact ⟨_, rfl, Hv.out, Hb.out⟩
end Go.Proofs.YtfjmhnnjgjcmeaaDoor
/-
  For the laws of weave: texts of few bytes; what a woven row of parts holds. No condition.
-/
namespace Go.Proofs.YtfjmhnnjgjcmeaaDoor
open Go.RowKit Go.Shelf
set_option linter.unusedSimpArgs false
set_option linter.unusedVariables false

def fewB (o a b : ByteArray) : Bool := decide (o.size ≤ 600) && decide (a.size ≤ 600) && decide (b.size ≤ 600)
set_option maxRecDepth 100000 in
theorem few_any (o a b : ByteArray) (w : World) : Calls Tryd.prog 7 #[.string o, .string a, .string b] w fun e w' => e = .returned (.bool (fewB o a b)) ∧ w' = w := by
  unfold fewB
  obtain ⟨n1, hn1⟩ : ∃ n, o.size = n := ⟨_, rfl⟩
  obtain ⟨n2, hn2⟩ : ∃ n, a.size = n := ⟨_, rfl⟩
  obtain ⟨n3, hn3⟩ : ∃ n, b.size = n := ⟨_, rfl⟩
  rw [hn1, hn2, hn3]
  rcases Nat.lt_or_ge 600 n1 with h1 | h1
  · have d1 : decide (n1 ≤ 600) = false := decide_eq_false (by omega)
    have e1 : decide ((n1 : Int) ≤ 600) = false := decide_eq_false (by omega)
    rw [d1]
    go_enter Tryd.func7, Tryd.ntmps7
    go_wp2_with fail
    go_ret
    exact ⟨rfl, rfl⟩
  · have d1 : decide (n1 ≤ 600) = true := decide_eq_true h1
    have e1 : decide ((n1 : Int) ≤ 600) = true := decide_eq_true (by omega)
    rw [d1]
    rcases Nat.lt_or_ge 600 n2 with h2 | h2
    · have d2 : decide (n2 ≤ 600) = false := decide_eq_false (by omega)
      have e2 : decide ((n2 : Int) ≤ 600) = false := decide_eq_false (by omega)
      rw [d2]
      go_enter Tryd.func7, Tryd.ntmps7
      go_wp2_with fail
      go_ret
      exact ⟨rfl, rfl⟩
    · have d2 : decide (n2 ≤ 600) = true := decide_eq_true h2
      have e2 : decide ((n2 : Int) ≤ 600) = true := decide_eq_true (by omega)
      rw [d2]
      rcases Nat.lt_or_ge 600 n3 with h3 | h3
      · have d3 : decide (n3 ≤ 600) = false := decide_eq_false (by omega)
        have e3 : decide ((n3 : Int) ≤ 600) = false := decide_eq_false (by omega)
        rw [d3]
        go_enter Tryd.func7, Tryd.ntmps7
        go_wp2_with fail
        go_ret
        exact ⟨rfl, rfl⟩
      · have d3 : decide (n3 ≤ 600) = true := decide_eq_true h3
        have e3 : decide ((n3 : Int) ≤ 600) = true := decide_eq_true (by omega)
        rw [d3]
        go_enter Tryd.func7, Tryd.ntmps7
        go_wp2_with fail
        go_ret
        exact ⟨rfl, rfl⟩
end Go.Proofs.YtfjmhnnjgjcmeaaDoor
