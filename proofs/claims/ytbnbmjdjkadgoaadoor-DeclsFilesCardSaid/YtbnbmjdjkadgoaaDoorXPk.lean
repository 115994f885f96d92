/-
  For the laws on the parser: the document's small rules: what a token is, and a node that is made. Condition: at most 1,048,577 tokens, each of which lies within a text of 1,048,576 bytes.
-/
import Derived.Test.YtbnbmjdjkadgoaaDoorXPa
import Derived.StillTailTactics
namespace Go.Proofs.YtbnbmjdjkadgoaaDoor.X
open Go.RowKit Go.Shelf
set_option linter.unusedSimpArgs false
set_option linter.unusedVariables false

theorem results_ctc {P : Program} {fn : Func} {p u q : Tmp} {ty ty2 : TypeId} (h : fn.results = #[.cell p ty, .tmp u, .cell q ty2]) (tmps : Array Value) (w : World) (g g2 : Nat) (t t2 : TypeId) (cs cs2 : Array Value) (fr fr2 : Nat × Nat) (d d2 : TypeDesc)
    (hp : tmps.getD p undef = .pointer (some ⟨g, 0, none⟩)) (hg : w.heap[g]? = some (.cells cs t fr))
    (hu : P.underlying ty = some d) (hd : (match d with | .struct _ | .array _ _ => true | _ => false) = true) (hi : (P.info? ty).map (·.size) = some cs.size)
    (hp2 : tmps.getD q undef = .pointer (some ⟨g2, 0, none⟩)) (hg2 : w.heap[g2]? = some (.cells cs2 t2 fr2))
    (hu2 : P.underlying ty2 = some d2) (hd2 : (match d2 with | .struct _ | .array _ _ => true | _ => false) = true) (hi2 : (P.info? ty2).map (·.size) = some cs2.size) :
    (results fn tmps).run P w = .ok (.tuple #[.agg cs, tmps.getD u undef, .agg cs2]) w := by
  have e : (results fn tmps).run P w = ((asAddr (tmps.getD p undef)).run P w).andThen fun a w₁ => ((loadVar ty a).run P w₁).andThen fun v w₂ => ((asAddr (tmps.getD q undef)).run P w₂).andThen fun a2 w₃ => ((loadVar ty2 a2).run P w₃).andThen fun v2 w₄ => .ok (.tuple #[v, tmps.getD u undef, v2]) w₄ := by
    simp only [results, h]
    simp [Sem.run_bind, Result.andThen]
  rw [e, hp]
  simp only [asAddr, Sem.run_pure, Result.andThen, run_loadVar_row w g t ty cs fr d hg hu hd hi, hp2, run_loadVar_row w g2 t2 ty2 cs2 fr2 d2 hg2 hu2 hd2 hi2]
theorem results_ttc {P : Program} {fn : Func} {p u q : Tmp} {ty2 : TypeId} (h : fn.results = #[.tmp p, .tmp u, .cell q ty2]) (tmps : Array Value) (w : World) (g2 : Nat) (t2 : TypeId) (cs2 : Array Value) (fr2 : Nat × Nat) (d2 : TypeDesc)
    (hp2 : tmps.getD q undef = .pointer (some ⟨g2, 0, none⟩)) (hg2 : w.heap[g2]? = some (.cells cs2 t2 fr2))
    (hu2 : P.underlying ty2 = some d2) (hd2 : (match d2 with | .struct _ | .array _ _ => true | _ => false) = true) (hi2 : (P.info? ty2).map (·.size) = some cs2.size) :
    (results fn tmps).run P w = .ok (.tuple #[tmps.getD p undef, tmps.getD u undef, .agg cs2]) w := by
  have e : (results fn tmps).run P w = ((asAddr (tmps.getD q undef)).run P w).andThen fun a2 w₃ => ((loadVar ty2 a2).run P w₃).andThen fun v2 w₄ => .ok (.tuple #[tmps.getD p undef, tmps.getD u undef, v2]) w₄ := by
    simp only [results, h]
    simp [Sem.run_bind, Result.andThen]
  rw [e]
  simp only [asAddr, Sem.run_pure, Result.andThen, hp2, run_loadVar_row w g2 t2 ty2 cs2 fr2 d2 hg2 hu2 hd2 hi2]
/-- The tokens of a text: few, and each within it. -/
structure GoodT (T : List Tk) : Prop where
  e : GoodE T
  len : T.length ≤ 1048577
  tk : ∀ t ∈ T, TkOk 0 1048576 t
theorem Toks.get {W : World} {v : Value} {T : List Tk} (h : Toks W v T) : ∃ (a : Option Addr) (cap : Nat), v = .slice a T.length cap ∧ T.length ≤ cap ∧ cap ≤ maxLen ∧ ∀ k (t : Tk), T[k]? = some t → ∃ b off, a = some ⟨b, off, none⟩ ∧ b < W.heap.size ∧ W.cell? ⟨b, off + k * 4, none⟩ = some (.int .i64 t.kind) ∧ W.cell? ⟨b, off + k * 4 + 1, none⟩ = some (.string (bs t.text)) ∧ W.cell? ⟨b, off + k * 4 + 2, none⟩ = some (.int .i64 t.at_) ∧ W.cell? ⟨b, off + k * 4 + 3, none⟩ = some (.string (bs t.lead)) := by
  obtain ⟨a, cap, e, h1, h2, hx⟩ := h
  exact ⟨a, cap, e, h1, h2, fun k t hk => by
    obtain ⟨b, off, h3, h4, h5, h6, h7, h8⟩ := hx k t hk
    exact ⟨b, off, h3, h4, h5, h6, h7, h8⟩⟩
theorem Toks.below {W W' : World} {v : Value} {T : List Tk} (h : Toks W v T) (hb : Below W.heap.size W W') : Toks W' v T := by
  obtain ⟨a, cap, rfl, hc, hm, hx⟩ := h
  refine ⟨a, cap, rfl, hc, hm, fun k t hk => ?_⟩
  obtain ⟨b, off, rfl, hl, h1, h2, h3, h4⟩ := hx k t hk
  exact ⟨b, off, rfl, by have := hb.size; omega, (hb.cell (p := ⟨b, off + k * 4, none⟩) hl).trans h1, (hb.cell (p := ⟨b, off + k * 4 + 1, none⟩) hl).trans h2, (hb.cell (p := ⟨b, off + k * 4 + 2, none⟩) hl).trans h3, (hb.cell (p := ⟨b, off + k * 4 + 3, none⟩) hl).trans h4⟩
theorem tok_at {T : List Tk} {a : Nat} (h : a < T.length) : T[a]? = some (tokT T a) := by
  unfold tokT
  rw [List.getElem?_eq_getElem h]; rfl
set_option maxRecDepth 100000 in
set_option maxHeartbeats 4000000 in
theorem is_any (v : Value) (T : List Tk) (a : Nat) (s : ByteArray) (w : World) (h : Toks w v T) : Calls Tryd.prog 41 #[v, .int .i64 (a : Nat), .string s] w fun e w' => e = .returned (.bool (isT T a (tl s))) ∧ w' = w := by
  obtain ⟨ao, cap, rfl, hc, hcm, hat⟩ := h.get
  unfold maxLen at hcm
  obtain ⟨n, hn⟩ : ∃ n, Hid (T.length = n) := ⟨_, Lib.hid rfl⟩
  rw [hn.out] at hc ⊢
  rcases Nat.lt_or_ge a n with hlt | hlt
  · have ht := tok_at (T := T) (a := a) (by rw [hn.out]; exact hlt)
    obtain ⟨b, off, rfl, hbl, c0, c1, c2, c3⟩ := hat a _ ht
    obtain ⟨t, htt⟩ : ∃ t, Hid (tokT T a = t) := ⟨_, Lib.hid rfl⟩
    rw [htt.out] at ht c0 c1
    have d1 : (a : Int) < (n : Int) := by omega
    have d2 : (0 : Int) ≤ (a : Int) := by omega
    have d3 : decide (a < n) = true := decide_eq_true hlt
    have hr : isT T a (tl s) = (decide (t.text = tl s) && !decide (t.kind = 1) && !decide (t.kind = 5)) := by unfold isT; rw [ht]
    rw [hr]
    obtain ⟨x, hx⟩ : ∃ x, Hid (bs t.text = x) := ⟨_, Lib.hid rfl⟩
    obtain ⟨k, hk⟩ : ∃ k, Hid (t.kind = k) := ⟨_, Lib.hid rfl⟩
    have e1 : (x.toList == s.toList) = decide (t.text = tl s) := by
      rw [bs_beq, Lib.toList_data, ← hx.out]
    rw [hx.out] at c1
    rw [hk.out] at c0 ⊢
    have e2 : (k == 1) = decide (k = 1) := Bool.beq_eq_decide_eq _ _
    have e3 : (k == 5) = decide (k = 5) := Bool.beq_eq_decide_eq _ _
    clear hr ht hat c2 c3 hlt
    generalize decide (t.text = tl s) = q1 at *
    generalize decide (k = 1) = q2 at *
    generalize decide (k = 5) = q3 at *
    have e4 : (k != 1) = !q2 := by rw [bne, e2]
    have e5 : (k != 5) = !q3 := by rw [bne, e3]
    cases q1 <;> cases q2 <;> cases q3 <;> simp only [Bool.not_true, Bool.not_false] at e4 e5
    all_goals
      go_enter Tryd.func41, Tryd.ntmps41
      go_wp2_with fail
      go_ret
      exact ⟨rfl, rfl⟩
  · have d3 : decide (a < n) = false := decide_eq_false (by omega)
    have d1 : decide ((a : Int) < (n : Int)) = false := decide_eq_false (by omega)
    have hr : isT T a (tl s) = false := by unfold isT; rw [List.getElem?_eq_none (by rw [hn.out]; exact hlt)]
    rw [hr]
    go_enter Tryd.func41, Tryd.ntmps41
    go_wp2_with fail
    go_ret
    exact ⟨rfl, rfl⟩
end Go.Proofs.YtbnbmjdjkadgoaaDoor.X
