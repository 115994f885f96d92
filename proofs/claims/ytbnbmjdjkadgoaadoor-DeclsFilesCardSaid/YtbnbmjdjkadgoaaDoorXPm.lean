/-
  For the laws on the parser: a node with its type and its name. Condition: the tokens are a text's.
-/
import Derived.Test.YtbnbmjdjkadgoaaDoorXPl
namespace Go.Proofs.YtbnbmjdjkadgoaaDoor.X
open Go.RowKit Go.Shelf
set_option linter.unusedSimpArgs false
set_option linter.unusedVariables false

theorem calls_gen {P : Program} {f : Nat} {args : Array Value} {W0 : World} {Q : Ending → World → Prop} (R : World → Prop) (h : R W0) (k : ∀ W, R W → Calls P f args W Q) : Calls P f args W0 Q := k _ h
theorem row_new {b : Nat} {W : World} {t : TypeId} {vs : Array Value} (h : b = W.heap.size) : RowAt (W.alloc (.cells vs t)) b t vs := by rw [h]; exact RowAt.new W t vs
set_option maxRecDepth 100000 in
set_option maxHeartbeats 8000000 in
theorem typed_any (v : Value) (h0 : Hd) (ak : Option Addr) (nk ck : Nat) (T : List Tk) (a : Nat) (ha : a + 1 < T.length) (hl : T.length ≤ 2000000) (w : World) (h : Toks w v T) :
    Calls Tryd.prog 58 #[v, .agg #[.int .i64 h0.kind, .string (bs h0.text), .string (bs h0.type), .int .i64 h0.n, .int .i64 h0.fr, .int .i64 h0.to_, .int .i64 h0.at_, .int .i64 h0.tat, .slice ak nk ck], .int .i64 (a : Nat)] w fun e w' => e = .returned (.agg #[.int .i64 (typedH T h0 a).kind, .string (bs (typedH T h0 a).text), .string (bs (typedH T h0 a).type), .int .i64 (typedH T h0 a).n, .int .i64 (typedH T h0 a).fr, .int .i64 (typedH T h0 a).to_, .int .i64 (typedH T h0 a).at_, .int .i64 (typedH T h0 a).tat, .slice ak nk ck]) ∧ Below w.heap.size w w' := by
  obtain ⟨ao, cap, rfl, hc, hcm, hat⟩ := h.get
  obtain ⟨g, off, rfl, hbl, -, x1, x2, -⟩ := hat a _ (tok_at (by omega))
  obtain ⟨g', off', hg, -, -, y1, y2, -⟩ := hat (a + 1) _ (tok_at ha)
  obtain ⟨rfl, rfl⟩ : g' = g ∧ off' = off := by cases hg; exact ⟨rfl, rfl⟩
  unfold typedH
  obtain ⟨n, hn⟩ : ∃ n, Hid (T.length = n) := ⟨_, Lib.hid rfl⟩
  rw [hn.out] at ha hc hl ⊢
  obtain ⟨t, ht⟩ : ∃ t, Hid (tokT T a = t) := ⟨_, Lib.hid rfl⟩
  obtain ⟨u, hu⟩ : ∃ t, Hid (tokT T (a + 1) = t) := ⟨_, Lib.hid rfl⟩
  rw [ht.out] at x1 x2 ⊢
  rw [hu.out] at y1 y2 ⊢
  dsimp only
  have d1 : (a : Int) < (n : Int) := by omega
  have d2 : (0 : Int) ≤ (a : Int) := by omega
  have d3 : (a : Int) + 1 < (n : Int) := by omega
  have d4 : (0 : Int) ≤ (a : Int) + 1 := by omega
  have d5 : ((a : Int) + 1).toNat = a + 1 := by omega
  clear hat hg
  go_enter Tryd.func58, Tryd.ntmps58
  go_wp2_with fail
  exact bodyPost_ret (results_cell_row (P := Tryd.prog) rfl _ _ (w.heap.size + 1) 55 _ (0, 0) _ rfl (row_new (by simp)) Tryd.underlying55 rfl rfl) rfl ⟨rfl, ((Below.refl _ w).alloc (Nat.le_refl _) _).alloc (by simp) _⟩
end Go.Proofs.YtbnbmjdjkadgoaaDoor.X
