/-
  For the laws on the parser: what a rule of the document answers, and how its answer is laid. No condition.
-/
import Derived.Test.YtbnbmjdjkadgoaaDoorXPn
namespace Go.Proofs.YtbnbmjdjkadgoaaDoor.X
open Go.RowKit Go.Shelf
set_option linter.unusedSimpArgs false
set_option linter.unusedVariables false

/-- What a rule answers: a node that rests on blocks from lo on, and the next place; or where it goes wrong. -/
def NodeIs (r : PR Nd) (lo : Nat) (e : Ending) (w' : World) : Prop :=
  match r with
  | .ok n next => ∃ (a : Option Addr) (k c : Nat) (F : Nat → Prop), e = .returned (.tuple #[.agg #[.int .i64 n.hd.kind, .string (bs n.hd.text), .string (bs n.hd.type), .int .i64 n.hd.n, .int .i64 n.hd.fr, .int .i64 n.hd.to_, .int .i64 n.hd.at_, .int .i64 n.hd.tat, .slice a k c], .int .i64 (next : Nat), .agg #[.int .i64 (-1), .int .i64 0]]) ∧ Sup w' lo n.kids (.slice a k c) F
  | .bad p c => e = .returned (.tuple #[.agg #[.int .i64 0, .string ⟨#[]⟩, .string ⟨#[]⟩, .int .i64 0, .int .i64 0, .int .i64 0, .int .i64 0, .int .i64 0, .slice none 0 0], .int .i64 0, .agg #[.int .i64 (p : Nat), .int .i64 c]])
theorem wp_gen {P : Program} {c : Code} {Q : Exit → Act → World → Prop} {a : Act} {W0 : World} (R : World → Prop) (h : R W0) (k : ∀ W, R W → c.wp P Q a W) : c.wp P Q a W0 := k _ h
/-- Nine cells and two, stored one after the other. -/
theorem both_rows {U : World} {G H : Nat} {a b c d e f g h i x y : Value} (RG : RowAt U G 55 #[a, b, c, d, e, f, g, h, i]) (RH : RowAt U H 68 #[x, y]) (hne : G ≠ H) (h2 : Hd) (kv : Value) (p q : Int) {V : World} (hV : ((((((((((U.setCell ⟨G, 0, none⟩ (.int .i64 h2.kind)).setCell ⟨G, 1, none⟩ (.string (bs h2.text))).setCell ⟨G, 2, none⟩ (.string (bs h2.type))).setCell ⟨G, 3, none⟩ (.int .i64 h2.n)).setCell ⟨G, 4, none⟩ (.int .i64 h2.fr)).setCell ⟨G, 5, none⟩ (.int .i64 h2.to_)).setCell ⟨G, 6, none⟩ (.int .i64 h2.at_)).setCell ⟨G, 7, none⟩ (.int .i64 h2.tat)).setCell ⟨G, 8, none⟩ kv).setCell ⟨H, 0, none⟩ (.int .i64 p)).setCell ⟨H, 1, none⟩ (.int .i64 q) = V) :
    RowAt V G 55 (h2.vals kv) ∧ RowAt V H 68 #[.int .i64 p, .int .i64 q] ∧ V.heap.size = U.heap.size ∧ (∀ b, b ≠ G → b ≠ H → V.heap[b]? = U.heap[b]?) ∧ ∀ B, B ≤ G → B ≤ H → Below B U V := by
  obtain ⟨n1, n2⟩ := nine RG h2 kv
  have rh := ((RowAt.same RH (n2.other H (Ne.symm hne))).set 0 (.int .i64 p)).set 1 (.int .i64 q)
  subst hV
  refine ⟨(n1.other hne 0 _).other hne 1 _, rh, ?_, fun b h1 h2 => ?_, fun B h1 h2 => ?_⟩
  · simp [World.setCell]
  · exact (Below.heap_setCell _ _ _ b (by simpa using h2)).trans ((Below.heap_setCell _ _ _ b (by simpa using h2)).trans (n2.other b h1))
  · exact ((n2.below B h1).setCell (p := ⟨H, 0, none⟩) h2 _).setCell (p := ⟨H, 1, none⟩) h2 _
theorem both_rows_d {U : World} {G H : Nat} {a b c d e f g h i x y : Value} (RG : RowAt U G 55 #[a, b, c, d, e, f, g, h, i]) (RH : RowAt U H 68 #[x, y]) (hne : G ≠ H) (h2 : Hd) (kv : Value) (p q : Int) {V : World} (hV : (((((((((((U.setCell ⟨G, 0, none⟩ (.int .i64 h2.kind)).setCell ⟨G, 1, none⟩ (.string (bs h2.text))).setCell ⟨G, 2, none⟩ (.string (bs h2.type))).setCell ⟨G, 3, none⟩ (.int .i64 h2.n)).setCell ⟨G, 4, none⟩ (.int .i64 h2.fr)).setCell ⟨G, 5, none⟩ (.int .i64 h2.to_)).setCell ⟨G, 6, none⟩ (.int .i64 h2.at_)).setCell ⟨G, 7, none⟩ (.int .i64 h2.tat)).setCell ⟨G, 8, none⟩ kv).setCell ⟨H, 0, none⟩ (.int .i64 p)).setCell ⟨H, 1, none⟩ (.int .i64 q)).drew = V) :
    RowAt V G 55 (h2.vals kv) ∧ RowAt V H 68 #[.int .i64 p, .int .i64 q] ∧ V.heap.size = U.heap.size ∧ (∀ b, b ≠ G → b ≠ H → V.heap[b]? = U.heap[b]?) ∧ ∀ B, B ≤ G → B ≤ H → Below B U V := by
  generalize hV0 : ((((((((((U.setCell ⟨G, 0, none⟩ (.int .i64 h2.kind)).setCell ⟨G, 1, none⟩ (.string (bs h2.text))).setCell ⟨G, 2, none⟩ (.string (bs h2.type))).setCell ⟨G, 3, none⟩ (.int .i64 h2.n)).setCell ⟨G, 4, none⟩ (.int .i64 h2.fr)).setCell ⟨G, 5, none⟩ (.int .i64 h2.to_)).setCell ⟨G, 6, none⟩ (.int .i64 h2.at_)).setCell ⟨G, 7, none⟩ (.int .i64 h2.tat)).setCell ⟨G, 8, none⟩ kv).setCell ⟨H, 0, none⟩ (.int .i64 p)).setCell ⟨H, 1, none⟩ (.int .i64 q) = V0 at hV
  obtain ⟨k1, k2, k3, k4, k5⟩ := both_rows RG RH hne h2 kv p q hV0
  subst hV
  exact ⟨k1, k2, k3, k4, fun B h1 h2 => below_drew (k5 B h1 h2)⟩
set_option maxRecDepth 100000 in
/-- The body ends: its node and its mistake lie in their cells. -/
theorem fin_node {fn : Func} (pG u pH : Tmp) (hr : fn.results = #[.cell pG 55, .tmp u, .cell pH 68]) {tmps : Array Value} {V : World} {G H : Nat} {h : Hd} {kv : Value} {p q : Int}
    (hG : tmps.getD pG undef = .pointer (some ⟨G, 0, none⟩)) (hH : tmps.getD pH undef = .pointer (some ⟨H, 0, none⟩)) (RG : RowAt V G 55 (h.vals kv)) (RH : RowAt V H 68 #[.int .i64 p, .int .i64 q]) {Q : Ending → World → Prop}
    (hQ : Q (.returned (.tuple #[.agg (h.vals kv), tmps.getD u undef, .agg #[.int .i64 p, .int .i64 q]])) V) : bodyPost Tryd.prog fn Q .ret { tmps := tmps, defers := [] } V :=
  bodyPost_ret (results_ctc (P := Tryd.prog) hr tmps V G H 55 68 _ _ (0, 0) (0, 0) _ _ hG RG Tryd.underlying55 rfl rfl hH RH Tryd.underlying68 rfl rfl) rfl hQ
/-- A row of nodes that was laid whole, each at rest on blocks of its own. -/
theorem own_build {W : World} {base K : Nat} {ps : List Pr} (h : RowAt W K 55 (fv ps).toArray) (hb : base ≤ K) (hl : ps.length ≤ maxLen) (hs : ∀ p ∈ ps, ∃ F, Sup W base p.1.kids p.2 F ∧ ∀ b, F b → b ≠ K) : OwnS base W (.slice (some ⟨K, 0, none⟩) ps.length ps.length) ps := by
  have hk : W.heap[K]? = some (.cells (fv ps).toArray 55 (0, 0)) := h
  refine ⟨⟨?_, .inr ⟨K, ps.length, (fv ps).toArray, rfl, hb, hk, Nat.le_refl _, hl, ?_, ?_⟩⟩, Nat.le_trans hb (Nat.le_of_lt h.lt), fun p hp => ?_⟩
  · rw [fv_len]
  · simp [fv_len]
  · rw [List.take_of_length_le (by simp [fv_len])]
  · obtain ⟨F, h1, h2⟩ := hs p hp
    exact ⟨F, h1, fun b hF e => h2 b hF (by simpa [Value.ownBlock] using e.symm)⟩
theorem nineC {V : World} {b : Nat} {a0 a1 a2 a3 a4 a5 a6 a7 a8 : Value} (R : RowAt V b 55 #[a0, a1, a2, a3, a4, a5, a6, a7, a8]) : V.cell? ⟨b, 0, none⟩ = some a0 ∧ V.cell? ⟨b, 1, none⟩ = some a1 ∧ V.cell? ⟨b, 2, none⟩ = some a2 ∧ V.cell? ⟨b, 3, none⟩ = some a3 ∧ V.cell? ⟨b, 4, none⟩ = some a4 ∧ V.cell? ⟨b, 5, none⟩ = some a5 ∧ V.cell? ⟨b, 6, none⟩ = some a6 ∧ V.cell? ⟨b, 7, none⟩ = some a7 ∧ V.cell? ⟨b, 8, none⟩ = some a8 :=
  ⟨R.cell rfl, R.cell rfl, R.cell rfl, R.cell rfl, R.cell rfl, R.cell rfl, R.cell rfl, R.cell rfl, R.cell rfl⟩
/-- What a row of nodes rests on. -/
theorem sup_row {W : World} {base K : Nat} {ps : List Pr} {P : Nat → Prop} (h : RowAt W K 55 (fv ps).toArray) (hb : base ≤ K) (hl : ps.length ≤ maxLen) (hP : P K) (hs : ∀ p ∈ ps, ∃ F, Sup W base p.1.kids p.2 F ∧ ∀ b, F b → P b) :
    ∃ F, Sup W base (ps.map (·.1)) (.slice (some ⟨K, 0, none⟩) ps.length ps.length) F ∧ ∀ b, F b → P b := by
  refine ⟨fun b => b = K ∨ ∃ p ∈ ps, ∃ F, (Sup W base p.1.kids p.2 F ∧ ∀ c, F c → P c) ∧ F b, ⟨fun b hb' => ?_, fun V hV => ?_⟩, fun b hb' => ?_⟩
  · rcases hb' with rfl | ⟨p, hp, F, hF, hb'⟩
    · exact ⟨hb, h.lt⟩
    · exact hF.1.1 b hb'
  · have hkk : ∀ p ∈ ps, KidsAt V p.1.kids p.2 := fun p hp => by
      obtain ⟨F, hF⟩ := hs p hp
      exact hF.1.2 V fun b hb' => hV b (.inr ⟨p, hp, F, hF, hb'⟩)
    have hgV : RowAt V K 55 (fv ps).toArray := (hV K (.inl rfl)).trans h
    refine KidsAt.of_rows (Nat.le_refl _) hl fun k p hkp => ⟨K, 0, rfl, ?_, hkk p (List.mem_of_getElem? hkp)⟩
    have cell : ∀ j, j < 9 → V.cell? ⟨K, 0 + k * 9 + j, none⟩ = (rowP p)[j]? := fun j hj => by
      have e := fv_get hkp j hj
      cases hx : (rowP p)[j]? with
      | none => rw [List.getElem?_eq_none_iff, rowP_len] at hx; omega
      | some x =>
        rw [hx] at e
        rw [Nat.zero_add]
        exact hgV.cell (by simpa using e)
    exact ⟨cell 0 (by omega), cell 1 (by omega), cell 2 (by omega), cell 3 (by omega), cell 4 (by omega), cell 5 (by omega), cell 6 (by omega), cell 7 (by omega), cell 8 (by omega)⟩
  · rcases hb' with rfl | ⟨p, hp, F, hF, hb'⟩
    · exact hP
    · exact hF.2 b hb'
/-- Where the tokens lie. -/
theorem Toks.fix {w : World} {v : Value} {T : List Tk} (h : Toks w v T) (h0 : 0 < T.length) : ∃ (tb to_ cap : Nat), v = .slice (some ⟨tb, to_, none⟩) T.length cap ∧ T.length ≤ cap ∧ cap ≤ maxLen ∧ ∀ W, Below w.heap.size w W → ∀ k, k < T.length → W.cell? ⟨tb, to_ + k * 4, none⟩ = some (.int .i64 (tokT T k).kind) ∧ W.cell? ⟨tb, to_ + k * 4 + 1, none⟩ = some (.string (bs (tokT T k).text)) ∧ W.cell? ⟨tb, to_ + k * 4 + 2, none⟩ = some (.int .i64 (tokT T k).at_) := by
  obtain ⟨a, cap, rfl, hc, hm, hx⟩ := h.get
  obtain ⟨tb, to_, rfl, hb, -⟩ := hx 0 _ (tok_at h0)
  refine ⟨tb, to_, cap, rfl, hc, hm, fun W hW k hk => ?_⟩
  obtain ⟨b, off, e, hbl, c0, c1, c2, -⟩ := hx k _ (tok_at hk)
  obtain ⟨rfl, rfl⟩ : tb = b ∧ to_ = off := by cases e; exact ⟨rfl, rfl⟩
  exact ⟨(hW.cell (p := ⟨tb, to_ + k * 4, none⟩) hbl).trans c0, (hW.cell (p := ⟨tb, to_ + k * 4 + 1, none⟩) hbl).trans c1, (hW.cell (p := ⟨tb, to_ + k * 4 + 2, none⟩) hbl).trans c2⟩
theorem made_at (v : Value) (ak : Option Addr) (nk ck : Nat) (T : List Tk) (hT : GoodT T) (kind : Int) (a b : Nat) (ha : a < T.length) (hb1 : 1 ≤ b) (hb : b ≤ T.length) (w : World) (h : Toks w v T) :
    Calls Tryd.prog 45 #[v, .int .i64 kind, .int .i64 (a : Nat), .int .i64 (b : Nat), .slice ak nk ck] w fun e w' => e = .returned (.agg #[.int .i64 (madeH T kind a b).kind, .string (bs (madeH T kind a b).text), .string (bs (madeH T kind a b).type), .int .i64 (madeH T kind a b).n, .int .i64 (madeH T kind a b).fr, .int .i64 (madeH T kind a b).to_, .int .i64 (madeH T kind a b).at_, .int .i64 (madeH T kind a b).tat, .slice ak nk ck]) ∧ Below w.heap.size w w' := by
  obtain ⟨b0, rfl⟩ : ∃ b0, b = b0 + 1 := ⟨b - 1, by omega⟩
  exact made_any v ak nk ck T hT kind a b0 ha (by omega) w h
theorem sup_low {W : World} {lo lo' : Nat} {ks : List Nd} {v : Value} {F : Nat → Prop} (h : Sup W lo ks v F) (hl : lo' ≤ lo) : Sup W lo' ks v F := ⟨fun b hb => ⟨Nat.le_trans hl (h.1 b hb).1, (h.1 b hb).2⟩, h.2⟩
theorem sup_past {W V : World} {lo lo' G H : Nat} {ks : List Nd} {v : Value} {F : Nat → Prop} (h : Sup W lo ks v F) (hs : V.heap.size = W.heap.size) (hb : ∀ b, b ≠ G → b ≠ H → V.heap[b]? = W.heap[b]?) (h1 : G < lo) (h2 : H < lo) (hl : lo' ≤ lo) : Sup V lo' ks v F :=
  sup_low (h.keep (Nat.le_of_eq hs.symm) fun b hF => hb b (by have := (h.1 b hF).1; omega) (by have := (h.1 b hF).1; omega)) hl
end Go.Proofs.YtbnbmjdjkadgoaaDoor.X
