/-
  For the laws of flow: append of nodes at a step of a region that draws its order; a cut behind a region. No condition.
-/
import Derived.Test.YtbnbmjdjkadgoaaFLw
import Derived.Deep.RegionHeldLaw
import Derived.Deep.AppendLies
namespace Go.Proofs.Ytbnbmjdjkadgoaa.F
open Go.RowKit Go.Shelf
set_option linter.unusedSimpArgs false
set_option linter.unusedVariables false
set_option maxRecDepth 100000

theorem wp_cut {P : Program} {c : Code} {Q : Exit → Act → World → Prop} {a : Act} {w : World} (R : Act → Act → World → Prop) (h1 : c.wp P (fun e a' w' => match e with | .normal => R a a' w' | _ => False) a w) (h2 : ∀ a' w', R a a' w' → Q .normal a' w') : c.wp P Q a w :=
  Code.wp_mono (fun e a' w' h => by
    cases e with
    | normal => exact h2 a' w' h
    | _ => exact h.elim) h1
theorem heap_al (W : World) (o : Obj) : (W.alloc o).heap = W.heap.push o := rfl
theorem heap_dr (W : World) : W.drew.heap = W.heap := rfl
theorem own0 {W : World} {g base : Nat} (h : RowAt W g 44 #[]) (hb : base ≤ g) : W.ownsRow base 44 9 (.slice (some ⟨g, 0, none⟩) 0 0) 0 (fv []) :=
  ⟨rfl, .inr ⟨g, 0, #[], rfl, hb, h, Nat.le_refl _, by simp [maxLen], rfl, rfl⟩⟩
theorem step_append_nodes {W : World} {ops : Array Oper} {o : Oper} {a : Act} {K : Act → World → Prop} {Q : Exit → Act → World → Prop} {E : Prop} (hgd : o.guard = none) (s x : Operand)
    (ho : o.op = .call { callee := .builtin .append, args := #[s, x], argTypes := #[42, 42] }) (base g n cp : Nat)
    (hs : a.eval s = .slice (some ⟨g, 0, none⟩) n cp) (ps qs : List Pr) (ad : Option Addr) (m cap : Nat) (hx : a.eval x = .slice ad m cap) (hown : W.ownsRow base 44 9 (.slice (some ⟨g, 0, none⟩) n cp) n (fv ps)) (hpn : ps.length = n) (hm : qs.length = m) (hst : RowP W ad qs)
    (hone : ∀ p ∈ qs, p.2.oneCell' = true) (N : Nat) (hN : n + m = N) (hn : n + m ≤ 5000000) (hbase : base ≤ W.heap.size)
    (h : ∀ g' cp' w', w'.ownsRow base 44 9 (.slice (some ⟨g', 0, none⟩) N cp') N (fv (ps ++ qs)) → W.grownBy w' (some g) → (g' = g ∨ g' = W.heap.size) → K (a.put o.dst (.slice (some ⟨g', 0, none⟩) N cp')) w') :
    if Region.wanted o (yielded ops a.tmps) = true then Oper.wp Try.prog o a W K Q else E := by
  subst hN
  have hw : Region.wanted o (yielded ops a.tmps) = true := by simp [Region.wanted, hgd]
  rw [if_pos hw]
  obtain ⟨i0, hi, hz0, hz1, hz2⟩ := info_parts infoNode
  by_cases h0 : m = 0
  · subst h0
    have hq : qs = [] := List.eq_nil_of_length_eq_zero hm
    subst hq
    have hl0 : ∀ p, (loadCells p 0).run Try.prog W = .ok #[] W := fun p => by first | rfl | simp [loadCells]
    have hrun : (Builtin.append_ #[42, 42] o.type #[.slice (some ⟨g, 0, none⟩) n cp, .slice ad 0 cap]).run Try.prog W = .ok (.slice (some ⟨g, 0, none⟩) n cp) W := by
      rcases hown.2 with ⟨e, _⟩ | ⟨g2, cp2, cur, e, _, _, hnc, _⟩
      · cases e
      · simp only [Value.slice.injEq] at e
        obtain ⟨-, -, e3⟩ := e
        subst e3
        cases ad <;> simp [Builtin.append_, run_underlying Try.underlying42, sizeOf, typeInfo, hi, Builtin.lenOf, Builtin.firstCells, hnc, storeCells, hl0]
    have hx' : a.eval x = .slice ad 0 cap := hx
    unfold Oper.wp
    simp [execOp, ho, resolve, invoke, builtin, hs, hx', hrun, Result.andThen]
    exact h g cp W (by simpa using hown) (World.grownBy.refl W _) (.inl rfl)
  · obtain ⟨q, hq⟩ : ∃ q, qs[0]? = some q := ⟨_, List.getElem?_eq_getElem (by omega)⟩
    obtain ⟨b, off, e, -, -⟩ := hst 0 q hq
    subst e
    refine wp_append_lies W s x 42 ho base 44 i0 _ 9 104 Try.underlying42 hi hz0 hz1 hz2 rfl (by decide) _ n (fv ps) hs hown ⟨b, off, none⟩ m cap (fv qs) hx (by rw [fv_len, hm]) ?_ (fv_one_cell hone) (by omega) (by unfold maxLen; omega) (by omega) hbase W.heap.size rfl (fun g' cp' w' h1 h2 h3 _ => h g' cp' w' (by rw [fv_append]; exact h1) h2 ?_)
    · intro j u hj
      have hjl := (List.getElem?_eq_some_iff.1 hj).1
      rw [fv_len] at hjl
      obtain ⟨y, hy⟩ : ∃ y, qs[j / 9]? = some y := ⟨_, List.getElem?_eq_getElem (by omega)⟩
      obtain ⟨b2, off2, e, hc, -⟩ := hst (j / 9) y hy
      cases e
      have hg := fv_get hy (j % 9) (by omega)
      have ej : j / 9 * 9 + j % 9 = j := by omega
      rw [ej, hj] at hg
      rw [add_flat, hg]
      have hcell : ∀ i, i < 9 → W9 W b (off + j / 9 * 9) i = (rowP y)[i]? := fun i hi9 => by
        unfold W9
        match i, hi9 with
        | 0, _ => exact hc.c0
        | 1, _ => exact hc.c1
        | 2, _ => exact hc.c2
        | 3, _ => exact hc.c3
        | 4, _ => exact hc.c4
        | 5, _ => exact hc.c5
        | 6, _ => exact hc.c6
        | 7, _ => exact hc.c7
        | 8, _ => exact hc.c8
      rw [← hcell (j % 9) (by omega)]
      unfold W9
      congr 2
      omega
    · rcases h3 with h3 | h3
      · exact .inl (Option.some.inj h3).symm
      · exact .inr h3
/-- Nine cells of a block are set: the row of another one, and all that was, are as they were. -/
theorem blk_leaf {W8 U V : World} {g b m cap : Nat} {ps : List Pr} {Z : Array Value} {a0 a1 a2 a3 a4 a5 a6 a7 a8 : Value} (h2 : Hd) (v : Value) (hv : v = .slice (some ⟨g, 0, none⟩) m cap) (own : U.ownsRow W8.heap.size 44 9 v m (fv ps)) (hpm : ps.length = m)
    (r : RowAt U b 44 #[a0, a1, a2, a3, a4, a5, a6, a7, a8]) (hne : b ≠ g) (hb : Below W8.heap.size W8 U) (hk : ∀ p ∈ ps, KidsAt W8 p.1.kids p.2) (h8 : W8.heap.size ≤ b)
    (hV : (((((((((U.setCell ⟨b, 0, none⟩ (.int .i64 h2.kind)).setCell ⟨b, 1, none⟩ (.string (bs h2.text))).setCell ⟨b, 2, none⟩ (.string (bs h2.type))).setCell ⟨b, 3, none⟩ (.int .i64 h2.n)).setCell ⟨b, 4, none⟩ (.int .i64 h2.fr)).setCell ⟨b, 5, none⟩ (.int .i64 h2.to_)).setCell ⟨b, 6, none⟩ (.int .i64 h2.at_)).setCell ⟨b, 7, none⟩ (.int .i64 h2.tat)).setCell ⟨b, 8, none⟩ v) = V) :
    RowAt V b 44 (h2.vals v) ∧ KidsAt V (ps.map (·.1)) v ∧ Below W8.heap.size W8 V := by
  obtain ⟨n1, n2⟩ := nine r h2 v
  rw [hV] at n1 n2
  have bV : Below W8.heap.size W8 V := hb.trans (n2.below W8.heap.size h8)
  have own2 : V.ownsRow W8.heap.size 44 9 v m (fv ps) := by
    refine ⟨own.1, ?_⟩
    rcases own.2 with h0 | ⟨g3, c3, cur, e1, h1, hg, k⟩
    · exact .inl h0
    · rw [hv] at e1
      simp only [Value.slice.injEq, Option.some.injEq, Addr.mk.injEq] at e1
      obtain ⟨⟨e1, -, -⟩, -, e3⟩ := e1
      subst e1 e3
      exact .inr ⟨_, _, cur, hv, h1, (n2.other _ (Ne.symm hne)).trans hg, k⟩
  subst hpm
  exact ⟨n1, OwnP.kids (W0 := W8) (base := W8.heap.size) ⟨own2, bV, ⟨Nat.le_refl _, bV.size⟩, hk⟩, bV⟩
theorem bAl {W8 W : World} (h : Below W8.heap.size W8 W) (o : Obj) : Below W8.heap.size W8 (W.alloc o) := h.alloc h.size o
theorem bDr {n0 : Nat} {W8 W : World} (h : Below n0 W8 W) : Below n0 W8 W.drew := below_drew h
theorem bGr {W8 W w' : World} {g : Nat} (h : Below W8.heap.size W8 W) (hg : W.grownBy w' (some g)) (h8 : W8.heap.size ≤ g) : Below W8.heap.size W8 w' := h.grown hg h.size (fun k e => by cases e; exact h8)
theorem own_ge {W : World} {base g n cap m : Nat} {xs : List Value} (h : W.ownsRow base 44 9 (.slice (some ⟨g, 0, none⟩) n cap) m xs) : base ≤ g := (h.lt g rfl).1
theorem rowGrownN {W w' : World} {g b : Nat} {t : TypeId} {vs : Array Value} (hne : b ≠ g) (hg : W.grownBy w' (some g)) (h : RowAt W b t vs) : RowAt w' b t vs := h.same (hg.block b h.lt (fun e => hne (Option.some.inj e)))
theorem withRow {W : World} {b : Nat} {Z : Array Value} {G : Prop} (h : RowAt W b 44 Z) (k : RowAt W b 44 Z → G) : G := k h
theorem zc {W : World} {b : Nat} {a0 a1 a2 a3 a4 a5 a6 a7 a8 : Value} (R : RowAt W b 44 #[a0, a1, a2, a3, a4, a5, a6, a7, a8]) : W.cell? ⟨b, 0, none⟩ = some a0 ∧ W.cell? ⟨b, 1, none⟩ = some a1 ∧ W.cell? ⟨b, 2, none⟩ = some a2 ∧ W.cell? ⟨b, 3, none⟩ = some a3 ∧ W.cell? ⟨b, 4, none⟩ = some a4 ∧ W.cell? ⟨b, 5, none⟩ = some a5 ∧ W.cell? ⟨b, 6, none⟩ = some a6 ∧ W.cell? ⟨b, 7, none⟩ = some a7 ∧ W.cell? ⟨b, 8, none⟩ = some a8 ∧ ∀ j, W.frozen? ⟨b, j, none⟩ = false :=
  ⟨R.cell rfl, R.cell rfl, R.cell rfl, R.cell rfl, R.cell rfl, R.cell rfl, R.cell rfl, R.cell rfl, R.cell rfl, R.frozen⟩
theorem own_lt {W : World} {base g n cap m : Nat} {xs : List Value} (h : W.ownsRow base 44 9 (.slice (some ⟨g, 0, none⟩) n cap) m xs) : g < W.heap.size := (h.lt g rfl).2
theorem rowDr {W : World} {b : Nat} {t : TypeId} {vs : Array Value} (h : RowAt W b t vs) : RowAt W.drew b t vs := h
theorem rowNw {W : World} {b : Nat} {t : TypeId} {vs : Array Value} (h : b = W.heap.size) : RowAt (W.alloc (.cells vs t)) b t vs := h ▸ RowAt.new W t vs
theorem ne_hat {b g a c : Nat} (h : g = a ∨ g = c) (h1 : b ≠ a) (h2 : b ≠ c) : b ≠ g := by rcases h with rfl | rfl <;> assumption
theorem bSt {n0 b j : Nat} {W8 W : World} (h : Below n0 W8 W) (hb : n0 ≤ b) (v : Value) : Below n0 W8 (W.setCell ⟨b, j, none⟩ v) := h.setCell hb v
theorem bSz {W8 W : World} (h : Below W8.heap.size W8 W) : W8.heap.size ≤ W.heap.size := h.size
theorem rowGrown {W w' : World} {g b : Nat} {t : TypeId} {vs : Array Value} (hg : W.grownBy w' (some g)) (h : RowAt W b t vs) (hne : b ≠ g) : RowAt w' b t vs := h.same (hg.block b h.lt (fun e => hne (Option.some.inj e)))
theorem rowOne {W : World} {b : Nat} {X : Nd} {kx : Value} (r : RowAt W b 44 #[.int .i64 X.hd.kind, .string (bs X.hd.text), .string (bs X.hd.type), .int .i64 X.hd.n, .int .i64 X.hd.fr, .int .i64 X.hd.to_, .int .i64 X.hd.at_, .int .i64 X.hd.tat, kx]) (hk : KidsAt W X.kids kx) : RowP W (some ⟨b, 0, none⟩) [(X, kx)] := fun k q hq => by
  have h0 : k = 0 := by have := (List.getElem?_eq_some_iff.1 hq).1; simp at this; omega
  subst h0
  obtain rfl : (X, kx) = q := by simpa using hq
  exact ⟨_, 0, rfl, by simpa using Cells.row (show RowAt W b 44 (X.hd.vals kx) from r), hk⟩
theorem RowP.below {W W' : World} {a : Option Addr} {ps : List Pr} (h : RowP W a ps) (hb : Below W.heap.size W W') : RowP W' a ps := fun k p hk => by
  obtain ⟨b, off, e, c, hkk⟩ := h k p hk
  exact ⟨b, off, e, c.later hb, hkk.below hb⟩
end Go.Proofs.Ytbnbmjdjkadgoaa.F
