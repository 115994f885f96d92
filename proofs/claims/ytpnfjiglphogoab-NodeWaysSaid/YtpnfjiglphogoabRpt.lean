/-
  For the laws of node: the reference's Put. Condition: at most 2,000,000 nodes.
-/
import Derived.Test.YtpnfjiglphogoabPut
import Derived.Deep.RegionHeld3
import Derived.Deep.CutRange
import Derived.Deep.MidRow
import Derived.Test.YtpnfjiglphogoabAwk
import Derived.Deep.Cut
namespace Go.Proofs.Ytpnfjiglphogoab
open Go.RowKit Go.Shelf
set_option linter.unusedSimpArgs false
set_option linter.unusedVariables false

theorem Kids.heap {W V : World} (hb : ∀ b, b < W.heap.size → V.heap[b]? = W.heap[b]?) : ∀ {d : Nat} {ks : List Nd} {v : Value}, Kids W d ks v → Kids V d ks v
  | 0, ks, v, h => h
  | d + 1, ks, v, ⟨a, cap, e, h1, h2, hx⟩ => ⟨a, cap, e, h1, h2, fun k t hk => by
      obtain ⟨b, off, kv, ea, c, hk2⟩ := hx k t hk
      exact ⟨b, off, kv, ea, c.same fun j _ => cell_same (hb b c.lt) _, hk2.heap hb⟩⟩
theorem KidsAt.heap {W V : World} {ks : List Nd} {v : Value} (h : KidsAt W ks v) (hb : ∀ b, b < W.heap.size → V.heap[b]? = W.heap[b]?) : KidsAt V ks v := ⟨h.choose, h.choose_spec.heap hb⟩
/-- What the reference's Put answers: kids that rest on what was there in w0 and on what is new since W. -/
def RPutIs (w0 W : World) (t : Nd) (way : List Int) (x : Nd) (e : Ending) (w' : World) : Prop :=
  (getN t way = none ∧ e = .returned (.tuple #[nilH.agg (.slice none 0 0), .bool false])) ∨ (getN t way ≠ none ∧ ∃ kv, e = .returned (.tuple #[(putN t way x).hd.agg kv, .bool true]) ∧ ∀ V : World, (∀ b, (b < w0.heap.size ∨ W.heap.size ≤ b) → b < w'.heap.size → V.heap[b]? = w'.heap[b]?) → KidsAt V (putN t way x).kids kv)
/-- The same, as one shape. -/
def RPutX (w0 W : World) (t : Nd) (way : List Int) (x : Nd) (h : Hd) (kv : Value) (q : Bool) (w' : World) : Prop :=
  (getN t way = none ∧ q = false) ∨ (getN t way ≠ none ∧ q = true ∧ h = (putN t way x).hd ∧ ∀ V : World, (∀ b, (b < w0.heap.size ∨ W.heap.size ≤ b) → b < w'.heap.size → V.heap[b]? = w'.heap[b]?) → KidsAt V (putN t way x).kids kv)
theorem RPutIs.shape {w0 W : World} {t : Nd} {way : List Int} {x : Nd} {e : Ending} {w' : World} (h : RPutIs w0 W t way x e w') : ∃ (h5 : Hd) (a5 : Option Addr) (n5 c5 : Nat) (q : Bool), e = .returned (.tuple #[.agg #[.int .i64 h5.kind, .string (bs h5.text), .string (bs h5.type), .int .i64 h5.n, .int .i64 h5.fr, .int .i64 h5.to_, .int .i64 h5.at_, .int .i64 h5.tat, .slice a5 n5 c5], .bool q]) ∧ RPutX w0 W t way x h5 (.slice a5 n5 c5) q w' := by
  rcases h with ⟨h, rfl⟩ | ⟨h, kv, rfl, hk⟩
  · exact ⟨nilH, none, 0, 0, false, rfl, .inl ⟨h, rfl⟩⟩
  · obtain ⟨a, c, rfl, -⟩ := (hk w' fun _ _ _ => rfl).get
    exact ⟨_, a, _, c, true, rfl, .inr ⟨h, rfl, rfl, hk⟩⟩
/-- Behind the call: block g holds what it answered. -/
def PtMid (w0 W1 : World) (t : Nd) (way : List Int) (x : Nd) (g : Nat) (q : Bool) (wx : World) : Prop :=
  (W1.heap.size ≤ g ∧ Below W1.heap.size W1 wx) ∧ ∃ (h : Hd) (a : Option Addr) (n c : Nat), RowAt wx g 24 (h.vals (.slice a n c)) ∧ RPutX w0 W1 t way x h (.slice a n c) q wx
theorem SlI.tail {W : World} {i : Int} {L : List Int} {a : Option Addr} {n cap : Nat} (h : SlI W (.slice a n cap) (i :: L)) : ∃ bw ow, a = some ⟨bw, ow, none⟩ ∧ n = L.length + 1 ∧ n ≤ cap ∧ cap ≤ maxLen ∧ W.cell? ⟨bw, ow, none⟩ = some (.int .i64 i) ∧ (∀ a', (L ≠ [] → a' = some ⟨bw, ow + 1, none⟩) → SlI W (.slice a' L.length (cap - 1)) L) := by
  obtain ⟨a1, cap1, e, h1, h2, hx⟩ := h
  cases e
  obtain ⟨bw, ow, ea, c0⟩ := hx 0 i rfl
  refine ⟨bw, ow, ea, rfl, h1, h2, c0, fun a' ha => ⟨a', cap - 1, rfl, by rw [List.length_cons] at h1; omega, by omega, fun k j hk => ?_⟩⟩
  obtain ⟨b2, o2, e2, c2⟩ := hx (k + 1) j (by rw [List.getElem?_cons_succ]; exact hk)
  rw [ea] at e2
  cases e2
  exact ⟨bw, ow + 1, ha (by rintro rfl; simp at hk), by rw [show ow + 1 + k = ow + (k + 1) by omega]; exact c2⟩
theorem AQ.size_al2 {W1 A : World} (h : AQ W1 A) : W1.heap.size ≤ A.heap.size := h.size
theorem AQ.size_al {W1 A B : World} {o : Obj} (_ : Below (A.alloc o).heap.size (A.alloc o) B) (h : AQ W1 A) : W1.heap.size ≤ A.heap.size := h.size
theorem row_facts {w : World} {b : Nat} (R : RowAt w b 24 #[.int .i64 0, .string ⟨#[]⟩, .string ⟨#[]⟩, .int .i64 0, .int .i64 0, .int .i64 0, .int .i64 0, .int .i64 0, .slice none 0 0]) : (w.cell? ⟨b, 0, none⟩ = some (.int .i64 0) ∧ w.cell? ⟨b, 1, none⟩ = some (.string ⟨#[]⟩) ∧ w.cell? ⟨b, 2, none⟩ = some (.string ⟨#[]⟩) ∧ w.cell? ⟨b, 3, none⟩ = some (.int .i64 0) ∧ w.cell? ⟨b, 4, none⟩ = some (.int .i64 0) ∧ w.cell? ⟨b, 5, none⟩ = some (.int .i64 0) ∧ w.cell? ⟨b, 6, none⟩ = some (.int .i64 0) ∧ w.cell? ⟨b, 7, none⟩ = some (.int .i64 0) ∧ w.cell? ⟨b, 8, none⟩ = some (.slice none 0 0)) ∧ w.frozen? ⟨b, 0, none⟩ = false ∧ w.frozen? ⟨b, 1, none⟩ = false ∧ w.frozen? ⟨b, 2, none⟩ = false ∧ w.frozen? ⟨b, 3, none⟩ = false ∧ w.frozen? ⟨b, 4, none⟩ = false ∧ w.frozen? ⟨b, 5, none⟩ = false ∧ w.frozen? ⟨b, 6, none⟩ = false ∧ w.frozen? ⟨b, 7, none⟩ = false ∧ w.frozen? ⟨b, 8, none⟩ = false :=
  ⟨⟨R.cell (j := 0) rfl, R.cell (j := 1) rfl, R.cell (j := 2) rfl, R.cell (j := 3) rfl, R.cell (j := 4) rfl, R.cell (j := 5) rfl, R.cell (j := 6) rfl, R.cell (j := 7) rfl, R.cell (j := 8) rfl⟩, R.frozen 0, R.frozen 1, R.frozen 2, R.frozen 3, R.frozen 4, R.frozen 5, R.frozen 6, R.frozen 7, R.frozen 8⟩
theorem AQ.size_in {W1 A B : World} (_ : Below A.heap.size A B) (h : AQ W1 A) : W1.heap.size ≤ A.heap.size := h.size
theorem RPutX.mono {w0 U W1 V : World} {t x : Nd} {way : List Int} {h : Hd} {kv : Value} {q : Bool} {w' : World} (hX : RPutX w0 U t way x h kv q w') (hU : W1.heap.size ≤ U.heap.size) (hs : w'.heap.size ≤ V.heap.size)
    (hb : ∀ b, (b < w0.heap.size ∨ U.heap.size ≤ b) → b < w'.heap.size → V.heap[b]? = w'.heap[b]?) : RPutX w0 W1 t way x h kv q V := by
  rcases hX with h | ⟨h1, h2, h3, h4⟩
  · exact .inl h
  · exact .inr ⟨h1, h2, h3, fun V2 hV2 => h4 V2 fun b hb1 hb2 => (hV2 b (hb1.imp id fun h => Nat.le_trans hU h) (Nat.lt_of_lt_of_le hb2 hs)).trans (hb b hb1 hb2)⟩
theorem mid_a {w0 W1 U w' : World} {t x : Nd} {way : List Int} {h5 : Hd} {a5 : Option Addr} {n5 c5 : Nat} {q : Bool} (hs : AQ W1 w') (hU : W1.heap.size ≤ U.heap.size) (hX : RPutX w0 U t way x h5 (.slice a5 n5 c5) q w') :
    PtMid w0 W1 t way x w'.heap.size q (w'.alloc (.cells #[.int .i64 h5.kind, .string (bs h5.text), .string (bs h5.type), .int .i64 h5.n, .int .i64 h5.fr, .int .i64 h5.to_, .int .i64 h5.at_, .int .i64 h5.tat, .slice a5 n5 c5] 24)) :=
  ⟨⟨hs.size, hs.alloc _⟩, h5, a5, n5, c5, RowAt.new w' 24 _, hX.mono hU (by simp) fun b _ hl => Below.heap_alloc w' _ b hl⟩
theorem mid_b {w0 W1 U w' V : World} {o : Obj} {t x : Nd} {way : List Int} {h5 : Hd} {a5 : Option Addr} {n5 c5 : Nat} {q : Bool} (hs : AQ W1 w') (h0 : w0.heap.size ≤ W1.heap.size) (hU : U.heap.size = W1.heap.size) (hX : RPutX w0 (U.alloc o) t way x h5 (.slice a5 n5 c5) q w')
    (hR : RowAt V W1.heap.size 24 (h5.vals (.slice a5 n5 c5))) (hV : Upd w' V W1.heap.size 0) : PtMid w0 W1 t way x W1.heap.size q V :=
  ⟨⟨Nat.le_refl _, Below.trans hs (hV.below _ (Nat.le_refl _))⟩, h5, a5, n5, c5, hR, hX.mono (by simp; omega) (Nat.le_of_eq hV.size.symm) fun b hb _ => hV.other b (by simp at hb; omega)⟩
theorem store9 {w : World} {b : Nat} {vs : Array Value} (R : RowAt w b 24 vs) (hs : vs.size = 9) (h : Hd) (kv : Value) (h1 : kv.oneCell' = true) : ∃ W9, (Instr.storeAt 24 (.pointer (some ⟨b, 0, none⟩)) (.agg #[.int .i64 h.kind, .string (bs h.text), .string (bs h.type), .int .i64 h.n, .int .i64 h.fr, .int .i64 h.to_, .int .i64 h.at_, .int .i64 h.tat, kv])).run Try.prog w = .ok () W9 ∧ (storeVar 24 ⟨b, 0, none⟩ (.agg #[.int .i64 h.kind, .string (bs h.text), .string (bs h.type), .int .i64 h.n, .int .i64 h.fr, .int .i64 h.to_, .int .i64 h.at_, .int .i64 h.tat, kv])).run Try.prog w = .ok () W9 ∧ RowAt W9 b 24 (h.vals kv) ∧ Upd w W9 b 0 := by
  have ht : ∀ j, j < 9 → (w.cell? ⟨b, 0 + j, none⟩).isSome = true ∧ w.frozen? ⟨b, 0 + j, none⟩ = false := fun j hj => by
    refine ⟨?_, R.frozen _⟩
    have : vs[0 + j]? = some vs[0 + j] := Array.getElem?_eq_getElem (by omega)
    rw [R.cell this]; rfl
  match vs, hs with
  | ⟨[a, b', c, d, e, f, g, i, k]⟩, _ =>
    have N := nine R h kv
    have h8 := run_storeVar_mid (P := Try.prog) w b 0 24 (h.vals kv) ht (by rfl) (Array.all_eq_true_iff_forall_mem.2 fun u hu => by simp [Hd.vals] at hu; rcases hu with rfl | rfl | rfl | rfl | rfl | rfl | rfl | rfl | rfl <;> first | rfl | exact h1)
    refine ⟨_, ?_, h8, N.1, N.2⟩
    have h9 := run_storeAt_mid (P := Try.prog) w b 0 24 (h.vals kv) ht (by rfl) (Array.all_eq_true_iff_forall_mem.2 fun u hu => by simp [Hd.vals] at hu; rcases hu with rfl | rfl | rfl | rfl | rfl | rfl | rfl | rfl | rfl <;> first | rfl | exact h1)
    exact h9
theorem AQ.nine {W1 w : World} {g : Nat} (h : AQ W1 w) (hg : W1.heap.size ≤ g) (a b c d e f g' k l : Value) : AQ W1 (((((((((w.setCell ⟨g, 0, none⟩ a).setCell ⟨g, 1, none⟩ b).setCell ⟨g, 2, none⟩ c).setCell ⟨g, 3, none⟩ d).setCell ⟨g, 4, none⟩ e).setCell ⟨g, 5, none⟩ f).setCell ⟨g, 6, none⟩ g').setCell ⟨g, 7, none⟩ k).setCell ⟨g, 8, none⟩ l) :=
  ((((((((Below.setCell h (p := ⟨g, 0, none⟩) hg a).setCell (p := ⟨g, 1, none⟩) hg b).setCell (p := ⟨g, 2, none⟩) hg c).setCell (p := ⟨g, 3, none⟩) hg d).setCell (p := ⟨g, 4, none⟩) hg e).setCell (p := ⟨g, 5, none⟩) hg f).setCell (p := ⟨g, 6, none⟩) hg g').setCell (p := ⟨g, 7, none⟩) hg k).setCell (p := ⟨g, 8, none⟩) hg l
theorem tail_run (bw ow m capw : Nat) (h1 : 1 ≤ m) (a' : Option Addr) (ha : (if capw = 1 then some (⟨bw, ow, none⟩ : Addr) else some ⟨bw, ow + 1, none⟩) = a') (V : World) : (Instr.slice 37 (.slice (some ⟨bw, ow, none⟩) m capw) (some (.int .i64 1)) none none).run Try.prog V = .ok (.slice a' (m - 1) (capw - 1)) V := by
  have e : ((0 : Int) ≤ 1 ∧ (1 : Int) ≤ (m : Int)) := ⟨by omega, by omega⟩
  have hs : ∀ V, (sizeOf 3).run Try.prog V = .ok 1 V := fun V => by rfl
  subst ha
  simp only [Instr.slice, Instr.sliceBounds, Instr.sliceBound]
  simp [run_underlying Try.underlying37, asIntOf, e, hs, Addr.add, h1]
theorem OwnP.own {W0 W : World} {base : Nat} {v : Value} {ps : List Pr} (h : OwnP W0 base W v ps) (hne : 0 < ps.length) : ∃ (g cap : Nat), v = .slice (some ⟨g, 0, none⟩) ps.length cap ∧ base ≤ g ∧ ps.length ≤ cap ∧ cap ≤ maxLen ∧ (∃ cs, W.heap[g]? = some (Obj.cells cs 24 (0, 0)) ∧ ps.length * 9 ≤ cs.size) ∧ ∀ (k : Nat) (p : Pr), ps[k]? = some p → Cells W g (k * 9) p.1.hd p.2 := by
  obtain ⟨a, cap, e, h1, h2, hr⟩ := h.row
  rcases h.1.2 with ⟨-, h0⟩ | ⟨g, cap', cur, e', hb, hg, h3, h4, h5, h6⟩
  · omega
  · rw [e] at e'
    cases e'
    refine ⟨g, cap, e, hb, h1, h2, ⟨cur, hg, by omega⟩, fun k p hk => ?_⟩
    obtain ⟨b, off, ea, hc, -⟩ := hr k p hk
    cases ea
    rw [Nat.zero_add] at hc
    exact hc
set_option maxRecDepth 100000 in
set_option maxHeartbeats 16000000 in
theorem RefPut_at (w0 : World) (x : Nd) (kvx : Value) (hkx : KidsAt w0 x.kids kvx) : ∀ (way : List Int) (t : Nd) (kv vw : Value) (W : World), Below w0.heap.size w0 W → t.cnt ≤ 2000000 → KidsAt w0 t.kids kv → SlI w0 vw way →
    Calls Try.prog 27 #[.agg #[.int .i64 t.hd.kind, .string (bs t.hd.text), .string (bs t.hd.type), .int .i64 t.hd.n, .int .i64 t.hd.fr, .int .i64 t.hd.to_, .int .i64 t.hd.at_, .int .i64 t.hd.tat, kv], vw, .agg #[.int .i64 x.hd.kind, .string (bs x.hd.text), .string (bs x.hd.type), .int .i64 x.hd.n, .int .i64 x.hd.fr, .int .i64 x.hd.to_, .int .i64 x.hd.at_, .int .i64 x.hd.tat, kvx]] W fun e w' => RPutIs w0 W t way x e w' ∧ Below W.heap.size W w' := by
  have HX := Lib.hid hkx
  obtain ⟨a1, cap1, rfl, -⟩ := hkx.get
  clear hkx
  obtain ⟨nx, hnx⟩ : ∃ n, Hid (x.kids.length = n) := ⟨_, Lib.hid rfl⟩
  rw [hnx.out] at HX
  rw [hnx.out]
  intro way
  induction way with
  | nil =>
    intro t kv vw W hW hm hk hw
    have HW := Lib.hid hW
    have HK := Lib.hid hk
    obtain ⟨a0, cap0, rfl, -⟩ := hk.get
    obtain ⟨aw, capw, rfl, hc1, hc2, -⟩ := hw
    clear hk hW
    obtain ⟨n, hn⟩ : ∃ n, Hid (t.kids.length = n) := ⟨_, Lib.hid rfl⟩
    rw [hn.out]
    obtain ⟨W1, hW1⟩ : ∃ W1, Hid (((W.alloc (.cells #[.int .i64 t.hd.kind, .string (bs t.hd.text), .string (bs t.hd.type), .int .i64 t.hd.n, .int .i64 t.hd.fr, .int .i64 t.hd.to_, .int .i64 t.hd.at_, .int .i64 t.hd.tat, .slice a0 n cap0] 24)).alloc (.cells #[.int .i64 x.hd.kind, .string (bs x.hd.text), .string (bs x.hd.type), .int .i64 x.hd.n, .int .i64 x.hd.fr, .int .i64 x.hd.to_, .int .i64 x.hd.at_, .int .i64 x.hd.tat, .slice a1 nx cap1] 24)).alloc (.cells #[.int .i64 0, .string ⟨#[]⟩, .string ⟨#[]⟩, .int .i64 0, .int .i64 0, .int .i64 0, .int .i64 0, .int .i64 0, .slice none 0 0] 24) = W1) := ⟨_, Lib.hid rfl⟩
    have B1 : Hid (Below W.heap.size W W1) := by rw [← hW1.out]; exact Lib.hid ((((Below.refl _ W).alloc (Nat.le_refl _) _).alloc (by simp) _).alloc (by simp; omega) _)
    have hs1 : W1.heap.size = W.heap.size + 3 := by rw [← hW1.out]; simp
    have R1 : Hid (RowAt W1 (W.heap.size + 1) 24 #[.int .i64 x.hd.kind, .string (bs x.hd.text), .string (bs x.hd.type), .int .i64 x.hd.n, .int .i64 x.hd.fr, .int .i64 x.hd.to_, .int .i64 x.hd.at_, .int .i64 x.hd.tat, .slice a1 nx cap1]) := by
      rw [← hW1.out]
      have := (RowAt.new (W.alloc (.cells #[.int .i64 t.hd.kind, .string (bs t.hd.text), .string (bs t.hd.type), .int .i64 t.hd.n, .int .i64 t.hd.fr, .int .i64 t.hd.to_, .int .i64 t.hd.at_, .int .i64 t.hd.tat, .slice a0 n cap0] 24)) 24 #[.int .i64 x.hd.kind, .string (bs x.hd.text), .string (bs x.hd.type), .int .i64 x.hd.n, .int .i64 x.hd.fr, .int .i64 x.hd.to_, .int .i64 x.hd.at_, .int .i64 x.hd.tat, .slice a1 nx cap1]).alloc (.cells #[.int .i64 0, .string ⟨#[]⟩, .string ⟨#[]⟩, .int .i64 0, .int .i64 0, .int .i64 0, .int .i64 0, .int .i64 0, .slice none 0 0] 24)
      rw [World.size_alloc] at this
      exact Lib.hid this
    have R2 : Hid (RowAt W1 (W.heap.size + 2) 24 #[.int .i64 0, .string ⟨#[]⟩, .string ⟨#[]⟩, .int .i64 0, .int .i64 0, .int .i64 0, .int .i64 0, .int .i64 0, .slice none 0 0]) := by
      rw [← hW1.out]
      have := RowAt.new ((W.alloc (.cells #[.int .i64 t.hd.kind, .string (bs t.hd.text), .string (bs t.hd.type), .int .i64 t.hd.n, .int .i64 t.hd.fr, .int .i64 t.hd.to_, .int .i64 t.hd.at_, .int .i64 t.hd.tat, .slice a0 n cap0] 24)).alloc (.cells #[.int .i64 x.hd.kind, .string (bs x.hd.text), .string (bs x.hd.type), .int .i64 x.hd.n, .int .i64 x.hd.fr, .int .i64 x.hd.to_, .int .i64 x.hd.at_, .int .i64 x.hd.tat, .slice a1 nx cap1] 24)) 24 #[.int .i64 0, .string ⟨#[]⟩, .string ⟨#[]⟩, .int .i64 0, .int .i64 0, .int .i64 0, .int .i64 0, .int .i64 0, .slice none 0 0]
      rw [World.size_alloc, World.size_alloc] at this
      exact Lib.hid this
    obtain ⟨d0, d1, d2, d3, d4, d5, d6, d7, d8⟩ := (show Cells W1 (W.heap.size + 1) 0 x.hd (.slice a1 nx cap1) from Cells.row R1.out)
    simp only [Nat.zero_add] at d1 d2 d3 d4 d5 d6 d7 d8
    obtain ⟨r0, r1, r2, r3, r4, r5, r6, r7, r8⟩ := (show Cells W1 (W.heap.size + 2) 0 ⟨0, [], [], 0, 0, 0, 0, 0⟩ (.slice none 0 0) from Cells.row R2.out)
    simp only [Nat.zero_add] at r1 r2 r3 r4 r5 r6 r7 r8
    have z0 := R2.out.frozen 0
    have z1 := R2.out.frozen 1
    have z2 := R2.out.frozen 2
    have z3 := R2.out.frozen 3
    have z4 := R2.out.frozen 4
    have z5 := R2.out.frozen 5
    have z6 := R2.out.frozen 6
    have z7 := R2.out.frozen 7
    have z8 := R2.out.frozen 8
    have NN := Lib.hid (nine R2.out x.hd (.slice a1 nx cap1))
    have hw0 := HW.out.size
    have Hfin : Hid (∀ V, Upd W1 V (W.heap.size + 2) 0 → RPutIs w0 W t [] x (.returned (.tuple #[x.hd.agg (.slice a1 nx cap1), .bool true])) V) := Lib.hid (fun V U => by
      refine .inr ⟨by rw [getN]; simp, .slice a1 nx cap1, by rw [putN], fun V2 hV2 => ?_⟩
      rw [putN]
      refine HX.out.heap fun b hb => ?_
      rw [hV2 b (.inl hb) (by rw [U.size]; omega), U.other b (by omega), B1.out.block b (by omega), HW.out.block b hb])
    obtain ⟨G, hG⟩ : ∃ G : Ending → World → Prop, Hid (RPutIs w0 W t [] x = G) := ⟨_, Lib.hid rfl⟩
    rw [hG.out] at Hfin ⊢
    go_enter Try.func27, Try.ntmps27
    go_upto_region 1 with fail
    rw [hW1.out]
    go_wp2_with fail
    refine bodyPost_ret (results_cell_row_tmp (P := Try.prog) rfl _ _ (W.heap.size + 2) 24 (x.hd.vals (.slice a1 nx cap1)) (0, 0) _ rfl NN.out.1 Try.underlying24 rfl rfl) rfl ?_
    exact ⟨Hfin.out _ NN.out.2, B1.out.trans (NN.out.2.below _ (by omega))⟩
  | cons i Lw ih =>
    intro t kv vw W hW hm hk hw
    have HW := Lib.hid hW
    have HK := Lib.hid hk
    obtain ⟨ps, a0, cap0, hps, rfl, hpc, hpm, hpr⟩ := hk.rows
    have HPR := Lib.hid hpr
    have HPS := Lib.hid hps
    have hw2 := hw
    obtain ⟨aw, capw, rfl, -⟩ := hw2
    obtain ⟨bw, ow, rfl, -, hc1, hc2, cw0, htl⟩ := hw.tail
    have HTL := Lib.hid htl
    clear hk hW htl hpr hps hw
    obtain ⟨n, hn⟩ : ∃ n, Hid (ps.length = n) := ⟨_, Lib.hid rfl⟩
    obtain ⟨L, hL⟩ : ∃ L, Hid (Lw.length = L) := ⟨_, Lib.hid rfl⟩
    obtain ⟨m, hm1⟩ : ∃ m, Hid (L + 1 = m) := ⟨_, Lib.hid rfl⟩
    rw [List.length_cons, hL.out, hm1.out] at hc1
    rw [hn.out] at HK hpc
    rw [List.length_cons, hL.out, hn.out, hm1.out]
    have hmp : 1 ≤ m := by have := hm1.out; omega
    obtain ⟨a', ha'⟩ : ∃ a' : Option Addr, Hid ((if capw = 1 then some (⟨bw, ow, none⟩ : Addr) else some ⟨bw, ow + 1, none⟩) = a') := ⟨_, Lib.hid rfl⟩
    have hsl : ∀ V : World, (Instr.slice 37 (.slice (some ⟨bw, ow, none⟩) m capw) (some (.int .i64 1)) none none).run Try.prog V = .ok (.slice a' (m - 1) (capw - 1)) V := tail_run bw ow m capw hmp a' ha'.out
    have hatl : Hid (Lw ≠ [] → a' = some ⟨bw, ow + 1, none⟩) := Lib.hid (fun h => by
      rw [← ha'.out]
      refine if_neg (fun h1 => h (List.length_eq_zero_iff.1 ?_))
      have := hL.out
      have := hm1.out
      omega)
    have hnt : n = t.kids.length := by rw [← HPS.out, List.length_map, hn.out]
    have hkc : n ≤ 2000000 := by have h1 := cnt_kids t; have h2 := cntL_len t.kids; omega
    have HNT := Lib.hid hnt
    clear hnt
    have hc2' := hc2
    unfold maxLen at hc2'
    have hpm' := hpm
    unfold maxLen at hpm'
    have hw0 := HW.out.size
    obtain ⟨W1, hW1⟩ : ∃ W1, Hid (((W.alloc (.cells #[.int .i64 t.hd.kind, .string (bs t.hd.text), .string (bs t.hd.type), .int .i64 t.hd.n, .int .i64 t.hd.fr, .int .i64 t.hd.to_, .int .i64 t.hd.at_, .int .i64 t.hd.tat, .slice a0 n cap0] 24)).alloc (.cells #[.int .i64 x.hd.kind, .string (bs x.hd.text), .string (bs x.hd.type), .int .i64 x.hd.n, .int .i64 x.hd.fr, .int .i64 x.hd.to_, .int .i64 x.hd.at_, .int .i64 x.hd.tat, .slice a1 nx cap1] 24)).alloc (.cells #[.int .i64 0, .string ⟨#[]⟩, .string ⟨#[]⟩, .int .i64 0, .int .i64 0, .int .i64 0, .int .i64 0, .int .i64 0, .slice none 0 0] 24) = W1) := ⟨_, Lib.hid rfl⟩
    have B1 : Hid (Below W.heap.size W W1) := by rw [← hW1.out]; exact Lib.hid ((((Below.refl _ W).alloc (Nat.le_refl _) _).alloc (by simp) _).alloc (by simp; omega) _)
    have hs1 : W1.heap.size = W.heap.size + 3 := by rw [← hW1.out]; simp
    have R0 : Hid (RowAt W1 W.heap.size 24 #[.int .i64 t.hd.kind, .string (bs t.hd.text), .string (bs t.hd.type), .int .i64 t.hd.n, .int .i64 t.hd.fr, .int .i64 t.hd.to_, .int .i64 t.hd.at_, .int .i64 t.hd.tat, .slice a0 n cap0]) := by
      rw [← hW1.out]; exact Lib.hid (((RowAt.new W 24 #[.int .i64 t.hd.kind, .string (bs t.hd.text), .string (bs t.hd.type), .int .i64 t.hd.n, .int .i64 t.hd.fr, .int .i64 t.hd.to_, .int .i64 t.hd.at_, .int .i64 t.hd.tat, .slice a0 n cap0]).alloc _).alloc _)
    have R1 : Hid (RowAt W1 (W.heap.size + 1) 24 #[.int .i64 x.hd.kind, .string (bs x.hd.text), .string (bs x.hd.type), .int .i64 x.hd.n, .int .i64 x.hd.fr, .int .i64 x.hd.to_, .int .i64 x.hd.at_, .int .i64 x.hd.tat, .slice a1 nx cap1]) := by
      rw [← hW1.out]
      have := (RowAt.new (W.alloc (.cells #[.int .i64 t.hd.kind, .string (bs t.hd.text), .string (bs t.hd.type), .int .i64 t.hd.n, .int .i64 t.hd.fr, .int .i64 t.hd.to_, .int .i64 t.hd.at_, .int .i64 t.hd.tat, .slice a0 n cap0] 24)) 24 #[.int .i64 x.hd.kind, .string (bs x.hd.text), .string (bs x.hd.type), .int .i64 x.hd.n, .int .i64 x.hd.fr, .int .i64 x.hd.to_, .int .i64 x.hd.at_, .int .i64 x.hd.tat, .slice a1 nx cap1]).alloc (.cells #[.int .i64 0, .string ⟨#[]⟩, .string ⟨#[]⟩, .int .i64 0, .int .i64 0, .int .i64 0, .int .i64 0, .int .i64 0, .slice none 0 0] 24)
      rw [World.size_alloc] at this
      exact Lib.hid this
    have R2 : Hid (RowAt W1 (W.heap.size + 2) 24 #[.int .i64 0, .string ⟨#[]⟩, .string ⟨#[]⟩, .int .i64 0, .int .i64 0, .int .i64 0, .int .i64 0, .int .i64 0, .slice none 0 0]) := by
      rw [← hW1.out]
      have := RowAt.new ((W.alloc (.cells #[.int .i64 t.hd.kind, .string (bs t.hd.text), .string (bs t.hd.type), .int .i64 t.hd.n, .int .i64 t.hd.fr, .int .i64 t.hd.to_, .int .i64 t.hd.at_, .int .i64 t.hd.tat, .slice a0 n cap0] 24)).alloc (.cells #[.int .i64 x.hd.kind, .string (bs x.hd.text), .string (bs x.hd.type), .int .i64 x.hd.n, .int .i64 x.hd.fr, .int .i64 x.hd.to_, .int .i64 x.hd.at_, .int .i64 x.hd.tat, .slice a1 nx cap1] 24)) 24 #[.int .i64 0, .string ⟨#[]⟩, .string ⟨#[]⟩, .int .i64 0, .int .i64 0, .int .i64 0, .int .i64 0, .int .i64 0, .slice none 0 0]
      rw [World.size_alloc, World.size_alloc] at this
      exact Lib.hid this
    have BW1 := Lib.hid (HW.out.trans (B1.out.mono hw0))
    obtain ⟨b0, b1, b2, b3, b4, b5, b6, b7, b8⟩ := (show Cells W1 W.heap.size 0 t.hd (.slice a0 n cap0) from Cells.row R0.out)
    simp only [Nat.zero_add] at b1 b2 b3 b4 b5 b6 b7 b8
    obtain ⟨d0, d1, d2, d3, d4, d5, d6, d7, d8⟩ := (show Cells W1 (W.heap.size + 1) 0 x.hd (.slice a1 nx cap1) from Cells.row R1.out)
    simp only [Nat.zero_add] at d1 d2 d3 d4 d5 d6 d7 d8
    obtain ⟨r0, r1, r2, r3, r4, r5, r6, r7, r8⟩ := (show Cells W1 (W.heap.size + 2) 0 ⟨0, [], [], 0, 0, 0, 0, 0⟩ (.slice none 0 0) from Cells.row R2.out)
    simp only [Nat.zero_add] at r1 r2 r3 r4 r5 r6 r7 r8
    have z0 := R2.out.frozen 0
    have z1 := R2.out.frozen 1
    have z2 := R2.out.frozen 2
    have z3 := R2.out.frozen 3
    have z4 := R2.out.frozen 4
    have z5 := R2.out.frozen 5
    have z6 := R2.out.frozen 6
    have z7 := R2.out.frozen 7
    have z8 := R2.out.frozen 8
    have cw : W1.cell? ⟨bw, ow, none⟩ = some (.int .i64 i) := (BW1.out.cell (p := ⟨bw, ow, none⟩) (World.block_lt_of_cell? w0 _ cw0)).trans cw0
    clear cw0
    obtain ⟨G, hG⟩ : ∃ G : Ending → World → Prop, Hid (RPutIs w0 W t (i :: Lw) x = G) := ⟨_, Lib.hid rfl⟩
    rw [hG.out]
    have e1 : ((m : Int) == 0) = false := by rw [beq_eq_false_iff_ne]; omega
    have e2 : decide ((m : Int) = 0) = false := decide_eq_false (by omega)
    have e4 : (0 : Int) < (m : Int) := by omega
    have e5 : 0 < m := by omega
    have e6 : ¬ m = 0 := by omega
    by_cases hin : 0 ≤ i ∧ i < (n : Int)
    · obtain ⟨j, rfl⟩ := Int.eq_ofNat_of_zero_le hin.1
      have hjn : j < n := by omega
      obtain ⟨p, hp⟩ : ∃ p, Hid (ps[j]? = some p) := ⟨_, Lib.hid (List.getElem?_eq_getElem (by rw [hn.out]; exact hjn))⟩
      have hy : Hid (t.kids[j]? = some p.1) := Lib.hid (by rw [← HPS.out, List.getElem?_map, hp.out]; rfl)
      obtain ⟨bk, ok, rfl, cs, hky⟩ := HPR.out j p hp.out
      have hpc1 : p.1.cnt ≤ 2000000 := by have h1 := cnt_kids t; have h2 := cntL_mem (List.mem_of_getElem? hy.out); omega
      obtain ⟨g0, g1, g2, g3, g4, g5, g6, g7, g8⟩ := cs.later BW1.out
      have f1 : decide ((j : Int) < 0) = false := decide_eq_false (by omega)
      have f2 : decide ((n : Int) ≤ (j : Int)) = false := decide_eq_false (by omega)
      have f5 : decide (n ≤ j) = false := decide_eq_false (by omega)
      have f6 : ¬ n ≤ j := by omega
      have f3 : (j : Int) < (n : Int) := by omega
      have f4 : (0 : Int) ≤ (j : Int) := by omega
      obtain ⟨ay, cy, hpy, -⟩ := hky.get
      obtain ⟨yl, hyl⟩ : ∃ yl, Hid (p.1.kids.length = yl) := ⟨_, Lib.hid rfl⟩
      rw [hyl.out] at hpy
      rw [hpy] at hky g8
      have HKy := Lib.hid hky
      have HS : Hid (∀ U, AQ W1 U → AQ W1 U ∧ U.cell? ⟨W.heap.size, 8, none⟩ = some (.slice (some ⟨bk, ok, none⟩) n cap0) ∧ U.cell? ⟨bw, ow, none⟩ = some (.int .i64 (j : Int)) ∧ U.cell? ⟨bk, ok + j * 9, none⟩ = some (.int .i64 p.1.hd.kind) ∧ U.cell? ⟨bk, ok + j * 9 + 1, none⟩ = some (.string (bs p.1.hd.text)) ∧ U.cell? ⟨bk, ok + j * 9 + 2, none⟩ = some (.string (bs p.1.hd.type)) ∧ U.cell? ⟨bk, ok + j * 9 + 3, none⟩ = some (.int .i64 p.1.hd.n) ∧ U.cell? ⟨bk, ok + j * 9 + 4, none⟩ = some (.int .i64 p.1.hd.fr) ∧ U.cell? ⟨bk, ok + j * 9 + 5, none⟩ = some (.int .i64 p.1.hd.to_) ∧ U.cell? ⟨bk, ok + j * 9 + 6, none⟩ = some (.int .i64 p.1.hd.at_) ∧ U.cell? ⟨bk, ok + j * 9 + 7, none⟩ = some (.int .i64 p.1.hd.tat) ∧ U.cell? ⟨bk, ok + j * 9 + 8, none⟩ = some (.slice ay yl cy) ∧ U.cell? ⟨W.heap.size + 1, 0, none⟩ = some (.int .i64 x.hd.kind) ∧ U.cell? ⟨W.heap.size + 1, 1, none⟩ = some (.string (bs x.hd.text)) ∧ U.cell? ⟨W.heap.size + 1, 2, none⟩ = some (.string (bs x.hd.type)) ∧ U.cell? ⟨W.heap.size + 1, 3, none⟩ = some (.int .i64 x.hd.n) ∧ U.cell? ⟨W.heap.size + 1, 4, none⟩ = some (.int .i64 x.hd.fr) ∧ U.cell? ⟨W.heap.size + 1, 5, none⟩ = some (.int .i64 x.hd.to_) ∧ U.cell? ⟨W.heap.size + 1, 6, none⟩ = some (.int .i64 x.hd.at_) ∧ U.cell? ⟨W.heap.size + 1, 7, none⟩ = some (.int .i64 x.hd.tat) ∧ U.cell? ⟨W.heap.size + 1, 8, none⟩ = some (.slice a1 nx cap1)) := Lib.hid (fun U hU => by
        have hk := cs.later (BW1.out.trans (Below.mono hU (by omega)))
        rw [hpy] at hk
        obtain ⟨k0, k1, k2, k3, k4, k5, k6, k7, k8⟩ := hk
        have hx1 := (show Cells U (W.heap.size + 1) 0 x.hd (.slice a1 nx cap1) from Cells.row (R1.out.later hU))
        obtain ⟨d0, d1, d2, d3, d4, d5, d6, d7, d8⟩ := hx1
        simp only [Nat.zero_add] at d1 d2 d3 d4 d5 d6 d7 d8
        exact ⟨hU, (R0.out.later hU).cell (j := 8) rfl, (hU.cell (p := ⟨bw, ow, none⟩) (World.block_lt_of_cell? W1 _ cw)).trans cw, k0, k1, k2, k3, k4, k5, k6, k7, k8, d0, d1, d2, d3, d4, d5, d6, d7, d8⟩)
      have C27 : Hid (∀ U, AQ W1 U → Calls Try.prog 27 #[.agg #[.int .i64 p.1.hd.kind, .string (bs p.1.hd.text), .string (bs p.1.hd.type), .int .i64 p.1.hd.n, .int .i64 p.1.hd.fr, .int .i64 p.1.hd.to_, .int .i64 p.1.hd.at_, .int .i64 p.1.hd.tat, .slice ay yl cy], .slice a' (m - 1) (capw - 1), .agg #[.int .i64 x.hd.kind, .string (bs x.hd.text), .string (bs x.hd.type), .int .i64 x.hd.n, .int .i64 x.hd.fr, .int .i64 x.hd.to_, .int .i64 x.hd.at_, .int .i64 x.hd.tat, .slice a1 nx cap1]] U fun e w' => (∃ (h5 : Hd) (a5 : Option Addr) (n5 c5 : Nat) (q : Bool), e = .returned (.tuple #[.agg #[.int .i64 h5.kind, .string (bs h5.text), .string (bs h5.type), .int .i64 h5.n, .int .i64 h5.fr, .int .i64 h5.to_, .int .i64 h5.at_, .int .i64 h5.tat, .slice a5 n5 c5], .bool q]) ∧ RPutX w0 U p.1 Lw x h5 (.slice a5 n5 c5) q w') ∧ Below U.heap.size U w') := Lib.hid (fun U hU => by
        have h := HTL.out a' hatl.out
        rw [show Lw.length = m - 1 by have := hL.out; have := hm1.out; omega] at h
        exact (ih p.1 (.slice ay yl cy) (.slice a' (m - 1) (capw - 1)) U (BW1.out.trans (Below.mono hU (by omega))) hpc1 HKy.out h).mono fun e w' h => ⟨h.1.shape, h.2⟩)
      have C27A : Hid (∀ U, AQ W1 U → Calls Try.prog 27 #[.agg #[.int .i64 p.1.hd.kind, .string (bs p.1.hd.text), .string (bs p.1.hd.type), .int .i64 p.1.hd.n, .int .i64 p.1.hd.fr, .int .i64 p.1.hd.to_, .int .i64 p.1.hd.at_, .int .i64 p.1.hd.tat, .slice ay yl cy], .slice a' (m - 1) (capw - 1), .agg #[.int .i64 x.hd.kind, .string (bs x.hd.text), .string (bs x.hd.type), .int .i64 x.hd.n, .int .i64 x.hd.fr, .int .i64 x.hd.to_, .int .i64 x.hd.at_, .int .i64 x.hd.tat, .slice a1 nx cap1]] (U.alloc (.cells #[.int .i64 0, .string ⟨#[]⟩, .string ⟨#[]⟩, .int .i64 0, .int .i64 0, .int .i64 0, .int .i64 0, .int .i64 0, .slice none 0 0] 24)) fun e w' => (∃ (h5 : Hd) (a5 : Option Addr) (n5 c5 : Nat) (q : Bool), e = .returned (.tuple #[.agg #[.int .i64 h5.kind, .string (bs h5.text), .string (bs h5.type), .int .i64 h5.n, .int .i64 h5.fr, .int .i64 h5.to_, .int .i64 h5.at_, .int .i64 h5.tat, .slice a5 n5 c5], .bool q]) ∧ RPutX w0 (U.alloc (.cells #[.int .i64 0, .string ⟨#[]⟩, .string ⟨#[]⟩, .int .i64 0, .int .i64 0, .int .i64 0, .int .i64 0, .int .i64 0, .slice none 0 0] 24)) p.1 Lw x h5 (.slice a5 n5 c5) q w') ∧ Below (U.alloc (.cells #[.int .i64 0, .string ⟨#[]⟩, .string ⟨#[]⟩, .int .i64 0, .int .i64 0, .int .i64 0, .int .i64 0, .int .i64 0, .slice none 0 0] 24)).heap.size (U.alloc (.cells #[.int .i64 0, .string ⟨#[]⟩, .string ⟨#[]⟩, .int .i64 0, .int .i64 0, .int .i64 0, .int .i64 0, .int .i64 0, .slice none 0 0] 24)) w') := Lib.hid (fun U hU => C27.out _ (AQ.alloc hU _))
      clear cs hky hin ih hpy
      go_enter Try.func27, Try.ntmps27
      go_upto_region 1 with fail
      rw [hW1.out]
      go_upto_region 3 with fail
      go_quiet (fail)
      go_upto_region 5 with fail
      have Hs1 := Lib.hid hs1
      clear hs1
      have HSq := HS.out (W1.drewN (nq + 1)) (below_draws (Below.refl _ _) _)
      have HSr := HS.out (W1.drewN nq).drew (AQ.drew (below_draws (Below.refl _ _) _))
      go_cut [8, 9] from 29 to 42 (fun g b wx => ∃ (gb : Nat) (q : Bool), g = .pointer (some ⟨gb, 0, none⟩) ∧ b = .bool q ∧ Hid (PtMid w0 W1 p.1 Lw x gb q wx))
      case first =>
        go_region_held3 (fun U => AQ W1 U ∧ U.cell? ⟨W.heap.size, 8, none⟩ = some (.slice (some ⟨bk, ok, none⟩) n cap0) ∧ U.cell? ⟨bw, ow, none⟩ = some (.int .i64 (j : Int)) ∧ U.cell? ⟨bk, ok + j * 9, none⟩ = some (.int .i64 p.1.hd.kind) ∧ U.cell? ⟨bk, ok + j * 9 + 1, none⟩ = some (.string (bs p.1.hd.text)) ∧ U.cell? ⟨bk, ok + j * 9 + 2, none⟩ = some (.string (bs p.1.hd.type)) ∧ U.cell? ⟨bk, ok + j * 9 + 3, none⟩ = some (.int .i64 p.1.hd.n) ∧ U.cell? ⟨bk, ok + j * 9 + 4, none⟩ = some (.int .i64 p.1.hd.fr) ∧ U.cell? ⟨bk, ok + j * 9 + 5, none⟩ = some (.int .i64 p.1.hd.to_) ∧ U.cell? ⟨bk, ok + j * 9 + 6, none⟩ = some (.int .i64 p.1.hd.at_) ∧ U.cell? ⟨bk, ok + j * 9 + 7, none⟩ = some (.int .i64 p.1.hd.tat) ∧ U.cell? ⟨bk, ok + j * 9 + 8, none⟩ = some (.slice ay yl cy) ∧ U.cell? ⟨W.heap.size + 1, 0, none⟩ = some (.int .i64 x.hd.kind) ∧ U.cell? ⟨W.heap.size + 1, 1, none⟩ = some (.string (bs x.hd.text)) ∧ U.cell? ⟨W.heap.size + 1, 2, none⟩ = some (.string (bs x.hd.type)) ∧ U.cell? ⟨W.heap.size + 1, 3, none⟩ = some (.int .i64 x.hd.n) ∧ U.cell? ⟨W.heap.size + 1, 4, none⟩ = some (.int .i64 x.hd.fr) ∧ U.cell? ⟨W.heap.size + 1, 5, none⟩ = some (.int .i64 x.hd.to_) ∧ U.cell? ⟨W.heap.size + 1, 6, none⟩ = some (.int .i64 x.hd.at_) ∧ U.cell? ⟨W.heap.size + 1, 7, none⟩ = some (.int .i64 x.hd.tat) ∧ U.cell? ⟨W.heap.size + 1, 8, none⟩ = some (.slice a1 nx cap1))
          (first | (with_reducible assumption) | (with_reducible exact HS.out _ (by assumption)) | (with_reducible exact HS.out _ (AQ.alloc (And.left (by assumption : AQ W1 _ ∧ _)) _)) | (with_reducible exact HS.out _ (AQ.alloc (by assumption : AQ W1 _) _)) | (with_reducible exact HS.out _ (AQ.nine (by assumption) (by assumption) _ _ _ _ _ _ _ _ _)) | (trace_state; fail))
          (first
            | (go_at_call 27; (with_reducible refine (C27A.out _ (And.left (by assumption : AQ W1 _ ∧ _))).mono ?_); rintro e w' ⟨⟨h5, a5, n5, c5, q, rfl, hq5⟩, hb⟩; have Hq5 := Lib.hid hq5; clear hq5; have hgs := AQ.size_al hb (And.left (by assumption : AQ W1 _ ∧ _)); have hrow0 := RowAt.later (RowAt.new _ 24 #[.int .i64 0, .string ⟨#[]⟩, .string ⟨#[]⟩, .int .i64 0, .int .i64 0, .int .i64 0, .int .i64 0, .int .i64 0, .slice none 0 0]) hb; have hrow : Hid (RowAt w' W1.heap.size 24 #[.int .i64 0, .string ⟨#[]⟩, .string ⟨#[]⟩, .int .i64 0, .int .i64 0, .int .i64 0, .int .i64 0, .int .i64 0, .slice none 0 0]) := Lib.hid hrow0; clear hrow0; have hs' : AQ W1 w' := AQ.later (AQ.alloc (And.left (by assumption : AQ W1 _ ∧ _)) _) hb; obtain ⟨⟨r0, r1, r2, r3, r4, r5, r6, r7, r8⟩, z0, z1, z2, z3, z4, z5, z6, z7, z8⟩ := row_facts hrow.out; have hgs2 : W1.heap.size ≤ W1.heap.size := Nat.le_refl _)
            | (go_at_call 27; (with_reducible refine (C27.out _ (And.left (by assumption : AQ W1 _ ∧ _))).mono ?_); rintro e w' ⟨⟨h5, a5, n5, c5, q, rfl, hq5⟩, hb⟩; have Hq5 := Lib.hid hq5; clear hq5; have hgs := AQ.size_in hb (And.left (by assumption : AQ W1 _ ∧ _)); have hs' : AQ W1 w' := AQ.later (And.left (by assumption : AQ W1 _ ∧ _)) hb))
        · go_wp2_with fail
          go_meet
          exact ⟨_, q, rfl, rfl, Lib.hid (mid_a hs' hgs Hq5.out)⟩
        · have NN := Lib.hid (nine hrow.out h5 (.slice a5 n5 c5))
          have hst := Lib.hid (fun V hR hV => mid_b (V := V) (q := q) hs' (Nat.le_trans hw0 B1.out.size) rfl Hq5.out hR hV)
          go_wp2_with fail
          go_meet
          exact ⟨_, q, rfl, rfl, Lib.hid (hst.out _ NN.out.1 NN.out.2)⟩
      case rest =>
        obtain ⟨gb, q, rfl, rfl, hM⟩ := hcut
        obtain ⟨⟨hge, bel⟩, h5, a5, n5, c5, R5, X5⟩ := hM.out
        have Bel := Lib.hid bel
        have HR5 := Lib.hid R5
        have RR2 := Lib.hid (R2.out.later bel)
        have RR0 := Lib.hid (R0.out.later bel)
        have hsz : W1.heap.size ≤ wc.heap.size := bel.size
        clear b0 b1 b2 b3 b4 b5 b6 b7 b8 d0 d1 d2 d3 d4 d5 d6 d7 d8 r0 r1 r2 r3 r4 r5 r6 r7 r8 z0 z1 z2 z3 z4 z5 z6 z7 z8 g0 g1 g2 g3 g4 g5 g6 g7 g8 HSq HSr hM bel R5
        obtain ⟨⟨r0, r1, r2, r3, r4, r5, r6, r7, r8⟩, z0, z1, z2, z3, z4, z5, z6, z7, z8⟩ := row_facts RR2.out
        rcases X5 with ⟨hno, rfl⟩ | ⟨hyes, rfl, hh5, hk5⟩
        · have NN := Lib.hid (nine RR2.out nilH (.slice none 0 0))
          have Hfin : Hid (∀ V, G (.returned (.tuple #[nilH.agg (.slice none 0 0), .bool false])) V) := Lib.hid (fun V => by
            rw [← hG.out]
            exact .inl ⟨by rw [getN_yes hy.out]; exact hno, rfl⟩)
          clear hno
          go_wp2_with fail
          refine bodyPost_ret (results_cell_row_tmp (P := Try.prog) rfl _ _ (W.heap.size + 2) 24 (nilH.vals (.slice none 0 0)) (0, 0) _ rfl NN.out.1 Try.underlying24 rfl rfl) rfl ?_
          exact ⟨Hfin.out _, (B1.out.trans (Below.mono Bel.out B1.out.size)).trans (NN.out.2.below _ (by omega))⟩
        · have B0w := Lib.hid (BW1.out.trans (Below.mono Bel.out (Nat.le_trans hw0 (by have := B1.out.size; omega))))
          have O0 : Hid (OwnP w0 wc.heap.size wc (.slice none 0 0) []) := Lib.hid (OwnP.nil B0w.out B0w.out.size (Nat.le_refl _))
          have HRc : Hid (RowP wc (some ⟨bk, ok, none⟩) ps) := Lib.hid (RowP.below HPR.out B0w.out)
          have HQ : Hid (∀ p ∈ ps, KidsAt w0 p.1.kids p.2) := Lib.hid (fun p hp => by
            obtain ⟨k, hk⟩ := List.getElem?_of_mem hp
            obtain ⟨_, _, _, _, h⟩ := HPR.out k p hk
            exact h)
          have cb8 : wc.cell? ⟨W.heap.size, 8, none⟩ = some (.slice (some ⟨bk, ok, none⟩) n cap0) := RR0.out.cell (j := 8) rfl
          have Hc := Lib.hid (hk5)
          have Hyes := Lib.hid hyes
          have Hh5 := Lib.hid hh5
          clear hyes hh5 hk5 r0 r1 r2 r3 r4 r5 r6 r7 r8 z0 z1 z2 z3 z4 z5 z6 z7 z8
          go_wp2_with (at_builtin; refine wpList_append_nds (w0 := w0) (w := wc) rfl _ _ rfl _ [] ps (some ⟨bk, ok, none⟩) cap0 rfl O0.out (by rw [hn.out]; rfl) HRc.out HQ.out (by have h := hn.out; simp; omega) ?_; intro v2 W2 hown2 hb2)
          obtain ⟨g, cap5, rfl, hbg, hcp1, hcp2, ⟨cs5, hg5, hcs5⟩, hcell⟩ := (show OwnP w0 wc.heap.size W2 v2 ps by simpa using hown2).own (by have h := hn.out; omega)
          have Hb2 := Lib.hid hb2
          have AQ2 : Hid (AQ W1 W2) := Lib.hid (AQ.later Bel.out hb2)
          have hcp2' := hcp2
          unfold maxLen at hcp2'
          rw [hn.out] at hcp1 ⊢
          have Hg5 := Lib.hid hg5
          have Hcell := Lib.hid hcell
          have hcj := hcell j p hp.out
          have HR6 := Lib.hid (HR5.out.later hb2)
          have cw2 : W2.cell? ⟨bw, ow, none⟩ = some (.int .i64 (j : Int)) := (AQ2.out.cell (p := ⟨bw, ow, none⟩) (World.block_lt_of_cell? W1 _ cw)).trans cw
          have hzz : ∀ i, W2.frozen? ⟨g, i, none⟩ = false := fun i => by simp [World.frozen?, Hg5.out]
          have Hcj := Lib.hid hcj
          clear hown2 hb2 hg5 hcell
          obtain ⟨d0, d1, d2, d3, d4, d5, d6, d7, d8⟩ := hcj
          obtain ⟨c0, c1, c2, c3, c4, c5', c6, c7, c8⟩ := (show Cells W2 gb 0 h5 (.slice a5 n5 c5) from Cells.row HR6.out)
          simp only [Nat.zero_add] at c1 c2 c3 c4 c5' c6 c7 c8
          have z0 := hzz (j * 9)
          have z1 := hzz (j * 9 + 1)
          have z2 := hzz (j * 9 + 2)
          have z3 := hzz (j * 9 + 3)
          have z4 := hzz (j * 9 + 4)
          have z5 := hzz (j * 9 + 5)
          have z6 := hzz (j * 9 + 6)
          have z7 := hzz (j * 9 + 7)
          have z8 := hzz (j * 9 + 8)
          clear hzz
          go_region
          obtain ⟨N3, hN3⟩ : ∃ N3, Hid ((nineAt W2 g (j * 9) h5 (.slice a5 n5 c5)).drew = N3) := ⟨_, Lib.hid rfl⟩
          have U3 : Hid (Upd W2 N3 g (j * 9)) := by rw [← hN3.out]; exact Lib.hid ((nineAt_upd W2 g (j * 9) h5 _).trans (Upd.drew _ _ _))
          have C3 : Hid (Cells N3 g (j * 9) h5 (.slice a5 n5 c5)) := by rw [← hN3.out]; exact Lib.hid ((nineAt_cells Hcj.out h5 _).later (below_drew (Below.refl _ _)))
          have hN3' := hN3.out
          unfold nineAt at hN3'
          rw [hN3']
          clear hN3' d0 d1 d2 d3 d4 d5 d6 d7 d8 c0 c1 c2 c3 c4 c5' c6 c7 c8 z0 z1 z2 z3 z4 z5 z6 z7 z8 cw2 cb8
          have hs1 := Hs1.out
          have hS0 : Hid (RowAt N3 W.heap.size 24 #[.int .i64 t.hd.kind, .string (bs t.hd.text), .string (bs t.hd.type), .int .i64 t.hd.n, .int .i64 t.hd.fr, .int .i64 t.hd.to_, .int .i64 t.hd.at_, .int .i64 t.hd.tat, .slice (some ⟨bk, ok, none⟩) n cap0]) := Lib.hid ((U3.out.other _ (by omega)).trans ((Hb2.out.block _ (by omega)).trans RR0.out))
          have hS2 : Hid (RowAt N3 (W.heap.size + 2) 24 #[.int .i64 0, .string ⟨#[]⟩, .string ⟨#[]⟩, .int .i64 0, .int .i64 0, .int .i64 0, .int .i64 0, .int .i64 0, .slice none 0 0]) := Lib.hid ((U3.out.other _ (by omega)).trans ((Hb2.out.block _ (by omega)).trans RR2.out))
          have y8 := hS0.out.frozen 8
          have x8 : N3.cell? ⟨W.heap.size, 8, none⟩ = some (.slice (some ⟨bk, ok, none⟩) n cap0) := hS0.out.cell (j := 8) rfl
          obtain ⟨N4, hN4⟩ : ∃ N4, Hid (N3.setCell ⟨W.heap.size, 8, none⟩ (.slice (some ⟨g, 0, none⟩) n cap5) = N4) := ⟨_, Lib.hid rfl⟩
          have T0 : Hid (RowAt N4 W.heap.size 24 #[.int .i64 t.hd.kind, .string (bs t.hd.text), .string (bs t.hd.type), .int .i64 t.hd.n, .int .i64 t.hd.fr, .int .i64 t.hd.to_, .int .i64 t.hd.at_, .int .i64 t.hd.tat, .slice (some ⟨g, 0, none⟩) n cap5]) := by rw [← hN4.out]; exact Lib.hid (hS0.out.set 8 _)
          have T2 : Hid (RowAt N4 (W.heap.size + 2) 24 #[.int .i64 0, .string ⟨#[]⟩, .string ⟨#[]⟩, .int .i64 0, .int .i64 0, .int .i64 0, .int .i64 0, .int .i64 0, .slice none 0 0]) := by rw [← hN4.out]; exact Lib.hid (hS2.out.other (by omega) 8 _)
          have hO4 : Hid (∀ q, q ≠ W.heap.size → N4.heap[q]? = N3.heap[q]?) := by rw [← hN4.out]; exact Lib.hid (fun q hq => Below.heap_setCell N3 ⟨W.heap.size, 8, none⟩ _ q (by simpa using hq))
          have hZ4 : N4.heap.size = N3.heap.size := by rw [← hN4.out]; simp [World.setCell]
          have B4 : Hid (Below W.heap.size W N4) := by
            rw [← hN4.out]
            exact Lib.hid (((B1.out.trans (Below.mono AQ2.out B1.out.size)).trans (U3.out.below _ (by omega))).setCell (p := ⟨W.heap.size, 8, none⟩) (Nat.le_refl _) _)
          have HN4 := Lib.hid hZ4
          clear hZ4
          go_upto_region 12 with fail
          rw [hN4.out]
          clear x8 y8
          obtain ⟨d0, d1, d2, d3, d4, d5, d6, d7, d8⟩ := (show Cells N4 W.heap.size 0 t.hd (.slice (some ⟨g, 0, none⟩) n cap5) from Cells.row T0.out)
          simp only [Nat.zero_add] at d1 d2 d3 d4 d5 d6 d7 d8
          obtain ⟨⟨r0, r1, r2, r3, r4, r5, r6, r7, r8⟩, z0, z1, z2, z3, z4, z5, z6, z7, z8⟩ := row_facts T2.out
          have NN := Lib.hid (nine T2.out t.hd (.slice (some ⟨g, 0, none⟩) n cap5))
          have hgl : g < W2.heap.size := (Array.getElem?_eq_some_iff.1 Hg5.out).1
          have Hfin : Hid (∀ V, Upd N4 V (W.heap.size + 2) 0 → G (.returned (.tuple #[t.hd.agg (.slice (some ⟨g, 0, none⟩) n cap5), .bool true])) V) := Lib.hid (fun V U => by
            rw [← hG.out]
            refine .inr ⟨by rw [getN_yes hy.out]; exact Hyes.out, .slice (some ⟨g, 0, none⟩) n cap5, by rw [putN_step hy.out]; rfl, fun V2 hV2 => ?_⟩
            have hVs : V.heap.size = W2.heap.size := U.size.trans (HN4.out.trans U3.out.size)
            have hgV : V2.heap[g]? = N3.heap[g]? := by
              rw [hV2 g (.inr (by omega)) (by omega), U.other g (by omega), hO4.out g (by omega)]
            have chain : ∀ b, (b < w0.heap.size ∨ W1.heap.size ≤ b) → b < wc.heap.size → V2.heap[b]? = wc.heap[b]? := fun b hb hbl => by
              have := Hb2.out.size
              rw [hV2 b (hb.imp id fun h => by omega) (by omega), U.other b (by omega), hO4.out b (by omega), U3.out.other b (by omega), Hb2.out.block b hbl]
            rw [putN_step hy.out]
            have hlen : (t.kids.set j (putN p.1 Lw x)).length = n := by rw [List.length_set, ← HNT.out]
            have hrw : Rw W2 g (n * 9) := ⟨cs5, Hg5.out, by rw [← hn.out]; exact hcs5⟩
            have key := KidsAt.mk (W := V2) (ks := t.kids.set j (putN p.1 Lw x)) (a := some ⟨g, 0, none⟩) (cap := cap5) (by rw [hlen]; exact hcp1) hcp2 (fun k t' hk => by
              by_cases hkj : k = j
              · subst hkj
                rw [List.getElem?_set_self (by rw [← HNT.out]; exact hjn)] at hk
                obtain rfl := Option.some.inj hk
                refine ⟨g, 0, .slice a5 n5 c5, rfl, ?_, Hc.out V2 chain⟩
                rw [Nat.zero_add, ← Hh5.out]
                exact C3.out.same fun i _ => cell_same hgV _
              · rw [List.getElem?_set_ne (fun h => hkj h.symm)] at hk
                rw [← HPS.out, List.getElem?_map] at hk
                cases hp' : ps[k]? with
                | none => rw [hp'] at hk; simp at hk
                | some p' =>
                  rw [hp'] at hk
                  obtain rfl : p'.1 = t' := by simpa using hk
                  refine ⟨g, 0, p'.2, rfl, ?_, (HQ.out p' (List.mem_of_getElem? hp')).heap fun b hb => (chain b (.inl hb) (by have := B0w.out.size; omega)).trans (B0w.out.block b hb)⟩
                  rw [Nat.zero_add]
                  have hc0 := Hcell.out k p' hp'
                  refine hc0.same fun i hi => ?_
                  rw [cell_same hgV, U3.out.cell hrw _ (by omega)])
            rw [hlen] at key
            exact key)
          go_wp2_with fail
          refine bodyPost_ret (results_cell_row_tmp (P := Try.prog) rfl _ _ (W.heap.size + 2) 24 (t.hd.vals (.slice (some ⟨g, 0, none⟩) n cap5)) (0, 0) _ rfl NN.out.1 Try.underlying24 rfl rfl) rfl ?_
          exact ⟨Hfin.out _ NN.out.2, B4.out.trans (NN.out.2.below _ (by omega))⟩
    · have NN := Lib.hid (nine R2.out nilH (.slice none 0 0))
      have NNq := Lib.hid (fun q => nine (show RowAt (W1.drewN q) (W.heap.size + 2) 24 _ from R2.out) nilH (.slice none 0 0))
      have Bq := Lib.hid (fun q => below_draws B1.out q)
      have Hfin : Hid (∀ V, G (.returned (.tuple #[nilH.agg (.slice none 0 0), .bool false])) V) := Lib.hid (fun V => by
        rw [← hG.out]
        exact .inl ⟨getN_no (by rw [← HNT.out]; exact hin), rfl⟩)
      by_cases hneg : i < 0
      · have f1 : decide (i < 0) = true := decide_eq_true hneg
        clear hin hneg
        go_enter Try.func27, Try.ntmps27
        go_upto_region 1 with fail
        rw [hW1.out]
        go_upto_region 3 with fail
        go_quiet (fail)
        go_wp2_with fail
        refine bodyPost_ret (results_cell_row_tmp (P := Try.prog) rfl _ _ (W.heap.size + 2) 24 (nilH.vals (.slice none 0 0)) (0, 0) _ rfl (NNq.out _).1 Try.underlying24 rfl rfl) rfl ?_
        exact ⟨Hfin.out _, (Bq.out _).trans ((NNq.out _).2.below _ (by omega))⟩
      · have f1 : decide (i < 0) = false := decide_eq_false hneg
        have f2 : decide ((n : Int) ≤ i) = true := decide_eq_true (by omega)
        clear hin hneg
        go_enter Try.func27, Try.ntmps27
        go_upto_region 1 with fail
        rw [hW1.out]
        go_upto_region 3 with fail
        go_quiet (fail)
        go_wp2_with fail
        refine bodyPost_ret (results_cell_row_tmp (P := Try.prog) rfl _ _ (W.heap.size + 2) 24 (nilH.vals (.slice none 0 0)) (0, 0) _ rfl (NNq.out _).1 Try.underlying24 rfl rfl) rfl ?_
        exact ⟨Hfin.out _, (Bq.out _).trans ((NNq.out _).2.below _ (by omega))⟩
end Go.Proofs.Ytpnfjiglphogoab
