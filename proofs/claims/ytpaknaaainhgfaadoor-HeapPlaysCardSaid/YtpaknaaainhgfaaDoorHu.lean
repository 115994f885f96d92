/-
  For the law HeapPlays: the walk. Condition: the table of the powers of ten holds them; texts are no longer than any may be.
-/
import Derived.Test.YtpaknaaainhgfaaDoorHt
import Derived.Test.YtpaknaaainhgfaaDoorHwake
import Derived.Deep.Cut
import Derived.Laws.Bits64b
import Derived.IntWalk
import Derived.BigQuiet
import Derived.Deep.CutBlock
import Derived.Deep.CutRange
namespace Go.Proofs.YtpaknaaainhgfaaDoor
open Go.RowKit Go.Maps Go.WideMaps Go.Shelf
set_option linter.unusedSimpArgs false
set_option linter.unusedVariables false

/-- Something that is done: its kind, the value, the field, what is set. -/
structure Ac where
  k : Int
  vk : Int
  vn : Int
  id : ByteArray
  xk : Int
  xn : Int
def acRow (x : Ac) : Array Value := #[.int .i64 x.k, .int .i64 x.vk, .int .i64 x.vn, .string x.id, .int .i64 x.xk, .int .i64 x.xn]
/-- A script. -/
def Acs (W : World) (v : Value) (S : List Ac) : Prop :=
  ∃ (a : Option Addr) (cap : Nat), v = .slice a S.length cap ∧ S.length ≤ cap ∧ cap ≤ maxLen ∧ ∀ k x, S[k]? = some x → ((Lit.int .i64 x.vn).wf = true ∧ x.id.size ≤ maxLen) ∧ ∃ b off, a = some ⟨b, off, none⟩ ∧ b < W.heap.size ∧ ∀ j u, (acRow x)[j]? = some u → W.cell? ⟨b, off + k * 6 + j, none⟩ = some u
theorem bAl {W8 W : World} (h : Below W8.heap.size W8 W) (o : Obj) : Below W8.heap.size W8 (W.alloc o) := h.alloc h.size o
theorem bDr {n0 : Nat} {W8 W : World} (h : Below n0 W8 W) : Below n0 W8 W.drew := below_draws h 1
theorem bTr {W8 W U : World} (h : Below W8.heap.size W8 W) (k : Below W.heap.size W U) : Below W8.heap.size W8 U := h.trans (k.mono h.size)
theorem bSt {n0 b j : Nat} {W8 W : World} (h : Below n0 W8 W) (hb : n0 ≤ b) (v : Value) : Below n0 W8 (W.setCell ⟨b, j, none⟩ v) := h.setCell hb v
theorem Bo.other {W : World} {base h i b : Nat} {cs1 cs2 : List ByteArray} {L : List Sl} {f : Store} {ob mb : Option Nat} {p : Option Addr} {c : Nat} {q : Option Addr} {d : Nat} {t : TypeId} {vs : Array Value} (B : Bo W base h i cs1 cs2 L f ob mb p c q d) (r : RowAt W b t vs) (h85 : t ≠ 85) (h9 : t ≠ 9) (h93 : t ≠ 93) (j : Nat) (v : Value) : Bo (W.setCell ⟨b, j, none⟩ v) base h i cs1 cs2 L f ob mb p c q d := by
  have ne : ∀ k, k ≠ b → (W.setCell ⟨b, j, none⟩ v).heap[k]? = W.heap[k]? := fun k hk => Below.heap_setCell _ _ _ k hk
  unfold RowAt at r
  have own_ne' : ∀ {e s n : Nat} {u : Value} {xs : List Value}, W.ownsRow base e s u n xs → t ≠ e → ∀ k, u.ownBlock = some k → k ≠ b := by
    intro e s n u xs ho hte k hk
    rintro rfl
    obtain ⟨-, -, vs', fr, h3⟩ := own_type ho hk
    rw [r] at h3; cases h3
    exact hte rfl
  refine ⟨B.hp.kept (ne h ?_) (fun k hk => ne k ?_) (fun k hk => ne k ?_), owns_same B.oc (fun k hk => ne k (own_ne' B.oc h9 k hk)), owns_same B.os (fun k hk => ne k (own_ne' B.os h93 k hk)), B.apart⟩
  · rintro rfl
    obtain ⟨p, c, mv, hr, -⟩ := B.hp
    unfold RowAt at hr
    rw [r] at hr; cases hr
    exact h85 rfl
  · rintro rfl
    obtain ⟨-, -, vs', fr, h3⟩ := B.hp.own_at hk
    rw [r] at h3; cases h3
    exact h9 rfl
  · rintro rfl
    exact (B.hp.no_cells hk).2 _ _ _ r
theorem Class_any2 (k n : Int) (w : World) (base h m : Nat) (cs : List ByteArray) (f : Store) (H : Hp w base h cs m f) : Calls Tryd.prog 33 #[.pointer (some ⟨h, 0, none⟩), val2 k n] w fun e w' => e = .returned (.tuple #[.string (classOf cs k n).1, .bool (classOf cs k n).2]) ∧ Below w.heap.size w w' := by
  by_cases hb : isObjB cs.length k n = true
  · obtain ⟨rfl, h1, h2⟩ := (isObjB_iff cs.length k n).1 hb
    obtain ⟨j, hj⟩ := Int.eq_ofNat_of_zero_le (show 0 ≤ n - 1 by omega)
    obtain rfl : n = (j : Int) + 1 := by omega
    obtain ⟨s, hs⟩ : ∃ s, cs[j]? = some s := ⟨_, List.getElem?_eq_getElem (by omega)⟩
    have hc : classOf cs 3 ((j : Int) + 1) = (s, true) := by unfold classOf; rw [if_pos hb, hj]; simp [hs]
    rw [hc]
    exact Class_yes j s w base h m cs f H hs
  · have hc : classOf cs k n = (⟨#[]⟩, false) := by unfold classOf; rw [if_neg hb]
    rw [hc]
    exact Class_no k n w base h m cs f H (fun e => hb ((isObjB_iff cs.length k n).2 e))
theorem rowDr {W : World} {b : Nat} {t : TypeId} {vs : Array Value} (h : RowAt W b t vs) : RowAt W.drew b t vs := h
theorem own_set {W : World} {base n g j : Nat} {v u : Value} {xs : List Value} {t : TypeId} {vs : Array Value} (h : W.ownsRow base 93 4 v n xs) (r : RowAt W g t vs) (h93 : t ≠ 93) : (W.setCell ⟨g, j, none⟩ u).ownsRow base 93 4 v n xs :=
  owns_same h (fun k hk => Below.heap_setCell _ _ _ k (by
    have h1 := own_ne h r h93
    intro e
    exact h1 (by rw [hk, e])))
theorem own_drw {W : World} {base n : Nat} {v : Value} {xs : List Value} (h : W.ownsRow base 93 4 v n xs) : W.drew.ownsRow base 93 4 v n xs := owns_same h (fun _ _ => rfl)
theorem wp_cut {P : Program} {c : Code} {Q : Exit → Act → World → Prop} {a : Act} {w : World} (R : Act → Act → World → Prop) (h1 : c.wp P (fun e a' w' => match e with | .normal => R a a' w' | _ => False) a w) (h2 : ∀ a' w', R a a' w' → Q .normal a' w') : c.wp P Q a w :=
  Code.wp_mono (fun e a' w' h => by
    cases e with
    | normal => exact h2 a' w' h
    | _ => exact h.elim) h1
set_option maxRecDepth 100000 in
set_option maxHeartbeats 16000000 in
theorem HeapPlays_any (v : Value) (S : List Ac) (w : World) (hp : Pow w) (hv : Acs w v S) : Calls Tryd.prog 8 #[v] w fun e w' => e = .returned (.bool true) ∧ Below w.heap.size w w' := by
  obtain ⟨a, cap, rfl, hc, hm, hat⟩ := hv
  have Hat := Lib.hid hat; clear hat
  obtain ⟨N, hN⟩ : ∃ n, Hid (S.length = n) := ⟨_, Lib.hid rfl⟩
  rw [hN.out] at hc ⊢
  unfold maxLen at hm
  go_enter Tryd.func8, Tryd.ntmps8
  go_wp2_with fail
  refine (hawake_any w hp).mono ?_
  rintro e w1 ⟨rfl, b1⟩
  have B1 := Lib.hid b1
  clear b1
  by_cases hN100 : N ≤ 100
  case neg =>
    have f0 : decide ((N : Int) > 100) = true := decide_eq_true (by omega)
    go_wp2_with fail
    go_ret
    exact ⟨rfl, B1.out⟩
  have f0 : decide ((N : Int) > 100) = false := decide_eq_false (by omega)
  go_wp2_with fail
  refine (New_any w1).mono ?_
  rintro e w2 ⟨rfl, hw2⟩
  obtain ⟨W2, hW2⟩ : ∃ W, Hid (w2.alloc (.cells #[.slice none 0 0, .slice none 0 0] 42) = W) := ⟨_, Lib.hid rfl⟩
  have s2 : w2.heap.size = w1.heap.size + 1 := by rw [hw2]; simp
  have hs1 := B1.out.size
  have B2 : Hid (Below w.heap.size w W2) := by rw [← hW2.out, hw2]; exact Lib.hid ((B1.out.alloc hs1 _).alloc (by simp; omega) _)
  have Bo2 : Hid (Bo W2 w.heap.size w1.heap.size 0 [] [] [] (fun _ _ => none) none none none 0 none 0) := Lib.hid (by
    rw [← hW2.out]
    refine Bo.later ⟨?_, World.ownsRow_nil _ _ _ _, World.ownsRow_nil _ _ _ _, fun g hg => by cases hg⟩ ((Below.refl _ w2).alloc (Nat.le_refl _) _)
    rw [hw2]
    exact Hw.made w1 w.heap.size)
  have RR2 : Hid (RowAt W2 (w1.heap.size + 1) 42 #[.slice none 0 0, .slice none 0 0]) := by rw [← hW2.out, ← s2]; exact Lib.hid (RowAt.new w2 42 _)
  clear hw2
  go_wp2_with fail
  rw [hW2.out]
  go_loopw [6] (fun t wr => ∃ (j : Nat) (cs : List ByteArray) (L : List Sl) (f : Store) (ob mb : Option Nat) (p : Option Addr) (c : Nat) (q : Option Addr) (d : Nat), t = .int .i64 j ∧ j ≤ N ∧ cs.length ≤ j ∧ L.length ≤ j ∧ Hid (Bo wr w.heap.size w1.heap.size j cs cs L f ob mb p c q d) ∧ Hid (SameF f L) ∧ Hid (RowAt wr (w1.heap.size + 1) 42 #[.slice p cs.length c, .slice q L.length d]) ∧ Hid (Below w.heap.size w wr)) (fun t _ => N - (intOf t).toNat)
  case atStart => exact ⟨0, [], [], _, _, _, _, _, _, _, rfl, Nat.zero_le _, Nat.le_refl _, Nat.le_refl _, Bo2, Lib.hid SameF.nil, RR2, B2⟩
  case round =>
    obtain ⟨j, cs, L, f, ob, mb, p, c, q, d, rfl, hj, hcl, hLl, hBo, hsame, hrr, hB⟩ := hrel
    have hbs := hB.out.size
    by_cases jl : j < N
    case neg =>
      have hjN : j = N := by omega
      go_wp2_with fail
      go_ret
      exact ⟨rfl, hB.out⟩
    obtain ⟨x, hx⟩ : ∃ x, S[j]? = some x := ⟨_, List.getElem?_eq_getElem (by have := hN.out; omega)⟩
    obtain ⟨⟨hwf, hid⟩, b, off, rfl, hbl, hcs⟩ := Hat.out j x hx
    have hce : ∀ i u, (acRow x)[i]? = some u → wr.cell? ⟨b, off + j * 6 + i, none⟩ = some u := fun i u hu => (hB.out.cell (p := ⟨b, off + j * 6 + i, none⟩) hbl).trans (hcs i u hu)
    obtain ⟨xk, vk, vn, id, ak, an⟩ := x
    have c0 : wr.cell? ⟨b, off + j * 6, none⟩ = some (.int .i64 xk) := hce 0 _ rfl
    have c1 : wr.cell? ⟨b, off + j * 6 + 1, none⟩ = some (.int .i64 vk) := hce 1 _ rfl
    have c2 : wr.cell? ⟨b, off + j * 6 + 2, none⟩ = some (.int .i64 vn) := hce 2 _ rfl
    have c3 : wr.cell? ⟨b, off + j * 6 + 3, none⟩ = some (.string id) := hce 3 _ rfl
    have c4 : wr.cell? ⟨b, off + j * 6 + 4, none⟩ = some (.int .i64 ak) := hce 4 _ rfl
    have c5 : wr.cell? ⟨b, off + j * 6 + 5, none⟩ = some (.int .i64 an) := hce 5 _ rfl
    dsimp only at hwf hid
    have p0 : (0 : Int) ≤ (j : Int) := by omega
    have p1 : (j : Int) < (N : Int) := by omega
    have p2 : (j : Int) < (cap : Int) := by omega
    obtain ⟨W3, hW3⟩ : ∃ W, Hid (wr.alloc (.cells #[.int .i64 xk, .int .i64 vk, .int .i64 vn, .string id, .int .i64 ak, .int .i64 an] 46) = W) := ⟨_, Lib.hid rfl⟩
    have bw3 : Below wr.heap.size wr W3 := by rw [← hW3.out]; exact (Below.refl _ wr).alloc (Nat.le_refl _) _
    have RA : Hid (RowAt W3 wr.heap.size 46 #[.int .i64 xk, .int .i64 vk, .int .i64 vn, .string id, .int .i64 ak, .int .i64 an]) := by rw [← hW3.out]; exact Lib.hid (RowAt.new wr 46 _)
    have Bo3 := Lib.hid (hBo.out.later bw3)
    have RR3 := Lib.hid (hrr.out.later bw3)
    have B3 := Lib.hid (hB.out.trans (bw3.mono hbs))
    clear bw3 hce hcs hx
    go_upto_region 12 with fail
    rw [hW3.out]
    have y0 : W3.cell? ⟨wr.heap.size, 0, none⟩ = some (.int .i64 xk) := RA.out.cell rfl
    obtain ⟨t0, ht0⟩ : ∃ t, Hid ((bits BinOp.and IntKind.i64 xk 3 == 0) = t) := ⟨_, Lib.hid rfl⟩
    obtain ⟨t1, ht1⟩ : ∃ t, Hid ((bits BinOp.and IntKind.i64 xk 3 == 1) = t) := ⟨_, Lib.hid rfl⟩
    have g0 := ht0.out
    have g1 := ht1.out
    have hwfv := Lib.hid hwf
    have hidm := Lib.hid hid
    go_upto_block 2 with fail
    go_cut [8, 9, 10, 11, 12, 13, 14, 15, 16, 17, 18, 19] from 45 to 126 (fun v8 v9 v10 v11 v12 v13 v14 v15 v16 v17 v18 v19 wx => ∃ (cs' : List ByteArray) (L' : List Sl) (f' : Store) (ob' mb' : Option Nat) (p' : Option Addr) (c' : Nat) (q' : Option Addr) (d' : Nat), cs'.length ≤ j + 1 ∧ L'.length ≤ j + 1 ∧ Hid (Bo wx w.heap.size w1.heap.size (j + 1) cs' cs' L' f' ob' mb' p' c' q' d') ∧ Hid (SameF f' L') ∧ Hid (RowAt wx (w1.heap.size + 1) 42 #[.slice p' cs'.length c', .slice q' L'.length d']) ∧ Hid (RowAt wx wr.heap.size 46 #[.int .i64 xk, .int .i64 vk, .int .i64 vn, .string id, .int .i64 ak, .int .i64 an]) ∧ Hid (Below w.heap.size w wx))
    case first =>
      cases t0 with
      | true =>
        have y3 : W3.cell? ⟨wr.heap.size, 3, none⟩ = some (.string id) := RA.out.cell rfl
        go_wp2_with fail
        refine (Make_in2 id W3 w.heap.size w1.heap.size j cs f ob mb (by omega) B3.out.size Bo3.out.hp).mono ?_
        rintro e w4 ⟨rfl, ob4, H4, T4, hf4⟩
        have Bo4 := Lib.hid (Bo3.out.turn H4 T4 hf4)
        have RR4 := Lib.hid (T4.row Bo3.out.hp RR3.out (by decide) (by decide))
        have RA4 := Lib.hid (T4.row Bo3.out.hp RA.out (by decide) (by decide))
        have B4 := Lib.hid (B3.out.trans (T4.below Bo3.out.hp hs1 B3.out.size))
        clear H4 T4 hf4 y0 y3
        obtain ⟨n, hn⟩ : ∃ n, Hid (cs.length = n) := ⟨_, Lib.hid rfl⟩
        obtain ⟨W5, hW5⟩ : ∃ W, Hid (w4.alloc (.cells #[.int .i64 3, .int .i64 ((n : Int) + 1)] 44) = W) := ⟨_, Lib.hid rfl⟩
        have b5 : Below w4.heap.size w4 W5 := by rw [← hW5.out]; exact (Below.refl _ w4).alloc (Nat.le_refl _) _
        have R8 : Hid (RowAt W5 w4.heap.size 44 #[.int .i64 3, .int .i64 ((n : Int) + 1)]) := by rw [← hW5.out]; exact Lib.hid (RowAt.new w4 44 _)
        have Bo5 := Lib.hid (Bo4.out.later b5)
        have RR5 := Lib.hid (RR4.out.later b5)
        have RA5 := Lib.hid (RA4.out.later b5)
        have B5 := Lib.hid (B4.out.trans (b5.mono B4.out.size))
        clear b5
        rw [hn.out]
        go_upto_region 20 with fail
        rw [hW5.out]
        rw [hn.out] at RR5
        have y1 : W5.cell? ⟨w1.heap.size + 1, 0, none⟩ = some (.slice p n c) := RR5.out.cell rfl
        have y2 : W5.cell? ⟨w1.heap.size + 1, 1, none⟩ = some (.slice q L.length d) := RR5.out.cell rfl
        have y3 : W5.cell? ⟨wr.heap.size, 3, none⟩ = some (.string id) := RA5.out.cell rfl
        have call := Lib.hid (RefMake_any p c q L.length d cs id W5 w.heap.size (by omega) B5.out.size Bo5.out.oc)
        rw [hn.out] at call
        go_wp2_with fail
        refine call.out.mono ?_
        rintro e w6 ⟨p6, c6, rfl, oc6, K6, hf6⟩
        have hl6 : (cs ++ [id]).length = n + 1 := by rw [List.length_append, hn.out]; rfl
        have OC5 := Bo5.out.oc
        have T6 := Bo5.out.take (cs2' := cs ++ [id]) (p' := p6) (c' := c6) (by rw [hl6]; exact oc6) (by rw [hn.out]; exact K6) (by rw [hl6, hn.out]; exact hf6)
        rw [hn.out] at OC5
        have RR6 := Lib.hid (K6.row OC5 RR5.out (by decide))
        have RA6 := Lib.hid (K6.row OC5 RA5.out (by decide))
        have R86 := Lib.hid (K6.row OC5 R8.out (by decide))
        have B6 := Lib.hid (B5.out.trans (K6.below OC5 B5.out.size))
        have Bo6 := Lib.hid T6
        clear T6 K6 oc6 hf6 OC5 call y1 y2 y3
        obtain ⟨W7, hW7⟩ : ∃ W, Hid ((w6.alloc (.cells #[.slice p6 (n + 1) c6, .slice q L.length d] 42)).alloc (.cells #[.int .i64 3, .int .i64 ((n : Int) + 1)] 49) = W) := ⟨_, Lib.hid rfl⟩
        have b7 : Below w6.heap.size w6 W7 := by rw [← hW7.out]; exact ((Below.refl _ w6).alloc (Nat.le_refl _) _).alloc (by simp) _
        have R10 : Hid (RowAt W7 w6.heap.size 42 #[.slice p6 (n + 1) c6, .slice q L.length d]) := by rw [← hW7.out]; exact Lib.hid ((RowAt.new w6 42 _).alloc _)
        have R11 : Hid (RowAt W7 (w6.heap.size + 1) 49 #[.int .i64 3, .int .i64 ((n : Int) + 1)]) := by rw [← hW7.out]; exact Lib.hid (row_new1 w6 _ 49 _)
        have Bo7 := Lib.hid (Bo6.out.later b7)
        have RR7 := Lib.hid (RR6.out.later b7)
        have RA7 := Lib.hid (RA6.out.later b7)
        have R87 := Lib.hid (R86.out.later b7)
        have B7 := Lib.hid (B6.out.trans (b7.mono B6.out.size))
        have l6 : w1.heap.size + 1 < w6.heap.size := RR6.out.lt
        have l3 : wr.heap.size < w6.heap.size := RA6.out.lt
        have l4 : w4.heap.size < w6.heap.size := R86.out.lt
        have l34 : w1.heap.size + 1 < wr.heap.size := hrr.out.lt
        have l44 : wr.heap.size < w4.heap.size := RA4.out.lt
        clear b7
        go_upto_region 21 with fail
        rw [hW7.out]
        have y1 : W7.cell? ⟨w6.heap.size, 0, none⟩ = some (.slice p6 (n + 1) c6) := R10.out.cell rfl
        have y2 : W7.cell? ⟨w6.heap.size, 1, none⟩ = some (.slice q L.length d) := R10.out.cell rfl
        have y3 : W7.cell? ⟨w1.heap.size + 1, 0, none⟩ = some (.slice p n c) := RR7.out.cell rfl
        have y4 : W7.cell? ⟨w1.heap.size + 1, 1, none⟩ = some (.slice q L.length d) := RR7.out.cell rfl
        have y5 := RR7.out.frozen 0
        have y6 := RR7.out.frozen 1
        obtain ⟨W8, hW8⟩ : ∃ W, Hid ((W7.setCell ⟨w1.heap.size + 1, 0, none⟩ (.slice p6 (n + 1) c6)).setCell ⟨w1.heap.size + 1, 1, none⟩ (.slice q L.length d) = W) := ⟨_, Lib.hid rfl⟩
        have RR8 : Hid (RowAt W8 (w1.heap.size + 1) 42 #[.slice p6 (n + 1) c6, .slice q L.length d]) := by rw [← hW8.out]; exact Lib.hid ((RR7.out.set 0 _).set 1 _)
        have RA8 : Hid (RowAt W8 wr.heap.size 46 #[.int .i64 xk, .int .i64 vk, .int .i64 vn, .string id, .int .i64 ak, .int .i64 an]) := by rw [← hW8.out]; exact Lib.hid ((RA7.out.other (by omega) _ _).other (by omega) _ _)
        have R88 : Hid (RowAt W8 w4.heap.size 44 #[.int .i64 3, .int .i64 ((n : Int) + 1)]) := by rw [← hW8.out]; exact Lib.hid ((R87.out.other (by omega) _ _).other (by omega) _ _)
        have R118 : Hid (RowAt W8 (w6.heap.size + 1) 49 #[.int .i64 3, .int .i64 ((n : Int) + 1)]) := by rw [← hW8.out]; exact Lib.hid ((R11.out.other (by omega) _ _).other (by omega) _ _)
        have Bo8 : Hid (Bo W8 w.heap.size w1.heap.size j (cs ++ [id]) (cs ++ [id]) L f ob4 mb p6 c6 q d) := by rw [← hW8.out]; exact Lib.hid ((Bo7.out.other RR7.out (by decide) (by decide) (by decide) _ _).other (RR7.out.set 0 _) (by decide) (by decide) (by decide) _ _)
        have B8 : Hid (Below w.heap.size w W8) := by rw [← hW8.out]; exact Lib.hid (bSt (bSt B7.out (by omega) _) (by omega) _)
        go_upto_region 22 with fail
        rw [hW8.out]
        clear y1 y2 y3 y4 y5 y6
        have HS := Lib.hid (fun U (hU : Below W8.heap.size W8 U) => (⟨(R88.out.later hU).cell rfl, (R88.out.later hU).cell rfl, (R118.out.later hU).cell rfl, (R118.out.later hU).cell rfl⟩ : U.cell? ⟨w4.heap.size, 0, none⟩ = some (.int .i64 3) ∧ U.cell? ⟨w4.heap.size, 1, none⟩ = some (.int .i64 ((n : Int) + 1)) ∧ U.cell? ⟨w6.heap.size + 1, 0, none⟩ = some (.int .i64 3) ∧ U.cell? ⟨w6.heap.size + 1, 1, none⟩ = some (.int .i64 ((n : Int) + 1))))
        have fin : Hid (∀ U, Below W8.heap.size W8 U → ∃ (cs' : List ByteArray) (L' : List Sl) (f' : Store) (ob' mb' : Option Nat) (p' : Option Addr) (c' : Nat) (q' : Option Addr) (d' : Nat), cs'.length ≤ j + 1 ∧ L'.length ≤ j + 1 ∧ Hid (Bo U w.heap.size w1.heap.size (j + 1) cs' cs' L' f' ob' mb' p' c' q' d') ∧ Hid (SameF f' L') ∧ Hid (RowAt U (w1.heap.size + 1) 42 #[.slice p' cs'.length c', .slice q' L'.length d']) ∧ Hid (RowAt U wr.heap.size 46 #[.int .i64 xk, .int .i64 vk, .int .i64 vn, .string id, .int .i64 ak, .int .i64 an]) ∧ Hid (Below w.heap.size w U)) := Lib.hid (fun U hU => by
          have b := Bo8.out.later hU
          refine ⟨cs ++ [id], L, f, ob4, mb, p6, c6, q, d, by have := hn.out; omega, by omega, Lib.hid ⟨b.hp.more, b.oc, b.os, b.apart⟩, hsame, Lib.hid ?_, Lib.hid (RA8.out.later hU), Lib.hid (B8.out.trans (hU.mono B8.out.size))⟩
          rw [hl6]
          exact RR8.out.later hU)
        go_region_held_law (fun U => U.cell? ⟨w4.heap.size, 0, none⟩ = some (.int .i64 3) ∧ U.cell? ⟨w4.heap.size, 1, none⟩ = some (.int .i64 ((n : Int) + 1)) ∧ U.cell? ⟨w6.heap.size + 1, 0, none⟩ = some (.int .i64 3) ∧ U.cell? ⟨w6.heap.size + 1, 1, none⟩ = some (.int .i64 ((n : Int) + 1))) (first | exact HS.out _ (by repeat (first | exact Below.refl _ _ | assumption | with_reducible refine bDr ?_ | with_reducible refine bAl ?_ _ | (with_reducible refine bSt ?_ ?_ _; rotate_left; (first | exact Nat.le_refl _ | exact Below.size (by assumption))))) | go_keep) (first | (go_at_call 28; refine (plain_any 3 ((n : Int) + 1) _).mono ?_; rintro e ua ⟨rfl, bu⟩; have bu2 : Below W8.heap.size W8 ua := bTr (by repeat (first | exact Below.refl _ _ | assumption | with_reducible refine bDr ?_ | with_reducible refine bAl ?_ _ | (with_reducible refine bSt ?_ ?_ _; rotate_left; (first | exact Nat.le_refl _ | exact Below.size (by assumption))))) bu; clear bu))
        all_goals
          go_wp2_with fail
          go_meet
          exact fin.out _ (by repeat (first | exact Below.refl _ _ | assumption | with_reducible refine bDr ?_ | with_reducible refine bAl ?_ _ | (with_reducible refine bSt ?_ ?_ _; rotate_left; (first | exact Nat.le_refl _ | exact Below.size (by assumption)))))
      | false =>
        cases t1 with
        | true =>
          have y1 : W3.cell? ⟨wr.heap.size, 1, none⟩ = some (.int .i64 vk) := RA.out.cell rfl
          have y2 : W3.cell? ⟨wr.heap.size, 2, none⟩ = some (.int .i64 vn) := RA.out.cell rfl
          have y3 : W3.cell? ⟨wr.heap.size, 3, none⟩ = some (.string id) := RA.out.cell rfl
          obtain ⟨⟨⟨g1', g2'⟩, er⟩, hG⟩ : ∃ G, Hid (getOf cs.length f vk vn id ⟨#[105, 110, 116]⟩ = G) := ⟨_, Lib.hid rfl⟩
          have call := Lib.hid (Get_any vk vn hwfv.out id ⟨#[105, 110, 116]⟩ hidm.out W3 w.heap.size w1.heap.size j cs f Bo3.out.hp.hp)
          rw [hG.out] at call
          go_wp2_with fail
          refine call.out.mono ?_
          rintro e w4 ⟨rfl, b4⟩
          obtain ⟨n, hn⟩ : ∃ n, Hid (cs.length = n) := ⟨_, Lib.hid rfl⟩
          obtain ⟨W5, hW5⟩ : ∃ W, Hid (w4.alloc (.cells #[.int .i64 g1', .int .i64 g2'] 44) = W) := ⟨_, Lib.hid rfl⟩
          have b5 : Below W3.heap.size W3 W5 := by rw [← hW5.out]; exact b4.alloc b4.size _
          have R13 : Hid (RowAt W5 w4.heap.size 44 #[.int .i64 g1', .int .i64 g2']) := by rw [← hW5.out]; exact Lib.hid (RowAt.new w4 44 _)
          have Bo5 := Lib.hid (Bo3.out.later b5)
          have RR5 := Lib.hid (RR3.out.later b5)
          have RA5 := Lib.hid (RA.out.later b5)
          have B5 := Lib.hid (B3.out.trans (b5.mono B3.out.size))
          rw [hn.out] at RR5
          clear b4 b5 call y0 y1 y2 y3
          have HS := Lib.hid (fun U (hU : Below W5.heap.size W5 U) => (⟨(RR5.out.later hU).cell rfl, (RR5.out.later hU).cell rfl, (RA5.out.later hU).cell rfl, (RA5.out.later hU).cell rfl, (RA5.out.later hU).cell rfl⟩ : U.cell? ⟨w1.heap.size + 1, 0, none⟩ = some (.slice p n c) ∧ U.cell? ⟨w1.heap.size + 1, 1, none⟩ = some (.slice q L.length d) ∧ U.cell? ⟨wr.heap.size, 1, none⟩ = some (.int .i64 vk) ∧ U.cell? ⟨wr.heap.size, 2, none⟩ = some (.int .i64 vn) ∧ U.cell? ⟨wr.heap.size, 3, none⟩ = some (.string id)))
          have HC := Lib.hid (fun U (hU : Below W5.heap.size W5 U) => (by
            have h := RefGet_any p n c q d L vk vn id ⟨#[105, 110, 116]⟩ U w.heap.size (by omega) (Bo5.out.later hU).os
            rw [SameF.get hsame.out, ← hn.out, hG.out] at h
            rw [hn.out] at h
            exact h : Calls Tryd.prog 30 #[rf p n c q L.length d, val2 vk vn, .string id, .string ⟨#[105, 110, 116]⟩] U fun e w' => e = .returned (.tuple #[val2 g1' g2', .int .i64 er]) ∧ Below U.heap.size U w'))
          go_upto_region 26 with fail
          rw [hW5.out]
          go_cut [15, 16] from 108 to 117 (fun x y wx => ∃ g, x = .pointer (some ⟨g, 0, none⟩) ∧ y = .int .i64 er ∧ Hid (RowAt wx g 49 #[.int .i64 g1', .int .i64 g2']) ∧ Hid (Below W5.heap.size W5 wx))
          case first =>
            go_region_held_law (fun U => U.cell? ⟨w1.heap.size + 1, 0, none⟩ = some (.slice p n c) ∧ U.cell? ⟨w1.heap.size + 1, 1, none⟩ = some (.slice q L.length d) ∧ U.cell? ⟨wr.heap.size, 1, none⟩ = some (.int .i64 vk) ∧ U.cell? ⟨wr.heap.size, 2, none⟩ = some (.int .i64 vn) ∧ U.cell? ⟨wr.heap.size, 3, none⟩ = some (.string id)) (first | exact HS.out _ (by repeat (first | exact Below.refl _ _ | assumption | with_reducible refine bDr ?_ | with_reducible refine bAl ?_ _ | (with_reducible refine bSt ?_ ?_ _; rotate_left; (first | exact Nat.le_refl _ | exact Below.size (by assumption))))) | go_keep)
              (first
                | (go_at_call 28; refine (plain_any vk vn _).mono ?_; rintro e ua ⟨rfl, bu⟩; have bu2 : Below W5.heap.size W5 ua := bTr (by repeat (first | exact Below.refl _ _ | assumption | with_reducible refine bDr ?_ | with_reducible refine bAl ?_ _ | (with_reducible refine bSt ?_ ?_ _; rotate_left; (first | exact Nat.le_refl _ | exact Below.size (by assumption))))) bu; (first | (have zr := RowAt.later (RowAt.new _ 49 #[.int .i64 0, .int .i64 0]) bu; try (change RowAt _ W5.heap.size 49 _ at zr)) | (have zr := RowAt.later (rowDr (RowAt.new _ 49 #[.int .i64 0, .int .i64 0])) bu; try (change RowAt _ W5.heap.size 49 _ at zr)) | (have zr := RowAt.later zr bu) | skip); clear bu)
                | (go_at_call 30; refine (HC.out _ (by repeat (first | exact Below.refl _ _ | assumption | with_reducible refine bDr ?_ | with_reducible refine bAl ?_ _ | (with_reducible refine bSt ?_ ?_ _; rotate_left; (first | exact Nat.le_refl _ | exact Below.size (by assumption)))))).mono ?_; rintro e ub ⟨rfl, bv⟩; have bv2 : Below W5.heap.size W5 ub := bTr (by repeat (first | exact Below.refl _ _ | assumption | with_reducible refine bDr ?_ | with_reducible refine bAl ?_ _ | (with_reducible refine bSt ?_ ?_ _; rotate_left; (first | exact Nat.le_refl _ | exact Below.size (by assumption))))) bv; (first | (have zs := RowAt.later (RowAt.new _ 49 #[.int .i64 0, .int .i64 0]) bv; have q0 := zs.cell (j := 0) rfl; have q1 := zs.cell (j := 1) rfl; have q2 := zs.frozen 0; have q3 := zs.frozen 1) | (have zs := RowAt.later zr bv; have q0 := zs.cell (j := 0) rfl; have q1 := zs.cell (j := 1) rfl; have q2 := zs.frozen 0; have q3 := zs.frozen 1) | skip); clear bv))
            all_goals
              go_wp2_with fail
              go_meet
              refine ⟨_, rfl, rfl, ?_, Lib.hid (by repeat (first | exact Below.refl _ _ | assumption | with_reducible refine bDr ?_ | with_reducible refine bAl ?_ _ | (with_reducible refine bSt ?_ ?_ _; rotate_left; (first | exact Nat.le_refl _ | exact Below.size (by assumption)))))⟩
              first
                | exact Lib.hid ((zs.set 0 _).set 1 _)
                | exact Lib.hid (rowDr ((zs.set 0 _).set 1 _))
                | exact Lib.hid (RowAt.new _ 49 _)
                | exact Lib.hid (((RowAt.new _ 49 _).set 0 _).set 1 _)
                | exact Lib.hid (rowDr (((RowAt.new _ 49 _).set 0 _).set 1 _))
          case rest =>
            obtain ⟨g, rfl, rfl, R15, b6⟩ := hcut
            have R136 := Lib.hid (R13.out.later b6.out)
            have Bo6 := Lib.hid (Bo5.out.later b6.out)
            have RR6 := Lib.hid (RR5.out.later b6.out)
            have RA6 := Lib.hid (RA5.out.later b6.out)
            have B6 := Lib.hid (B5.out.trans (b6.out.mono B5.out.size))
            have HT := Lib.hid (fun U (hU : Below wc.heap.size wc U) => (⟨(R136.out.later hU).cell rfl, (R136.out.later hU).cell rfl, (R15.out.later hU).cell rfl, (R15.out.later hU).cell rfl⟩ : U.cell? ⟨w4.heap.size, 0, none⟩ = some (.int .i64 g1') ∧ U.cell? ⟨w4.heap.size, 1, none⟩ = some (.int .i64 g2') ∧ U.cell? ⟨g, 0, none⟩ = some (.int .i64 g1') ∧ U.cell? ⟨g, 1, none⟩ = some (.int .i64 g2')))
            have fin : Hid (∀ U, Below wc.heap.size wc U → ∃ (cs' : List ByteArray) (L' : List Sl) (f' : Store) (ob' mb' : Option Nat) (p' : Option Addr) (c' : Nat) (q' : Option Addr) (d' : Nat), cs'.length ≤ j + 1 ∧ L'.length ≤ j + 1 ∧ Hid (Bo U w.heap.size w1.heap.size (j + 1) cs' cs' L' f' ob' mb' p' c' q' d') ∧ Hid (SameF f' L') ∧ Hid (RowAt U (w1.heap.size + 1) 42 #[.slice p' cs'.length c', .slice q' L'.length d']) ∧ Hid (RowAt U wr.heap.size 46 #[.int .i64 xk, .int .i64 vk, .int .i64 vn, .string id, .int .i64 ak, .int .i64 an]) ∧ Hid (Below w.heap.size w U)) := Lib.hid (fun U hU => by
              have b := Bo6.out.later hU
              refine ⟨cs, L, f, ob, mb, p, c, q, d, by omega, by omega, Lib.hid ⟨b.hp.more, b.oc, b.os, b.apart⟩, hsame, Lib.hid ?_, Lib.hid (RA6.out.later hU), Lib.hid (B6.out.trans (hU.mono B6.out.size))⟩
              rw [hn.out]
              exact RR6.out.later hU)
            go_upto_region 27 with fail
            go_region_held_law (fun U => U.cell? ⟨w4.heap.size, 0, none⟩ = some (.int .i64 g1') ∧ U.cell? ⟨w4.heap.size, 1, none⟩ = some (.int .i64 g2') ∧ U.cell? ⟨g, 0, none⟩ = some (.int .i64 g1') ∧ U.cell? ⟨g, 1, none⟩ = some (.int .i64 g2')) (first | exact HT.out _ (by repeat (first | exact Below.refl _ _ | assumption | with_reducible refine bDr ?_ | with_reducible refine bAl ?_ _ | (with_reducible refine bSt ?_ ?_ _; rotate_left; (first | exact Nat.le_refl _ | exact Below.size (by assumption))))) | go_keep) (first | (go_at_call 28; refine (plain_any g1' g2' _).mono ?_; rintro e ua ⟨rfl, bu⟩; have bu2 : Below wc.heap.size wc ua := bTr (by repeat (first | exact Below.refl _ _ | assumption | with_reducible refine bDr ?_ | with_reducible refine bAl ?_ _ | (with_reducible refine bSt ?_ ?_ _; rotate_left; (first | exact Nat.le_refl _ | exact Below.size (by assumption))))) bu; clear bu))
            all_goals
              go_wp2_with fail
              go_meet
              exact fin.out _ (by repeat (first | exact Below.refl _ _ | assumption | with_reducible refine bDr ?_ | with_reducible refine bAl ?_ _ | (with_reducible refine bSt ?_ ?_ _; rotate_left; (first | exact Nat.le_refl _ | exact Below.size (by assumption)))))
        | false =>
          have y1 : W3.cell? ⟨wr.heap.size, 1, none⟩ = some (.int .i64 vk) := RA.out.cell rfl
          have y2 : W3.cell? ⟨wr.heap.size, 2, none⟩ = some (.int .i64 vn) := RA.out.cell rfl
          have y3 : W3.cell? ⟨wr.heap.size, 3, none⟩ = some (.string id) := RA.out.cell rfl
          have y4 : W3.cell? ⟨wr.heap.size, 4, none⟩ = some (.int .i64 ak) := RA.out.cell rfl
          have y5 : W3.cell? ⟨wr.heap.size, 5, none⟩ = some (.int .i64 an) := RA.out.cell rfl
          obtain ⟨er, hG⟩ : ∃ G, Hid ((whereAt cs.length vk vn).2 = G) := ⟨_, Lib.hid rfl⟩
          have call := Lib.hid (Set_any2 vk vn ak an hwfv.out id hidm.out W3 w.heap.size w1.heap.size j (by unfold maxLen; omega) cs f ob mb Bo3.out.hp B3.out.size)
          rw [hG.out] at call
          go_wp2_with fail
          refine call.out.mono ?_
          rintro e w4 ⟨rfl, mb4, H4, T4, -⟩
          have Bo4 := Lib.hid (Bo3.out.turn H4 T4 (.inl rfl))
          have RR4 := Lib.hid (T4.row Bo3.out.hp RR3.out (by decide) (by decide))
          have RA4 := Lib.hid (T4.row Bo3.out.hp RA.out (by decide) (by decide))
          have B4 := Lib.hid (B3.out.trans (T4.below Bo3.out.hp hs1 B3.out.size))
          clear H4 T4 call y0 y1 y2 y3 y4 y5
          obtain ⟨n, hn⟩ : ∃ n, Hid (cs.length = n) := ⟨_, Lib.hid rfl⟩
          obtain ⟨M, hM⟩ : ∃ M, Hid (setL n L vk vn id ak an = M) := ⟨_, Lib.hid rfl⟩
          have hMl : M.length ≤ j + 1 := by rw [← hM.out]; exact Nat.le_trans (setL_len n L vk vn id ak an) (by omega)
          have hMl2 := Lib.hid hMl
          clear hMl
          rw [hn.out] at RR4
          have l34 : w1.heap.size + 1 < wr.heap.size := hrr.out.lt
          have HS := Lib.hid (fun U (hU : Below w4.heap.size w4 U) => (⟨(RR4.out.later hU).cell rfl, (RR4.out.later hU).cell rfl, (RA4.out.later hU).cell rfl, (RA4.out.later hU).cell rfl, (RA4.out.later hU).cell rfl, (RA4.out.later hU).cell rfl, (RA4.out.later hU).cell rfl⟩ : U.cell? ⟨w1.heap.size + 1, 0, none⟩ = some (.slice p n c) ∧ U.cell? ⟨w1.heap.size + 1, 1, none⟩ = some (.slice q L.length d) ∧ U.cell? ⟨wr.heap.size, 1, none⟩ = some (.int .i64 vk) ∧ U.cell? ⟨wr.heap.size, 2, none⟩ = some (.int .i64 vn) ∧ U.cell? ⟨wr.heap.size, 3, none⟩ = some (.string id) ∧ U.cell? ⟨wr.heap.size, 4, none⟩ = some (.int .i64 ak) ∧ U.cell? ⟨wr.heap.size, 5, none⟩ = some (.int .i64 an)))
          have HC := Lib.hid (fun U (hU : Below w4.heap.size w4 U) => (by
            have h := RefSet_any p n c q d L vk vn id ak an U w.heap.size (Nat.le_trans B4.out.size hU.size) (by omega) (Bo4.out.later hU).os
            rw [← hn.out, hG.out] at h
            rw [hn.out, hM.out] at h
            exact h : Calls Tryd.prog 32 #[rf p n c q L.length d, val2 vk vn, .string id, val2 ak an] U fun e w' => ∃ q' d', e = .returned (.tuple #[rf p n c q' M.length d', .int .i64 er]) ∧ w'.ownsRow w.heap.size 93 4 (.slice q' M.length d') M.length (slv M) ∧ Below U.heap.size U w'))
          go_upto_region 14 with fail
          go_cut [18, 19] from 53 to 65 (fun x y wx => ∃ (g : Nat) (q' : Option Addr) (d' : Nat), x = .pointer (some ⟨g, 0, none⟩) ∧ y = .int .i64 er ∧ Hid (RowAt wx g 42 #[.slice p n c, .slice q' M.length d']) ∧ Hid (wx.ownsRow w.heap.size 93 4 (.slice q' M.length d') M.length (slv M)) ∧ Hid (Below w4.heap.size w4 wx))
          case first =>
            go_region_held_law (fun U => U.cell? ⟨w1.heap.size + 1, 0, none⟩ = some (.slice p n c) ∧ U.cell? ⟨w1.heap.size + 1, 1, none⟩ = some (.slice q L.length d) ∧ U.cell? ⟨wr.heap.size, 1, none⟩ = some (.int .i64 vk) ∧ U.cell? ⟨wr.heap.size, 2, none⟩ = some (.int .i64 vn) ∧ U.cell? ⟨wr.heap.size, 3, none⟩ = some (.string id) ∧ U.cell? ⟨wr.heap.size, 4, none⟩ = some (.int .i64 ak) ∧ U.cell? ⟨wr.heap.size, 5, none⟩ = some (.int .i64 an)) (first | exact HS.out _ (by repeat (first | exact Below.refl _ _ | assumption | with_reducible refine bDr ?_ | with_reducible refine bAl ?_ _ | (with_reducible refine bSt ?_ ?_ _; rotate_left; (first | exact Nat.le_refl _ | exact Below.size (by assumption))))) | go_keep)
              (first
                | (go_at_call 28; refine (plain_any _ _ _).mono ?_; rintro e ua ⟨rfl, bu⟩; have bu2 : Below w4.heap.size w4 ua := bTr (by repeat (first | exact Below.refl _ _ | assumption | with_reducible refine bDr ?_ | with_reducible refine bAl ?_ _ | (with_reducible refine bSt ?_ ?_ _; rotate_left; (first | exact Nat.le_refl _ | exact Below.size (by assumption))))) bu; (first | (have zr := RowAt.later (RowAt.new _ 42 #[.slice none 0 0, .slice none 0 0]) bu; try (change RowAt _ w4.heap.size 42 _ at zr)) | (have zr := RowAt.later (rowDr (RowAt.new _ 42 #[.slice none 0 0, .slice none 0 0])) bu; try (change RowAt _ w4.heap.size 42 _ at zr)) | (have zr := RowAt.later zr bu) | skip); clear bu)
                | (go_at_call 32; refine (HC.out _ (by repeat (first | exact Below.refl _ _ | assumption | with_reducible refine bDr ?_ | with_reducible refine bAl ?_ _ | (with_reducible refine bSt ?_ ?_ _; rotate_left; (first | exact Nat.le_refl _ | exact Below.size (by assumption)))))).mono ?_; rintro e ub ⟨q7, d7, rfl, hoM, bv⟩; have hoM2 := Lib.hid hoM; have bv2 : Below w4.heap.size w4 ub := bTr (by repeat (first | exact Below.refl _ _ | assumption | with_reducible refine bDr ?_ | with_reducible refine bAl ?_ _ | (with_reducible refine bSt ?_ ?_ _; rotate_left; (first | exact Nat.le_refl _ | exact Below.size (by assumption))))) bv; (first | (have zs := RowAt.later (RowAt.new _ 42 #[.slice none 0 0, .slice none 0 0]) bv; have q0 := zs.cell (j := 0) rfl; have q1 := zs.cell (j := 1) rfl; have q2 := zs.frozen 0; have q3 := zs.frozen 1) | (have zs := RowAt.later zr bv; have q0 := zs.cell (j := 0) rfl; have q1 := zs.cell (j := 1) rfl; have q2 := zs.frozen 0; have q3 := zs.frozen 1) | skip); clear bv hoM))
            all_goals
              go_wp2_with fail
              go_meet
              refine ⟨_, q7, d7, rfl, rfl, ?_, ?_, Lib.hid (by repeat (first | exact Below.refl _ _ | assumption | with_reducible refine bDr ?_ | with_reducible refine bAl ?_ _ | (with_reducible refine bSt ?_ ?_ _; rotate_left; (first | exact Nat.le_refl _ | exact Below.size (by assumption)))))⟩
              · first
                  | exact Lib.hid ((zs.set 0 _).set 1 _)
                  | exact Lib.hid (rowDr ((zs.set 0 _).set 1 _))
                  | exact Lib.hid (RowAt.new _ 42 _)
                  | exact Lib.hid (rowDr (RowAt.new _ 42 _))
              · first
                  | exact Lib.hid (own_set (own_set hoM2.out zs (by decide)) (zs.set 0 _) (by decide))
                  | exact Lib.hid (own_drw (own_set (own_set hoM2.out zs (by decide)) (zs.set 0 _) (by decide)))
                  | exact Lib.hid (owns_same hoM2.out (fun k hk => Below.heap_alloc _ _ k (hoM2.out.lt k hk).2))
          case rest =>
            obtain ⟨g, q7, d7, rfl, rfl, R18, oM, b6⟩ := hcut
            have Bo6 := Bo4.out.later b6.out
            have Bo7 : Hid (Bo wc w.heap.size w1.heap.size (j + 1) cs cs M (setOf cs.length f vk vn id (ak, an)) ob mb4 p c q7 d7) := Lib.hid ⟨Bo6.hp, Bo6.oc, oM.out, Bo6.apart⟩
            have RR6 := Lib.hid (RR4.out.later b6.out)
            have RA6 := Lib.hid (RA4.out.later b6.out)
            have B6 := Lib.hid (B4.out.trans (b6.out.mono B4.out.size))
            clear Bo6
            have y1 : wc.cell? ⟨g, 0, none⟩ = some (.slice p n c) := R18.out.cell rfl
            have y2 : wc.cell? ⟨g, 1, none⟩ = some (.slice q7 M.length d7) := R18.out.cell rfl
            have y3 : wc.cell? ⟨w1.heap.size + 1, 0, none⟩ = some (.slice p n c) := RR6.out.cell rfl
            have y4 : wc.cell? ⟨w1.heap.size + 1, 1, none⟩ = some (.slice q L.length d) := RR6.out.cell rfl
            have y5 := RR6.out.frozen 0
            have y6 := RR6.out.frozen 1
            obtain ⟨W8, hW8⟩ : ∃ W, Hid ((wc.setCell ⟨w1.heap.size + 1, 0, none⟩ (.slice p n c)).setCell ⟨w1.heap.size + 1, 1, none⟩ (.slice q7 M.length d7) = W) := ⟨_, Lib.hid rfl⟩
            have RR8 : Hid (RowAt W8 (w1.heap.size + 1) 42 #[.slice p n c, .slice q7 M.length d7]) := by rw [← hW8.out]; exact Lib.hid ((RR6.out.set 0 _).set 1 _)
            have RA8 : Hid (RowAt W8 wr.heap.size 46 #[.int .i64 xk, .int .i64 vk, .int .i64 vn, .string id, .int .i64 ak, .int .i64 an]) := by rw [← hW8.out]; exact Lib.hid ((RA6.out.other (by omega) _ _).other (by omega) _ _)
            have Bo8 : Hid (Bo W8 w.heap.size w1.heap.size (j + 1) cs cs M (setOf cs.length f vk vn id (ak, an)) ob mb4 p c q7 d7) := by rw [← hW8.out]; exact Lib.hid ((Bo7.out.other RR6.out (by decide) (by decide) (by decide) _ _).other (RR6.out.set 0 _) (by decide) (by decide) (by decide) _ _)
            have B8 : Hid (Below w.heap.size w W8) := by rw [← hW8.out]; exact Lib.hid (bSt (bSt B6.out (by omega) _) (by omega) _)
            have hsm2 : Hid (SameF (setOf cs.length f vk vn id (ak, an)) M) := Lib.hid (by rw [← hM.out, ← hn.out]; exact hsame.out.set cs.length vk vn id ak an)
            go_upto_region 16 with fail
            rw [hW8.out]
            go_wp2_with fail
            go_meet
            exact ⟨cs, M, _, ob, mb4, p, c, q7, d7, by omega, hMl2.out, Bo8, hsm2, Lib.hid (by rw [hn.out]; exact RR8.out), RA8, B8⟩
    case rest =>
      obtain ⟨cs', L', f', ob', mb', p', c', q', d', hcl', hLl', Bo4, Sm4, RR4, RA4, B4⟩ := hcut
      obtain ⟨n', hn'⟩ : ∃ n, Hid (cs'.length = n) := ⟨_, Lib.hid rfl⟩
      obtain ⟨⟨C1, C2⟩, hC⟩ : ∃ C, Hid (classOf cs' vk vn = C) := ⟨_, Lib.hid rfl⟩
      rw [hn'.out] at RR4
      have y1 : wc.cell? ⟨wr.heap.size, 1, none⟩ = some (.int .i64 vk) := RA4.out.cell rfl
      have y2 : wc.cell? ⟨wr.heap.size, 2, none⟩ = some (.int .i64 vn) := RA4.out.cell rfl
      have call := Lib.hid (Class_any2 vk vn wc w.heap.size w1.heap.size (j + 1) cs' f' Bo4.out.hp.hp)
      rw [hC.out] at call
      go_wp2_with fail
      refine call.out.mono ?_
      rintro e w5 ⟨rfl, b5⟩
      have Bo5 := Lib.hid (Bo4.out.later b5)
      have RR5 := Lib.hid (RR4.out.later b5)
      have RA5 := Lib.hid (RA4.out.later b5)
      have B5 := Lib.hid (B4.out.trans (b5.mono B4.out.size))
      clear b5 call y1 y2
      have HS := Lib.hid (fun U (hU : Below w5.heap.size w5 U) => (⟨(RR5.out.later hU).cell rfl, (RR5.out.later hU).cell rfl, (RA5.out.later hU).cell rfl, (RA5.out.later hU).cell rfl⟩ : U.cell? ⟨w1.heap.size + 1, 0, none⟩ = some (.slice p' n' c') ∧ U.cell? ⟨w1.heap.size + 1, 1, none⟩ = some (.slice q' L'.length d') ∧ U.cell? ⟨wr.heap.size, 1, none⟩ = some (.int .i64 vk) ∧ U.cell? ⟨wr.heap.size, 2, none⟩ = some (.int .i64 vn)))
      have HC := Lib.hid (fun U (hU : Below w5.heap.size w5 U) => (by
        have h := RefClass_any p' c' q' L'.length d' cs' vk vn U w.heap.size (by omega) (Bo5.out.later hU).oc
        rw [hC.out, hn'.out] at h
        exact h : Calls Tryd.prog 34 #[rf p' n' c' q' L'.length d', val2 vk vn] U fun e w' => e = .returned (.tuple #[.string C1, .bool C2]) ∧ Below U.heap.size U w'))
      go_upto_region 30 with fail
      go_cut [22, 23] from 134 to 141 (fun x y wx => x = .string C1 ∧ y = .bool C2 ∧ Hid (Below w5.heap.size w5 wx))
      case first =>
        go_region_held_law (fun U => U.cell? ⟨w1.heap.size + 1, 0, none⟩ = some (.slice p' n' c') ∧ U.cell? ⟨w1.heap.size + 1, 1, none⟩ = some (.slice q' L'.length d') ∧ U.cell? ⟨wr.heap.size, 1, none⟩ = some (.int .i64 vk) ∧ U.cell? ⟨wr.heap.size, 2, none⟩ = some (.int .i64 vn)) (first | exact HS.out _ (by repeat (first | exact Below.refl _ _ | assumption | with_reducible refine bDr ?_ | with_reducible refine bAl ?_ _ | (with_reducible refine bSt ?_ ?_ _; rotate_left; (first | exact Nat.le_refl _ | exact Below.size (by assumption))))) | go_keep)
          (first
            | (go_at_call 28; refine (plain_any _ _ _).mono ?_; rintro e ua ⟨rfl, bu⟩; have bu2 : Below w5.heap.size w5 ua := bTr (by repeat (first | exact Below.refl _ _ | assumption | with_reducible refine bDr ?_ | with_reducible refine bAl ?_ _ | (with_reducible refine bSt ?_ ?_ _; rotate_left; (first | exact Nat.le_refl _ | exact Below.size (by assumption))))) bu; clear bu)
            | (go_at_call 34; refine (HC.out _ (by repeat (first | exact Below.refl _ _ | assumption | with_reducible refine bDr ?_ | with_reducible refine bAl ?_ _ | (with_reducible refine bSt ?_ ?_ _; rotate_left; (first | exact Nat.le_refl _ | exact Below.size (by assumption)))))).mono ?_; rintro e ub ⟨rfl, bv⟩; have bv2 : Below w5.heap.size w5 ub := bTr (by repeat (first | exact Below.refl _ _ | assumption | with_reducible refine bDr ?_ | with_reducible refine bAl ?_ _ | (with_reducible refine bSt ?_ ?_ _; rotate_left; (first | exact Nat.le_refl _ | exact Below.size (by assumption))))) bv; clear bv))
        all_goals
          go_wp2_with fail
          go_meet
          exact ⟨rfl, rfl, Lib.hid (by repeat (first | exact Below.refl _ _ | assumption | with_reducible refine bDr ?_ | with_reducible refine bAl ?_ _ | (with_reducible refine bSt ?_ ?_ _; rotate_left; (first | exact Nat.le_refl _ | exact Below.size (by assumption)))))⟩
      case rest =>
        obtain ⟨rfl, rfl, b6⟩ := hcut
        have Bo6 := Lib.hid (Bo5.out.later b6.out)
        have RR6 := Lib.hid (RR5.out.later b6.out)
        have B6 := Lib.hid (B5.out.trans (b6.out.mono B5.out.size))
        have HT := Lib.hid (fun U (hU : Below wc.heap.size wc U) => ((RR6.out.later hU).cell rfl : U.cell? ⟨w1.heap.size + 1, 0, none⟩ = some (.slice p' n' c')))
        have HP := Lib.hid (fun U (hU : Below wc.heap.size wc U) => (by
          have h := Many_in U w.heap.size w1.heap.size (j + 1) cs' f' (Bo6.out.later hU).hp.hp
          rw [hn'.out] at h
          exact h : Calls Tryd.prog 35 #[.pointer (some ⟨w1.heap.size, 0, none⟩)] U fun e w' => e = .returned (.int .i64 n') ∧ w' = U))
        go_upto_region 31 with fail
        go_region_held_law (fun U => U.cell? ⟨w1.heap.size + 1, 0, none⟩ = some (.slice p' n' c')) (first | exact HT.out _ (by repeat (first | exact Below.refl _ _ | assumption | with_reducible refine bDr ?_ | with_reducible refine bAl ?_ _ | (with_reducible refine bSt ?_ ?_ _; rotate_left; (first | exact Nat.le_refl _ | exact Below.size (by assumption))))) | go_keep)
          (first
            | (go_at_call 35; refine (HP.out _ (by repeat (first | exact Below.refl _ _ | assumption | with_reducible refine bDr ?_ | with_reducible refine bAl ?_ _ | (with_reducible refine bSt ?_ ?_ _; rotate_left; (first | exact Nat.le_refl _ | exact Below.size (by assumption)))))).mono ?_; rintro e ua ⟨rfl, rfl⟩))
        all_goals
          go_wp2_with fail
          exact ⟨⟨j + 1, cs', L', f', ob', mb', p', c', q', d', by go_num, by omega, hcl', hLl', Lib.hid (Bo6.out.later (by repeat (first | exact Below.refl _ _ | assumption | with_reducible refine bDr ?_ | with_reducible refine bAl ?_ _ | (with_reducible refine bSt ?_ ?_ _; rotate_left; (first | exact Nat.le_refl _ | exact Below.size (by assumption)))))), Sm4, Lib.hid (by rw [hn'.out]; exact RR6.out.later (by repeat (first | exact Below.refl _ _ | assumption | with_reducible refine bDr ?_ | with_reducible refine bAl ?_ _ | (with_reducible refine bSt ?_ ?_ _; rotate_left; (first | exact Nat.le_refl _ | exact Below.size (by assumption)))))), Lib.hid (bTr B6.out (by repeat (first | exact Below.refl _ _ | assumption | with_reducible refine bDr ?_ | with_reducible refine bAl ?_ _ | (with_reducible refine bSt ?_ ?_ _; rotate_left; (first | exact Nat.le_refl _ | exact Below.size (by assumption))))))⟩, by simp [intOf]; omega⟩
end Go.Proofs.YtpaknaaainhgfaaDoor
