/-
  For the laws of fallback: three trees as one, path by path, by the program. Condition: texts of at most 1,999 bytes, at most 50,000 files in all; marker's table is as it is laid.
-/
import Derived.Test.YtbekbllffphfeaaDoorFh
import Derived.Test.YtbekbllffphfeaaDoorFg
import Derived.Test.YtbekbllffphfeaaDoorFd
import Derived.DeepKeys
import Derived.Test.YtbekbllffphfeaaDoorFf
namespace Go.Proofs.YtbekbllffphfeaaDoor
open Go.RowKit Go.Shelf
set_option linter.unusedSimpArgs false
set_option linter.unusedVariables false

def stepT (O A B : List T.Fl) (old : Bool) (acc : List T.Fl × CL) (p : By) : List T.Fl × CL := addT acc (bs p) (fileT O A B old (bs p))
def pathsT (O A B : List T.Fl) : List By := T.pathsOf (T.ps [O, A, B].flatten)
/-- Three trees as one. -/
def treesP (O A B : List T.Fl) (old : Bool) : List T.Fl × CL := (pathsT O A B).foldl (stepT O A B old) ([], [])
theorem addT_len (acc : List T.Fl × CL) (p : ByteArray) (f : ByteArray × Bool × Int) : (addT acc p f).1.length ≤ acc.1.length + 1 ∧ (addT acc p f).2.length ≤ acc.2.length + 1 := by
  unfold addT
  refine ⟨?_, ?_⟩ <;> dsimp only <;> split <;> simp
theorem not_box {W : World} {b t j : Nat} {a : Option Addr} {n c : Nat} {x : ByteArray} (h : RowAt W b t #[.slice a n c]) (hc : W.cell? ⟨b, j, none⟩ = some (.string x)) : False := by
  simp only [World.cell?, show W.heap[b]? = _ from h] at hc
  cases j with
  | zero => simp at hc
  | succ j => simp at hc
theorem cell_same {A B : World} {g j : Nat} (h : B.heap[g]? = A.heap[g]?) : B.cell? ⟨g, j, none⟩ = A.cell? ⟨g, j, none⟩ := by
  simp only [World.cell?, h]
theorem take_fold {α β : Type} {f : β → α → β} {l : List α} {k : Nat} {x : α} {z : β} (h : l[k]? = some x) : (l.take (k + 1)).foldl f z = f ((l.take k).foldl f z) x := by
  rw [List.take_add_one, h, List.foldl_append]
  rfl
set_option maxRecDepth 100000 in
set_option maxHeartbeats 16000000 in
theorem each_any (b : Nat) (vO vA vB vs : Value) (O A B : List T.Fl) (old : Bool) (w0 w : World) (hw0 : w0.heap.size ≤ b) (hb1 : 1 ≤ w0.heap.size) (hBw : Below w0.heap.size w0 w) (hW : K.MkW w0) (h : ∀ N, TS b N vO vA vB old [] [] w) (h0 : T.Fls w0 vO O) (h1 : T.Fls w0 vA A) (h2 : T.Fls w0 vB B) (hs : T.Fss w vs [O, A, B]) (k0 : ∀ f ∈ O, f.text.length ≤ 2599) (k1 : ∀ f ∈ A, f.text.length ≤ 2599) (k2 : ∀ f ∈ B, f.text.length ≤ 2599) (hl : (pathsT O A B).length ≤ 50000) (hl2 : [O, A, B].flatten.length ≤ 1000000) :
    Calls Tryd.prog 13 #[.func (.func 14) #[] #[.pointer (some ⟨b, 0, none⟩), .pointer (some ⟨b + 1, 0, none⟩), .pointer (some ⟨b + 1 + 1, 0, none⟩), .pointer (some ⟨b + 1 + 1 + 1, 0, none⟩), .pointer (some ⟨b + 1 + 1 + 1 + 1, 0, none⟩), .pointer (some ⟨b + 1 + 1 + 1 + 1 + 1, 0, none⟩)], vs] w fun e w' => e = .returned (.tuple #[]) ∧ TS b (b + 6) vO vA vB old (treesP O A B old).1 (treesP O A B old).2 w' ∧ Below w0.heap.size w0 w' := by
  have CP := Lib.hid (T.Paths_any vs [O, A, B] w hs hl2)
  have HB := Lib.hid hBw
  have HT := Lib.hid h
  have HW := Lib.hid hW
  have CV := Lib.hid (fun (F : List T.Fl) (C : CL) (path : ByteArray) (N : Nat) (W : World) (hB : Below w0.heap.size w0 W) (hN : b + 6 ≤ N) (hNs : N ≤ W.heap.size) (hts : TS b N vO vA vB old F C W) (lF : F.length ≤ 100000) (lC : C.length ≤ 100000) => visit_any b N vO vA vB O A B old F C path W (hW.below hB hb1) (by omega) hN hNs hts (h0.below hB) (h1.below hB) (h2.below hB) k0 k1 k2 lF lC)
  have hpt : Hid (T.pathsOf (T.ps [O, A, B].flatten) = pathsT O A B) := Lib.hid rfl
  rw [hpt.out] at CP
  obtain ⟨R, hR⟩ : ∃ R, Hid (treesP O A B old = R) := ⟨_, Lib.hid rfl⟩
  have hR2 : Hid ((pathsT O A B).foldl (stepT O A B old) ([], []) = R) := Lib.hid hR.out
  rw [hR.out]
  obtain ⟨PS, hPS⟩ : ∃ p, pathsT O A B = p := ⟨_, rfl⟩
  rw [hPS] at CP hl hR2
  obtain ⟨av, cv', rfl, -⟩ := hs
  clear hPS hpt hR h h0 h1 h2 k0 k1 k2 hBw hW hl2
  go_enter Tryd.func13, Tryd.ntmps13
  go_wp2_with fail
  refine CP.out.mono ?_
  rintro e wp ⟨v, rfl, hv, bp⟩
  have TP := Lib.hid (fun N => (HT.out N).later bp)
  have BP := Lib.hid (HB.out.trans (bp.mono HB.out.size))
  obtain ⟨a, c, rfl, hc, hm, hx⟩ := hv
  have HX := Lib.hid hx
  have hN6 : b + 6 ≤ wp.heap.size := (TP.out 0).size
  unfold maxLen at hm
  obtain ⟨n, hn⟩ : ∃ n, Hid (PS.length = n) := ⟨_, Lib.hid rfl⟩
  rw [hn.out] at hc hl ⊢
  clear hx bp CP
  go_wp2_with fail
  go_loopw [9] (fun i wr => ∃ k : Nat, k ≤ n ∧ i = .int .i64 k ∧ ∃ acc : List T.Fl × CL, Hid ((PS.take k).foldl (stepT O A B old) ([], []) = acc) ∧ acc.1.length ≤ k ∧ acc.2.length ≤ k ∧ Hid (TS b wp.heap.size vO vA vB old acc.1 acc.2 wr) ∧ Hid (Below w0.heap.size w0 wr) ∧ Hid (KeepN wp.heap.size b wp wr) ∧ wp.heap.size ≤ wr.heap.size) (fun i _ => n - (intOf i).toNat)
  case atStart => exact ⟨0, Nat.zero_le _, rfl, ([], []), Lib.hid rfl, Nat.le_refl _, Nat.le_refl _, Lib.hid (TP.out _), BP, Lib.hid (fun g _ _ _ => rfl), Nat.le_refl _⟩
  case round =>
    obtain ⟨k, hk, rfl, ⟨F, C⟩, hF, lF, lC, hT, hB, hK, hsz⟩ := hrel
    dsimp only at lF lC hT
    rcases Nat.lt_or_ge k n with hlt | hlt
    · obtain ⟨x, hx⟩ := get_lt (l := PS) (k := k) (by rw [hn.out]; exact hlt)
      obtain ⟨g, off, rfl, hg, e0⟩ := HX.out k x hx
      have hg4 : g ≠ b + 1 + 1 + 1 + 1 := by
        rintro rfl
        obtain ⟨u, ru, ou⟩ := (TP.out wp.heap.size).rf
        obtain ⟨a', c', rfl⟩ := own_form ou
        exact not_box ru e0
      have hg5 : g ≠ b + 1 + 1 + 1 + 1 + 1 := by
        rintro rfl
        obtain ⟨u, ru, ou⟩ := (TP.out wp.heap.size).rc
        obtain ⟨a', c', rfl⟩ := own_form ou
        exact not_box ru e0
      have e1 : wr.cell? ⟨g, off + k, none⟩ = some (.string (bs x)) := (cell_same (hK.out g hg hg4 hg5)).trans e0
      have hst : Hid ((PS.take (k + 1)).foldl (stepT O A B old) ([], []) = addT (F, C) (bs x) (fileT O A B old (bs x))) := Lib.hid (by rw [take_fold hx, hF.out]; rfl)
      have D := Lib.hid (CV.out F C (bs x) wp.heap.size wr hB.out hN6 hsz hT.out (by omega) (by omega))
      have hal := addT_len (F, C) (bs x) (fileT O A B old (bs x))
      obtain ⟨⟨F2, C2⟩, hacc⟩ : ∃ z, addT (F, C) (bs x) (fileT O A B old (bs x)) = z := ⟨_, rfl⟩
      rw [hacc] at hst D hal
      dsimp only at D hal
      have d1 : decide (k < n) = true := decide_eq_true hlt
      have d2 : (0 : Int) ≤ (k : Int) := by omega
      have d3 : (k : Int) < (n : Int) := by omega
      clear hx e0 hacc hg4 hg5 hF
      go_wp2_with fail
      refine D.out.mono ?_
      rintro e w3 ⟨rfl, t3, b3, kp3⟩
      have T3 := Lib.hid t3
      have B3 := Lib.hid (hB.out.trans (b3.mono (by omega)))
      have K3 := Lib.hid (hK.out.trans kp3)
      have hs3 : wp.heap.size ≤ w3.heap.size := by have := b3.size; omega
      clear t3 b3 kp3 D
      go_wp2_with fail
      exact ⟨⟨k + 1, by omega, by go_num, (F2, C2), hst, by dsimp only; omega, by dsimp only; omega, T3, B3, K3, hs3⟩, by simp [intOf]; omega⟩
    · have d1 : decide (k < n) = false := decide_eq_false (by omega)
      have hRR : Hid (R = (F, C)) := Lib.hid (by rw [← hR2.out, ← hF.out, List.take_of_length_le (by rw [hn.out]; exact hlt)])
      go_wp2_with fail
      go_end0
      rw [hRR.out]
      obtain ⟨q0, q1, q2, q3, ⟨u, q4, q5⟩, z, q6, q7⟩ := hT.out
      exact ⟨rfl, ⟨q0, q1, q2, q3, ⟨u, q4, L.own_low q5 hN6⟩, z, q6, L.own_low q7 hN6⟩, hB.out⟩
theorem fss_three {W : World} {b t : Nat} {u v x : Value} {A B C : List T.Fl} (h : RowAt W b t #[u, v, x]) (hA : T.Fls W u A) (hB : T.Fls W v B) (hC : T.Fls W x C) : T.Fss W (.slice (some ⟨b, 0, none⟩) 3 3) [A, B, C] := by
  refine ⟨_, 3, rfl, Nat.le_refl _, by unfold maxLen; omega, fun k y hk => ?_⟩
  match k, hk with
  | 0, hk =>
    simp only [List.getElem?_cons_zero, Option.some.injEq] at hk
    subst hk
    exact ⟨b, 0, u, rfl, h.lt, h.cell rfl, hA⟩
  | 1, hk =>
    simp only [List.getElem?_cons_succ, List.getElem?_cons_zero, Option.some.injEq] at hk
    subst hk
    exact ⟨b, 0, v, rfl, h.lt, h.cell rfl, hB⟩
  | 2, hk =>
    simp only [List.getElem?_cons_succ, List.getElem?_cons_zero, Option.some.injEq] at hk
    subst hk
    exact ⟨b, 0, x, rfl, h.lt, h.cell rfl, hC⟩
  | k + 3, hk => simp at hk
end Go.Proofs.YtbekbllffphfeaaDoor
/-
  For the laws of fallback: Trees, by the program. Condition: texts of at most 1,999 bytes, at most 50,000 files in all; marker's table is as it is laid.
-/
namespace Go.Proofs.YtbekbllffphfeaaDoor
open Go.RowKit Go.Shelf
set_option linter.unusedSimpArgs false
set_option linter.unusedVariables false

set_option maxRecDepth 100000 in
set_option maxHeartbeats 16000000 in
theorem Trees_any (vO vA vB : Value) (O A B : List T.Fl) (old : Bool) (w : World) (hW : K.MkW w) (hb1 : 1 ≤ w.heap.size) (h0 : T.Fls w vO O) (h1 : T.Fls w vA A) (h2 : T.Fls w vB B) (k0 : ∀ f ∈ O, f.text.length ≤ 2599) (k1 : ∀ f ∈ A, f.text.length ≤ 2599) (k2 : ∀ f ∈ B, f.text.length ≤ 2599) (hl : (pathsT O A B).length ≤ 50000) (hl2 : [O, A, B].flatten.length ≤ 1000000) :
    Calls Tryd.prog 7 #[vO, vA, vB, .bool old] w fun e w' => ∃ uF uC, e = .returned (.tuple #[uF, uC]) ∧ w'.ownsRow w.heap.size 34 2 uF (treesP O A B old).1.length (T.fv (treesP O A B old).1) ∧ w'.ownsRow w.heap.size 46 2 uC (treesP O A B old).2.length (cv (treesP O A B old).2) ∧ Below w.heap.size w w' := by
  obtain ⟨nO, hnO⟩ : ∃ n, O.length = n := ⟨_, rfl⟩
  obtain ⟨nA, hnA⟩ : ∃ n, A.length = n := ⟨_, rfl⟩
  obtain ⟨nB, hnB⟩ : ∃ n, B.length = n := ⟨_, rfl⟩
  obtain ⟨aO, cO, eO, -⟩ := id h0
  obtain ⟨aA, cA, eA, -⟩ := id h1
  obtain ⟨aB, cB, eB, -⟩ := id h2
  rw [hnO] at eO
  rw [hnA] at eA
  rw [hnB] at eB
  subst eO eA eB
  obtain ⟨w6, hw6⟩ : ∃ w6, Hid ((((((w.alloc (.cells #[(.slice aO nO cO)] 22)).alloc (.cells #[(.slice aA nA cA)] 22)).alloc (.cells #[(.slice aB nB cB)] 22)).alloc (.cells #[.bool old] 4)).alloc (.cells #[.slice none 0 0] 22)).alloc (.cells #[.slice none 0 0] 26) = w6) := ⟨_, Lib.hid rfl⟩
  have hs6 : Hid (w6.heap.size = w.heap.size + 6) := Lib.hid (by rw [← hw6.out]; simp only [World.size_alloc])
  have B6 : Hid (Below w.heap.size w w6) := Lib.hid (by
    rw [← hw6.out]
    refine ((((((Below.refl _ w).alloc ?_ _).alloc ?_ _).alloc ?_ _).alloc ?_ _).alloc ?_ _).alloc ?_ _ <;> (try simp only [World.size_alloc]) <;> omega)
  have R0 : RowAt w6 w.heap.size 22 #[(.slice aO nO cO)] := by
    rw [← hw6.out]
    exact (((((row_new rfl).alloc _).alloc _).alloc _).alloc _).alloc _
  have R1 : RowAt w6 (w.heap.size + 1) 22 #[(.slice aA nA cA)] := by
    rw [← hw6.out]
    exact ((((row_new (by simp only [World.size_alloc])).alloc _).alloc _).alloc _).alloc _
  have R2 : RowAt w6 (w.heap.size + 1 + 1) 22 #[(.slice aB nB cB)] := by
    rw [← hw6.out]
    exact (((row_new (by simp only [World.size_alloc])).alloc _).alloc _).alloc _
  have R3 : RowAt w6 (w.heap.size + 1 + 1 + 1) 4 #[.bool old] := by
    rw [← hw6.out]
    exact ((row_new (by simp only [World.size_alloc])).alloc _).alloc _
  have R4 : RowAt w6 (w.heap.size + 1 + 1 + 1 + 1) 22 #[.slice none 0 0] := by
    rw [← hw6.out]
    exact (row_new (by simp only [World.size_alloc])).alloc _
  have R5 : RowAt w6 (w.heap.size + 1 + 1 + 1 + 1 + 1) 26 #[.slice none 0 0] := by
    rw [← hw6.out]
    exact row_new (by simp only [World.size_alloc])
  have c0 : w6.cell? ⟨w.heap.size, 0, none⟩ = some (.slice aO nO cO) := R0.cell (j := 0) rfl
  have c1 : w6.cell? ⟨w.heap.size + 1, 0, none⟩ = some (.slice aA nA cA) := R1.cell (j := 0) rfl
  have c2 : w6.cell? ⟨w.heap.size + 1 + 1, 0, none⟩ = some (.slice aB nB cB) := R2.cell (j := 0) rfl
  rw [← hw6.out] at c0 c1 c2
  have HT6 : Hid (∀ N, TS w.heap.size N (.slice aO nO cO) (.slice aA nA cA) (.slice aB nB cB) old [] [] w6) := Lib.hid (fun N => ⟨R0, R1, R2, R3, ⟨_, R4, World.ownsRow_nil ..⟩, _, R5, World.ownsRow_nil ..⟩)
  have CE := Lib.hid (fun (W : World) (u : Value) (hB : Below w.heap.size w W) (hT : ∀ N, TS w.heap.size N (.slice aO nO cO) (.slice aA nA cA) (.slice aB nB cB) old [] [] W) (hs : T.Fss W u [O, A, B]) => each_any w.heap.size (.slice aO nO cO) (.slice aA nA cA) (.slice aB nB cB) u O A B old w W (Nat.le_refl _) hb1 hB hW hT h0 h1 h2 hs k0 k1 k2 hl hl2)
  have H0 := Lib.hid h0
  have H1 := Lib.hid h1
  have H2 := Lib.hid h2
  obtain ⟨⟨F, C⟩, hR⟩ : ∃ R, treesP O A B old = R := ⟨_, rfl⟩
  rw [hR] at CE ⊢
  clear R0 R1 R2 R3 R4 R5 h0 h1 h2 k0 k1 k2 hl hl2 hW hR
  go_enter Tryd.func7, Tryd.ntmps7
  go_wp2_with fail
  rw [hw6.out]
  obtain ⟨w7, hw7⟩ : ∃ w7, Hid (w6.alloc (.cells #[.slice aO nO cO, .slice aA nA cA, .slice aB nB cB] 22) = w7) := ⟨_, Lib.hid rfl⟩
  have b7 : Below w.heap.size w w7 := by
    rw [← hw7.out]
    exact B6.out.alloc (by have := hs6.out; omega) _
  have t7 : ∀ N, TS w.heap.size N (.slice aO nO cO) (.slice aA nA cA) (.slice aB nB cB) old [] [] w7 := by
    rw [← hw7.out]
    exact fun N => (HT6.out N).later ((Below.refl _ _).alloc (Nat.le_refl _) _)
  have r7 : RowAt w7 (w.heap.size + 1 + 1 + 1 + 1 + 1 + 1) 22 #[.slice aO nO cO, .slice aA nA cA, .slice aB nB cB] := by
    rw [← hw7.out]
    exact row_new (by have := hs6.out; omega)
  have f7 := fss_three r7 (H0.out.below b7) (H1.out.below b7) (H2.out.below b7)
  have D := Lib.hid (CE.out w7 _ b7 t7 f7)
  rw [hw7.out]
  clear CE b7 t7 r7 f7 hw7 HT6 B6 hs6 hw6 c0 c1 c2 H0 H1 H2
  refine D.out.mono ?_
  rintro e w8 ⟨rfl, t8, b8⟩
  obtain ⟨-, -, -, -, ⟨u, ru, ou⟩, z, rz, oz⟩ := t8
  have OU := Lib.hid (show w8.ownsRow w.heap.size 34 2 u F.length (T.fv F) from L.own_low ou (show w.heap.size ≤ w.heap.size + 6 by omega))
  have OZ := Lib.hid (show w8.ownsRow w.heap.size 46 2 z C.length (cv C) from L.own_low oz (show w.heap.size ≤ w.heap.size + 6 by omega))
  have B8 := Lib.hid b8
  have RU : w8.cell? ⟨w.heap.size + 1 + 1 + 1 + 1, 0, none⟩ = some u := ru.cell (j := 0) rfl
  have RZ : w8.cell? ⟨w.heap.size + 1 + 1 + 1 + 1 + 1, 0, none⟩ = some z := rz.cell (j := 0) rfl
  clear ou oz b8 ru rz D
  obtain ⟨au, cu, rfl⟩ := own_form OU.out
  obtain ⟨az, cz, rfl⟩ := own_form OZ.out
  obtain ⟨lF, hlF⟩ : ∃ n, F.length = n := ⟨_, rfl⟩
  obtain ⟨lC, hlC⟩ : ∃ n, C.length = n := ⟨_, rfl⟩
  rw [hlF] at RU OU
  rw [hlC] at RZ OZ
  go_wp2_with fail
  go_quiet (fail)
  go_wp2_with fail
  go_ret2
  exact ⟨_, _, rfl, by rw [hlF]; exact OU.out, by rw [hlC]; exact OZ.out, below_draws B8.out _⟩
end Go.Proofs.YtbekbllffphfeaaDoor
/-
  For the laws of fallback: what its functions answer at the constants of 'awake'.
-/
namespace Go.Proofs.YtbekbllffphfeaaDoor
open Go.RowKit Go.Shelf
set_option linter.unusedSimpArgs false
set_option linter.unusedVariables false

def txX : ByteArray := ⟨#[60, 60, 60, 60, 60, 60, 60, 32, 111, 117, 114, 115, 10, 98, 10, 61, 61, 61, 61, 61, 61, 61, 10, 99, 10, 62, 62, 62, 62, 62, 62, 62, 32, 116, 104, 101, 105, 114, 115, 10]⟩
set_option maxRecDepth 100000 in
theorem fileK : fileP ⟨#[97, 10]⟩ ⟨#[98, 10]⟩ ⟨#[99, 10]⟩ true true true false = (txX, true, 1) := by decide +kernel
set_option maxRecDepth 100000 in
theorem sidesK : sidesP txX 7 = ((⟨#[]⟩, ⟨#[98, 10]⟩, ⟨#[99, 10]⟩), 0) := by decide +kernel
set_option maxRecDepth 100000 in
theorem marksK : markN (linesP ⟨#[97]⟩ ⟨#[98]⟩ ⟨#[99]⟩) = 7 := by decide +kernel
theorem single_of {l : List By} {p : By} (h : l.Pairwise (· < ·)) (hm : ∀ x, x ∈ l ↔ x = p) : l = [p] := by
  match l, h, hm with
  | [], _, hm => exact absurd ((hm p).2 rfl) (by simp)
  | [a], _, hm => rw [(hm a).1 (by simp)]
  | a :: b :: t, h, hm =>
    have ha := (hm a).1 (by simp)
    have hb := (hm b).1 (by simp)
    subst ha hb
    exact absurd ((List.pairwise_cons.1 h).1 _ (by simp)) (List.lt_irrefl _)
theorem pathsK : pathsT [⟨[112], [97, 10]⟩] [⟨[112], [97, 10, 98, 10]⟩] [⟨[112], [97, 10]⟩] = [[112]] := by
  refine single_of (T.pathsOf_lt _) (fun x => ?_)
  refine (T.pathsOf_mem _ x).trans ?_
  simp [T.ps]
set_option maxRecDepth 100000 in
theorem treesK : treesP [⟨[112], [97, 10]⟩] [⟨[112], [97, 10, 98, 10]⟩] [⟨[112], [97, 10]⟩] true = ([⟨[112], [97, 10, 98, 10]⟩], []) := by
  unfold treesP
  rw [pathsK]
  decide +kernel
theorem fls_one {W : World} {b t : Nat} {p x : By} (h : RowAt W b t #[.string (bs p), .string (bs x)]) : T.Fls W (.slice (some ⟨b, 0, none⟩) 1 1) [⟨p, x⟩] := by
  refine ⟨_, 1, rfl, Nat.le_refl _, by unfold maxLen; omega, fun k y hk => ?_⟩
  match k, hk with
  | 0, hk =>
    simp only [List.getElem?_cons_zero, Option.some.injEq] at hk
    subst hk
    exact ⟨b, 0, rfl, h.lt, h.cell rfl, h.cell rfl⟩
  | k + 1, hk => simp at hk
theorem dl (s t : ByteArray) : s.data.toList = t.data.toList ↔ s = t := by
  constructor
  · intro h
    exact ByteArray.ext (Array.toList_inj.1 h)
  · rintro rfl; rfl
theorem kl9 (d : Nat) {s : ByteArray} (h : s.size ≤ maxLen) : Tryd.prog.keyLits (d + 1) 9 [.string s] = some [.string s.data.toList] := by
  unfold Program.keyLits
  rw [Tryd.underlying9]
  simp only
  rw [if_pos h]
def chain3 (x y z : Option (List Lit)) : Option (List Lit) := Option.map List.flatten (do let a ← x; let b ← y; let c ← z; pure [a, b, c])
theorem kl22 {a b c : ByteArray} (ha : a.size ≤ maxLen) (hb : b.size ≤ maxLen) (hc : c.size ≤ maxLen) : Tryd.prog.keyLits 5 35 (Value.agg #[.string a, .string b, .string c]).cells.toList = some [.string a.data.toList, .string b.data.toList, .string c.data.toList] := by
  have h : Tryd.prog.keyLits 5 35 (Value.agg #[.string a, .string b, .string c]).cells.toList = chain3 (Tryd.prog.keyLits 4 9 [.string a]) (Tryd.prog.keyLits 4 9 [.string b]) (Tryd.prog.keyLits 4 9 [.string c]) := by kernel_rfl
  rw [h, kl9 3 ha, kl9 3 hb, kl9 3 hc]
  rfl
theorem eq22 {a0 a1 a2 b0 b1 b2 : ByteArray} (h1 : a0.size ≤ maxLen) (h2 : a1.size ≤ maxLen) (h3 : a2.size ≤ maxLen) (h4 : b0.size ≤ maxLen) (h5 : b1.size ≤ maxLen) (h6 : b2.size ≤ maxLen) (W : World) : (Op.equalIn 10000 35 (.agg #[.string a0, .string a1, .string a2]) (.agg #[.string b0, .string b1, .string b2])).run Tryd.prog W = .ok (decide (a0 = b0 ∧ a1 = b1 ∧ a2 = b2)) W := by
  obtain ⟨r, h, e⟩ := run_equalIn_deep (P := Tryd.prog) 9990 10 35 (by kernel_rfl) W 5 5 (.agg #[.string a0, .string a1, .string a2]) (.agg #[.string b0, .string b1, .string b2]) _ _ (by kernel_rfl) (by kernel_rfl) (kl22 h1 h2 h3) (kl22 h4 h5 h6)
  have e2 : r = decide (a0 = b0 ∧ a1 = b1 ∧ a2 = b2) := by
    rw [Bool.eq_iff_iff, e, decide_eq_true_iff]
    simp only [List.cons.injEq, and_true, Lit.string.injEq, dl]
  rw [← e2]
  exact h
set_option maxRecDepth 100000 in
set_option maxHeartbeats 8000000 in
theorem awake_any (w : World) (hW : K.MkW w) (hs : 1 ≤ w.heap.size) : Calls Tryd.prog 4 #[] w fun e w' => e = .returned (.bool true) ∧ Below w.heap.size w w' := by
  have CF := File_any ⟨#[97, 10]⟩ ⟨#[98, 10]⟩ ⟨#[99, 10]⟩ true true true false w hW (by decide) (by decide) (by decide)
  rw [fileK] at CF
  have C1 := Lib.hid CF
  have CT := Lib.hid (fun (W : World) (u v x : Value) (hB : Below w.heap.size w W) (h0 : T.Fls W u [⟨[112], [97, 10]⟩]) (h1 : T.Fls W v [⟨[112], [97, 10, 98, 10]⟩]) (h2 : T.Fls W x [⟨[112], [97, 10]⟩]) => Trees_any u v x _ _ _ true W (hW.below hB hs) (by have := hB.size; omega) h0 h1 h2 (by decide) (by decide) (by decide) (by rw [pathsK]; decide) (by decide))
  rw [treesK] at CT
  have CS := Lib.hid (fun (W : World) (hB : Below w.heap.size w W) => Sides_any txX 7 (by decide) W (hW.below hB hs))
  rw [sidesK] at CS
  have CM := Lib.hid (fun (W : World) => Marks_any ⟨#[97]⟩ ⟨#[98]⟩ ⟨#[99]⟩ W (by decide) (by decide) (by decide))
  rw [marksK] at CM
  dsimp only [vec3] at C1 CT CS CM
  have HS := Lib.hid hs
  clear CF hW hs
  go_enter Tryd.func4, Tryd.ntmps4
  go_wp2_with fail
  refine C1.out.mono ?_
  rintro e w1 ⟨rfl, b1⟩
  have B1 := Lib.hid b1
  clear b1 C1
  go_wp2_with fail
  obtain ⟨w4, hw4⟩ : ∃ w4, Hid (((w1.alloc (.cells #[.string ⟨#[112]⟩, .string ⟨#[97, 10]⟩] 34)).alloc (.cells #[.string ⟨#[112]⟩, .string ⟨#[97, 10, 98, 10]⟩] 34)).alloc (.cells #[.string ⟨#[112]⟩, .string ⟨#[97, 10]⟩] 34) = w4) := ⟨_, Lib.hid rfl⟩
  have B4 : Hid (Below w.heap.size w w4) := Lib.hid (by
    have hz := B1.out.size
    rw [← hw4.out]
    refine (((B1.out).alloc ?_ _).alloc ?_ _).alloc ?_ _ <;> (try simp only [World.size_alloc]) <;> omega)
  have F0 : T.Fls w4 (.slice (some ⟨w1.heap.size, 0, none⟩) 1 1) [⟨[112], [97, 10]⟩] := by
    rw [← hw4.out]
    exact fls_one (t := 34) (((row_new rfl).alloc _).alloc _)
  have F1 : T.Fls w4 (.slice (some ⟨w1.heap.size + 1, 0, none⟩) 1 1) [⟨[112], [97, 10, 98, 10]⟩] := by
    rw [← hw4.out]
    exact fls_one (t := 34) ((row_new (by simp only [World.size_alloc])).alloc _)
  have F2 : T.Fls w4 (.slice (some ⟨w1.heap.size + 1 + 1, 0, none⟩) 1 1) [⟨[112], [97, 10]⟩] := by
    rw [← hw4.out]
    exact fls_one (t := 34) (row_new (by simp only [World.size_alloc]))
  rw [hw4.out]
  refine (CT.out w4 _ _ _ B4.out F0 F1 F2).mono ?_
  rintro e w5 ⟨uF, uC, rfl, oF, oC, b5⟩
  have hz4 := B4.out.size
  have B5 := Lib.hid (B4.out.trans (b5.mono hz4))
  have FF := T.own_fls oF
  obtain ⟨az, cz, rfl⟩ := own_form oC
  obtain ⟨a, cap, rfl, -, -, hx⟩ := FF
  obtain ⟨g, off, rfl, hg, -, c1⟩ := hx 0 _ rfl
  have RT := Lib.hid (fun W (hB : Below w5.heap.size w5 W) => (hB.cell (p := ⟨g, off + 0 * 2 + 1, none⟩) hg).trans c1)
  clear oF oC b5 F0 F1 F2 hw4 B4 hx c1 CT
  simp only [List.length_cons, List.length_nil, Nat.zero_add]
  go_wp2_with fail
  refine (CS.out w5 B5.out).mono ?_
  rintro e w6 ⟨rfl, b6⟩
  have B6 := Lib.hid (B5.out.trans (b6.mono B5.out.size))
  have c7 : (w6.alloc (.cells #[.string ⟨#[]⟩, .string ⟨#[98, 10]⟩, .string ⟨#[99, 10]⟩] 35)).cell? ⟨g, off + 1, none⟩ = some (.string ⟨#[97, 10, 98, 10]⟩) := RT.out _ (b6.alloc b6.size _)
  have ht : txX.toList = [60, 60, 60, 60, 60, 60, 60, 32, 111, 117, 114, 115, 10, 98, 10, 61, 61, 61, 61, 61, 61, 61, 10, 99, 10, 62, 62, 62, 62, 62, 62, 62, 32, 116, 104, 101, 105, 114, 115, 10] := by decide +kernel
  have E22 := eq22 (a0 := ⟨#[]⟩) (a1 := ⟨#[98, 10]⟩) (a2 := ⟨#[99, 10]⟩) (b0 := ⟨#[]⟩) (b1 := ⟨#[98, 10]⟩) (b2 := ⟨#[99, 10]⟩) (by decide) (by decide) (by decide) (by decide) (by decide) (by decide)
  have de : decide ((⟨#[]⟩ : ByteArray) = ⟨#[]⟩ ∧ (⟨#[98, 10]⟩ : ByteArray) = ⟨#[98, 10]⟩ ∧ (⟨#[99, 10]⟩ : ByteArray) = ⟨#[99, 10]⟩) = true := by decide
  rw [de] at E22
  clear b6 CS RT de
  go_wp2_with fail
  have B7 := Lib.hid (B6.out.alloc (B6.out.size) (.cells #[.string ⟨#[]⟩, .string ⟨#[98, 10]⟩, .string ⟨#[99, 10]⟩] 35))
  refine (CM.out _).mono ?_
  rintro e w8 ⟨rfl, b8⟩
  have B8 := Lib.hid (B7.out.trans (b8.mono B7.out.size))
  clear b8
  go_wp2_with fail
  go_ret
  exact ⟨rfl, B8.out⟩
end Go.Proofs.YtbekbllffphfeaaDoor
/-
  For the laws of fallback: how long the text of a file is that three texts of at most 500 bytes make. No condition.
-/
namespace Go.Proofs.YtbekbllffphfeaaDoor
open Go.RowKit Go.Shelf
set_option linter.unusedSimpArgs false
set_option linter.unusedVariables false

end Go.Proofs.YtbekbllffphfeaaDoor
/-
  For the laws of fallback: FallbackFiles returns true. Condition: marker's table is as it is laid.
-/
namespace Go.Proofs.YtbekbllffphfeaaDoor
open Go.RowKit Go.Shelf
set_option linter.unusedSimpArgs false
set_option linter.unusedVariables false

end Go.Proofs.YtbekbllffphfeaaDoor
