/-
  For the laws of fallback: parts as marker's texts have them; three texts woven, by the program. Condition: marker's table is as it is laid; texts of at most 1,999 bytes.
-/
import Derived.Test.YtbekbllffphfeaaDoorWE
import Derived.Test.YtbekbllffphfeaaDoorKShow
namespace Go.Proofs.YtbekbllffphfeaaDoor
open Go.RowKit Go.Shelf
set_option linter.unusedSimpArgs false
set_option linter.unusedVariables false

theorem calls_gen {P : Program} {f : Nat} {args : Array Value} {W0 : World} {Q : Ending → World → Prop} (R : World → Prop) (h : R W0) (k : ∀ W, R W → Calls P f args W Q) : Calls P f args W0 Q := k _ h
theorem row_new {b : Nat} {W : World} {t : TypeId} {vs : Array Value} (h : b = W.heap.size) : RowAt (W.alloc (.cells vs t)) b t vs := by rw [h]; exact RowAt.new W t vs
theorem toList_tl (s : ByteArray) : s.toList = tl s := by
  have h := K.bs_beq s s.toList
  rw [beq_self_eq_true] at h
  exact of_decide_eq_true h.symm
theorem eqB (a o : ByteArray) : (a.toList == o.toList) = decide (a = o) := by
  rw [K.bs_beq, toList_tl]
  exact decide_eq_decide.2 ⟨fun h => by rw [← bs_tl a, h], fun h => by rw [h]⟩
def kp (p : Pt) : K.Pt := ⟨p.clash, p.o, p.a, p.b⟩
def pk (p : K.Pt) : Pt := ⟨p.clash, p.o, p.a, p.b⟩
theorem prts_k {W : World} {v : Value} {L : List Pt} (h : Prts W v L) : K.Prts W v (L.map kp) := by
  obtain ⟨a, cap, rfl, hc, hm, hx⟩ := h
  refine ⟨a, cap, by rw [List.length_map], by rw [List.length_map]; exact hc, hm, fun k p hk => ?_⟩
  rw [List.getElem?_map] at hk
  cases hq : L[k]? with
  | none => rw [hq] at hk; cases hk
  | some q =>
    rw [hq] at hk
    obtain rfl : kp q = p := by simpa using hk
    exact hx k q hq
theorem prts_of_k {W : World} {v : Value} {L : List K.Pt} (h : K.Prts W v L) : Prts W v (L.map pk) := by
  obtain ⟨a, cap, rfl, hc, hm, hx⟩ := h
  refine ⟨a, cap, by rw [List.length_map], by rw [List.length_map]; exact hc, hm, fun k p hk => ?_⟩
  rw [List.getElem?_map] at hk
  cases hq : L[k]? with
  | none => rw [hq] at hk; cases hk
  | some q =>
    rw [hq] at hk
    obtain rfl : pk q = p := by simpa using hk
    exact hx k q hq
/-- The text of parts, with marks; how long these are. -/
def showS (L : List Pt) (old : Bool) : By := K.printM (L.map kp) (K.showN (L.map kp)) old
def markN (L : List Pt) : Nat := K.showN (L.map kp)
def okF (p : Pt) : Prop := p.o.length ≤ 50000 ∧ p.a.length ≤ 50000 ∧ p.b.length ≤ 50000
theorem okF_k {L : List Pt} (h : ∀ p ∈ L, okF p) : ∀ p ∈ L.map kp, K.okH p := by
  intro p hp
  obtain ⟨q, hq, rfl⟩ := List.mem_map.1 hp
  exact h q hq
theorem ShowF_any (v : Value) (L : List Pt) (old : Bool) (hl : L.length ≤ 20000) (hok : ∀ p ∈ L, okF p) (w : World) (hW : K.MkW w) (hv : Prts w v L) :
    Calls Tryd.prog 17 #[v, .bool old] w fun e w' => e = .returned (.tuple #[.string (bs (showS L old)), .int .i64 (markN L : Nat)]) ∧ Below w.heap.size w w' :=
  K.Show_any v (L.map kp) old (by rw [List.length_map]; exact hl) (okF_k hok) w hW (prts_k hv)
theorem linesOk (o a b : ByteArray) (h1 : o.size ≤ 2599) (h2 : a.size ≤ 2599) (h3 : b.size ≤ 2599) : (linesP o a b).length ≤ 20000 ∧ (∀ p ∈ linesP o a b, okF p) ∧ ∀ p ∈ linesP o a b, okS p := by
  obtain ⟨g1, g2⟩ := linesF o a b h1 h2 h3
  exact ⟨g1, fun p hp => by obtain ⟨k1, k2, k3⟩ := g2 p hp; exact ⟨by omega, by omega, by omega⟩, fun p hp => by obtain ⟨k1, k2, k3⟩ := g2 p hp; exact ⟨by omega, by omega, by omega⟩⟩
def nz (s : ByteArray) (t : Bool) : ByteArray := if t then s else ⟨#[]⟩
theorem nz_le {s : ByteArray} {t : Bool} {n : Nat} (h : s.size ≤ n) : (nz s t).size ≤ n := by
  unfold nz
  split
  · exact h
  · exact Nat.zero_le _
def clashI (L : List Pt) : Int := if clashP L then 1 else 0
/-- Three texts as one, of which each may not be there. -/
def fileU (x0 x1 x2 : ByteArray) (p q r old : Bool) : ByteArray × Bool × Int :=
  if q && r then (bs (showS (linesP x0 x1 x2) old), true, clashI (linesP x0 x1 x2)) else if !q && !r then (⟨#[]⟩, false, 0) else if !p then (if r then x2 else x1, true, 0) else if (if r then x2 else x1) = x0 then (⟨#[]⟩, false, 0) else (bs (showS [⟨true, tl x0, tl x1, tl x2⟩] old), true, 3)
def fileP (s0 s1 s2 : ByteArray) (p q r old : Bool) : ByteArray × Bool × Int := fileU (nz s0 p) (nz s1 q) (nz s2 r) p q r old
set_option maxRecDepth 100000 in
set_option maxHeartbeats 16000000 in
theorem wovenF_any (s0 s1 s2 : ByteArray) (old : Bool) (w : World) (hW : K.MkW w) (h1 : s0.size ≤ 2599) (h2 : s1.size ≤ 2599) (h3 : s2.size ≤ 2599) : Calls Tryd.prog 16 #[.agg #[.string s0, .string s1, .string s2], .bool old] w fun e w' => e = .returned (.tuple #[.string (bs (showS (linesP s0 s1 s2) old)), .bool true, .int .i64 (clashI (linesP s0 s1 s2))]) ∧ Below w.heap.size w w' := by
  have CL := Lib.hid (fun W => Lines_any s0 s1 s2 W h1 h2 h3)
  obtain ⟨k1, k2, k3⟩ := linesOk s0 s1 s2 h1 h2 h3
  have K2 := Lib.hid k2
  have K3 := Lib.hid k3
  have HW := Lib.hid hW
  have hs := hW.size
  obtain ⟨L, hL⟩ : ∃ L, linesP s0 s1 s2 = L := ⟨_, rfl⟩
  rw [hL] at CL K2 K3 k1 ⊢
  clear k2 k3 hW hL h1 h2 h3
  obtain ⟨n, hn⟩ : ∃ n, Hid (L.length = n) := ⟨_, Lib.hid rfl⟩
  go_enter Tryd.func16, Tryd.ntmps16
  go_wp2_with fail
  refine calls_gen (fun W => Below w.heap.size w W) ((Below.refl _ w).alloc (Nat.le_refl _) _) ?_
  intro W1 b1
  refine (CL.out W1).mono ?_
  rintro e w2 ⟨v, rfl, hv, b2⟩
  have B2 := Lib.hid (b1.trans (b2.mono b1.size))
  have CS := Lib.hid (ShowF_any v L old k1 K2.out w2 (HW.out.below B2.out hs) hv)
  have CJ := Lib.hid (fun W (hB : Below w2.heap.size w2 W) => Join_any v L (by omega) K3.out W (hv.below hB))
  obtain ⟨a, c, rfl, -⟩ := hv
  rw [hn.out] at CS CJ k1 ⊢
  clear b1 b2 CL K2 K3
  go_wp2_with fail
  refine CS.out.mono ?_
  rintro e w3 ⟨rfl, b3⟩
  have B3 := Lib.hid b3
  clear b3 CS
  go_wp2_with fail
  refine (CJ.out w3 B3.out).mono ?_
  rintro e w4 ⟨rfl, b4⟩
  have B4 := Lib.hid (B2.out.trans ((B3.out.trans (b4.mono B3.out.size)).mono B2.out.size))
  clear b4 CJ
  cases hc : clashP L with
  | true =>
    have e1 : Hid (joinP L = ([], false)) := Lib.hid (by unfold joinP; rw [if_pos hc])
    have e2 : Hid (clashI L = 1) := Lib.hid (by unfold clashI; rw [if_pos hc])
    rw [e1.out]
    clear hc
    go_wp2_with fail
    go_ret3
    exact ⟨by rw [e2.out]; rfl, B4.out⟩
  | false =>
    have e1 : Hid (joinP L = (sideP L 1, true)) := Lib.hid (by unfold joinP; rw [if_neg (by rw [hc]; decide)])
    have e2 : Hid (clashI L = 0) := Lib.hid (by unfold clashI; rw [if_neg (by rw [hc]; decide)])
    rw [e1.out]
    clear hc
    go_wp2_with fail
    go_ret3
    exact ⟨by rw [e2.out]; rfl, B4.out⟩
end Go.Proofs.YtbekbllffphfeaaDoor
