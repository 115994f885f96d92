/-
  For the laws of lcs: the length of a longest common row of two lists, and the match that is told from the beginning on; facts on lists alone, no program.
-/
import Derived.Test.YtbekbllffphfeaaDoorProg
import Derived.WalkKit
import Derived.WalkSpells
import Derived.Lib.Hide
import Derived.Deep.QuietTactic
import Derived.BigQuiet
import Derived.IntWalk
import Derived.Laws.MakeOwn
import Derived.RegionTactic
import Derived.ChangeAlike
import Derived.StillTailTactics
import Derived.Maps.OwnOps
import Derived.Maps.OwnSet
import Derived.OwnWalk
import Derived.Laws.AppendOwn
import Derived.Deep.RegionHeldLaw
import Derived.Deep.AppendLies
import Derived.OrdersIn
import Derived.OwnWalkIn
namespace Go.Proofs.YtbekbllffphfeaaDoor.L

/-- How long a longest common row is. -/
def lc : List Int → List Int → Nat
  | [], _ => 0
  | _ :: _, [] => 0
  | x :: a, y :: b => if x = y then lc a b + 1 else max (lc a (y :: b)) (lc (x :: a) b)
termination_by a b => a.length + b.length

theorem lc_nil_left (b : List Int) : lc [] b = 0 := by rw [lc]
theorem lc_nil_right (a : List Int) : lc a [] = 0 := by cases a <;> rw [lc]
theorem lc_same (x : Int) (a b : List Int) : lc (x :: a) (x :: b) = lc a b + 1 := by rw [lc, if_pos rfl]
theorem lc_diff {x y : Int} (h : x ≠ y) (a b : List Int) : lc (x :: a) (y :: b) = max (lc a (y :: b)) (lc (x :: a) b) := by rw [lc, if_neg h]

/-- There is a common row of that length. -/
theorem lc_has : ∀ a b : List Int, ∃ l : List Int, l.Sublist a ∧ l.Sublist b ∧ l.length = lc a b
  | [], b => ⟨[], List.nil_sublist _, List.nil_sublist _, by rw [lc_nil_left]; rfl⟩
  | x :: a, [] => ⟨[], List.nil_sublist _, List.nil_sublist _, by rw [lc_nil_right]; rfl⟩
  | x :: a, y :: b => by
    by_cases h : x = y
    · subst h
      obtain ⟨l, h1, h2, h3⟩ := lc_has a b
      exact ⟨x :: l, h1.cons_cons x, h2.cons_cons x, by rw [lc_same]; simp [h3]⟩
    · rw [lc_diff h]
      obtain ⟨l, h1, h2, h3⟩ := lc_has a (y :: b)
      obtain ⟨m, k1, k2, k3⟩ := lc_has (x :: a) b
      by_cases hm : lc a (y :: b) ≤ lc (x :: a) b
      · exact ⟨m, k1, k2.cons y, by omega⟩
      · exact ⟨l, h1.cons x, h2, by omega⟩
termination_by a b => a.length + b.length

theorem lc_le_left (a b : List Int) : lc a b ≤ a.length := by
  obtain ⟨l, h2, _, h3⟩ := lc_has a b
  have := h2.length_le
  omega
/-- How many things both begin with. -/
def pfx : List Int → List Int → Nat
  | x :: a, y :: b => if x = y then pfx a b + 1 else 0
  | _, _ => 0
theorem pfx_le : ∀ a b : List Int, pfx a b ≤ a.length ∧ pfx a b ≤ b.length
  | [], _ => ⟨Nat.zero_le _, Nat.zero_le _⟩
  | _ :: _, [] => ⟨Nat.zero_le _, Nat.zero_le _⟩
  | x :: a, y :: b => by
    have := pfx_le a b
    unfold pfx
    split <;> simp <;> omega
theorem pfx_take : ∀ a b : List Int, a.take (pfx a b) = b.take (pfx a b)
  | [], _ => by simp [pfx]
  | _ :: _, [] => by simp [pfx]
  | x :: a, y :: b => by
    unfold pfx
    split
    · rename_i h
      subst h
      simp [pfx_take a b]
    · simp
/-- How many things both end with, of what is left behind the beginning. -/
def sfx (a b : List Int) : Nat := pfx (a.drop (pfx a b)).reverse (b.drop (pfx a b)).reverse

theorem sfx_le (a b : List Int) : sfx a b + pfx a b ≤ a.length ∧ sfx a b + pfx a b ≤ b.length := by
  have h1 := pfx_le a b
  have h2 := pfx_le (a.drop (pfx a b)).reverse (b.drop (pfx a b)).reverse
  unfold sfx
  simp at h2
  omega

/-- The match, from the beginning on: for each thing of the first row its place in the second one (from k on), or -1. -/
def gm : List Int → List Int → Int → List Int
  | [], _, _ => []
  | _ :: a, [], k => -1 :: gm a [] k
  | x :: a, y :: b, k => if x = y then k :: gm a b (k + 1) else if lc (x :: a) b ≤ lc a (y :: b) then -1 :: gm a (y :: b) k else gm (x :: a) b (k + 1)
termination_by a b => a.length + b.length

theorem gm_nil_right : ∀ (a : List Int) (k : Int), gm a [] k = List.replicate a.length (-1)
  | [], k => by rw [gm]; rfl
  | x :: a, k => by rw [gm, gm_nil_right a k]; rfl
theorem gm_same (x : Int) (a b : List Int) (k : Int) : gm (x :: a) (x :: b) k = k :: gm a b (k + 1) := by rw [gm, if_pos rfl]
theorem gm_skip {x y : Int} (h : x ≠ y) (a b : List Int) (k : Int) (hl : lc (x :: a) b ≤ lc a (y :: b)) : gm (x :: a) (y :: b) k = -1 :: gm a (y :: b) k := by rw [gm, if_neg h, if_pos hl]
theorem gm_next {x y : Int} (h : x ≠ y) (a b : List Int) (k : Int) (hl : ¬ lc (x :: a) b ≤ lc a (y :: b)) : gm (x :: a) (y :: b) k = gm (x :: a) b (k + 1) := by rw [gm, if_neg h, if_neg hl]

theorem gm_length : ∀ (a b : List Int) (k : Int), (gm a b k).length = a.length
  | [], b, k => by rw [gm]
  | x :: a, [], k => by rw [gm_nil_right]; simp
  | x :: a, y :: b, k => by
    by_cases h : x = y
    · subst h; rw [gm_same]; simp [gm_length a b (k + 1)]
    · by_cases hl : lc (x :: a) b ≤ lc a (y :: b)
      · rw [gm_skip h _ _ _ hl]; simp [gm_length a (y :: b) k]
      · rw [gm_next h _ _ _ hl, gm_length (x :: a) b (k + 1)]
termination_by a b => a.length + b.length

/-- What is told of a match l of the row a to the row b, whose first thing has the place k: each place is -1, or rises, and the thing there is the same. -/
def good : List Int → List Int → List Int → Int → Prop
  | [], [], _, _ => True
  | m :: l, x :: a, b, k => (m = -1 ∧ good l a b k) ∨ (k ≤ m ∧ m < k + b.length ∧ b[(m - k).toNat]? = some x ∧ good l a (b.drop ((m - k).toNat + 1)) (m + 1))
  | _, _, _, _ => False

theorem good_drop1 : ∀ (l a b : List Int) (y : Int) (k : Int), good l a b (k + 1) → good l a (y :: b) k
  | [], [], _, _, _, _ => trivial
  | m :: l, x :: a, b, y, k, h => by
    rcases h with ⟨h1, h2⟩ | ⟨h1, h2, h3, h4⟩
    · exact .inl ⟨h1, good_drop1 l a b y k h2⟩
    · have e : (m - k).toNat = (m - (k + 1)).toNat + 1 := by omega
      refine .inr ⟨by omega, by simp; omega, by rw [e]; simpa using h3, ?_⟩
      rw [e]
      simpa using h4
  | [], _ :: _, _, _, _, h => h.elim
  | _ :: _, [], _, _, _, h => h.elim

theorem good_none : ∀ (a b : List Int) (k : Int), good (List.replicate a.length (-1)) a b k
  | [], _, _ => trivial
  | _ :: a, b, k => .inl ⟨rfl, good_none a b k⟩

theorem gm_good : ∀ (a b : List Int) (k : Int), good (gm a b k) a b k
  | [], b, k => by rw [gm]; trivial
  | x :: a, [], k => by rw [gm_nil_right]; exact good_none (x :: a) [] k
  | x :: a, y :: b, k => by
    by_cases h : x = y
    · subst h
      rw [gm_same]
      have := gm_good a b (k + 1)
      exact .inr ⟨by omega, by simp; omega, by simp, by simpa using this⟩
    · by_cases hl : lc (x :: a) b ≤ lc a (y :: b)
      · rw [gm_skip h _ _ _ hl]
        exact .inl ⟨rfl, gm_good a (y :: b) k⟩
      · rw [gm_next h _ _ _ hl]
        exact good_drop1 _ _ _ _ _ (gm_good (x :: a) b (k + 1))
termination_by a b => a.length + b.length

end Go.Proofs.YtbekbllffphfeaaDoor.L
/-
  For the laws of lcs: rows of cells in memory: what a store, a new block and a draw leave of them; a slice that reads as numbers. No program but its types.
-/
namespace Go.Proofs.YtbekbllffphfeaaDoor.L
open Go.RowKit

/-- BLOCK b IS A ROW OF CELLS of type t, not frozen. -/
def RowAt (W : World) (b : Nat) (t : TypeId) (vs : Array Value) : Prop := W.heap[b]? = some (.cells vs t (0, 0))
section
variable {W W' : World} {b : Nat} {t : TypeId} {vs : Array Value}
theorem RowAt.lt (h : RowAt W b t vs) : b < W.heap.size := (Array.getElem?_eq_some_iff.1 h).1
theorem RowAt.cell (h : RowAt W b t vs) {j : Nat} {v : Value} (hj : vs[j]? = some v) : W.cell? ⟨b, j, none⟩ = some v := by
  simp [World.cell?, show W.heap[b]? = _ from h, hj]
theorem RowAt.frozen (h : RowAt W b t vs) (j : Nat) : W.frozen? ⟨b, j, none⟩ = false := by
  simp [World.frozen?, show W.heap[b]? = _ from h]
theorem RowAt.new (W : World) (t : TypeId) (vs : Array Value) : RowAt (W.alloc (.cells vs t)) W.heap.size t vs := by
  show (W.heap.push _)[W.heap.size]? = _
  simp
theorem RowAt.later (h : RowAt W b t vs) (hb : Below W.heap.size W W') : RowAt W' b t vs := (hb.block b h.lt).trans h
theorem RowAt.same (h : RowAt W b t vs) (hb : W'.heap[b]? = W.heap[b]?) : RowAt W' b t vs := hb.trans h
theorem RowAt.alloc (h : RowAt W b t vs) (o : Obj) : RowAt (W.alloc o) b t vs := (Below.heap_alloc W o b h.lt).trans h
theorem RowAt.drewN (h : RowAt W b t vs) (n : Nat) : RowAt (W.drewN n) b t vs := h
theorem RowAt.other (h : RowAt W b t vs) {c : Nat} (hne : b ≠ c) (j : Nat) (v : Value) : RowAt (W.setCell ⟨c, j, none⟩ v) b t vs :=
  (Below.heap_setCell W ⟨c, j, none⟩ v b (by simpa using hne)).trans h
theorem RowAt.set (h : RowAt W b t vs) (j : Nat) (v : Value) : RowAt (W.setCell ⟨b, j, none⟩ v) b t (vs.setIfInBounds j v) := by
  obtain ⟨hlt, hk⟩ := Array.getElem?_eq_some_iff.1 h
  show (W.heap.modify b _)[b]? = _
  rw [Array.getElem?_eq_getElem (by rw [Array.size_modify]; exact hlt), Array.getElem_modify_self, hk]
  rfl
end

theorem below_draws {B : Nat} {a w : World} (h : Below B a w) (q : Nat) : Below B a (w.drewN q) := ⟨h.os, h.tape, h.output, h.size, h.block⟩

/-- The value v is a slice that reads as the numbers xs (of kind k). -/
def Ints (W : World) (k : IntKind) (v : Value) (xs : List Int) : Prop :=
  ∃ (a : Option Addr) (cap : Nat), v = .slice a xs.length cap ∧ xs.length ≤ cap ∧ cap ≤ maxLen ∧ (xs = [] ∨ ∃ b off, a = some ⟨b, off, none⟩ ∧ b < W.heap.size ∧ ∀ j x, xs[j]? = some x → W.cell? ⟨b, off + j, none⟩ = some (.int k x))

theorem Ints.below {W W' : World} {k : IntKind} {v : Value} {xs : List Int} (h : Ints W k v xs) (hb : Below W.heap.size W W') : Ints W' k v xs := by
  rcases h with ⟨a, cap, rfl, hc, hm, h | ⟨b, off, rfl, hlt, hx⟩⟩
  · exact ⟨a, cap, rfl, hc, hm, .inl h⟩
  · exact ⟨_, cap, rfl, hc, hm, .inr ⟨b, off, rfl, by have := hb.size; omega, fun j x hj => (hb.cell (p := ⟨b, off + j, none⟩) hlt).trans (hx j x hj)⟩⟩

theorem ints_of_row {W : World} {b : Nat} {xs : List Int} {t : TypeId} {k : IntKind} (h : RowAt W b t (xs.map (Value.int k)).toArray) (hm : xs.length ≤ maxLen) : Ints W k (.slice (some ⟨b, 0, none⟩) xs.length xs.length) xs :=
  ⟨_, _, rfl, Nat.le_refl _, hm, .inr ⟨b, 0, rfl, h.lt, fun j x hj => by rw [Nat.zero_add]; exact h.cell (by simp [hj])⟩⟩

set_option maxHeartbeats 1000000 in
theorem tooLong_any (p q : Option Addr) (n m c d : Nat) (w : World) : Calls Tryd.prog 95 #[.slice p n c, .slice q m d] w fun e w' => e = .returned (.bool (decide (2000 < n) || decide (2000 < m))) ∧ w = w' := by
  by_cases h : 2000 < n
  · have hd : decide ((2000 : Int) < (n : Int)) = true := by simp; omega
    have hv : (decide (2000 < n) || decide (2000 < m)) = true := by simp [h]
    have Hv := Lib.hid hv; clear hv
    go_enter Tryd.func95, Tryd.ntmps95
    go_wp2
    go_ret
    exact ⟨by rw [Hv.out]; rfl, rfl⟩
  · have hd : decide ((2000 : Int) < (n : Int)) = false := by simp; omega
    have hv : (decide (2000 < n) || decide (2000 < m)) = decide ((2000 : Int) < (m : Int)) := by
      rw [Bool.eq_iff_iff]; simp [h]; omega
    have Hv := Lib.hid hv; clear hv
    go_enter Tryd.func95, Tryd.ntmps95
    go_wp2
    go_ret
    exact ⟨by rw [Hv.out]; rfl, rfl⟩
end Go.Proofs.YtbekbllffphfeaaDoor.L
/-
  For the laws of lcs: how much two rows begin and end with. Condition: at most 1,000,000 numbers each.
-/
namespace Go.Proofs.YtbekbllffphfeaaDoor.L
open Go.RowKit

theorem pfx_run {a b : List Int} {k : Nat} (h : k < pfx a b) : a[k]? = b[k]? := by
  have h1 := congrArg (fun l => l[k]?) (pfx_take a b)
  simpa [List.getElem?_take_of_lt h] using h1

theorem pfx_stop : ∀ {a b : List Int}, pfx a b < a.length → pfx a b < b.length → a[pfx a b]? ≠ b[pfx a b]?
  | [], _, h, _ => by simp at h
  | _ :: _, [], _, h => by simp at h
  | x :: a, y :: b, h1, h2 => by
    unfold pfx at h1 h2 ⊢
    by_cases h : x = y
    · simp only [if_pos h] at h1 h2 ⊢
      simpa using pfx_stop (a := a) (b := b) (by simpa using h1) (by simpa using h2)
    · simp only [if_neg h]
      simpa using h
/-- The things at the end, from the end on. -/
theorem rev_drop_get (a : List Int) (p s : Nat) (h : s + p < a.length) : (a.drop p).reverse[s]? = a[a.length - 1 - s]? := by
  rw [List.getElem?_reverse (by simp; omega), List.getElem?_drop]
  congr 1
  simp
  omega

set_option maxRecDepth 100000 in
set_option maxHeartbeats 4000000 in
theorem ends_any (v1 v2 : Value) (xs ys : List Int) (w : World) (h1 : Ints w .i64 v1 xs) (h2 : Ints w .i64 v2 ys) (hl1 : xs.length ≤ 1000000) (hl2 : ys.length ≤ 1000000) :
    Calls Tryd.prog 94 #[v1, v2] w fun e w' => e = .returned (.tuple #[.int .i64 (pfx xs ys : Nat), .int .i64 (sfx xs ys : Nat)]) ∧ Below w.heap.size w w' := by
  obtain ⟨a1, cap1, rfl, hc1, hm1, h1⟩ := h1
  obtain ⟨a2, cap2, rfl, hc2, hm2, h2⟩ := h2
  have hple := pfx_le xs ys
  have hsle := sfx_le xs ys
  have hcell1 : ∀ (wr : World), Below w.heap.size w wr → ∀ k, k < xs.length → ∃ b off, a1 = some ⟨b, off, none⟩ ∧ wr.cell? ⟨b, off + k, none⟩ = some (.int .i64 (xs[k]?.getD 0)) := by
    intro wr hB k hk
    rcases h1 with h | ⟨b, off, rfl, hb, hx⟩
    · rw [h] at hk; simp at hk
    · exact ⟨b, off, rfl, (hB.cell (p := ⟨b, off + k, none⟩) hb).trans (hx k _ (by rw [List.getElem?_eq_getElem hk]; rfl))⟩
  have hcell2 : ∀ (wr : World), Below w.heap.size w wr → ∀ k, k < ys.length → ∃ b off, a2 = some ⟨b, off, none⟩ ∧ wr.cell? ⟨b, off + k, none⟩ = some (.int .i64 (ys[k]?.getD 0)) := by
    intro wr hB k hk
    rcases h2 with h | ⟨b, off, rfl, hb, hx⟩
    · rw [h] at hk; simp at hk
    · exact ⟨b, off, rfl, (hB.cell (p := ⟨b, off + k, none⟩) hb).trans (hx k _ (by rw [List.getElem?_eq_getElem hk]; rfl))⟩
  have Hcell1 := Lib.hid hcell1; clear hcell1
  have Hcell2 := Lib.hid hcell2; clear hcell2
  clear h1 h2
  have hpx := hple.1
  have hpy := hple.2
  have hsx := hsle.1
  have hsy := hsle.2
  clear hple hsle
  unfold maxLen at hm1 hm2
  rcases Nat.lt_or_ge ys.length xs.length with hle | hle
  all_goals
    first | have hle1 := Int.ofNat_le.2 hle | have hle1 := Int.ofNat_lt.2 hle
    go_enter Tryd.func94, Tryd.ntmps94
    go_wp2
    go_loopw [7] (fun p wr => ∃ k : Nat, k ≤ pfx xs ys ∧ p = .int .i64 k ∧ Below w.heap.size w wr) (fun p _ => xs.length + 1 - (intOf p).toNat)
    case atStart => exact ⟨0, Nat.zero_le _, rfl, Below.refl _ _⟩
    case round =>
      obtain ⟨k, hk, rfl, hB⟩ := hrel
      by_cases hlt : k < pfx xs ys
      · obtain ⟨b1, o1, rfl, c1⟩ := Hcell1.out wr hB k (by omega)
        obtain ⟨b2, o2, rfl, c2⟩ := Hcell2.out wr hB k (by omega)
        rw [← pfx_run hlt] at c2
        generalize xs[k]?.getD 0 = x at c1 c2
        have hlx : k < xs.length := by omega
        have hly : k < ys.length := by omega
        have hd : decide (k < xs.length) = true := by simpa using hlx
        have hd' : decide (k < ys.length) = true := by simpa using hly
        go_wp2
        go_quiet (fail)
        go_wp2
        refine ⟨⟨k + 1, by omega, by go_num, below_draws hB nq⟩, by simp [intOf]; omega⟩
      · have hkp : k = pfx xs ys := by omega
        have Hkp := Lib.hid hkp; clear hlt hk hkp
        have hkx : k ≤ xs.length := by rw [Hkp.out]; exact hpx
        have hky : k ≤ ys.length := by rw [Hkp.out]; exact hpy
        have hskx : sfx xs ys + k ≤ xs.length := by rw [Hkp.out]; exact hsx
        have hsky : sfx xs ys + k ≤ ys.length := by rw [Hkp.out]; exact hsy
        clear hpx hpy hsx hsy
        by_cases hn : k < xs.length ∧ k < ys.length
        case' pos =>
          obtain ⟨hlx, hly⟩ := hn
          have hd : decide (k < xs.length) = true := by simpa using hlx
          have hd' : decide (k < ys.length) = true := by simpa using hly
          obtain ⟨b1, o1, he1, c1⟩ := Hcell1.out wr hB _ hlx
          obtain ⟨b2, o2, he2, c2⟩ := Hcell2.out wr hB _ hly
          have hne := pfx_stop (a := xs) (b := ys) (by rw [← Hkp.out]; exact hlx) (by rw [← Hkp.out]; exact hly)
          rw [← Hkp.out, List.getElem?_eq_getElem hlx, List.getElem?_eq_getElem hly] at hne
          rw [List.getElem?_eq_getElem hlx] at c1
          rw [List.getElem?_eq_getElem hly] at c2
          simp only [Option.getD_some] at c1 c2
          have hb : (xs[k] == ys[k]) = false := by rw [beq_eq_false_iff_ne]; intro e; exact hne (by rw [e])
          generalize xs[k] = x at c1 hb
          generalize ys[k] = y at c2 hb
          clear hne
          subst he1 he2
          go_wp2
          go_quiet (fail)
          clear c1 c2 hb hd hd'
          go_wp2
        case' neg =>
          first
          | have hd : decide (k < xs.length) = false := by simp; omega
            go_wp2
            go_quiet (fail)
            clear hd hn
            go_wp2
          | have hd : decide (k < ys.length) = false := by simp; omega
            go_wp2
            go_quiet (fail)
            clear hd hn
            go_wp2
        all_goals
          go_loopw [8] (fun q wr2 => ∃ j : Nat, j ≤ sfx xs ys ∧ q = .int .i64 j ∧ Below w.heap.size w wr2) (fun q _ => xs.length + 1 - (intOf q).toNat)
          case atStart => exact ⟨0, Nat.zero_le _, rfl, below_draws hB nq⟩
          case round =>
            obtain ⟨j, hj, rfl, hB2⟩ := hrel
            have g1 : IntKind.i64.wrap ((xs.length : Int) - (k : Int)) = (xs.length : Int) - k := IntWalk.i64_in _ (by omega)
            have g2 : IntKind.i64.wrap ((ys.length : Int) - (k : Int)) = (ys.length : Int) - k := IntWalk.i64_in _ (by omega)
            by_cases hlt2 : j < sfx xs ys
            · have hjx : j + k < xs.length := by omega
              have hjy : j + k < ys.length := by omega
              obtain ⟨b1, o1, e1, c1⟩ := Hcell1.out wr hB2 (xs.length - 1 - j) (by omega)
              obtain ⟨b2, o2, e2, c2⟩ := Hcell2.out wr hB2 (ys.length - 1 - j) (by omega)
              cases e1
              cases e2
              have hsd := pfx_run (a := (xs.drop k).reverse) (b := (ys.drop k).reverse) (k := j) (by rw [Hkp.out]; exact hlt2)
              rw [rev_drop_get _ _ _ hjx, rev_drop_get _ _ _ hjy] at hsd
              rw [← hsd] at c2
              clear hsd
              generalize xs[xs.length - 1 - j]?.getD 0 = x at c1 c2
              have i1 : IntKind.i64.wrap ((xs.length : Int) - 1) = (xs.length : Int) - 1 := IntWalk.i64_in _ (by omega)
              have i2 : IntKind.i64.wrap ((xs.length : Int) - 1 - (j : Int)) = (xs.length : Int) - 1 - j := IntWalk.i64_in _ (by omega)
              have i3 : ((xs.length : Int) - 1 - (j : Int)).toNat = xs.length - 1 - j := by omega
              have i4 : 0 ≤ (xs.length : Int) - 1 - (j : Int) := by omega
              have i5 : (xs.length : Int) - 1 - (j : Int) < xs.length := by omega
              have j1 : IntKind.i64.wrap ((ys.length : Int) - 1) = (ys.length : Int) - 1 := IntWalk.i64_in _ (by omega)
              have j2 : IntKind.i64.wrap ((ys.length : Int) - 1 - (j : Int)) = (ys.length : Int) - 1 - j := IntWalk.i64_in _ (by omega)
              have j3 : ((ys.length : Int) - 1 - (j : Int)).toNat = ys.length - 1 - j := by omega
              have j4 : 0 ≤ (ys.length : Int) - 1 - (j : Int) := by omega
              have j5 : (ys.length : Int) - 1 - (j : Int) < ys.length := by omega
              have d1 : decide ((j : Int) < (xs.length : Int) - (k : Int)) = true := by simp; omega
              have d2 : decide ((j : Int) < (ys.length : Int) - (k : Int)) = true := by simp; omega
              go_wp2
              go_quiet (fail)
              clear g1 g2 i1 i2 i3 i4 i5 j1 j2 j3 j4 j5 d1 d2
              go_wp2
              refine ⟨⟨j + 1, by omega, by go_num, below_draws hB2 nq⟩, by simp [intOf]; omega⟩
            · have hjs : j = sfx xs ys := by omega
              have Hjs := Lib.hid hjs; clear hjs hlt2 hj
              by_cases hin : j + k < xs.length ∧ j + k < ys.length
              · obtain ⟨hjx, hjy⟩ := hin
                obtain ⟨b1, o1, e1, c1⟩ := Hcell1.out wr hB2 (xs.length - 1 - j) (by omega)
                obtain ⟨b2, o2, e2, c2⟩ := Hcell2.out wr hB2 (ys.length - 1 - j) (by omega)
                cases e1
                cases e2
                have hne := pfx_stop (a := (xs.drop k).reverse) (b := (ys.drop k).reverse) (by rw [Hkp.out]; show sfx xs ys < _; rw [← Hjs.out, ← Hkp.out]; simp; omega) (by rw [Hkp.out]; show sfx xs ys < _; rw [← Hjs.out, ← Hkp.out]; simp; omega)
                rw [show pfx (xs.drop k).reverse (ys.drop k).reverse = j by rw [Hjs.out, Hkp.out]; rfl, rev_drop_get _ _ _ hjx, rev_drop_get _ _ _ hjy, List.getElem?_eq_getElem (show xs.length - 1 - j < xs.length by omega), List.getElem?_eq_getElem (show ys.length - 1 - j < ys.length by omega)] at hne
                rw [List.getElem?_eq_getElem (show xs.length - 1 - j < xs.length by omega)] at c1
                rw [List.getElem?_eq_getElem (show ys.length - 1 - j < ys.length by omega)] at c2
                simp only [Option.getD_some] at c1 c2
                have hb : (xs[xs.length - 1 - j]'(by omega) == ys[ys.length - 1 - j]'(by omega)) = false := by rw [beq_eq_false_iff_ne]; intro e; exact hne (by rw [e])
                generalize xs[xs.length - 1 - j]'(by omega) = x at c1 hb
                generalize ys[ys.length - 1 - j]'(by omega) = y at c2 hb
                clear hne
                have i1 : IntKind.i64.wrap ((xs.length : Int) - 1) = (xs.length : Int) - 1 := IntWalk.i64_in _ (by omega)
                have i2 : IntKind.i64.wrap ((xs.length : Int) - 1 - (j : Int)) = (xs.length : Int) - 1 - j := IntWalk.i64_in _ (by omega)
                have i3 : ((xs.length : Int) - 1 - (j : Int)).toNat = xs.length - 1 - j := by omega
                have i4 : 0 ≤ (xs.length : Int) - 1 - (j : Int) := by omega
                have i5 : (xs.length : Int) - 1 - (j : Int) < xs.length := by omega
                have j1 : IntKind.i64.wrap ((ys.length : Int) - 1) = (ys.length : Int) - 1 := IntWalk.i64_in _ (by omega)
                have j2 : IntKind.i64.wrap ((ys.length : Int) - 1 - (j : Int)) = (ys.length : Int) - 1 - j := IntWalk.i64_in _ (by omega)
                have j3 : ((ys.length : Int) - 1 - (j : Int)).toNat = ys.length - 1 - j := by omega
                have j4 : 0 ≤ (ys.length : Int) - 1 - (j : Int) := by omega
                have j5 : (ys.length : Int) - 1 - (j : Int) < ys.length := by omega
                have d1 : decide ((j : Int) < (xs.length : Int) - (k : Int)) = true := by simp; omega
                have d2 : decide ((j : Int) < (ys.length : Int) - (k : Int)) = true := by simp; omega
                go_wp2
                go_quiet (fail)
                clear g1 g2 i1 i2 j1 j2
                go_wp2
                go_ret2
                exact ⟨by rw [← Hkp.out, ← Hjs.out]; rfl, below_draws hB2 nq⟩
              · first
                | have d1 : decide ((j : Int) < (xs.length : Int) - (k : Int)) = false := by simp; omega
                  go_wp2
                  go_quiet (fail)
                  clear g1 g2
                  go_wp2
                  go_ret2
                  exact ⟨by rw [← Hkp.out, ← Hjs.out]; rfl, below_draws hB2 nq⟩
                | have d2 : decide ((j : Int) < (ys.length : Int) - (k : Int)) = false := by simp; omega
                  go_wp2
                  go_quiet (fail)
                  clear g1 g2
                  go_wp2
                  go_ret2
                  exact ⟨by rw [← Hkp.out, ← Hjs.out]; rfl, below_draws hB2 nq⟩
end Go.Proofs.YtbekbllffphfeaaDoor.L
/-
  For the laws of lcs: a row of the table of lengths, as it lies in memory, and how it is filled; what a slice of numbers is cut to. No condition.
-/
namespace Go.Proofs.YtbekbllffphfeaaDoor.L
open Go.RowKit

theorem size3 (w : World) : (Go.sizeOf 3).run Tryd.prog w = .ok 1 w := by kernel_rfl
theorem slice22 : Tryd.prog.underlying 138 = some (.slice (Tryd.prog.elem 138)) := by rw [Tryd.underlying138]; kernel_rfl
theorem elem22 : Tryd.prog.elem 138 = 3 := by kernel_rfl
/-- 'v[lo:hi]' of a slice that reads as numbers. -/
theorem Ints.cut {W : World} {v : Value} {xs : List Int} (h : Ints W .i64 v xs) (lo hi : Nat) (h1 : lo ≤ hi) (h2 : hi ≤ xs.length) (l r : Int) (hl : l = lo) (hr : r = hi) :
    ∃ v', (∀ V : World, (Instr.slice 138 v (some (.int .i64 l)) (some (.int .i64 r)) none).run Tryd.prog V = .ok v' V) ∧ Ints W .i64 v' ((xs.drop lo).take (hi - lo)) := by
  subst hl hr
  obtain ⟨a, cap, rfl, hc, hm, hx⟩ := h
  have hrun : ∀ V : World, (Instr.slice 138 (.slice a xs.length cap) (some (.int .i64 (lo : Int))) (some (.int .i64 (hi : Int))) none).run Tryd.prog V = .ok (.slice (if cap = lo then a else a.map (·.add (lo * 1))) (hi - lo) (cap - lo)) V := by
    intro V
    rw [run_slice_lh V 138 _ _ _ slice22 .i64 .i64 _ _ (by omega) (by omega) (by omega), elem22, size3]
    simp [Result.andThen, sliced]
  refine ⟨_, hrun, ?_⟩
  have hlen : ((xs.drop lo).take (hi - lo)).length = hi - lo := by simp; omega
  refine ⟨_, _, by rw [hlen], by omega, by omega, ?_⟩
  by_cases he : hi - lo = 0
  · left; rw [he]; rfl
  · right
    rcases hx with rfl | ⟨b, off, rfl, hb, hx⟩
    · simp at h2; omega
    · rw [if_neg (by omega)]
      refine ⟨b, off + lo, ?_, hb, fun j x hj => ?_⟩
      · simp [Addr.add]
      · rw [Nat.add_assoc]
        refine hx _ _ ?_
        rw [List.getElem?_take] at hj
        split at hj
        · rw [List.getElem?_drop] at hj; exact hj
        · cases hj
/-- A slice's cell. -/
theorem Ints.at {W : World} {v : Value} {xs : List Int} (h : Ints W .i64 v xs) : ∃ a cap, v = .slice a xs.length cap ∧ xs.length ≤ cap ∧ cap ≤ maxLen ∧ ∀ k x, xs[k]? = some x → ∃ b off, a = some ⟨b, off, none⟩ ∧ b < W.heap.size ∧ W.cell? ⟨b, off + k, none⟩ = some (.int .i64 x) := by
  obtain ⟨a, cap, rfl, hc, hm, hx⟩ := h
  refine ⟨a, cap, rfl, hc, hm, fun k x hk => ?_⟩
  rcases hx with h | ⟨b, off, rfl, hb, hx⟩
  · rw [h] at hk; simp at hk
  · exact ⟨b, off, rfl, hb, hx k x hk⟩
end Go.Proofs.YtbekbllffphfeaaDoor.L
/-
  For the laws of lcs: Length: how much two rows have in common. Condition: at most 1,000,000 numbers each.
-/
namespace Go.Proofs.YtbekbllffphfeaaDoor.L
open Go.RowKit

theorem RowAt.ne_ {W : World} {b b' : Nat} {t t' : TypeId} {vs vs' : Array Value} (h : RowAt W b t vs) (h' : RowAt W b' t' vs') (hne : t ≠ t') : b ≠ b' := by
  rintro rfl
  unfold RowAt at h h'
  rw [h] at h'
  injection h' with h'
  injection h' with _ ht
  exact hne ht
/-- The slice of the whole row g of m + 1 numbers. -/
abbrev sl (g m : Nat) : Value := .slice (some ⟨g, 0, none⟩) (m + 1) (m + 1)
end Go.Proofs.YtbekbllffphfeaaDoor.L
/-
  For the laws of lcs: the table of lengths that Match reads. Condition: at most 2,000 numbers each.
-/
namespace Go.Proofs.YtbekbllffphfeaaDoor.L
open Go.RowKit

/-- How much what is left from i on and from k on have in common. -/
def E (a b : List Int) (i k : Nat) : Int := lc (a.drop i) (b.drop k)
theorem E_bd (a b : List Int) (i k : Nat) : 0 ≤ E a b i k ∧ E a b i k ≤ a.length := by
  unfold E
  have := lc_le_left (a.drop i) (b.drop k)
  have h2 : (a.drop i).length ≤ a.length := by simp
  omega
theorem drop_get {a : List Int} {i : Nat} {x : Int} (h : a[i]? = some x) : a.drop i = x :: a.drop (i + 1) := by
  obtain ⟨h1, h2⟩ := List.getElem?_eq_some_iff.1 h
  rw [List.drop_eq_getElem_cons h1, h2]
theorem E_same {a b : List Int} {i k : Nat} {x : Int} (h1 : a[i]? = some x) (h2 : b[k]? = some x) : E a b i k = E a b (i + 1) (k + 1) + 1 := by
  unfold E
  rw [drop_get h1, drop_get h2, lc_same]; rfl
theorem E_diff {a b : List Int} {i k : Nat} {x y : Int} (h1 : a[i]? = some x) (h2 : b[k]? = some y) (h : x ≠ y) : E a b i k = max (E a b (i + 1) k) (E a b i (k + 1)) := by
  unfold E
  rw [drop_get h1, drop_get h2, lc_diff h]; omega
theorem E_end_left {a b : List Int} {i k : Nat} (h : a.length ≤ i) : E a b i k = 0 := by
  unfold E; rw [List.drop_of_length_le h, lc_nil_left]; rfl
theorem E_end_right {a b : List Int} {i k : Nat} (h : b.length ≤ k) : E a b i k = 0 := by
  unfold E; rw [List.drop_of_length_le h, lc_nil_right]; rfl

/-- A row of m + 1 small numbers. -/
def rowU (m : Nat) (f : Nat → Int) : Array Value := ((List.range (m + 1)).map fun j => Value.int .u16 (f j)).toArray
theorem rowU_get {m j : Nat} (f : Nat → Int) (h : j ≤ m) : (rowU m f)[j]? = some (.int .u16 (f j)) := by
  simp [rowU, List.getElem?_range (show j < m + 1 by omega)]
theorem rowU_set {m j : Nat} (f : Nat → Int) (v : Int) : (rowU m f).setIfInBounds j (.int .u16 v) = rowU m (fun i => if i = j then v else f i) := by
  apply Array.ext
  · simp [rowU]
  · intro i h1 h2
    simp [rowU] at h1
    rw [Array.getElem_setIfInBounds (by simp [rowU]; omega)]
    simp [rowU]
    by_cases e : j = i
    · simp [e]
    · simp [e, Ne.symm e]
theorem rowU_congr {m : Nat} {f g : Nat → Int} (h : ∀ j, j ≤ m → f j = g j) : rowU m f = rowU m g := by
  unfold rowU
  congr 1
  apply List.map_congr_left
  intro j hj
  rw [h j (by have := List.mem_range.1 hj; omega)]
theorem rowU_made (m : Nat) : madeCells (Value.int .u16 0).cells ((((m : Nat) : Int) + 1).toNat * 1) = rowU m (fun _ => 0) := by
  rw [show ((((m : Nat) : Int) + 1).toNat * 1) = m + 1 by omega]
  apply Array.ext
  · simp [rowU, madeCells]
  · intro i h1 h2
    simp [rowU, madeCells, Value.cells, Nat.mod_one]
theorem made_rowU (m : Nat) (hm : m ≤ 1000000) (V : World) : (Instr.makeSlice 174 (.int .i64 ((m : Int) + 1)) (.int .i64 ((m : Int) + 1))).run Tryd.prog V = .ok (sl V.heap.size m) (V.alloc (.cells (rowU m fun _ => 0) 173)) := by
  obtain ⟨i0, hi, hz0, hz1, hz2⟩ : ∃ i0, Tryd.prog.info? 173 = some i0 ∧ i0.zero = some (.int .u16 0) ∧ i0.size = 1 ∧ i0.bytes = 2 := info_parts (by kernel_rfl)
  rw [run_make V 174 173 i0 _ Tryd.underlying174 hi hz0 .i64 .i64 _ _ (by omega) (by omega) (by rw [hz2]; omega) (by omega), hz1, rowU_made]
  simp [sl]

/-- Block T is the table: from the row i on its rows are filled. -/
def Tab (W : World) (T i : Nat) (a b : List Int) : Prop :=
  ∃ vs : Array Value, RowAt W T 176 vs ∧ vs.size = 2001 ∧ ∀ j, i ≤ j → j ≤ a.length → ∃ g, T < g ∧ vs[j]? = some (sl g b.length) ∧ RowAt W g 173 (rowU b.length (E a b j))
theorem u16_in (v : Int) (h0 : 0 ≤ v) (h1 : v < 65536) : IntKind.u16.wrap v = v := by
  simp [IntKind.wrap, IntKind.bits, IntKind.signed]
  omega
/-- While the row r is filled from its end on: its last k + 1 numbers are there. -/
def RowU (W : World) (g r k : Nat) (a b : List Int) : Prop :=
  ∃ f : Nat → Int, (∀ j, b.length - k ≤ j → j ≤ b.length → f j = E a b r j) ∧ RowAt W g 173 (rowU b.length f)
theorem RowU.step {W : World} {g r k q : Nat} {a b : List Int} {v : Int} (h : RowU W g r k a b) (hq : b.length - 1 - k = q) (hk : k < b.length) (hv : v = E a b r q) : RowU (W.setCell ⟨g, q, none⟩ (.int .u16 v)) g r (k + 1) a b := by
  obtain ⟨f, q2, q3⟩ := h
  refine ⟨_, ?_, by have := q3.set q (.int .u16 v); rw [rowU_set] at this; exact this⟩
  intro j h1 h2
  show (if j = q then v else f j) = _
  by_cases e : j = q
  · rw [if_pos e, e, hv]
  · rw [if_neg e, q2 j (by omega) h2]
def zeros69 : Array Value := Array.replicate 2001 (.slice none 0 0)
set_option maxRecDepth 100000 in
theorem zero176 (V : World) : (zeroValue 176).run Tryd.prog V = .ok (.agg zeros69) V := by
  have h : (Tryd.prog.info? 176).bind (fun i => i.zero) = some (.agg (Array.replicate 2001 (.slice none 0 0))) := by kernel_rfl
  obtain ⟨i, hi, hz⟩ : ∃ i, Tryd.prog.info? 176 = some i ∧ i.zero = some (.agg zeros69) := by
    cases hh : Tryd.prog.info? 176 with
    | none => rw [hh] at h; cases h
    | some i => rw [hh] at h; exact ⟨i, rfl, h⟩
  simp [zeroValue, typeInfo, hi, hz]
theorem zeros_size : zeros69.size = 2001 := by simp [zeros69]

/-- What is so behind fill. -/
def Filled (w : World) (A B : List Int) (e : Ending) (w' : World) : Prop :=
  ∃ T, e = .returned (.pointer (some ⟨T, 0, none⟩)) ∧ w.heap.size ≤ T ∧ Tab w' T 0 A B ∧ Below w.heap.size w w'

set_option maxRecDepth 100000 in
set_option maxHeartbeats 16000000 in
theorem fill_any (v1 v2 : Value) (A B : List Int) (w : World) (h1 : Ints w .i64 v1 A) (h2 : Ints w .i64 v2 B) (hl1 : A.length ≤ 2000) (hl2 : B.length ≤ 2000) :
    Calls Tryd.prog 96 #[v1, v2] w (Filled w A B) := by
  obtain ⟨aA, cA, rfl, -, hmxA, -⟩ := h1.at
  obtain ⟨aB, cB, rfl, -, hmxB, -⟩ := h2.at
  have HA := Lib.hid h1; clear h1
  have HB := Lib.hid h2; clear h2
  have Hbd := Lib.hid (E_bd A B)
  have Hmk := Lib.hid (made_rowU B.length (by omega))
  have hz := zero176
  have hzs := zeros_size
  generalize zeros69 = zs at hz hzs
  obtain ⟨T, hT⟩ : ∃ T, w.heap.size = T := ⟨_, rfl⟩
  have rT : RowAt (w.alloc (.cells zs 176)) T 176 zs := by rw [← hT]; exact RowAt.new _ _ _
  have bT : Below T w (w.alloc (.cells zs 176)) := by rw [← hT]; exact (Below.refl _ w).alloc (Nat.le_refl _) _
  have hsz : (w.alloc (.cells zs 176)).heap.size = T + 1 := by simp [hT]
  obtain ⟨W2, hW2⟩ : ∃ W2, Hid ((w.alloc (.cells zs 176)).alloc (.cells (rowU B.length fun _ => 0) 173) = W2) := ⟨_, rfl⟩
  have hmk : (Instr.makeSlice 174 (.int .i64 ((B.length : Int) + 1)) (.int .i64 ((B.length : Int) + 1))).run Tryd.prog (w.alloc (.cells zs 176)) = .ok (sl (T + 1) B.length) W2 := by rw [Hmk.out, hW2.out, hsz]
  have rT2 : RowAt W2 T 176 zs := by rw [← hW2.out]; exact rT.alloc _
  have g2 : RowAt W2 (T + 1) 173 (rowU B.length fun _ => 0) := by rw [← hW2.out, ← hsz]; exact RowAt.new _ _ _
  have bT2 : Below T w W2 := by rw [← hW2.out]; exact bT.alloc (by omega) _
  obtain ⟨z0, hz0⟩ : ∃ z0, zs[A.length]? = some z0 := ⟨_, Array.getElem?_eq_getElem (show A.length < zs.size by omega)⟩
  have c0 : W2.cell? ⟨T, A.length, none⟩ = some z0 := rT2.cell hz0
  clear hz0
  have f0 := rT2.frozen A.length
  have hTab : Tab (W2.setCell ⟨T, A.length, none⟩ (sl (T + 1) B.length)) T A.length A B := by
    refine ⟨_, rT2.set A.length _, by simp [hzs], fun j h1 h2 => ?_⟩
    obtain rfl : j = A.length := by omega
    refine ⟨T + 1, by omega, by rw [Array.getElem?_setIfInBounds, if_pos rfl, if_pos (by omega)], ?_⟩
    rw [rowU_congr (g := fun _ => 0) (fun j _ => E_end_left (Nat.le_refl _))]
    exact g2.other (by omega) _ _
  have bT3 : Below T w (W2.setCell ⟨T, A.length, none⟩ (sl (T + 1) B.length)) := bT2.setCell (p := ⟨T, A.length, none⟩) (Nat.le_refl _) _
  have Hx := Lib.hid hTab; clear hTab
  have Hy := Lib.hid bT3; clear bT3
  clear bT2 g2 rT2 bT rT hsz hzs
  go_enter Tryd.func96, Tryd.ntmps96
  go_wp2_with fail
  clear hmk c0 f0 hz hW2
  generalize W2.setCell ⟨T, A.length, none⟩ (sl (T + 1) B.length) = W3 at Hx Hy
  have hT0 : w.heap.size ≤ T := by omega
  have HA := Lib.hid (HA.out)
  go_loopw [19] (fun c wr => ∃ i : Nat, i ≤ A.length ∧ c = .int .i64 i ∧ Tab wr T (A.length - i) A B ∧ Below T w wr) (fun c _ => A.length - (intOf c).toNat)
  case atStart => exact ⟨0, Nat.zero_le _, rfl, Hx.out, Hy.out⟩
  case round =>
    clear Hx Hy
    obtain ⟨i, hi, rfl, hT2, hB⟩ := hrel
    by_cases hlt : i < A.length
    · obtain ⟨r, hr⟩ : ∃ r, A.length - 1 - i = r := ⟨_, rfl⟩
      have hr1 : A.length - i = r + 1 := by omega
      have hrA : r < A.length := by omega
      have i1 : IntKind.i64.wrap ((A.length : Int) - 1) = (A.length : Int) - 1 := IntWalk.i64_in _ (by omega)
      have i2 : IntKind.i64.wrap ((r : Int) + 1) = (r : Int) + 1 := IntWalk.i64_in _ (by omega)
      have i3 : (A.length : Int) - 1 - (i : Int) = (r : Int) := by omega
      rw [hr1] at hT2
      obtain ⟨vs, rT, hvs, hrows⟩ := hT2
      obtain ⟨gb, hTb, hvb, rb⟩ := hrows (r + 1) (Nat.le_refl _) (by omega)
      have Hrows := Lib.hid hrows; clear hrows
      have hlT := rT.lt
      have c1 : wr.cell? ⟨T, r + 1, none⟩ = some (sl gb B.length) := rT.cell hvb
      have hmk := Hmk.out
      clear hr hr1
      go_wp2_with fail
      go_region
      all_goals
        obtain ⟨W4, hW4⟩ : ∃ W4, Hid ((wr.alloc (.cells (rowU B.length fun _ => 0) 173)).drew = W4) := ⟨_, rfl⟩
        obtain ⟨gn, hgn⟩ : ∃ gn, wr.heap.size = gn := ⟨_, rfl⟩
        have b4 : Below gn wr W4 := by
          rw [← hW4.out, ← hgn]
          have := (Below.refl _ wr).alloc (Nat.le_refl _) (.cells (rowU B.length fun _ => 0) 173)
          exact ⟨this.os, this.tape, this.output, this.size, this.block⟩
        have r4 : RowU W4 gn r 0 A B := by
          refine ⟨fun _ => 0, fun j h1 h2 => (E_end_right (by omega)).symm, ?_⟩
          rw [← hW4.out, ← hgn]
          exact RowAt.new wr _ _
        have Hr4 := Lib.hid r4; clear r4
        have Hb4 := Lib.hid b4; clear b4
        rw [hW4.out, hgn]
        clear hW4 hmk c1 hvb i1 i2
        obtain ⟨x, hx⟩ : ∃ x, Hid (A[r]? = some x) := ⟨A[r], Lib.hid (List.getElem?_eq_getElem hrA)⟩
        obtain ⟨aA', cA', eA, -, -, hatA⟩ := HA.out.at
        obtain ⟨bA, oA, rfl, hbA, cellA⟩ := hatA r x hx.out
        cases eA
        have CA : Hid (wr.cell? ⟨bA, oA + r, none⟩ = some (.int .i64 x)) := Lib.hid ((hB.cell (p := ⟨bA, oA + r, none⟩) (by show bA < T; omega)).trans cellA)
        have hbA' : bA < gn := by omega
        clear hatA cellA
        have HrT := Lib.hid rT; clear rT
        have Hrb := Lib.hid rb; clear rb
        have HB' := Lib.hid hB; clear hB
        have hgb : gb < gn := by rw [← hgn]; exact Hrb.out.lt
        obtain ⟨Wo, rfl⟩ : ∃ Wo : World, Wo = wr := ⟨_, rfl⟩
        have Hgn := Lib.hid hgn; clear hgn
        go_wp2
        go_loopw [37] (fun c wi => ∃ k : Nat, k ≤ B.length ∧ c = .int .i64 k ∧ RowU wi gn r k A B ∧ Below gn Wo wi) (fun c _ => B.length - (intOf c).toNat)
        case atStart => exact ⟨0, Nat.zero_le _, rfl, Hr4.out, Hb4.out⟩
        case round =>
          clear Hr4 Hb4
          obtain ⟨k, hk, rfl, hRU, hbi⟩ := hrel
          by_cases hltk : k < B.length
          · obtain ⟨q, hq⟩ : ∃ q, B.length - 1 - k = q := ⟨_, rfl⟩
            have hqB : q < B.length := by omega
            obtain ⟨y, hy⟩ : ∃ y, Hid (B[q]? = some y) := ⟨B[q], Lib.hid (List.getElem?_eq_getElem hqB)⟩
            obtain ⟨aB', cB', eB, -, -, hatB⟩ := HB.out.at
            obtain ⟨bB, oB, rfl, hbB, cellB⟩ := hatB q y hy.out
            cases eB
            have hHR := Lib.hid hRU
            obtain ⟨f, q2, q3⟩ := hRU
            have hbB' : bB < T := by omega
            have hTg : T < gn := by rw [← Hgn.out]; exact hlT
            have ca : wr.cell? ⟨bA, oA + r, none⟩ = some (.int .i64 x) := (hbi.cell (p := ⟨bA, oA + r, none⟩) hbA').trans CA.out
            have cb : wr.cell? ⟨bB, oB + q, none⟩ = some (.int .i64 y) := (hbi.cell (p := ⟨bB, oB + q, none⟩) (by show bB < gn; omega)).trans ((HB'.out.cell (p := ⟨bB, oB + q, none⟩) hbB').trans cellB)
            have rb2 : RowAt wr gb 173 (rowU B.length (E A B (r + 1))) := Hrb.out.same (hbi.block gb hgb)
            have k0 : wr.cell? ⟨gb, q, none⟩ = some (.int .u16 (E A B (r + 1) q)) := rb2.cell (rowU_get _ (by omega))
            have k1 : wr.cell? ⟨gb, q + 1, none⟩ = some (.int .u16 (E A B (r + 1) (q + 1))) := rb2.cell (rowU_get _ (by omega))
            have k2 : wr.cell? ⟨gn, q + 1, none⟩ = some (.int .u16 (E A B r (q + 1))) := by rw [← q2 (q + 1) (by omega) (by omega)]; exact q3.cell (rowU_get _ (by omega))
            have k3 : wr.cell? ⟨gn, q, none⟩ = some (.int .u16 (f q)) := q3.cell (rowU_get _ (by omega))
            have f3 := q3.frozen q
            have d0 := Hbd.out (r + 1) (q + 1)
            have i1 : IntKind.i64.wrap ((B.length : Int) - 1) = (B.length : Int) - 1 := IntWalk.i64_in _ (by omega)
            have i2 : IntKind.i64.wrap ((q : Int) + 1) = (q : Int) + 1 := IntWalk.i64_in _ (by omega)
            have i3' : (B.length : Int) - 1 - (k : Int) = (q : Int) := by omega
            have i4 : IntKind.u16.wrap (E A B (r + 1) (q + 1) + 1) = E A B (r + 1) (q + 1) + 1 := u16_in _ (by omega) (by omega)
            have Hbi := Lib.hid hbi
            clear hatB cellB q2 q3 rb2 hbi
            by_cases hxy : x = y
            · have hb : (x == y) = true := by simpa using hxy
              have Hxy := Lib.hid hxy; clear hxy
              have Hq := Lib.hid hq; clear hq
              go_wp2_with fail
              go_quiet (fail)
              go_wp2_with fail
              refine ⟨⟨k + 1, by omega, by go_num, RowU.step (W := wr.drewN nq) hHR.out Hq.out hltk (E_same hx.out (by rw [Hxy.out]; exact hy.out)).symm, (below_draws Hbi.out nq).setCell (p := ⟨gn, q, none⟩) (Nat.le_refl _) _⟩, by simp [intOf]; omega⟩
            · have hb : (x == y) = false := by simpa using hxy
              have Hxy := Lib.hid hxy; clear hxy
              have Hq := Lib.hid hq; clear hq
              go_wp2_with fail
              go_quiet (fail)
              go_wp2_with fail
              go_region
              all_goals
                go_wp2_with fail
                refine ⟨⟨k + 1, by omega, by go_num, RowU.step (W := wr.drewN (nq + 1)) hHR.out Hq.out hltk (by rw [E_diff hx.out hy.out Hxy.out]; split <;> omega), (below_draws Hbi.out (nq + 1)).setCell (p := ⟨gn, q, none⟩) (Nat.le_refl _) _⟩, by simp [intOf]; omega⟩
          · obtain rfl : k = B.length := by omega
            obtain ⟨f, q2, q3⟩ := hRU
            rw [rowU_congr (g := E A B r) (fun j hj => q2 j (by omega) hj)] at q3
            have hTg : T < gn := by rw [← Hgn.out]; exact hlT
            have hrT := HrT.out.later (hbi.mono (by rw [Hgn.out]; exact Nat.le_refl _))
            obtain ⟨z0, hz0⟩ : ∃ z0, vs[r]? = some z0 := ⟨_, Array.getElem?_eq_getElem (show r < vs.size by omega)⟩
            have c0 : wr.cell? ⟨T, r, none⟩ = some z0 := hrT.cell hz0
            have f0 := hrT.frozen r
            have hnew : Tab (wr.setCell ⟨T, r, none⟩ (sl gn B.length)) T r A B := by
              refine ⟨_, hrT.set r _, by simp [hvs], fun j h1 h2 => ?_⟩
              by_cases e : j = r
              · subst e
                exact ⟨gn, hTg, by rw [Array.getElem?_setIfInBounds, if_pos rfl, if_pos (by omega)], q3.other (by omega) _ _⟩
              · obtain ⟨g, g1, g2, g3⟩ := Hrows.out j (by omega) h2
                refine ⟨g, g1, by rw [Array.getElem?_setIfInBounds, if_neg (by omega)]; exact g2, ?_⟩
                exact (g3.later (hbi.mono (by rw [Hgn.out]; exact Nat.le_refl _))).other (by omega) _ _
            have Hnew := Lib.hid hnew; clear hnew
            have hbb : Below T w wr := HB'.out.trans (hbi.mono (by omega))
            have hri : A.length - (i + 1) = r := by omega
            have Hri := Lib.hid hri; clear hri
            clear hz0 hrT q2 q3 hbi hltk hk hvs i3
            go_wp2_with fail
            refine ⟨⟨i + 1, by omega, by go_num, by rw [Hri.out]; exact Hnew.out, hbb.setCell (p := ⟨T, r, none⟩) (Nat.le_refl _) _⟩, by simp [intOf]; omega⟩
    · obtain rfl : i = A.length := by omega
      rw [Nat.sub_self] at hT2
      have H2 := Lib.hid hT2; clear hT2
      go_wp2
      go_ret
      exact ⟨T, rfl, hT0, H2.out, hB.mono hT0⟩
end Go.Proofs.YtbekbllffphfeaaDoor.L
/-
  For the laws of lcs: Match. Condition: at most 1,000,000 numbers each.
-/
namespace Go.Proofs.YtbekbllffphfeaaDoor.L
open Go.RowKit

theorem gm_take : ∀ (p a b : List Int) (k : Int), gm (p ++ a) (p ++ b) k = (List.range p.length).map (fun j : Nat => k + (j : Int)) ++ gm a b (k + p.length)
  | [], a, b, k => by simp
  | x :: p, a, b, k => by
    show gm (x :: (p ++ a)) (x :: (p ++ b)) k = _
    rw [gm_same, gm_take p a b (k + 1), List.length_cons, List.range_succ_eq_map, List.map_cons, List.map_map]
    have e1 : k + 1 + (p.length : Int) = k + ((p.length + 1 : Nat) : Int) := by push_cast; omega
    have e2 : (fun j : Nat => k + 1 + (j : Int)) = (fun j : Nat => k + (j : Int)) ∘ Nat.succ := by
      funext j
      simp only [Function.comp_apply, Nat.succ_eq_add_one]
      push_cast
      omega
    rw [e1, e2]
    simp
/-- The match begins with the common beginning. -/
theorem gm_pfx (a b : List Int) : gm a b 0 = (List.range (pfx a b)).map (fun j : Nat => (j : Int)) ++ gm (a.drop (pfx a b)) (b.drop (pfx a b)) (pfx a b : Nat) := by
  have hp := pfx_le a b
  have h := gm_take (a.take (pfx a b)) (a.drop (pfx a b)) (b.drop (pfx a b)) 0
  rw [List.take_append_drop] at h
  rw [pfx_take a b, List.take_append_drop, List.length_take, Nat.min_eq_left hp.2] at h
  rw [h]
  simp

/-- What is told where a table would be too large. -/
def longAt (n m p s : Nat) (j : Nat) : Int := if j < p then (j : Int) else if n - s ≤ j then (m : Int) - (n - j) else -1
/-- What Match tells. -/
def matchOf (a b : List Int) : List Int :=
  if 2000 < a.length ∨ 2000 < b.length then (List.range a.length).map (longAt a.length b.length (pfx a b) (sfx a b)) else gm a b 0
theorem matchOf_length (a b : List Int) : (matchOf a b).length = a.length := by
  unfold matchOf
  split
  · simp
  · exact gm_length a b 0

/-- A row of n numbers. -/
def rowN (n : Nat) (f : Nat → Int) : Array Value := ((List.range n).map fun j => Value.int .i64 (f j)).toArray
theorem rowN_get {n j : Nat} (f : Nat → Int) (h : j < n) : (rowN n f)[j]? = some (.int .i64 (f j)) := by
  simp [rowN, List.getElem?_range h]
theorem rowN_set {n j : Nat} (f : Nat → Int) (v : Int) : (rowN n f).setIfInBounds j (.int .i64 v) = rowN n (fun i => if i = j then v else f i) := by
  apply Array.ext
  · simp [rowN]
  · intro i h1 h2
    simp [rowN] at h1
    rw [Array.getElem_setIfInBounds (by simp [rowN]; omega)]
    simp [rowN]
    by_cases e : j = i
    · simp [e]
    · simp [e, Ne.symm e]
theorem rowN_congr {n : Nat} {f g : Nat → Int} (h : ∀ j, j < n → f j = g j) : rowN n f = rowN n g := by
  unfold rowN
  congr 1
  apply List.map_congr_left
  intro j hj
  rw [h j (List.mem_range.1 hj)]
theorem rowN_made (n : Nat) : madeCells (Value.int .i64 0).cells (((n : Nat) : Int).toNat * 1) = rowN n (fun _ => 0) := by
  rw [show (((n : Nat) : Int).toNat * 1) = n by omega]
  apply Array.ext
  · simp [rowN, madeCells]
  · intro i h1 h2
    simp [rowN, madeCells, Value.cells, Nat.mod_one]
theorem made_rowN (n : Nat) (hn : n ≤ 1000000) (V : World) : (Instr.makeSlice 138 (.int .i64 (n : Int)) (.int .i64 (n : Int))).run Tryd.prog V = .ok (.slice (some ⟨V.heap.size, 0, none⟩) n n) (V.alloc (.cells (rowN n fun _ => 0) 3)) := by
  obtain ⟨i0, hi, hz0, hz1, hz2⟩ : ∃ i0, Tryd.prog.info? 3 = some i0 ∧ i0.zero = some (.int .i64 0) ∧ i0.size = 1 ∧ i0.bytes = 8 := info_parts (by kernel_rfl)
  rw [run_make V 138 3 i0 _ Tryd.underlying138 hi hz0 .i64 .i64 _ _ (by omega) (by omega) (by rw [hz2]; omega) (by omega), hz1, rowN_made]
  simp
theorem rowN_list (l : List Int) (f : Nat → Int) (h : ∀ j x, l[j]? = some x → f j = x) : rowN l.length f = (l.map (Value.int .i64)).toArray := by
  apply Array.ext
  · simp [rowN]
  · intro i h1 h2
    simp [rowN] at h1 ⊢
    exact h i _ (List.getElem?_eq_getElem h1)

/-- What is so behind a call that gives a new row of numbers. -/
def Gives (w : World) (l : List Int) (e : Ending) (w' : World) : Prop :=
  ∃ g, e = .returned (.slice (some ⟨g, 0, none⟩) l.length l.length) ∧ w.heap.size ≤ g ∧ RowAt w' g 3 (l.map (Value.int .i64)).toArray ∧ Below w.heap.size w w'

/-- 'v[lo:]' of a slice that reads as numbers. -/
theorem Ints.cutFrom {W : World} {v : Value} {xs : List Int} (h : Ints W .i64 v xs) (lo : Nat) (h1 : lo ≤ xs.length) :
    ∃ v', (∀ V : World, (Instr.slice 138 v (some (.int .i64 (lo : Int))) none none).run Tryd.prog V = .ok v' V) ∧ Ints W .i64 v' (xs.drop lo) := by
  obtain ⟨a, cap, rfl, hc, hm, hx⟩ := h
  have hrun : ∀ V : World, (Instr.slice 138 (.slice a xs.length cap) (some (.int .i64 (lo : Int))) none none).run Tryd.prog V = .ok (.slice (if cap = lo then a else a.map (·.add (lo * 1))) (xs.length - lo) (cap - lo)) V := by
    intro V
    rw [run_slice_l V 138 _ xs.length _ slice22 .i64 _ (by omega) (by omega), elem22, size3]
    simp [Result.andThen, sliced]
  refine ⟨_, hrun, ?_⟩
  refine ⟨_, _, by rw [List.length_drop], by simp; omega, by omega, ?_⟩
  by_cases he : xs.length - lo = 0
  · left; exact List.drop_of_length_le (by omega)
  · right
    rcases hx with rfl | ⟨b, off, rfl, hb, hx⟩
    · simp at he
    · rw [if_neg (by omega)]
      refine ⟨b, off + lo, ?_, hb, fun j x hj => ?_⟩
      · simp [Addr.add]
      · rw [Nat.add_assoc]
        refine hx _ _ ?_
        rw [List.getElem?_drop] at hj; exact hj

/-- The first loop of Match, behind i rounds. -/
def Init (W : World) (O n p i : Nat) : Prop := ∃ f : Nat → Int, (∀ j, j < i → f j = if j < p then (j : Int) else -1) ∧ RowAt W O 3 (rowN n f)

theorem Init.step {W : World} {O n p i : Nat} {v : Int} (h : Init W O n p i) (hv : v = if i < p then (i : Int) else -1) : Init (W.setCell ⟨O, i, none⟩ (.int .i64 v)) O n p (i + 1) := by
  obtain ⟨f, q2, q3⟩ := h
  refine ⟨_, ?_, by have := q3.set i (.int .i64 v); rw [rowN_set] at this; exact this⟩
  intro j h1
  show (if j = i then v else f j) = _
  by_cases e : j = i
  · rw [if_pos e, e, hv]
  · rw [if_neg e, q2 j (by omega)]
theorem Init.put {W : World} {O n p i : Nat} (h : Init W O n p i) (v : Int) : Init (W.setCell ⟨O, i, none⟩ (.int .i64 v)) O n p i := by
  obtain ⟨f, q2, q3⟩ := h
  refine ⟨_, ?_, by have := q3.set i (.int .i64 v); rw [rowN_set] at this; exact this⟩
  intro j h1
  show (if j = i then v else f j) = _
  rw [if_neg (by omega), q2 j h1]
theorem Init.done {W : World} {O n p : Nat} (h : Init W O n p n) : RowAt W O 3 (rowN n fun j => if j < p then (j : Int) else -1) := by
  obtain ⟨f, q2, q3⟩ := h
  rw [← rowN_congr q2]
  exact q3
/-- The second loop of Match, behind i rounds. -/
def tailAt (n m p i : Nat) (j : Nat) : Int := if n - i ≤ j then (m : Int) - (n - j) else if j < p then (j : Int) else -1
theorem tail_zero (n m p : Nat) : rowN n (fun j => if j < p then (j : Int) else -1) = rowN n (tailAt n m p 0) :=
  rowN_congr fun j h => by unfold tailAt; rw [if_neg (show ¬ n - 0 ≤ j by omega)]
theorem tail_step {n m p i q : Nat} (hq : n - 1 - i = q) (hi : i < n) : (rowN n (tailAt n m p i)).setIfInBounds q (.int .i64 ((m : Int) - 1 - (i : Int))) = rowN n (tailAt n m p (i + 1)) := by
  rw [rowN_set]
  refine rowN_congr fun j h => ?_
  unfold tailAt
  by_cases e : j = q
  · rw [if_pos e, if_pos (by omega)]
    omega
  · rw [if_neg e]
    by_cases e2 : n - i ≤ j
    · rw [if_pos e2, if_pos (by omega)]
    · rw [if_neg e2, if_neg (show ¬ n - (i + 1) ≤ j by omega)]
theorem tail_done {n m p s : Nat} (h : s + p ≤ n) : rowN n (tailAt n m p s) = (((List.range n).map (longAt n m p s)).map (Value.int .i64)).toArray := by
  unfold rowN
  rw [List.map_map]
  congr 1
  apply List.map_congr_left
  intro j hj
  have := List.mem_range.1 hj
  simp only [Function.comp_apply]
  congr 1
  unfold tailAt longAt
  by_cases e : j < p
  · rw [if_neg (show ¬ n - s ≤ j by omega)]
    simp [e]
  · by_cases e2 : n - s ≤ j
    · rw [if_pos e2, if_neg e, if_pos e2]
    · rw [if_neg e2, if_neg e, if_neg e, if_neg e2]

theorem Tab.other {W : World} {T i O : Nat} {a b : List Int} (h : Tab W T i a b) (hO : O < T) (j : Nat) (v : Value) : Tab (W.setCell ⟨O, j, none⟩ v) T i a b := by
  obtain ⟨vs, h1, h2, h3⟩ := h
  refine ⟨vs, h1.other (by omega) _ _, h2, fun j h4 h5 => ?_⟩
  obtain ⟨g, g1, g2, g3⟩ := h3 j h4 h5
  exact ⟨g, g1, g2, g3.other (by omega) _ _⟩
/-- The third loop of Match: where it stands, and what is told so far. -/
def Walk (W : World) (O T i k p : Nat) (A B : List Int) : Prop :=
  p ≤ i ∧ i ≤ A.length ∧ p ≤ k ∧ k ≤ B.length ∧ O < T ∧ Tab W T 0 (A.drop p) (B.drop p) ∧
    ∃ pre : List Int, pre.length = i ∧ gm A B 0 = pre ++ gm (A.drop i) (B.drop k) k ∧ RowAt W O 3 ((pre ++ List.replicate (A.length - i) (-1)).map (Value.int .i64)).toArray
theorem row_put (pre : List Int) (n i : Nat) (v : Int) (h1 : pre.length = i) (h2 : i < n) :
    (((pre ++ List.replicate (n - i) (-1)).map (Value.int .i64)).toArray).setIfInBounds i (.int .i64 v) = (((pre ++ [v]) ++ List.replicate (n - (i + 1)) (-1)).map (Value.int .i64)).toArray := by
  obtain ⟨d, hd⟩ : ∃ d, n - i = d + 1 := ⟨n - i - 1, by omega⟩
  rw [hd, show n - (i + 1) = d by omega, List.replicate_succ]
  apply Array.toList_inj.1
  simp [h1]
theorem Walk.same {W : World} {O T i k p : Nat} {A B : List Int} {x : Int} (h : Walk W O T i k p A B) (hx : A[i]? = some x) (hy : B[k]? = some x) : Walk (W.setCell ⟨O, i, none⟩ (.int .i64 (k : Int))) O T (i + 1) (k + 1) p A B := by
  obtain ⟨a1, a2, a3, a4, a5, hT, pre, b1, b2, b3⟩ := h
  have l1 := (List.getElem?_eq_some_iff.1 hx).1
  have l2 := (List.getElem?_eq_some_iff.1 hy).1
  refine ⟨by omega, by omega, by omega, by omega, a5, hT.other a5 _ _, pre ++ [(k : Int)], by simp [b1], ?_, ?_⟩
  · rw [b2, drop_get hx, drop_get hy, gm_same]
    simp
  · rw [← row_put pre A.length i k b1 l1]
    exact b3.set i _
theorem Walk.skip {W : World} {O T i k p : Nat} {A B : List Int} {x y : Int} (h : Walk W O T i k p A B) (hx : A[i]? = some x) (hy : B[k]? = some y) (hne : x ≠ y) (hl : lc (A.drop i) (B.drop (k + 1)) ≤ lc (A.drop (i + 1)) (B.drop k)) : Walk W O T (i + 1) k p A B := by
  obtain ⟨a1, a2, a3, a4, a5, hT, pre, b1, b2, b3⟩ := h
  have l1 := (List.getElem?_eq_some_iff.1 hx).1
  refine ⟨by omega, by omega, a3, a4, a5, hT, pre ++ [(-1 : Int)], by simp [b1], ?_, ?_⟩
  · rw [drop_get hx, drop_get hy] at b2
    rw [drop_get hx, drop_get hy] at hl
    rw [b2, gm_skip hne _ _ _ hl, drop_get hy]
    simp
  · obtain ⟨d, hd⟩ : ∃ d, A.length - i = d + 1 := ⟨A.length - i - 1, by omega⟩
    rw [hd, List.replicate_succ] at b3
    rw [show A.length - (i + 1) = d by omega, List.append_assoc]
    exact b3
theorem Walk.next {W : World} {O T i k p : Nat} {A B : List Int} {x y : Int} (h : Walk W O T i k p A B) (hx : A[i]? = some x) (hy : B[k]? = some y) (hne : x ≠ y) (hl : ¬ lc (A.drop i) (B.drop (k + 1)) ≤ lc (A.drop (i + 1)) (B.drop k)) : Walk W O T i (k + 1) p A B := by
  obtain ⟨a1, a2, a3, a4, a5, hT, pre, b1, b2, b3⟩ := h
  have l2 := (List.getElem?_eq_some_iff.1 hy).1
  refine ⟨a1, a2, by omega, by omega, a5, hT, pre, b1, ?_, b3⟩
  rw [drop_get hx, drop_get hy] at b2
  rw [drop_get hx, drop_get hy] at hl
  rw [b2, gm_next hne _ _ _ hl, drop_get hx]
  push_cast
  rfl
theorem Walk.done {W : World} {O T i k p : Nat} {A B : List Int} (h : Walk W O T i k p A B) (he : ¬ (i < A.length ∧ k < B.length)) : RowAt W O 3 ((gm A B 0).map (Value.int .i64)).toArray := by
  obtain ⟨a1, a2, a3, a4, a5, hT, pre, b1, b2, b3⟩ := h
  rw [b2]
  by_cases hi : i < A.length
  · rw [List.drop_of_length_le (show B.length ≤ k by omega), gm_nil_right, List.length_drop]
    exact b3
  · rw [List.drop_of_length_le (show A.length ≤ i by omega), gm]
    rw [show A.length - i = 0 by omega] at b3
    exact b3
theorem Walk.start {W : World} {O T n p : Nat} {A B : List Int} (hn : A.length = n) (h1 : p = pfx A B) (hO : O < T) (hT : Tab W T 0 (A.drop p) (B.drop p)) (hr : RowAt W O 3 (rowN n fun j => if j < p then (j : Int) else -1)) : Walk W O T p p p A B := by
  subst h1 hn
  have hp := pfx_le A B
  refine ⟨Nat.le_refl _, hp.1, Nat.le_refl _, hp.2, hO, hT, (List.range (pfx A B)).map (fun j : Nat => (j : Int)), by simp, gm_pfx A B, ?_⟩
  have he : (((List.range (pfx A B)).map (fun j : Nat => (j : Int)) ++ List.replicate (A.length - pfx A B) (-1)).map (Value.int .i64)).toArray = rowN A.length (fun j => if j < pfx A B then (j : Int) else -1) := ?_
  · rw [he]
    exact hr
  · apply Array.ext
    · simp [rowN]; omega
    · intro j h1 h2
      simp [rowN] at h2 ⊢
      rw [List.getElem_append]
      by_cases e : j < pfx A B
      · simp [e]
      · simp [e]
/-- What the walk reads of the table. -/
theorem Walk.reads {W : World} {O T i k p : Nat} {A B : List Int} (h : Walk W O T i k p A B) (hi : i < A.length) (hk : k < B.length) :
    ∃ g0 g1, W.cell? ⟨T, i + 1 - p, none⟩ = some (sl g1 (B.length - p)) ∧ W.cell? ⟨g1, k - p, none⟩ = some (.int .u16 (lc (A.drop (i + 1)) (B.drop k))) ∧ W.cell? ⟨T, i - p, none⟩ = some (sl g0 (B.length - p)) ∧ W.cell? ⟨g0, k + 1 - p, none⟩ = some (.int .u16 (lc (A.drop i) (B.drop (k + 1)))) := by
  obtain ⟨a1, a2, a3, a4, a5, ⟨vs, t1, t2, t3⟩, _⟩ := h
  obtain ⟨g1, _, e1, r1⟩ := t3 (i + 1 - p) (by omega) (by simp; omega)
  obtain ⟨g0, _, e0, r0⟩ := t3 (i - p) (by omega) (by simp; omega)
  rw [List.length_drop] at e1 e0 r1 r0
  refine ⟨g0, g1, t1.cell e1, ?_, t1.cell e0, ?_⟩
  · rw [r1.cell (rowU_get _ (by omega : k - p ≤ B.length - p))]
    unfold E
    rw [List.drop_drop, List.drop_drop, show p + (i + 1 - p) = i + 1 by omega, show p + (k - p) = k by omega]
  · rw [r0.cell (rowU_get _ (by omega : k + 1 - p ≤ B.length - p))]
    unfold E
    rw [List.drop_drop, List.drop_drop, show p + (i - p) = i by omega, show p + (k + 1 - p) = k + 1 by omega]

set_option maxRecDepth 100000 in
set_option maxHeartbeats 16000000 in
theorem Match_any (v1 v2 : Value) (A B : List Int) (w : World) (h1 : Ints w .i64 v1 A) (h2 : Ints w .i64 v2 B) (hl1 : A.length ≤ 1000000) (hl2 : B.length ≤ 1000000) :
    Calls Tryd.prog 89 #[v1, v2] w (Gives w (matchOf A B)) := by
  obtain ⟨aA, cA, rfl, -, hmxA, -⟩ := h1.at
  obtain ⟨aB, cB, rfl, -, hmxB, -⟩ := h2.at
  have HB := Lib.hid h2; clear h2
  have hpl := pfx_le A B
  have hsl := sfx_le A B
  obtain ⟨p, hp⟩ : ∃ p, Hid (pfx A B = p) := ⟨_, Lib.hid rfl⟩
  obtain ⟨s, hs⟩ : ∃ s, Hid (sfx A B = s) := ⟨_, Lib.hid rfl⟩
  rw [hp.out] at hpl hsl
  rw [hs.out] at hsl
  obtain ⟨n, hn⟩ : ∃ n, A.length = n := ⟨_, rfl⟩
  rw [hn] at h1 hpl hsl hl1 ⊢
  have HA := Lib.hid h1; clear h1
  have Hn := Lib.hid hn; clear hn
  obtain ⟨O, hO⟩ : ∃ O, w.heap.size = O := ⟨_, rfl⟩
  obtain ⟨W2, hW2⟩ : ∃ W2, Hid (w.alloc (.cells (rowN n fun _ => 0) 3) = W2) := ⟨_, Lib.hid rfl⟩
  have hmk : (Instr.makeSlice 138 (.int .i64 (n : Int)) (.int .i64 (n : Int))).run Tryd.prog w = .ok (.slice (some ⟨O, 0, none⟩) n n) W2 := by rw [made_rowN n hl1, hW2.out, hO]
  have rO : RowAt W2 O 3 (rowN n fun _ => 0) := by rw [← hW2.out, ← hO]; exact RowAt.new _ _ _
  have b2 : Below O w W2 := by rw [← hW2.out, ← hO]; exact (Below.refl _ w).alloc (Nat.le_refl _) _
  clear hW2
  have HA2 := Lib.hid (HA.out.below (W' := W2) (by rw [hO]; exact b2))
  have HB2 := Lib.hid (HB.out.below (W' := W2) (by rw [hO]; exact b2))
  go_enter Tryd.func89, Tryd.ntmps89
  go_wp2_with fail
  refine (ends_any _ _ A B _ HA2.out HB2.out (by rw [Hn.out]; exact hl1) hl2).mono ?_
  rw [hp.out, hs.out]
  rintro e w1 ⟨rfl, b1⟩
  have rO1 := rO.later b1
  have bO1 : Below O w w1 := b2.trans (b1.mono (by have := rO.lt; omega))
  clear hmk rO b2 b1 HA2 HB2
  go_wp2_with fail
  go_loopw [24] (fun c wr => ∃ i : Nat, i ≤ n ∧ c = .int .i64 i ∧ Init wr O n p i ∧ Below O w wr) (fun c _ => n - (intOf c).toNat)
  case atStart => exact ⟨0, Nat.zero_le _, rfl, ⟨_, fun j h => by omega, rO1⟩, bO1⟩
  case round =>
    clear rO1 bO1
    obtain ⟨i, hi, rfl, ⟨f, hf, rO⟩, hB⟩ := hrel
    by_cases hlt : i < n
    · have c0 : wr.cell? ⟨O, i, none⟩ = some (.int .i64 (f i)) := rO.cell (rowN_get _ hlt)
      have f0 := rO.frozen i
      have hlO := rO.lt
      have Hf := Lib.hid hf; clear hf
      have HI : Hid (Init wr O n p i) := Lib.hid ⟨f, Hf.out, rO⟩
      clear rO
      by_cases hip : i < p
      · have hd : decide (i < p) = true := by simpa using hip
        go_wp2_with fail
        exact ⟨⟨i + 1, by omega, by go_num, (HI.out.put (-1)).step (by rw [if_pos hip]), (hB.setCell (p := ⟨O, i, none⟩) (Nat.le_refl _) _).setCell (p := ⟨O, i, none⟩) (Nat.le_refl _) _⟩, by simp [intOf]; omega⟩
      · have hd : decide (i < p) = false := by simpa using hip
        go_wp2_with fail
        exact ⟨⟨i + 1, by omega, by go_num, HI.out.step (by rw [if_neg hip]), hB.setCell (p := ⟨O, i, none⟩) (Nat.le_refl _) _⟩, by simp [intOf]; omega⟩
    · obtain rfl : i = n := by omega
      have rI := Init.done ⟨f, hf, rO⟩
      clear hf rO hlt hi
      go_wp2_with fail
      refine (tooLong_any _ _ _ _ _ _ _).mono ?_
      by_cases hl : 2000 < i ∨ 2000 < B.length
      · have hd : (decide (2000 < i) || decide (2000 < B.length)) = true := by simpa using hl
        rw [hd]
        rintro e w' ⟨rfl, rfl⟩
        have hm : matchOf A B = (List.range i).map (longAt i B.length p s) := by
          unfold matchOf
          rw [if_pos (by rw [Hn.out]; exact hl), Hn.out, hp.out, hs.out]
        have hml := matchOf_length A B
        rw [Hn.out] at hml
        have Hm := Lib.hid hm; clear hm
        have Hml := Lib.hid hml; clear hml
        rw [tail_zero i B.length p] at rI
        clear hl hd
        go_wp2_with fail
        go_loopw [42] (fun c wr => ∃ k : Nat, k ≤ s ∧ c = .int .i64 k ∧ RowAt wr O 3 (rowN i (tailAt i B.length p k)) ∧ Below O w wr) (fun c _ => s - (intOf c).toNat)
        case atStart => exact ⟨0, Nat.zero_le _, rfl, rI, hB⟩
        case round =>
          clear rI hB
          obtain ⟨k, hk, rfl, rO, hB⟩ := hrel
          by_cases hlt : k < s
          · obtain ⟨q, hq⟩ : ∃ q, i - 1 - k = q := ⟨_, rfl⟩
            have Hs := tail_step (m := B.length) (p := p) hq (by omega)
            have hqi : q < i := by omega
            have c0 : wr.cell? ⟨O, q, none⟩ = some (.int .i64 _) := rO.cell (rowN_get _ hqi)
            have f0 := rO.frozen q
            have hlO := rO.lt
            have i1 : (i : Int) - 1 - (k : Int) = (q : Int) := by omega
            have Hrow : Hid (RowAt (wr.setCell ⟨O, q, none⟩ (.int .i64 ((B.length : Int) - 1 - (k : Int)))) O 3 (rowN i (tailAt i B.length p (k + 1)))) := by rw [← Hs]; exact Lib.hid (rO.set q _)
            clear Hs rO hq
            go_wp2_with fail
            exact ⟨⟨k + 1, by omega, by go_num, Hrow.out, hB.setCell (p := ⟨O, q, none⟩) (Nat.le_refl _) _⟩, by simp [intOf]; omega⟩
          · obtain rfl : k = s := by omega
            rw [tail_done (by omega), ← Hm.out] at rO
            clear hlt hk
            go_wp2_with fail
            go_ret
            exact ⟨O, by rw [Hml.out]; rfl, by omega, rO, hB.mono (by omega)⟩
      · have hd : (decide (2000 < i) || decide (2000 < B.length)) = false := by simp; omega
        rw [hd]
        rintro e w' ⟨rfl, rfl⟩
        have hm : matchOf A B = gm A B 0 := by
          unfold matchOf
          rw [if_neg (by rw [Hn.out]; exact hl)]
        have hml := matchOf_length A B
        rw [Hn.out] at hml
        have Hm := Lib.hid hm
        obtain ⟨vA, ra, hA'⟩ := HA.out.cutFrom p (by rw [Hn.out]; omega)
        obtain ⟨vB, rb, hB'⟩ := HB.out.cutFrom p (by omega)
        have HA2 := Lib.hid (hA'.below (W' := wr) (by rw [hO]; exact hB))
        have HB2 := Lib.hid (hB'.below (W' := wr) (by rw [hO]; exact hB))
        have Hml := Lib.hid hml; clear hml
        clear hm hA' hB'
        go_wp2_with fail
        go_still_tail 6, (by kernel_rfl)
        change wpList _ _ _ _ _ wr.drew
        obtain ⟨V, hV⟩ : ∃ V, Hid (wr.drew = V) := ⟨_, Lib.hid rfl⟩
        have HA3 : Hid (Ints V .i64 vA (A.drop p)) := by rw [← hV.out]; exact HA2
        have HB3 : Hid (Ints V .i64 vB (B.drop p)) := by rw [← hV.out]; exact HB2
        have hBV : Below O w V := by rw [← hV.out]; exact below_draws hB 1
        have rV : RowAt V O 3 (rowN i fun j => if j < p then (j : Int) else -1) := by rw [← hV.out]; exact rI
        rw [hV.out]
        clear hV HA2 HB2 hB rI ra rb hd
        obtain ⟨aA', cA', eA, -, -, hatA⟩ := HA.out.at
        injection eA with q1 q2 q3
        subst q1
        clear q2 q3
        obtain ⟨aB', cB', eB, -, -, hatB⟩ := HB.out.at
        injection eB with q1 q2 q3
        subst q1
        clear q2 q3
        have HcA := Lib.hid hatA; clear hatA
        have HcB := Lib.hid hatB; clear hatB
        go_wp2_with fail
        refine (fill_any _ _ _ _ _ HA3.out HB3.out (by simp; have := Hn.out; omega) (by simp; omega)).mono ?_
        rintro e w' ⟨T, rfl, hT, hTab, hBT⟩
        have hlO := rV.lt
        have hW : Walk w' O T p p p A B := Walk.start Hn.out hp.out.symm (by omega) hTab (rV.later hBT)
        have hBw : Below O w w' := hBV.trans (hBT.mono (by omega))
        have hOT : O < T := by omega
        clear hTab hBT rV hBV hT HA3 HB3 hlO
        go_wp2_with fail
        go_loopw [11, 12] (fun c d wr => ∃ j k : Nat, c = .int .i64 j ∧ d = .int .i64 k ∧ Walk wr O T j k p A B ∧ Below O w wr) (fun c d _ => (i - (intOf c).toNat) + (B.length - (intOf d).toNat))
        case atStart => exact ⟨p, p, rfl, rfl, hW, hBw⟩
        case round =>
          clear hW hBw
          obtain ⟨j, k, rfl, rfl, hW, hB⟩ := hrel
          have HW := Lib.hid hW
          obtain ⟨hpj, hjA, hpk, hkB, -, -⟩ := hW
          rw [Hn.out] at hjA
          by_cases hin : j < i ∧ k < B.length
          · obtain ⟨hlj, hlk⟩ := hin
            have hlj' : j < A.length := by rw [Hn.out]; exact hlj
            obtain ⟨x, hx⟩ : ∃ x, Hid (A[j]? = some x) := ⟨A[j], Lib.hid (List.getElem?_eq_getElem hlj')⟩
            obtain ⟨y, hy⟩ : ∃ y, Hid (B[k]? = some y) := ⟨B[k], Lib.hid (List.getElem?_eq_getElem hlk)⟩
            obtain ⟨bA, oA, rfl, hbA, cellA⟩ := HcA.out j x hx.out
            obtain ⟨bB, oB, rfl, hbB, cellB⟩ := HcB.out k y hy.out
            have ca : wr.cell? ⟨bA, oA + j, none⟩ = some (.int .i64 x) := (hB.cell (p := ⟨bA, oA + j, none⟩) (by show bA < O; omega)).trans cellA
            have cb : wr.cell? ⟨bB, oB + k, none⟩ = some (.int .i64 y) := (hB.cell (p := ⟨bB, oB + k, none⟩) (by show bB < O; omega)).trans cellB
            have hd1 : decide (j < i) = true := by simpa using hlj
            have hd2 : decide (k < B.length) = true := by simpa using hlk
            have Hbel := Lib.hid hB; clear hB
            clear cellA cellB hlj'
            by_cases hxy : x = y
            · have hb : (x == y) = true := by simpa using hxy
              obtain ⟨O0, c0, f0⟩ : ∃ v0, wr.cell? ⟨O, j, none⟩ = some v0 ∧ wr.frozen? ⟨O, j, none⟩ = false := by
                obtain ⟨_, _, _, _, _, _, pre, p1, _, p3⟩ := HW.out
                refine ⟨_, p3.cell (Array.getElem?_eq_getElem (show j < _ by simp [p1]; have := Hn.out; omega)), p3.frozen j⟩
              have Hnew := Lib.hid (fun q => Walk.same (W := wr.drewN q) HW.out hx.out (by rw [hxy]; exact hy.out))
              clear hxy HW
              go_wp2_with fail
              go_quiet (fail)
              go_wp2_with fail
              exact ⟨⟨j + 1, k + 1, by go_num, by go_num, Hnew.out nq, (below_draws Hbel.out nq).setCell (p := ⟨O, j, none⟩) (Nat.le_refl _) _⟩, by simp [intOf]; omega⟩
            · have hb : (x == y) = false := by simpa using hxy
              obtain ⟨g0, g1, t1, t2, t3, t4⟩ := Walk.reads HW.out (by rw [Hn.out]; exact hlj) hlk
              have hs1 : IntKind.i64.wrap ((j : Int) + 1) = (j : Int) + 1 := IntWalk.i64_in _ (by omega)
              have hs2 : IntKind.i64.wrap ((j : Int) + 1 - (p : Int)) = ((j + 1 - p : Nat) : Int) := by rw [IntWalk.i64_in _ (by omega)]; omega
              have hs3 : IntKind.i64.wrap ((k : Int) - (p : Int)) = ((k - p : Nat) : Int) := by rw [IntWalk.i64_in _ (by omega)]; omega
              have hs4 : IntKind.i64.wrap ((j : Int) - (p : Int)) = ((j - p : Nat) : Int) := by rw [IntWalk.i64_in _ (by omega)]; omega
              have hs5 : IntKind.i64.wrap ((k : Int) + 1) = (k : Int) + 1 := IntWalk.i64_in _ (by omega)
              have hs6 : IntKind.i64.wrap ((k : Int) + 1 - (p : Int)) = ((k + 1 - p : Nat) : Int) := by rw [IntWalk.i64_in _ (by omega)]; omega
              have q1 : j + 1 - p < 2001 := by omega
              have q2 : j - p < 2001 := by omega
              have q3 : k - p < B.length - p + 1 := by omega
              have q4 : k + 1 - p < B.length - p + 1 := by omega
              generalize j + 1 - p = j1 at hs2 t1 q1
              generalize k - p = k0 at hs3 t2 q3
              generalize j - p = j0 at hs4 t3 q2
              generalize k + 1 - p = k1 at hs6 t4 q4
              by_cases hle : lc (A.drop j) (B.drop (k + 1)) ≤ lc (A.drop (j + 1)) (B.drop k)
              · have Hnew := Lib.hid (fun q => Walk.skip (W := wr.drewN q) HW.out hx.out hy.out hxy hle)
                generalize lc (A.drop j) (B.drop (k + 1)) = z1 at hle t4
                generalize lc (A.drop (j + 1)) (B.drop k) = z0 at hle t2
                have hz : decide (z1 ≤ z0) = true := by simpa using hle
                clear hxy HW hle
                go_wp2_with fail
                go_quiet (fail)
                go_wp2_with fail
                go_quiet (fail)
                go_wp2_with fail
                exact ⟨⟨j + 1, k, by go_num, rfl, Hnew.out _, below_draws Hbel.out _⟩, by simp [intOf]; omega⟩
              · have Hnew := Lib.hid (fun q => Walk.next (W := wr.drewN q) HW.out hx.out hy.out hxy hle)
                generalize lc (A.drop j) (B.drop (k + 1)) = z1 at hle t4
                generalize lc (A.drop (j + 1)) (B.drop k) = z0 at hle t2
                have hz : decide (z1 ≤ z0) = false := by simpa using hle
                clear hxy HW hle
                go_wp2_with fail
                go_quiet (fail)
                go_wp2_with fail
                go_quiet (fail)
                go_wp2_with fail
                exact ⟨⟨j, k + 1, rfl, by go_num, Hnew.out _, below_draws Hbel.out _⟩, by simp [intOf]; omega⟩
          · have hfin := Walk.done HW.out (by rw [Hn.out]; exact hin)
            rw [← Hm.out] at hfin
            have hOw : w.heap.size ≤ O := by omega
            have hBw := hB.mono hOw
            have HOw := Lib.hid hOw; clear hOw
            clear hO hB HW
            by_cases hlj : j < i
            all_goals
              first
              | (have hd1 : decide (j < i) = true := by simpa using hlj
                 have hd2 : decide (k < B.length) = false := by simp; omega
                 clear hin hlj
                 go_wp2_with fail
                 go_ret
                 exact ⟨O, by rw [Hml.out]; rfl, HOw.out, hfin, hBw⟩)
              | (have hd1 : decide (j < i) = false := by simpa using hlj
                 clear hin hlj
                 go_wp2_with fail
                 go_ret
                 exact ⟨O, by rw [Hml.out]; rfl, HOw.out, hfin, hBw⟩)
end Go.Proofs.YtbekbllffphfeaaDoor.L
/-
  For the laws of lcs: Numbers: texts as numbers. Conditions: at most 1,000 rows of at most 1,000,000 texts each, each text no longer than any text may be.
-/
namespace Go.Proofs.YtbekbllffphfeaaDoor.L
open Go.RowKit Go.Maps Go.WideMaps

/-- A text's bytes. -/
abbrev wd (s : ByteArray) : List UInt8 := s.data.toList
/-- The texts known behind one more. -/
def numStep (L : List (List UInt8)) (s : ByteArray) : List (List UInt8) := if wd s ∈ L then L else L ++ [wd s]
def knownBy (L : List (List UInt8)) (ss : List ByteArray) : List (List UInt8) := ss.foldl numStep L
/-- The numbers of a row. -/
def numRow : List (List UInt8) → List ByteArray → List Int
  | _, [] => []
  | L, s :: ss => (L.idxOf (wd s) : Int) :: numRow (numStep L s) ss
/-- The numbers of all rows. -/
def numRows : List (List UInt8) → List (List ByteArray) → List (List Int)
  | _, [] => []
  | L, r :: rs => numRow L r :: numRows (knownBy L r) rs
theorem numRow_length : ∀ (L : List (List UInt8)) (ss : List ByteArray), (numRow L ss).length = ss.length
  | _, [] => rfl
  | L, s :: ss => by simp [numRow, numRow_length]
theorem numRows_length : ∀ (L : List (List UInt8)) (rs : List (List ByteArray)), (numRows L rs).length = rs.length
  | _, [] => rfl
  | L, r :: rs => by simp [numRows, numRows_length]
theorem numRow_get : ∀ (L : List (List UInt8)) (ss : List ByteArray) (j : Nat) (s : ByteArray), ss[j]? = some s → (numRow L ss)[j]? = some ((knownBy L (ss.take j)).idxOf (wd s) : Int)
  | _, [], j, s, h => by simp at h
  | L, x :: ss, 0, s, h => by simp at h; subst h; simp [numRow, knownBy]
  | L, x :: ss, j + 1, s, h => by
    have := numRow_get (numStep L x) ss j s (by simpa using h)
    simpa [numRow, knownBy] using this
theorem knownBy_snoc (L : List (List UInt8)) (ss : List ByteArray) (j : Nat) (s : ByteArray) (h : ss[j]? = some s) : knownBy L (ss.take (j + 1)) = numStep (knownBy L (ss.take j)) s := by
  unfold knownBy
  rw [List.take_add_one, h, List.foldl_append]
  rfl
theorem knownBy_length (L : List (List UInt8)) (ss : List ByteArray) : (knownBy L ss).length ≤ L.length + ss.length := by
  unfold knownBy
  induction ss generalizing L with
  | nil => simp
  | cons s ss ih =>
    have h := ih (numStep L s)
    have h2 : (numStep L s).length ≤ L.length + 1 := by unfold numStep; split <;> simp
    simp only [List.foldl_cons, List.length_cons]
    omega

/-- The value v is a slice that holds the values vs. -/
def Vals (W : World) (v : Value) (vs : List Value) : Prop :=
  ∃ (a : Option Addr) (cap : Nat), v = .slice a vs.length cap ∧ vs.length ≤ cap ∧ cap ≤ maxLen ∧ (vs = [] ∨ ∃ b off, a = some ⟨b, off, none⟩ ∧ b < W.heap.size ∧ ∀ j x, vs[j]? = some x → W.cell? ⟨b, off + j, none⟩ = some x)
theorem Vals.at {W : World} {v : Value} {vs : List Value} (h : Vals W v vs) : ∃ a cap, v = .slice a vs.length cap ∧ vs.length ≤ cap ∧ cap ≤ maxLen ∧ ∀ k x, vs[k]? = some x → ∃ b off, a = some ⟨b, off, none⟩ ∧ b < W.heap.size ∧ W.cell? ⟨b, off + k, none⟩ = some x := by
  obtain ⟨a, cap, rfl, hc, hm, hx⟩ := h
  refine ⟨a, cap, rfl, hc, hm, fun k x hk => ?_⟩
  rcases hx with h | ⟨b, off, rfl, hb, hx⟩
  · rw [h] at hk; simp at hk
  · exact ⟨b, off, rfl, hb, hx k x hk⟩
theorem Vals.below {W W' : World} {v : Value} {vs : List Value} (h : Vals W v vs) (hb : Below W.heap.size W W') : Vals W' v vs := by
  rcases h with ⟨a, cap, rfl, hc, hm, h | ⟨b, off, rfl, hlt, hx⟩⟩
  · exact ⟨a, cap, rfl, hc, hm, .inl h⟩
  · exact ⟨_, cap, rfl, hc, hm, .inr ⟨b, off, rfl, by have := hb.size; omega, fun j x hj => (hb.cell (p := ⟨b, off + j, none⟩) hlt).trans (hx j x hj)⟩⟩
theorem vals_of_row {W : World} {b : Nat} {vs : List Value} {t : TypeId} (h : RowAt W b t vs.toArray) (hm : vs.length ≤ maxLen) : Vals W (.slice (some ⟨b, 0, none⟩) vs.length vs.length) vs :=
  ⟨_, _, rfl, Nat.le_refl _, hm, .inr ⟨b, 0, rfl, h.lt, fun j x hj => by rw [Nat.zero_add]; exact h.cell (by simp [hj])⟩⟩
theorem vals_nil (W : World) : Vals W (.slice none 0 0) [] := ⟨none, 0, rfl, Nat.le_refl _, Nat.zero_le _, .inl rfl⟩

theorem law9 : Keyed Tryd.prog 9 := string_keyed Tryd.underlying9
theorem zero3 (W : World) : (zeroValue 3).run Tryd.prog W = .ok (.int .i64 0) W := by kernel_rfl
/-- Block b is a map that holds each known text's number. -/
def Known (W : World) (b : Nat) (L : List (List UInt8)) : Prop :=
  ∃ D : DataW Unit, W.ownsMap Tryd.prog 9 (plainElem Tryd.prog 3) b L.length D ∧ Maps.size D = L.length ∧
    ∀ s : List UInt8, Maps.has D (.string s) = decide (s ∈ L) ∧ (s ∈ L → D.atKey (.string s) (.lit (.int .i64 0)) = .lit (.int .i64 (L.idxOf s : Nat)))
theorem Known.made (W : World) : Known (W.alloc (.map #[] 0)) W.heap.size [] :=
  ⟨.map [], World.ownsMap_made W Tryd.prog 9 _, rfl, fun s => ⟨by simp [Maps.has], fun h => by simp at h⟩⟩
theorem Known.lt {W : World} {b : Nat} {L : List (List UInt8)} (h : Known W b L) : b < W.heap.size := by
  obtain ⟨D, h, _⟩ := h
  exact h.lt
theorem Known.same {W W' : World} {b : Nat} {L : List (List UInt8)} (h : Known W b L) (hb : W'.heap[b]? = W.heap[b]?) : Known W' b L := by
  obtain ⟨D, ⟨es, cl, h1, h2⟩, hk⟩ := h
  exact ⟨D, ⟨es, cl, hb.trans h1, h2⟩, hk⟩
theorem Known.look {W : World} {b : Nat} {L : List (List UInt8)} (h : Known W b L) (s : ByteArray) (hs : s.size ≤ maxLen) :
    ∃ c : Int, (Instr.lookup 150 (.map (some b)) (.string s) true).run Tryd.prog W = .ok (.tuple #[.int .i64 c, .bool (decide (wd s ∈ L))]) W ∧ (wd s ∈ L → c = (L.idxOf (wd s) : Nat)) := by
  obtain ⟨D, hD, _, hk⟩ := h
  obtain ⟨h1, h2⟩ := hk (wd s)
  obtain ⟨v, ps, hrun, hv⟩ := hD.look_ok law9 Tryd.underlying150 (zero3 W) (plainElem_int Tryd.underlying3 (by decide)) (keyOf_string_mk Tryd.underlying9 hs)
  obtain ⟨c, rfl, hc, _⟩ := plainElem_int_inv Tryd.underlying3 hv
  simp only [Prod.mk.injEq] at hc
  refine ⟨c, by rw [hrun, h1], fun hm => ?_⟩
  have := (h2 hm).symm.trans hc.1
  simpa using this.symm
theorem Known.len {W : World} {b : Nat} {L : List (List UInt8)} (h : Known W b L) (ty : TypeId) : (Builtin.len_ #[150] ty #[.map (some b)]).run Tryd.prog W = .ok (.int .i64 (L.length : Nat)) W := by
  obtain ⟨D, hD, hs, _⟩ := h
  rw [hD.len Tryd.underlying150, hs]
theorem Known.put {W : World} {b : Nat} {L : List (List UInt8)} (h : Known W b L) (s : ByteArray) (hs : s.size ≤ maxLen) (hn : wd s ∉ L) (hl : L.length < 1000000000000) :
    ∃ W', (Instr.mapUpdate 150 (.map (some b)) (.string s) (.int .i64 (L.length : Nat))).run Tryd.prog W = .ok () W' ∧ Known W' b (L ++ [wd s]) ∧ W.grownBy W' (some b) := by
  obtain ⟨D, hD, hsz, hk⟩ := h
  have hkey := keyOf_string_mk (k := 9) Tryd.underlying9 hs
  obtain ⟨W', hrun, hown, hg⟩ := hD.update law9 Tryd.underlying150 (by unfold maxLen; omega) hkey (plainElem_int (a := (L.length : Int)) Tryd.underlying3 (WalkArith.wf_i64 ⟨by omega, by omega⟩))
  refine ⟨W', hrun, ⟨_, by rw [List.length_append]; exact hown, ?_, fun t => ?_⟩, hg⟩
  · rw [size_put (hD.tidy law9), (hk (wd s)).1, hsz]
    simp [hn]
  · by_cases e : t = wd s
    · subst e
      rw [has_put_same hD.isMap (law9.key hkey), atKey_put_same hD.isMap (law9.key hkey)]
      refine ⟨by simp, fun _ => ?_⟩
      rw [List.idxOf_append, if_neg hn]
      simp
    · have hne : Lit.string t ≠ Lit.string (wd s) := by
        intro h
        injection h with h
        exact e h
      rw [has_put_other hne, atKey_put_other hne, (hk t).1]
      refine ⟨by simp [e], fun hm => ?_⟩
      have hm' : t ∈ L := by simpa [e] using hm
      rw [(hk t).2 hm', List.idxOf_append, if_pos hm']

/-- Nothing below block B but block m has turned. -/
structure But (B m : Nat) (W W' : World) : Prop where
  os : W'.os = W.os
  tape : W'.tape = W.tape
  output : W'.output = W.output
  size : W.heap.size ≤ W'.heap.size
  keep : ∀ k, k < B → k ≠ m → W'.heap[k]? = W.heap[k]?
theorem But.refl (B m : Nat) (W : World) : But B m W W := ⟨rfl, rfl, rfl, Nat.le_refl _, fun _ _ _ => rfl⟩
theorem But.below {B m : Nat} {A C E : World} (x : But B m A C) (y : Below B C E) : But B m A E :=
  ⟨y.os.trans x.os, y.tape.trans x.tape, y.output.trans x.output, Nat.le_trans x.size y.size, fun k h1 h2 => (y.block k h1).trans (x.keep k h1 h2)⟩
theorem But.grown {B m : Nat} {A C E : World} (x : But B m A C) (y : C.grownBy E (some m)) (hB : B ≤ A.heap.size) : But B m A E :=
  ⟨y.os.trans x.os, y.tape.trans x.tape, y.output.trans x.output, Nat.le_trans x.size y.size, fun k h1 h2 => (y.block k (by have := x.size; omega) (by simpa using h2)).trans (x.keep k h1 h2)⟩
theorem But.low {B m b : Nat} {A C : World} (x : But B m A C) (h1 : b ≤ B) (h2 : b ≤ m) : Below b A C := ⟨x.os, x.tape, x.output, x.size, fun k hk => x.keep k (by omega) (by omega)⟩

/-- The inner loop of Numbers, behind j rounds: the row's first j numbers are there; the map knows what stands there. -/
def NRow (W : World) (g n m j : Nat) (L : List (List UInt8)) (ss : List ByteArray) : Prop :=
  (∃ f : Nat → Int, (∀ i x, i < j → (numRow L ss)[i]? = some x → f i = x) ∧ RowAt W g 3 (rowN n f)) ∧ Known W m (knownBy L (ss.take j))
/-- The rows that are told lie in memory, and are these numbers. -/
def NOut (W : World) (vals : List Value) (ns : List (List Int)) : Prop :=
  vals.length = ns.length ∧ ∀ (j : Nat) (l : List Int), ns[j]? = some l → ∃ g : Nat, vals[j]? = some (.slice (some ⟨g, 0, none⟩) l.length l.length) ∧ RowAt W g 3 (l.map (Value.int .i64)).toArray
/-- What is so behind Numbers. -/
def NGives (w : World) (ns : List (List Int)) (e : Ending) (w' : World) : Prop :=
  ∃ v vals, e = .returned v ∧ Vals w' v vals ∧ NOut w' vals ns ∧ Below w.heap.size w w'

theorem own_ne {w : World} {base e size n h : Nat} {v : Value} {xs : List Value} {cs : Array Value} {t : TypeId} (ho : w.ownsRow base e size v n xs) (hb : RowAt w h t cs) (hne : t ≠ e) : some h ≠ v.ownBlock := by
  rcases ho.2 with ⟨rfl, rfl⟩ | ⟨g, cap, cur, rfl, _, hg, _⟩
  · simp [Value.ownBlock]
  · intro hh
    simp [Value.ownBlock] at hh
    subst hh
    unfold RowAt at hb
    rw [hb] at hg
    cases hg
    exact hne rfl
theorem own_map {w : World} {base e size n b : Nat} {v : Value} {xs : List Value} {L : List (List UInt8)} (ho : w.ownsRow base e size v n xs) (hb : Known w b L) : some b ≠ v.ownBlock := by
  obtain ⟨D, ⟨es, cl, hb, _⟩, _⟩ := hb
  rcases ho.2 with ⟨rfl, rfl⟩ | ⟨g, cap, cur, rfl, _, hg, _⟩
  · simp [Value.ownBlock]
  · intro hh
    simp [Value.ownBlock] at hh
    subst hh
    rw [hb] at hg
    cases hg
theorem row_map {w : World} {b g : Nat} {L : List (List UInt8)} {t : TypeId} {cs : Array Value} (hr : RowAt w g t cs) (hb : Known w b L) : g ≠ b := by
  obtain ⟨D, ⟨es, cl, hb, _⟩, _⟩ := hb
  rintro rfl
  unfold RowAt at hr
  rw [hr] at hb
  cases hb
theorem owns_same {W W' : World} {base e size n : Nat} {v : Value} {xs : List Value} (h : W.ownsRow base e size v n xs) (hb : ∀ k, v.ownBlock = some k → W'.heap[k]? = W.heap[k]?) : W'.ownsRow base e size v n xs := by
  refine ⟨h.1, ?_⟩
  rcases h.2 with hn | ⟨g, cap, cur, rfl, hg, hgg, rest⟩
  · exact .inl hn
  · exact .inr ⟨g, cap, cur, rfl, hg, (hb g (by simp [Value.ownBlock])).trans hgg, rest⟩
theorem own_vals {W : World} {base e n : Nat} {v : Value} {xs : List Value} (h : W.ownsRow base e 1 v n xs) : Vals W v xs := by
  have hl : xs.length = n := by have := h.1; omega
  rcases h.2 with ⟨rfl, rfl⟩ | ⟨g, cap, cur, rfl, _, hgg, h1, h2, h3, h4⟩
  · obtain rfl : xs = [] := List.eq_nil_of_length_eq_zero hl
    exact vals_nil W
  · refine ⟨_, cap, by rw [hl], by omega, h2, ?_⟩
    right
    refine ⟨g, 0, rfl, (Array.getElem?_eq_some_iff.1 hgg).1, fun j x hj => ?_⟩
    rw [Nat.zero_add]
    simp [World.cell?, hgg]
    rw [← h4, List.getElem?_take] at hj
    split at hj
    · simpa using hj
    · cases hj

/-- What is known behind the first i rows. -/
def knownRows (rows : List (List ByteArray)) (i : Nat) : List (List UInt8) := (rows.take i).foldl knownBy []
theorem numRows_get : ∀ (L : List (List UInt8)) (rs : List (List ByteArray)) (i : Nat) (ss : List ByteArray), rs[i]? = some ss → (numRows L rs)[i]? = some (numRow ((rs.take i).foldl knownBy L) ss)
  | _, [], i, ss, h => by simp at h
  | L, r :: rs, 0, ss, h => by simp at h; subst h; simp [numRows]
  | L, r :: rs, i + 1, ss, h => by
    have := numRows_get (knownBy L r) rs i ss (by simpa using h)
    simpa [numRows] using this
theorem knownRows_succ {rows : List (List ByteArray)} {i : Nat} {ss : List ByteArray} (h : rows[i]? = some ss) : knownRows rows (i + 1) = knownBy (knownRows rows i) ss := by
  unfold knownRows
  rw [List.take_add_one, h, List.foldl_append]
  rfl
/-- Behind i rows. -/
def NSt (m : Nat) (W : World) (o : Value) (i : Nat) (rows : List (List ByteArray)) : Prop :=
  ∃ vs, W.ownsRow m 138 1 o i vs ∧ NOut W vs ((numRows [] rows).take i) ∧ Known W m (knownRows rows i) ∧ (knownRows rows i).length ≤ i * 1000000
theorem NOut.same {W W' : World} {vs : List Value} {ns : List (List Int)} (h : NOut W vs ns) (hk : ∀ g cs, RowAt W g 3 cs → W'.heap[g]? = W.heap[g]?) : NOut W' vs ns :=
  ⟨h.1, fun j l hj => by obtain ⟨g, h1, h2⟩ := h.2 j l hj; exact ⟨g, h1, h2.same (hk g _ h2)⟩⟩
theorem NOut.snoc {W : World} {vs : List Value} {ns : List (List Int)} {g : Nat} {l : List Int} (h : NOut W vs ns) (hr : RowAt W g 3 (l.map (Value.int .i64)).toArray) : NOut W (vs ++ [.slice (some ⟨g, 0, none⟩) l.length l.length]) (ns ++ [l]) := by
  obtain ⟨h1, h2⟩ := h
  refine ⟨by simp [h1], fun j l' hj => ?_⟩
  by_cases e : j < ns.length
  · rw [List.getElem?_append_left e] at hj
    rw [List.getElem?_append_left (by omega)]
    exact h2 j l' hj
  · rw [List.getElem?_append_right (by omega)] at hj
    have hz : j - ns.length = 0 := by
      have := (List.getElem?_eq_some_iff.1 hj).1
      simp at this
      omega
    rw [hz] at hj
    simp at hj
    subst hj
    rw [List.getElem?_append_right (by omega), h1, hz]
    exact ⟨g, rfl, hr⟩

theorem NSt.next {m i n g : Nat} {W w1 : World} {o v' : Value} {vs : List Value} {rows : List (List ByteArray)} {l : List Int} (hown : W.ownsRow m 138 1 o i vs) (hout : NOut W vs ((numRows [] rows).take i)) (hkn : Known W m (knownRows rows (i + 1)))
    (hkl : (knownRows rows (i + 1)).length ≤ (i + 1) * 1000000) (hr : RowAt W g 3 (l.map (Value.int .i64)).toArray) (hn : l.length = n) (hl : (numRows [] rows)[i]? = some l)
    (hown' : w1.ownsRow m 138 1 v' (i + 1) (vs ++ [.slice (some ⟨g, 0, none⟩) n n])) (hg : (W.alloc (.cells #[.slice (some ⟨g, 0, none⟩) n n] 138)).grownBy w1 o.ownBlock) : NSt m w1 v' (i + 1) rows := by
  subst hn
  have hkeep : ∀ k, k < W.heap.size → some k ≠ o.ownBlock → w1.heap[k]? = W.heap[k]? := fun k h1 h2 => by
    rw [hg.block k (by simp; omega) h2, Below.heap_alloc _ _ k h1]
  have hrow : ∀ (k : Nat) (cs : Array Value), RowAt W k 3 cs → w1.heap[k]? = W.heap[k]? := fun k cs hk => hkeep k hk.lt (own_ne hown hk (by decide))
  refine ⟨_, hown', ?_, hkn.same (hkeep m hkn.lt (own_map hown hkn)), hkl⟩
  rw [List.take_add_one, hl]
  exact NOut.snoc (hout.same hrow) (hr.same (hrow g _ hr))

set_option maxRecDepth 100000 in
set_option maxHeartbeats 16000000 in
theorem Numbers_any (v : Value) (vals : List Value) (rows : List (List ByteArray)) (w : World) (hv : Vals w v vals) (hl : vals.length = rows.length) (hr : ∀ (j : Nat) (x : Value) (ss : List ByteArray), vals[j]? = some x → rows[j]? = some ss → Vals w x (ss.map Value.string) ∧ ss.length ≤ 1000000 ∧ ∀ s ∈ ss, s.size ≤ maxLen) (hrows : rows.length ≤ 1000) :
    Calls Tryd.prog 70 #[v] w (NGives w (numRows [] rows)) := by
  obtain ⟨a0, c0, rfl, -, -, hat⟩ := hv.at
  rw [hl]
  have Hat := Lib.hid hat; clear hat
  have Hr := Lib.hid hr; clear hr
  have Hl := Lib.hid hl; clear hl
  obtain ⟨m, hm⟩ : ∃ m, w.heap.size = m := ⟨_, rfl⟩
  obtain ⟨W2, hW2⟩ : ∃ W2, Hid (w.alloc (.map #[] 0) = W2) := ⟨_, Lib.hid rfl⟩
  have hmk : (Instr.makeMap 150 none).run Tryd.prog w = .ok (.map (some m)) W2 := by rw [← hW2.out, ← hm]; rfl
  have k2 : Known W2 m [] := by rw [← hW2.out, ← hm]; exact Known.made w
  have b2 : Below m w W2 := by rw [← hW2.out, ← hm]; exact (Below.refl _ w).alloc (Nat.le_refl _) _
  obtain ⟨i0, hi0, hz0, hz1, hz2⟩ : ∃ i0, Tryd.prog.info? 138 = some i0 ∧ i0.zero = some (.slice none 0 0) ∧ i0.size = 1 ∧ i0.bytes = 24 := info_parts (by kernel_rfl)
  go_enter Tryd.func70, Tryd.ntmps70
  go_wp2_with fail
  have hSt : NSt m W2 (.slice none 0 0) 0 rows := ⟨[], World.ownsRow_nil _ _ _ _, ⟨by simp, fun j l hj => by simp at hj⟩, k2, by simp [knownRows]⟩
  clear hmk k2 hW2
  have hm0 : w.heap.size ≤ m := by omega
  go_loopw [4, 15] (fun o c wr => ∃ i : Nat, i ≤ rows.length ∧ c = .int .i64 i ∧ NSt m wr o i rows ∧ Below m w wr) (fun _ c _ => rows.length - (intOf c).toNat)
  case atStart => exact ⟨0, Nat.zero_le _, rfl, hSt, b2⟩
  case round =>
    clear hSt b2
    obtain ⟨i, hi, rfl, hSt, hB⟩ := hrel
    by_cases hlt : i < rows.length
    · obtain ⟨ss, hss⟩ : ∃ ss, Hid (rows[i]? = some ss) := ⟨rows[i], Lib.hid (List.getElem?_eq_getElem hlt)⟩
      obtain ⟨x, hx⟩ : ∃ x, Hid (vals[i]? = some x) := ⟨vals[i]'(by rw [Hl.out]; exact hlt), Lib.hid (List.getElem?_eq_getElem _)⟩
      obtain ⟨hxv, hsl, hsz⟩ := Hr.out i x ss hx.out hss.out
      obtain ⟨b, off, rfl, hb, hcell⟩ := Hat.out i x hx.out
      have hc : wr.cell? ⟨b, off + i, none⟩ = some x := (hB.cell (p := ⟨b, off + i, none⟩) (by show b < m; omega)).trans hcell
      obtain ⟨ax, cx, rfl, -, -, hatx⟩ := hxv.at
      rw [List.length_map] at hc
      have Hatx := Lib.hid hatx; clear hatx
      have Hsz := Lib.hid hsz; clear hsz
      obtain ⟨n, hn⟩ : ∃ n, ss.length = n := ⟨_, rfl⟩
      rw [hn] at hc hsl
      have Hn := Lib.hid hn; clear hn
      have hSt' := hSt
      obtain ⟨vs, hown, hout, hkn, hkl⟩ := hSt
      obtain ⟨K, hK⟩ : ∃ K, knownRows rows i = K := ⟨_, rfl⟩
      rw [hK] at hkn hkl
      have HK := Lib.hid hK; clear hK
      obtain ⟨g, hg⟩ : ∃ g, wr.heap.size = g := ⟨_, rfl⟩
      obtain ⟨W3, hW3⟩ : ∃ W3, Hid (wr.alloc (.cells (rowN n fun _ => 0) 3) = W3) := ⟨_, Lib.hid rfl⟩
      have hmk : (Instr.makeSlice 138 (.int .i64 (n : Int)) (.int .i64 (n : Int))).run Tryd.prog wr = .ok (.slice (some ⟨g, 0, none⟩) n n) W3 := by rw [made_rowN n hsl, hW3.out, hg]
      have r3 : RowAt W3 g 3 (rowN n fun _ => 0) := by rw [← hW3.out, ← hg]; exact RowAt.new _ _ _
      have b3 : Below g wr W3 := by rw [← hW3.out, ← hg]; exact (Below.refl _ wr).alloc (Nat.le_refl _) _
      have hmg : m < g := by rw [← hg]; exact hkn.lt
      have hN3 : NRow W3 g n m 0 K ss := ⟨⟨fun _ => 0, fun i x h => by omega, r3⟩, hkn.same (b3.block m hmg)⟩
      have Hown := Lib.hid hown; clear hown
      have Hout := Lib.hid hout; clear hout
      have Hg := Lib.hid hg; clear hg
      have hkm := own_map Hown.out hkn
      have Hkm := Lib.hid hkm
      have Hrm := Lib.hid (fun cs (h : RowAt wr m 3 cs) => row_map h hkn rfl)
      clear hW3 r3 hkn hcell hxv hkm hSt'
      go_wp2_with fail
      clear hmk hc
      obtain ⟨Wo, rfl⟩ : ∃ Wo : World, Wo = wr := ⟨_, rfl⟩
      have bN3 : But g m Wo W3 := (But.refl _ _ _).below b3
      clear b3
      have Hi := Lib.hid hi; clear hi
      go_loopw [24] (fun c wi => ∃ j : Nat, j ≤ n ∧ c = .int .i64 j ∧ NRow wi g n m j K ss ∧ But g m Wo wi) (fun c _ => n - (intOf c).toNat)
      case atStart => exact ⟨0, Nat.zero_le _, rfl, hN3, bN3⟩
      case round =>
        clear hN3 bN3
        obtain ⟨j, hj, rfl, ⟨⟨f, hf, rg⟩, hkn⟩, hBut⟩ := hrel
        by_cases hlj : j < n
        · have hlj' : j < ss.length := by rw [Hn.out]; exact hlj
          obtain ⟨s, hs⟩ : ∃ s, Hid (ss[j]? = some s) := ⟨ss[j], Lib.hid (List.getElem?_eq_getElem hlj')⟩
          have hss' := Hsz.out s (List.mem_of_getElem? hs.out)
          obtain ⟨bx, ox, rfl, hbx, hcx⟩ := Hatx.out j (.string s) (by rw [List.getElem?_map, hs.out]; rfl)
          have hbm : bx < m := by omega
          have hc : wr.cell? ⟨bx, ox + j, none⟩ = some (.string s) := ((hBut.low (Nat.le_of_lt hmg) (Nat.le_refl m)).cell (p := ⟨bx, ox + j, none⟩) hbm).trans ((hB.cell (p := ⟨bx, ox + j, none⟩) hbm).trans hcx)
          have hklen := knownBy_length K (ss.take j)
          have hjt : (ss.take j).length = j := by rw [List.length_take]; omega
          rw [hjt] at hklen
          have hk1 := knownBy_snoc K ss j s hs.out
          have hn1 := numRow_get K ss j s hs.out
          have Hk1 := Lib.hid hk1; clear hk1
          have Hn1 := Lib.hid hn1; clear hn1
          have Hf := Lib.hid hf; clear hf
          obtain ⟨Kj, hKj⟩ : ∃ Kj, Hid (knownBy K (ss.take j) = Kj) := ⟨_, Lib.hid rfl⟩
          rw [hKj.out] at hkn hklen Hk1 Hn1
          have hgw := rg.lt
          have hgm : g ≠ m := by omega
          obtain ⟨c, hlook, hcI⟩ := hkn.look s hss'
          by_cases hin : wd s ∈ Kj
          · have hdi : decide (wd s ∈ Kj) = true := by simpa using hin
            rw [hdi] at hlook
            have c0 : wr.cell? ⟨g, j, none⟩ = some (.int .i64 (f j)) := rg.cell (rowN_get _ hlj)
            have f0 := rg.frozen j
            have HN : Hid (NRow (wr.setCell ⟨g, j, none⟩ (.int .i64 c)) g n m (j + 1) K ss) := by
              refine Lib.hid ⟨⟨_, ?_, by have := rg.set j (.int .i64 c); rw [rowN_set] at this; exact this⟩, ?_⟩
              · intro i y h1 h2
                show (if i = j then c else f i) = y
                by_cases e : i = j
                · subst e
                  rw [if_pos rfl, hcI hin]
                  rw [Hn1.out] at h2
                  exact Option.some.inj h2
                · rw [if_neg e]
                  exact Hf.out i y (by omega) h2
              · rw [Hk1.out]
                unfold numStep
                rw [if_pos hin]
                exact hkn.same (Below.heap_setCell _ _ _ m (by show m ≠ g; omega))
            have HBut : Hid (But g m Wo (wr.setCell ⟨g, j, none⟩ (.int .i64 c))) := Lib.hid (hBut.below ((Below.refl _ _).setCell (p := ⟨g, j, none⟩) (Nat.le_refl _) _))
            clear rg hkn hBut hcI hin hdi hcx Hatx
            go_wp2_with fail
            exact ⟨⟨j + 1, by omega, by go_num, HN.out, HBut.out⟩, by simp [intOf]; omega⟩
          · have hdi : decide (wd s ∈ Kj) = false := by simpa using hin
            rw [hdi] at hlook
            obtain ⟨W', hput, hkn', hgr⟩ := hkn.put s hss' hin (by omega)
            have hlen := fun ty => hkn.len ty
            have rg' : RowAt W' g 3 (rowN n f) := rg.same (hgr.block g hgw (by simpa using hgm))
            have c0 : W'.cell? ⟨g, j, none⟩ = some (.int .i64 (f j)) := rg'.cell (rowN_get _ hlj)
            have f0 := rg'.frozen j
            have hidx : Kj.idxOf (wd s) = Kj.length := List.idxOf_eq_length hin
            have HN : Hid (NRow (W'.setCell ⟨g, j, none⟩ (.int .i64 (Kj.length : Nat))) g n m (j + 1) K ss) := by
              refine Lib.hid ⟨⟨_, ?_, by have := rg'.set j (.int .i64 (Kj.length : Nat)); rw [rowN_set] at this; exact this⟩, ?_⟩
              · intro i y h1 h2
                show (if i = j then ((Kj.length : Nat) : Int) else f i) = y
                by_cases e : i = j
                · subst e
                  rw [if_pos rfl, ← hidx]
                  rw [Hn1.out] at h2
                  exact Option.some.inj h2
                · rw [if_neg e]
                  exact Hf.out i y (by omega) h2
              · rw [Hk1.out]
                unfold numStep
                rw [if_neg hin]
                exact hkn'.same (Below.heap_setCell _ _ _ m (by show m ≠ g; omega))
            have HBut : Hid (But g m Wo (W'.setCell ⟨g, j, none⟩ (.int .i64 (Kj.length : Nat)))) := Lib.hid ((hBut.grown hgr (by have := Hg.out; omega)).below ((Below.refl _ _).setCell (p := ⟨g, j, none⟩) (Nat.le_refl _) _))
            clear rg hkn hBut hcI hin hdi hcx Hatx rg' hkn' hgr hidx hklen
            go_wp2_with fail
            exact ⟨⟨j + 1, by omega, by go_num, HN.out, HBut.out⟩, by simp [intOf]; omega⟩
        · obtain rfl : j = n := by omega
          have hl := numRows_get [] rows i ss hss.out
          have hl' : (numRows [] rows)[i]? = some (numRow K ss) := by rw [← HK.out]; exact hl
          have hlen : (numRow K ss).length = j := by rw [numRow_length, Hn.out]
          have hrow : RowAt wr g 3 ((numRow K ss).map (Value.int .i64)).toArray := by
            rw [← rowN_list (numRow K ss) f (fun i x h => hf i x (by have := (List.getElem?_eq_some_iff.1 h).1; omega) h), hlen]
            exact rg
          have hkeep : ∀ k, k < g → k ≠ m → wr.heap[k]? = Wo.heap[k]? := hBut.keep
          have hown : wr.ownsRow m 138 1 _ i vs := owns_same Hown.out (fun k e => hkeep k (by have := (Hown.out.lt k e).2; rw [← Hg.out]; exact this) (by
            rintro rfl
            exact Hkm.out e.symm))
          have hkn2 : Known wr m (knownRows rows (i + 1)) := by
            rw [knownRows_succ hss.out, HK.out]
            rw [List.take_of_length_le (by rw [Hn.out]; exact Nat.le_refl _)] at hkn
            exact hkn
          have hkl2 : (knownRows rows (i + 1)).length ≤ (i + 1) * 1000000 := by
            rw [knownRows_succ hss.out, HK.out]
            have := knownBy_length K ss
            have := Hn.out
            omega
          have hout2 : NOut wr vs ((numRows [] rows).take i) := Hout.out.same (fun k cs hk => hkeep k (by rw [← Hg.out]; exact hk.lt) (by
            rintro rfl
            exact Hrm.out _ hk))
          have hbw : Below m w wr := hB.trans (hBut.low (Nat.le_of_lt hmg) (Nat.le_refl m))
          have hin2 : i + 1 ≤ 1000 := by omega
          have Hlast := Lib.hid (fun v' w1 => NSt.next (v' := v') (w1 := w1) hown hout2 hkn2 hkl2 hrow hlen hl')
          have hmw : m ≤ wr.heap.size := by have := hkn2.lt; omega
          have Hbw := Lib.hid hbw; clear hbw
          clear hkn hf rg hBut hkeep hkn2 hkl2 hout2 hrow hl hl' hlen hB Hkm Hout Hrm
          go_wp2_with (at_builtin; refine wpList_append_own _ rfl _ _ 135 rfl m 138 i0 (.slice none 0 0) 1 24 Tryd.underlying135 hi0 hz0 hz1 hz2 rfl (by decide) _ _ _ rfl (hown.alloc _) ⟨wr.heap.size, 0, none⟩ 1 1 [.slice (some ⟨g, 0, none⟩) j j] rfl rfl (cell_one_new _ _ _) (by simp [Value.oneCell']) (by unfold maxLen; omega) (by omega) (by simp; omega) ?_; intro v' w1 hown' hgrow _)
          refine ⟨⟨i + 1, by omega, by go_num, Hlast.out _ _ hown' hgrow, (Hbw.out.alloc hmw _).grown hgrow (by simp; omega) (fun k hk => (hown.lt k hk).1)⟩, by simp [intOf]; omega⟩
    · obtain rfl : i = rows.length := by omega
      obtain ⟨vs, hown, hout, -, -⟩ := hSt
      rw [List.take_of_length_le (by rw [numRows_length]; exact Nat.le_refl _)] at hout
      have Hout := Lib.hid hout; clear hout
      have Hown := Lib.hid hown; clear hown
      go_wp2_with fail
      go_ret
      exact ⟨_, vs, rfl, own_vals Hown.out, Hout.out, hB.mono hm0⟩
end Go.Proofs.YtbekbllffphfeaaDoor.L
/-
  Inside a round: a region that draws its order and whose last operation, one for which all others must be done, turns what the others read. No condition; of any program.
-/
namespace Go.Proofs.YtbekbllffphfeaaDoor.L

section
variable {F : Fence} {n : Nat} {P : Program} {ops : Array Oper} {Q : Exit → Act → World → Prop} {md : Region.Mode} {S : World → Prop} {z : Nat}

/-- Does operation z wait for i? -/
def waits (md : Region.Mode) (ops : Array Oper) (z i : Nat) : Bool := ((ops[z]?).map fun o => o.after.any fun e => Region.binds md e && e.on == i).getD false

/-- Whatever order is picked from here on, and S holds behind every operation but z. -/
def wpAnyEIn (F : Fence) (n : Nat) (P : Program) (md : Region.Mode) (ops : Array Oper) (Q : Exit → Act → World → Prop) (S : World → Prop) (z : Nat) : Nat → Array Bool → Act → World → Prop
  | 0, listed, a, w => Region.ready md ops listed = [] ∧ Q .normal a w
  | fuel + 1, listed, a, w =>
    (Region.ready md ops listed = [] → Q .normal a w) ∧
    ∀ i ∈ Region.ready md ops listed, wpOpIn F n P ops Q i (fun a' w' => (i ≠ z → S w') ∧ wpAnyEIn F n P md ops Q S z fuel (listed.setIfInBounds i true) a' w') a w

/-- While i is to come z can't come up. -/
theorem not_yet {i : Nat} {listed : Array Bool} (hw : waits md ops z i = true) (hi : listed.getD i true = false) : z ∉ Region.ready md ops listed := by
  intro hz
  obtain ⟨_, o, ho, hall⟩ := mem_ready.1 hz
  unfold waits at hw
  rw [ho] at hw
  simp only [Option.map_some, Option.getD_some, Array.any_eq_true] at hw
  obtain ⟨j, hj, he⟩ := hw
  rw [Bool.and_eq_true, beq_iff_eq] at he
  have h1 := hall _ (Array.getElem_mem hj) he.1
  rw [he.2] at h1
  rcases Nat.lt_or_ge i listed.size with h' | h'
  · simp [h'] at hi h1
    rw [hi] at h1; cases h1
  · simp [Array.getElem?_eq_none h'] at h1

/-- In every world that meets S o leaves v, and it is about no function. -/
def YieldsIfIn (P : Program) (ops : Array Oper) (S : World → Prop) (o : Oper) (v : Value) (a : Act) : Prop := YieldsIf P ops S o v a ∧ (∀ w, o.about P w a.eval = none) ∧ ∀ c, o.op ≠ .defer c

theorem YieldsIfIn.wpOpIn {i : Nat} {o : Oper} {v : Value} {a : Act} (hi : ops[i]? = some o) (hy : YieldsIfIn P ops S o v a)
    {K : Act → World → Prop} {w : World} (hS : S w) (h : K (a.put o.dst v) w) : wpOpIn F n P ops Q i K a w := by
  unfold Go.wpOpIn
  simp only [hi]
  have hab : ∀ f, o.about P w a.eval = some f → F.fn f := fun f hf => by rw [hy.2.1 w] at hf; cases hf
  rcases hy.1 with ⟨hw, hv⟩ | ⟨hw, rfl⟩
  · simp only [hw, if_true, Oper.wpIn, Oper.semAt_plain F _ o hy.2.2, hv w hS, Oper.uponIn]; exact ⟨hab, h⟩
  · simp only [hw, Bool.false_eq_true, if_false]; exact ⟨hab, h⟩

theorem YieldsIfIn.of_same {o : Oper} {v : Value} {a a' : Act} (hy : YieldsIfIn P ops S o v a) (he : execOp a'.eval o = execOp a.eval o)
    (hw : Region.wanted o (yielded ops a'.tmps) = Region.wanted o (yielded ops a.tmps)) (hb : ∀ w, o.about P w a'.eval = o.about P w a.eval) : YieldsIfIn P ops S o v a' :=
  ⟨hy.1.of_same he hw, fun w => by rw [hb w]; exact hy.2.1 w, hy.2.2⟩

theorem wpOpIn_putIf {j : Nat} {oi oj : Oper} {v : Value} (hj : ops[j]? = some oj) (hap : oi.apart ops oj = true) (hnd : ∀ c, oj.op ≠ .defer c)
    (hsi : ∀ cs b, oi.op ≠ .select cs b) (hsj : ∀ cs b, oj.op ≠ .select cs b)
    (hQ : ∀ c a w, Q (.panic c) (a.put oi.dst v) w → Q (.panic c) a w) {K : Act → World → Prop} {a : Act} {w : World}
    (hy : YieldsIfIn P ops S oi v a) (h : wpOpIn F n P ops Q j K (a.put oi.dst v) w) :
    wpOpIn F n P ops Q j (fun a' w' => YieldsIfIn P ops S oi v a' ∧ K (a'.put oi.dst v) w') a w := by
  obtain ⟨h1, h2, h3⟩ := Oper.apart_spec hap
  have keep : ∀ (a : Act), YieldsIfIn P ops S oi v a → ∀ u, YieldsIfIn P ops S oi v (a.put oj.dst u) := fun a hy u =>
    hy.of_same (execOp_put oi hsi a oj.dst u h3) (wanted_put oi a oj.dst u h3) (fun w => about_put oi w a oj.dst u h3)
  have keepD : ∀ d, YieldsIfIn P ops S oi v { a with defers := d :: a.defers } := fun d => hy.of_same rfl rfl (fun _ => rfl)
  unfold wpOpIn at *
  simp only [hj] at *
  rw [wanted_put oj a oi.dst v h1, about_put oj w a oi.dst v h1] at h
  split
  · rename_i hw
    simp only [hw, if_true] at h
    unfold Oper.wpIn at *
    rw [about_put oj w a oi.dst v h1] at h
    refine ⟨h.1, ?_⟩
    have h := h.2
    rw [Oper.semAt_plain F _ oj hnd, execOp_put oj hsj a oi.dst v h1] at h
    rw [Oper.semAt_plain F _ oj hnd]
    generalize (execOp a.eval oj).run P w = r at *
    cases r with
    | ok x w' =>
      cases x <;> simp only [Oper.uponIn] at h ⊢
      case value u => exact ⟨keep a hy u, by rw [← Act.put_comm a v u h2]; exact h⟩
      case skip => exact ⟨keep a hy _, by rw [← Act.put_comm a v undef h2]; exact h⟩
      case defer d =>
        refine ⟨keep _ (keepD d) _, ?_⟩
        rw [← Act.put_comm _ v undef h2, ← Act.put_defers]
        exact h
      case enter f args =>
        refine ⟨h.1, CallsIn.mono h.2 fun e w'' he => ?_⟩
        cases e with
        | returned u => exact ⟨keep a hy u, by rw [← Act.put_comm a v u h2]; exact he⟩
        | panicked c => exact hQ _ _ _ he
        | outgrown => exact he
      case row row args => exact ⟨h.1, RowsIn.mono h.2 fun u w'' he => ⟨keep a hy u, by rw [← Act.put_comm a v u h2]; exact he⟩⟩
      case round l f tmps assign body =>
        refine ⟨h.1, RoundIn.mono h.2 fun e w'' he => ?_⟩
        cases e with
        | returned u => exact ⟨keep a hy u, by rw [← Act.put_comm a v u h2]; exact he⟩
        | panicked c => exact hQ _ _ _ he
        | outgrown => exact he
    | halt x w' =>
      cases x <;> simp only [Oper.uponIn] at h ⊢
      case panic u => exact hQ _ _ _ h
  · rename_i hw
    simp only [hw] at h
    exact ⟨h.1, keep a hy _, by rw [← Act.put_comm a v undef h2]; exact h.2⟩

def noDefer (ops : Array Oper) : Bool := ops.all fun o => match o.op with | .defer _ => false | _ => true
theorem noDefer_spec (h : noDefer ops = true) : ∀ (j : Nat) (o : Oper) c, ops[j]? = some o → o.op ≠ .defer c := fun j o c ho e => by
  have h1 := (Array.all_eq_true'.1 h) o (Array.mem_of_getElem? ho)
  rw [e] at h1; cases h1

theorem stepIn_append_lies (w : World) {o : Oper} {a : Act} {K : Act → World → Prop} {E : Prop} (hgd : o.guard = none) (s x : Operand) (t : TypeId)
    (ho : o.op = .call { callee := .builtin .append, args := #[s, x], argTypes := #[t, t] })
    (base : Nat) (e : TypeId) (i : TypeInfo) (z : Value) (size bytes : Nat) (ht : P.underlying t = some (.slice e)) (hi : P.info? e = some i) (hz : i.zero = some z)
    (hsize : i.size = size) (hby : i.bytes = bytes) (hzs : z.cells.size = size) (hsz : 0 < size)
    (v : Value) (k : Nat) (xs : List Value) (hs : a.eval s = v) (hown : w.ownsRow base e size v k xs)
    (ad : Addr) (m c : Nat) (news : List Value) (hx : a.eval x = .slice (some ad) m c) (hl : news.length = m * size) (hnews : ∀ j u, news[j]? = some u → w.cell? (ad.add j) = some u) (h1 : ∀ u ∈ news, u.oneCell' = true)
    (hm : 0 < m) (h63 : k + m ≤ maxLen) (hbytes : (k + m) * bytes ≤ 140737488355328) (hbase : base ≤ w.heap.size) (H : Nat) (hH : w.heap.size = H)
    (h : ∀ g cap w', w'.ownsRow base e size (.slice (some ⟨g, 0, none⟩) (k + m) cap) (k + m) (xs ++ news) → w.grownBy w' v.ownBlock → (v.ownBlock = some g ∨ g = H) → g < w'.heap.size → K (a.put o.dst (.slice (some ⟨g, 0, none⟩) (k + m) cap)) w') :
    if Region.wanted o (yielded ops a.tmps) = true then Oper.wpIn F n P o a w K Q else E := by
  have hw : Region.wanted o (yielded ops a.tmps) = true := by simp [Region.wanted, hgd]
  rw [if_pos hw]
  obtain ⟨g, cap, w', hr, h2, h3, h4, h5⟩ := run_append_lies (P := P) w t o.type base e i z size bytes ht hi hz hsize hby hzs hsz v k xs hown ad m c news hl hnews h1 hm h63 hbytes hbase H hH
  unfold Oper.wpIn
  refine ⟨?_, ?_⟩
  · simp [Oper.about, ho, resolve, Target.leads, Sem.run_pure]
  · rw [Oper.semAt_plain F _ o (fun c e => by rw [ho] at e; cases e)]
    unfold execOp
    simp only [ho, resolve, invoke, builtin, Sem.run_bind, Sem.run_pure, Result.andThen_ok, List.map_toArray, List.map_cons, List.map_nil, hs, hx, hr]
    exact h g cap w' h2 h3 h4 h5
end
end Go.Proofs.YtbekbllffphfeaaDoor.L
/-
  Inside a round: a region that draws its order, and some last operations, for each of which all that read must be done, turn what the others read. No condition; of any program.
-/
namespace Go.Proofs.YtbekbllffphfeaaDoor.L

section
variable {F : Fence} {n : Nat} {P : Program} {ops : Array Oper} {Q : Exit → Act → World → Prop} {md : Region.Mode} {S : World → Prop} {zs : List Nat}

/-- Whatever order is picked from here on, and S holds behind every operation but z. -/
def wpAnyZIn (F : Fence) (n : Nat) (P : Program) (md : Region.Mode) (ops : Array Oper) (Q : Exit → Act → World → Prop) (S : World → Prop) (zs : List Nat) : Nat → Array Bool → Act → World → Prop
  | 0, listed, a, w => Region.ready md ops listed = [] ∧ Q .normal a w
  | fuel + 1, listed, a, w =>
    (Region.ready md ops listed = [] → Q .normal a w) ∧
    ∀ i ∈ Region.ready md ops listed, wpOpIn F n P ops Q i (fun a' w' => (i ∉ zs → S w') ∧ wpAnyZIn F n P md ops Q S zs fuel (listed.setIfInBounds i true) a' w') a w

theorem wpAnyIn_of_Z : ∀ (fuel : Nat) (listed : Array Bool) (a : Act) (w : World), wpAnyZIn F n P md ops Q S zs fuel listed a w → wpAnyIn F n P md ops Q fuel listed a w
  | 0, _, _, _, h => h
  | fuel + 1, _, _, _, h => ⟨h.1, fun i hi => wpOpIn_mono (fun a' w' h' => wpAnyIn_of_Z fuel _ a' w' h'.2) (h.2 i hi)⟩

theorem wpAnyZIn_first {i : Nat} {oi : Oper} {v : Value} (hi : ops[i]? = some oi) (hsel : ∀ (j : Nat) (o : Oper) cs b, ops[j]? = some o → o.op ≠ .select cs b) (hnd : ∀ (j : Nat) (o : Oper) c, ops[j]? = some o → o.op ≠ .defer c)
    (hQ : ∀ c a w, Q (.panic c) (a.put oi.dst v) w → Q (.panic c) a w) (hw : ∀ z ∈ zs, waits md ops z i = true) (hiz : i ∉ zs) :
    ∀ (fuel : Nat) (listed : Array Bool) (a : Act) (w : World),
      (∀ j oj, ops[j]? = some oj → j ≠ i → listed.getD j true = false → (∀ e ∈ oj.after, Region.binds md e = true → e.on ≠ i) → oi.apart ops oj = true) →
      i ∈ Region.ready md ops listed → YieldsIfIn P ops S oi v a → S w →
      wpAnyZIn F n P md ops Q S zs fuel (listed.setIfInBounds i true) (a.put oi.dst v) w → wpAnyZIn F n P md ops Q S zs (fuel + 1) listed a w := by
  intro fuel
  induction fuel with
  | zero =>
    intro listed a w _ hr hy hS H
    refine ⟨fun h => (by rw [h] at hr; cases hr), fun j hj => ?_⟩
    by_cases hji : j = i
    · subst hji; exact hy.wpOpIn hi hS ⟨fun _ => hS, H⟩
    · have := ready_mono hj hji
      rw [H.1] at this
      cases this
  | succ fuel ih =>
    intro listed a w hfree hr hy hS H
    refine ⟨fun h => (by rw [h] at hr; cases hr), fun j hj => ?_⟩
    by_cases hji : j = i
    · subst hji; exact hy.wpOpIn hi hS ⟨fun _ => hS, H⟩
    · have h1 := H.2 j (ready_mono hj hji)
      have hjz : j ∉ zs := fun e => not_yet (hw j e) (mem_ready.1 hr).1 hj
      obtain ⟨hjun, oj, hoj, hall⟩ := mem_ready.1 hj
      have hnot : ∀ e ∈ oj.after, Region.binds md e = true → e.on ≠ i := fun e he hb heq => by
        have h1 := hall e he hb
        have h0 := (mem_ready.1 hr).1
        rw [heq] at h1
        rcases Nat.lt_or_ge i listed.size with h' | h'
        · simp [h'] at h0 h1; rw [h0] at h1; cases h1
        · simp [Array.getElem?_eq_none h'] at h1
      have h2 := wpOpIn_putIf hoj (hfree j oj hoj hji hjun hnot) (fun c => hnd j oj c hoj) (fun cs b => hsel i oi cs b hi) (fun cs b => hsel j oj cs b hoj) hQ hy h1
      have hfree' : ∀ k ok, ops[k]? = some ok → k ≠ i → (listed.setIfInBounds j true).getD k true = false →
          (∀ e ∈ ok.after, Region.binds md e = true → e.on ≠ i) → oi.apart ops ok = true := fun k ok hk hki hun hno => by
        refine hfree k ok hk hki ?_ hno
        by_cases hjk : j = k
        · subst hjk; exact hjun
        · rw [getD_set_ne true hjk] at hun; exact hun
      refine wpOpIn_mono (fun a' w' h3 => ⟨h3.2.1, ih (listed.setIfInBounds j true) a' w' hfree' (ready_mono hr (Ne.symm hji)) h3.1 (h3.2.1 hjz) ?_⟩) h2
      rw [Array.setIfInBounds_comm _ _ hji]
      exact h3.2.2
theorem wpAnyZIn_take {i : Nat} {oi : Oper} {v : Value} {fuel : Nat} {listed : Array Bool} {a : Act} {w : World} (hi : ops[i]? = some oi)
    (hs : Region.noSelect ops = true) (hnd : noDefer ops = true) (hf : Region.free md ops listed i = true) (hr : (Region.ready md ops listed).contains i = true) (hz : (zs.all fun z => waits md ops z i && !(i == z)) = true)
    (hQ : ∀ c a w, Q (.panic c) (a.put oi.dst v) w → Q (.panic c) a w) (hy : YieldsIf P ops S oi v a) (hab : ∀ w, oi.about P w a.eval = none) (hS : S w)
    (h : wpAnyZIn F n P md ops Q S zs fuel (listed.setIfInBounds i true) (a.put oi.dst v) w) : wpAnyZIn F n P md ops Q S zs (fuel + 1) listed a w := by
  rw [List.all_eq_true] at hz
  have hz1 : ∀ z ∈ zs, waits md ops z i = true := fun z h => by have := hz z h; rw [Bool.and_eq_true] at this; exact this.1
  have hz2 : i ∉ zs := fun h => by have := hz i h; simp at this
  exact wpAnyZIn_first hi (Region.noSelect_spec hs) (noDefer_spec hnd) hQ hz1 hz2 fuel listed a w (Region.free_spec hi hf) (by simpa using hr) ⟨hy, hab, fun c => noDefer_spec hnd i oi c hi⟩ hS h
/-- One alone may come up. -/
theorem wpAnyZIn_one {i : Nat} {o : Oper} {fuel : Nat} {listed : Array Bool} {a : Act} {w : World} (hr : Region.ready md ops listed = [i]) (ho : ops[i]? = some o)
    (h : ∀ K' : Act → World → Prop, Shut (∀ a w, (i ∉ zs → S w) → wpAnyZIn F n P md ops Q S zs fuel (listed.setIfInBounds i true) a w → K' a w) → if Region.wanted o (yielded ops a.tmps) = true then Oper.wpIn F n P o a w K' Q else (∀ f, o.about P w a.eval = some f → F.fn f) ∧ K' (a.put o.dst undef) w) :
    wpAnyZIn F n P md ops Q S zs (fuel + 1) listed a w := by
  refine ⟨fun h0 => (by rw [h0] at hr; cases hr), fun j hj => ?_⟩
  rw [hr] at hj
  obtain rfl : j = i := by simpa using hj
  exact wpOpIn_step ho (fun K' hK => h K' (fun a w hS hW => hK a w ⟨hS, hW⟩))
theorem wpAnyZIn_done {listed : Array Bool} {a : Act} {w : World} (hr : Region.ready md ops listed = []) (h : Q .normal a w) : ∀ fuel, wpAnyZIn F n P md ops Q S zs fuel listed a w
  | 0 => ⟨hr, h⟩
  | _ + 1 => ⟨fun _ => h, by rw [hr]; simp⟩
theorem wpIn_region_Z {id : Nat} {a : Act} {w : World} (hm : P.follows .mixedOrders = true)
    (h : wpAnyZIn F n P .any ops Q S zs ops.size (Array.replicate ops.size false) a w.drew) : (Code.region id ops true).wpIn F n P Q a w :=
  wpIn_region_any hm (wpAnyIn_of_Z _ _ _ _ h)
end
/-- One of two may come up. -/
theorem wpAnyZIn_either {F : Fence} {n : Nat} {P : Program} {ops : Array Oper} {Q : Exit → Act → World → Prop} {md : Region.Mode} {S : World → Prop} {zs : List Nat} {i j : Nat} {oi oj : Oper} {fuel : Nat} {listed : Array Bool} {a : Act} {w : World} (hr : Region.ready md ops listed = [i, j]) (hi : ops[i]? = some oi) (hj : ops[j]? = some oj)
    (h1 : ∀ K' : Act → World → Prop, Shut (∀ a w, (i ∉ zs → S w) → wpAnyZIn F n P md ops Q S zs fuel (listed.setIfInBounds i true) a w → K' a w) → if Region.wanted oi (yielded ops a.tmps) = true then Oper.wpIn F n P oi a w K' Q else (∀ f, oi.about P w a.eval = some f → F.fn f) ∧ K' (a.put oi.dst undef) w)
    (h2 : ∀ K' : Act → World → Prop, Shut (∀ a w, (j ∉ zs → S w) → wpAnyZIn F n P md ops Q S zs fuel (listed.setIfInBounds j true) a w → K' a w) → if Region.wanted oj (yielded ops a.tmps) = true then Oper.wpIn F n P oj a w K' Q else (∀ f, oj.about P w a.eval = some f → F.fn f) ∧ K' (a.put oj.dst undef) w) :
    wpAnyZIn F n P md ops Q S zs (fuel + 1) listed a w := by
  refine ⟨fun h0 => (by rw [h0] at hr; cases hr), fun k hk => ?_⟩
  rw [hr] at hk
  rcases List.mem_cons.1 hk with rfl | hk
  · exact wpOpIn_step hi (fun K' hK => h1 K' (fun a w hS hW => hK a w ⟨hS, hW⟩))
  · obtain rfl : k = j := by simpa using hk
    exact wpOpIn_step hj (fun K' hK => h2 K' (fun a w hS hW => hK a w ⟨hS, hW⟩))
end Go.Proofs.YtbekbllffphfeaaDoor.L
