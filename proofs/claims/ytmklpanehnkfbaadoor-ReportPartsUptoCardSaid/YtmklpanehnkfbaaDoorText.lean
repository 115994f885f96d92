/-
  For the laws of report: all that is told of a merge, by the program. Condition: at most 1,000 requests and conflicts each, texts of at most 2,000,000 bytes; the program's tables are as they are laid.
-/
import Derived.Test.YtmklpanehnkfbaaDoorCount
namespace Go.Proofs.YtmklpanehnkfbaaDoor
open Go.RowKit Go.Shelf

structure Rq where
  kind : Int
  id : List UInt8
  to : List UInt8
/-- The value v is a slice that reads as the requests L. -/
def Rqs (W : World) (v : Value) (L : List Rq) : Prop :=
  ∃ (a : Option Addr) (cap : Nat), v = .slice a L.length cap ∧ L.length ≤ cap ∧ cap ≤ maxLen ∧ ∀ k (x : Rq), L[k]? = some x → ∃ b off, a = some ⟨b, off, none⟩ ∧ b < W.heap.size ∧ W.cell? ⟨b, off + k * 3, none⟩ = some (.int .i64 x.kind) ∧ W.cell? ⟨b, off + k * 3 + 1, none⟩ = some (.string (bs x.id)) ∧ W.cell? ⟨b, off + k * 3 + 2, none⟩ = some (.string (bs x.to))
theorem Rqs.below {W W' : World} {v : Value} {L : List Rq} (h : Rqs W v L) (hb : Below W.heap.size W W') : Rqs W' v L := by
  obtain ⟨a, cap, rfl, hc, hm, hx⟩ := h
  refine ⟨a, cap, rfl, hc, hm, fun k x hk => ?_⟩
  obtain ⟨b, off, rfl, hl, h1, h2, h3⟩ := hx k x hk
  exact ⟨b, off, rfl, by have := hb.size; omega, (hb.cell (p := ⟨b, off + k * 3, none⟩) hl).trans h1, (hb.cell (p := ⟨b, off + k * 3 + 1, none⟩) hl).trans h2, (hb.cell (p := ⟨b, off + k * 3 + 2, none⟩) hl).trans h3⟩
def wLeft : List UInt8 := [108, 101, 102, 116, 58, 32]
def wRight : List UInt8 := [114, 105, 103, 104, 116, 58, 32]
def wBad : List UInt8 := [99, 111, 110, 102, 108, 105, 99, 116, 58, 32]
def lineQ (w : List UInt8) (r : Rq) : List UInt8 := w ++ showOf r.kind r.id r.to ++ [10]
def lineC (c : Cf) : List UInt8 := wBad ++ conOf c.kind c.key ++ [10]
def reqsT (w : List UInt8) (L : List Rq) : List UInt8 := L.flatMap (lineQ w)
def badT (L : List Cf) : List UInt8 := L.flatMap lineC
def headT (k : Int) : List UInt8 := outOf k ++ [10]
def textT (k : Int) (l r : List Rq) (b : List Cf) : List UInt8 := headT k ++ reqsT wLeft l ++ reqsT wRight r ++ badT b
theorem flat_take {α : Type} {f : α → List UInt8} {L : List α} {k : Nat} {x : α} (h : L[k]? = some x) : (L.take (k + 1)).flatMap f = (L.take k).flatMap f ++ f x := by
  rw [List.take_add_one, h]
  simp
theorem flat_le {α : Type} {f : α → List UInt8} {m : Nat} : ∀ {L : List α}, (∀ x ∈ L, (f x).length ≤ m) → (L.flatMap f).length ≤ L.length * m
  | [], _ => by simp
  | x :: L, h => by
    have h1 := h x (by simp)
    have h2 := flat_le (f := f) (m := m) (L := L) (fun y hy => h y (by simp [hy]))
    rw [List.flatMap_cons, List.length_append, List.length_cons, Nat.add_mul]
    omega
theorem getD_le {L : List (List UInt8)} {m : Nat} (h : ∀ x ∈ L, x.length ≤ m) (i : Nat) : (L.getD i []).length ≤ m := by
  rw [List.getD_eq_getElem?_getD]
  cases hx : L[i]? with
  | none => simp
  | some x => exact h x (List.mem_of_getElem? hx)
theorem showOf_le (k : Int) (id to : List UInt8) : (showOf k id to).length ≤ id.length + to.length + 20 := by
  unfold showOf
  split
  · have := getD_le (L := reqW) (m := 15) (by decide) (k - 1).toNat
    simp only [List.length_append, List.length_cons, List.length_nil]
    omega
  · simp
theorem conOf_le (k : Int) (key : List UInt8) : (conOf k key).length ≤ key.length + 10 := by
  unfold conOf
  split
  · have := getD_le (L := conW) (m := 8) (by decide) (k - 1).toNat
    unfold withKey
    split
    · omega
    · simp only [List.length_append, List.length_cons, List.length_nil]
      omega
  · simp
theorem outOf_le (k : Int) : (outOf k).length ≤ 10 := by
  unfold outOf
  split
  · exact getD_le (L := outW) (m := 10) (by decide) _
  · simp
theorem lineQ_le {w : List UInt8} (hw : w.length ≤ 10) {r : Rq} (h1 : r.id.length ≤ 2000000) (h2 : r.to.length ≤ 2000000) : (lineQ w r).length ≤ 5000000 := by
  have := showOf_le r.kind r.id r.to
  unfold lineQ
  simp only [List.length_append, List.length_cons, List.length_nil]
  omega
theorem lineC_le {c : Cf} (h1 : c.key.length ≤ 2000000) : (lineC c).length ≤ 5000000 := by
  have := conOf_le c.kind c.key
  unfold lineC
  simp only [List.length_append, List.length_cons, List.length_nil, wBad]
  omega
theorem reqs_le {w : List UInt8} (hw : w.length ≤ 10) {L : List Rq} (hL : L.length ≤ 1000) (h : ∀ r ∈ L, r.id.length ≤ 2000000 ∧ r.to.length ≤ 2000000) (k : Nat) : (reqsT w (L.take k)).length ≤ 5000000000 := by
  have h1 := flat_le (f := lineQ w) (m := 5000000) (L := L.take k) (fun r hr => lineQ_le hw (h r (List.mem_of_mem_take hr)).1 (h r (List.mem_of_mem_take hr)).2)
  have h2 : (L.take k).length ≤ 1000 := Nat.le_trans (List.length_take_le' _ _) hL
  unfold reqsT
  omega
theorem bad_le {L : List Cf} (hL : L.length ≤ 1000) (h : ∀ r ∈ L, r.key.length ≤ 2000000) (k : Nat) : (badT (L.take k)).length ≤ 5000000000 := by
  have h1 := flat_le (f := lineC) (m := 5000000) (L := L.take k) (fun r hr => lineC_le (h r (List.mem_of_mem_take hr)))
  have h2 : (L.take k).length ≤ 1000 := Nat.le_trans (List.length_take_le' _ _) hL
  unfold badT
  omega
set_option maxRecDepth 100000 in
set_option maxHeartbeats 8000000 in
theorem write_any (B b g : Nat) (xs : List UInt8) (T : List (List UInt8)) (w : World) (hb : Lib.IsBuilder 53 5 B b (Lib.byteCells xs) w) (hg : RowAt w g 9 (strV T).toArray) (hgb : g ≠ b) (hT : T.length ≤ 2) (hx : ∀ x ∈ T, x.length ≤ 5000000) (hl : xs.length ≤ 30000000000) (hB : B ≤ w.heap.size) :
    Calls Tryd.prog 23 #[.pointer (some ⟨b, 0, none⟩), .slice (some ⟨g, 0, none⟩) T.length T.length] w fun e w' => e = .returned (.tuple #[]) ∧ Lib.IsBuilder 53 5 B b (Lib.byteCells (xs ++ T.flatten ++ [10])) w' ∧ Below B w w' := by
  have Hb := Lib.hid hb
  have Hg := Lib.hid hg
  have Hx := Lib.hid hx
  clear hb hg hx
  go_enter Tryd.func23, Tryd.ntmps23
  go_wp2_with fail
  go_loopw [8] (fun c wr => ∃ k : Nat, c = .int .i64 k ∧ k ≤ T.length ∧ Hid (Below B w wr) ∧ Hid (RowAt wr g 9 (strV T).toArray) ∧ Hid (Lib.IsBuilder 53 5 B b (Lib.byteCells (xs ++ (T.take k).flatten)) wr)) (fun c _ => T.length - (intOf c).toNat)
  case atStart => exact ⟨0, rfl, by omega, Lib.hid (Below.refl _ _), Hg, by simpa using Hb⟩
  case round =>
    obtain ⟨k, rfl, hk, hBr, hG, hBu⟩ := hrel
    have hBs := hBr.out.size
    have hfl : (T.take k).flatten.length ≤ 10000000 := by
      have h1 := flat_le (f := fun x : List UInt8 => x) (m := 5000000) (L := T.take k) (fun x h => Hx.out x (List.mem_of_mem_take h))
      have h2 : (T.take k).length ≤ 2 := Nat.le_trans (List.length_take_le' _ _) hT
      rw [List.flatMap_id'] at h1
      omega
    by_cases hlt : k < T.length
    · obtain ⟨x, hx⟩ : ∃ x, T[k]? = some x := ⟨_, List.getElem?_eq_getElem hlt⟩
      have hxs := Hx.out x (List.mem_of_getElem? hx)
      have c0 := hG.out.cell (j := k) (v := .string (bs x)) (by simp [strV, hx])
      have hnx : Hid ((T.take (k + 1)).flatten = (T.take k).flatten ++ x) := Lib.hid (by rw [List.take_add_one, hx]; simp)
      clear hx
      go_wp2_with fail
      refine (WriteString_k B b _ (bs x) _ hBu.out (by rw [byteCells_length, bs_size, List.length_append]; omega) (by omega)).mono ?_
      rintro e w3 ⟨rfl, hw3, hb3, hq3⟩
      have hB3 := Lib.hid (hBr.out.trans hb3)
      have hG3 := Lib.hid (hG.out.same (hq3 g _ 9 (0, 0) hG.out (by decide) hgb))
      have hBu3 : Hid (Lib.IsBuilder 53 5 B b (Lib.byteCells (xs ++ (T.take (k + 1)).flatten)) w3) := Lib.hid (by
        rw [strCells_bs, ← byteCells_append, List.append_assoc, ← hnx.out] at hw3
        exact .inr hw3)
      clear hw3 hb3 hq3 c0
      go_wp2_with fail
      exact ⟨⟨k + 1, by go_num, by omega, hB3, hG3, hBu3⟩, by simp [intOf]; omega⟩
    · obtain rfl : k = T.length := by omega
      rw [List.take_length] at hBu hfl
      go_wp2_with fail
      refine (WriteByte_any B b _ 10 _ hBu.out (by rw [byteCells_length, List.length_append]; omega) (by omega)).mono ?_
      rintro e w3 ⟨rfl, hw3, hb3⟩
      go_wp2_with fail
      go_end0
      exact ⟨rfl, .inr (by simpa [Lib.byteCells] using hw3), hBr.out.trans hb3⟩
end Go.Proofs.YtmklpanehnkfbaaDoor
