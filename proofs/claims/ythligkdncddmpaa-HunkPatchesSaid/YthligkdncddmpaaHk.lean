/-
  For the laws of hunk: a slice that reads as hunks; what hunks cost. No condition.
-/
import Derived.Test.YthligkdncddmpaaTurned
import Derived.Test.YthligkdncddmpaaArg
namespace Go.Proofs.Ythligkdncddmpaa
open Go.RowKit

/-- A hunk. -/
structure Hk where
  a : Int
  an : Int
  b : Int
  bn : Int
  deriving DecidableEq
def Hk.row (h : Hk) : List Value := [.int .i64 h.a, .int .i64 h.an, .int .i64 h.b, .int .i64 h.bn]
/-- The cells of h lie at p on. -/
def Hk.lies (W : World) (b o : Nat) (h : Hk) : Prop :=
  W.cell? ⟨b, o, none⟩ = some (.int .i64 h.a) ∧ W.cell? ⟨b, o + 1, none⟩ = some (.int .i64 h.an) ∧ W.cell? ⟨b, o + 2, none⟩ = some (.int .i64 h.b) ∧ W.cell? ⟨b, o + 3, none⟩ = some (.int .i64 h.bn)
/-- The value v is a slice that reads as the hunks H. -/
def Hunks (W : World) (v : Value) (H : List Hk) : Prop :=
  ∃ (a : Option Addr) (cap : Nat), v = .slice a H.length cap ∧ H.length ≤ cap ∧ cap ≤ maxLen ∧ ∀ k (h : Hk), H[k]? = some h → ∃ b off, a = some ⟨b, off, none⟩ ∧ b < W.heap.size ∧ h.lies W b (off + k * 4)
theorem Hk.lies.below {W W' : World} {B b o : Nat} {h : Hk} (hh : h.lies W b o) (hb : Below B W W') (hl : b < B) : h.lies W' b o :=
  ⟨(hb.cell (p := ⟨b, o, none⟩) hl).trans hh.1, (hb.cell (p := ⟨b, o + 1, none⟩) hl).trans hh.2.1, (hb.cell (p := ⟨b, o + 2, none⟩) hl).trans hh.2.2.1, (hb.cell (p := ⟨b, o + 3, none⟩) hl).trans hh.2.2.2⟩
theorem Hunks.below {W W' : World} {v : Value} {H : List Hk} (h : Hunks W v H) (hb : Below W.heap.size W W') : Hunks W' v H := by
  obtain ⟨a, cap, rfl, hc, hm, hx⟩ := h
  refine ⟨a, cap, rfl, hc, hm, fun k h hk => ?_⟩
  obtain ⟨b, off, rfl, hl, hat⟩ := hx k h hk
  exact ⟨b, off, rfl, by have := hb.size; omega, hat.below hb hl⟩

/-- What hunks cost, as the numbers are. -/
def costOf (n : Int) (H : List Hk) : Int := H.foldl (fun n h => wrap64 (n + wrap64 (h.an + h.bn))) n
theorem take_more {α : Type} {a : List α} {i : Nat} {x : α} (h : a[i]? = some x) : a.take (i + 1) = a.take i ++ [x] := by
  rw [List.take_add_one, h]; rfl
theorem costOf_next (n : Int) {H : List Hk} {k : Nat} {h : Hk} (hk : H[k]? = some h) : costOf n (H.take (k + 1)) = wrap64 (costOf n (H.take k) + wrap64 (h.an + h.bn)) := by
  rw [take_more hk]
  simp [costOf]

set_option maxRecDepth 100000 in
set_option maxHeartbeats 4000000 in
theorem Cost_any (v : Value) (H : List Hk) (w : World) (h1 : Hunks w v H) : Calls Try.prog 38 #[v] w fun e w' => e = .returned (.int .i64 (costOf 0 H)) ∧ Below w.heap.size w w' := by
  obtain ⟨a, cap, rfl, hc, hm, hat⟩ := h1
  have Hat := Lib.hid hat; clear hat
  unfold maxLen at hm
  go_enter Try.func38, Try.ntmps38
  go_wp2_with fail
  go_loopw [3, 8] (fun n c wr => ∃ k : Nat, k ≤ H.length ∧ c = .int .i64 k ∧ n = .int .i64 (costOf 0 (H.take k)) ∧ Below w.heap.size w wr) (fun _ c _ => H.length - (intOf c).toNat)
  case atStart => exact ⟨0, by omega, rfl, rfl, Below.refl _ _⟩
  case round =>
    obtain ⟨k, hk, rfl, rfl, hB⟩ := hrel
    by_cases hlt : k < H.length
    · obtain ⟨h, hh⟩ : ∃ h, H[k]? = some h := ⟨_, List.getElem?_eq_getElem hlt⟩
      obtain ⟨b, off, rfl, hl, hat⟩ := Hat.out k h hh
      have hn := costOf_next 0 hh
      obtain ⟨c0, c1, c2, c3⟩ := hat.below hB hl
      have Hn := Lib.hid hn; clear hn
      clear hat
      go_wp2_with fail
      exact ⟨⟨k + 1, by omega, by go_num, by rw [Hn.out], hB.alloc hB.size _⟩, by simp [intOf]; omega⟩
    · obtain rfl : k = H.length := by omega
      rw [List.take_length]
      go_wp2_with fail
      go_ret
      exact ⟨rfl, hB⟩
end Go.Proofs.Ythligkdncddmpaa
