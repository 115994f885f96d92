/-
  For the laws of marker: a mark's line, and a clash printed, by the program. Condition: texts of at most 100,000 bytes, marks of at most 100,000; the program's table of marks is as it is laid.
-/
import Derived.Test.YtbekbllffphfeaaDoorKPrt
import Derived.Test.YtbekbllffphfeaaDoorKWhole
namespace Go.Proofs.YtbekbllffphfeaaDoor.K
open Go.RowKit Go.Shelf
set_option linter.unusedSimpArgs false

/-- The table of marks stands at 0. -/
structure MkW (W : World) : Prop where
  tab : ∀ s : Nat, s < 4 → W.cell? ⟨0, s * 2, none⟩ = some (.string (bs [signB s])) ∧ W.cell? ⟨0, s * 2 + 1, none⟩ = some (.string (bs (labB s)))
  size : 1 ≤ W.heap.size
theorem MkW.below {W W' : World} {B : Nat} (h : MkW W) (hb : Below B W W') (hB : 1 ≤ B) : MkW W' :=
  ⟨fun s hs => ⟨(hb.cell (p := ⟨0, s * 2, none⟩) hB).trans (h.tab s hs).1, (hb.cell (p := ⟨0, s * 2 + 1, none⟩) hB).trans (h.tab s hs).2⟩, Nat.le_trans h.size hb.size⟩
theorem bs_app (a b : List UInt8) : bs a ++ bs b = bs (a ++ b) := by
  rw [← bs_tl (bs a ++ bs b)]
  simp [tl]
theorem ret_str {a b : ByteArray} (h : a = b) : Ending.returned (.string a) = Ending.returned (.string b) := by rw [h]
theorem repeat_one (c : UInt8) (n : Nat) : Lib.repeatL [c] n = List.replicate n c := by
  induction n with
  | zero => rfl
  | succ n ih => rw [Lib.repeatL, ih]; rfl
theorem labB_le (s : Nat) : (labB s).length ≤ 6 := by unfold labB; split <;> decide
set_option maxRecDepth 100000 in
set_option maxHeartbeats 8000000 in
theorem begin_any (s : Nat) (hs : s < 4) (n : Nat) (hn : n ≤ 100000) (cut : Bool) (w : World) (hW : MkW w) : Calls Tryd.prog 49 #[.int .i64 s, .int .i64 n, .bool cut] w fun e w' => e = .returned (.string (bs (mk (signB s) n cut (labB s)))) ∧ Below w.heap.size w w' := by
  have HW := Lib.hid hW; clear hW
  have hW1 := HW.out.size
  obtain ⟨c0, c1⟩ := HW.out.tab s hs
  have hll := labB_le s
  obtain ⟨c, hc⟩ : ∃ c, Hid (signB s = c) := ⟨_, Lib.hid rfl⟩
  obtain ⟨x, hx⟩ : ∃ x, Hid (labB s = x) := ⟨_, Lib.hid rfl⟩
  rw [hc.out] at c0
  rw [hx.out] at c1 hll
  rw [hc.out, hx.out]
  obtain ⟨r, hr⟩ : ∃ r, Hid (mk c n cut x = r) := ⟨_, Lib.hid rfl⟩
  rw [hr.out]
  have g1 : Hid (∀ (W' : World), Below w.heap.size w W' → W'.cell? ⟨0, s * 2 + 1, none⟩ = some (.string (bs x))) := Lib.hid fun W' hb => (hb.cell (p := ⟨0, s * 2 + 1, none⟩) hW1).trans c1
  clear c1
  go_enter Tryd.func49, Tryd.ntmps49
  go_wp2_with fail
  refine (Tryd.strings_Repeat (bs [c]) n _ (by omega) (by rw [bs_size]; simp; omega)).mono ?_
  rw [show (Lib.repeatL (bs [c]).data.toList n) = List.replicate n c from by rw [← repeat_one]]
  rintro e w1 ⟨rfl, b1⟩
  have c1 := g1.out w1 b1
  have hB1 := Lib.hid b1
  clear b1 c0
  obtain ⟨y, hy⟩ : ∃ y, Hid (List.replicate n c = y) := ⟨_, Lib.hid rfl⟩
  have hyl : y.length ≤ 100000 := by rw [← hy.out, List.length_replicate]; exact hn
  rw [hy.out]
  have z0 : (bs y).size = y.length := bs_size _
  have z1 : (bs y ++ ⟨#[33]⟩ : ByteArray).size = y.length + 1 := by rw [show (⟨#[33]⟩ : ByteArray) = bs [33] from rfl, bs_app, bs_size]; simp
  have z2 : (⟨#[32]⟩ ++ bs x : ByteArray).size = x.length + 1 := by rw [show (⟨#[32]⟩ : ByteArray) = bs [32] from rfl, bs_app, bs_size]; simp
  have z3 : (bs y ++ ⟨#[33]⟩ ++ (⟨#[32]⟩ ++ bs x) : ByteArray).size = y.length + x.length + 2 := by rw [show (⟨#[32]⟩ : ByteArray) = bs [32] from rfl, show (⟨#[33]⟩ : ByteArray) = bs [33] from rfl, bs_app, bs_app, bs_app, bs_size]; simp; omega
  have z4 : (bs y ++ (⟨#[32]⟩ ++ bs x) : ByteArray).size = y.length + x.length + 1 := by rw [show (⟨#[32]⟩ : ByteArray) = bs [32] from rfl, bs_app, bs_app, bs_size]; simp; omega
  have Z0 := Lib.hid z0
  have Z1 := Lib.hid z1
  have Z2 := Lib.hid z2
  have Z3 := Lib.hid z3
  have Z4 := Lib.hid z4
  clear z0 z1 z2 z3 z4
  by_cases hxe : x = []
  · have h0 : (bs x).toList = [] := by rw [Lib.toList_data]; exact hxe
    have h0b : (bs x).toList.isEmpty = true := by rw [h0]; rfl
    have h0c : ((bs x).toList == []) = true := by rw [h0]; rfl
    have h0d : x.isEmpty = true := by simpa using hxe
    cases cut with
    | true =>
      have hsum : Hid (bs y ++ ⟨#[33]⟩ ++ ⟨#[10]⟩ = bs r) := Lib.hid (by
        rw [← hr.out, ← hy.out, hxe, show (⟨#[33]⟩ : ByteArray) = bs [33] from rfl, show (⟨#[10]⟩ : ByteArray) = bs [10] from rfl, bs_app, bs_app]; simp [mk])
      clear hxe h0
      go_wp2_with fail
      go_ret
      exact ⟨ret_str hsum.out, hB1.out⟩
    | false =>
      have hsum : Hid (bs y ++ ⟨#[10]⟩ = bs r) := Lib.hid (by
        rw [← hr.out, ← hy.out, hxe, show (⟨#[10]⟩ : ByteArray) = bs [10] from rfl, bs_app]; simp [mk])
      clear hxe h0
      go_wp2_with fail
      go_ret
      exact ⟨ret_str hsum.out, hB1.out⟩
  · have h0 : ¬ (bs x).toList = [] := by rw [Lib.toList_data]; exact hxe
    have h0b : (bs x).toList.isEmpty = false := by simpa using h0
    have h0c : ((bs x).toList == []) = false := by simpa using h0
    have h0d : x.isEmpty = false := by simpa using hxe
    cases cut with
    | true =>
      have hsum : Hid (bs y ++ ⟨#[33]⟩ ++ (⟨#[32]⟩ ++ bs x) ++ ⟨#[10]⟩ = bs r) := Lib.hid (by
        rw [← hr.out, ← hy.out, show (⟨#[33]⟩ : ByteArray) = bs [33] from rfl, show (⟨#[32]⟩ : ByteArray) = bs [32] from rfl, show (⟨#[10]⟩ : ByteArray) = bs [10] from rfl, bs_app, bs_app, bs_app, bs_app]; simp [mk, hxe])
      clear hxe h0
      go_wp2_with fail
      go_ret
      exact ⟨ret_str hsum.out, hB1.out⟩
    | false =>
      have hsum : Hid (bs y ++ (⟨#[32]⟩ ++ bs x) ++ ⟨#[10]⟩ = bs r) := Lib.hid (by
        rw [← hr.out, ← hy.out, show (⟨#[32]⟩ : ByteArray) = bs [32] from rfl, show (⟨#[10]⟩ : ByteArray) = bs [10] from rfl, bs_app, bs_app, bs_app]; simp [mk, hxe])
      clear hxe h0
      go_wp2_with fail
      go_ret
      exact ⟨ret_str hsum.out, hB1.out⟩
end Go.Proofs.YtbekbllffphfeaaDoor.K
