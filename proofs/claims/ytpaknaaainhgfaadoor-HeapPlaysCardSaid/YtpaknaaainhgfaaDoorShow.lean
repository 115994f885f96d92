/-
  For the laws of arith: Show, and the example of the document. Condition: the table of the powers of ten holds them.
-/
import Derived.Test.YtpaknaaainhgfaaDoorDo
import Derived.Test.YtpaknaaainhgfaaDoorShelf
import Derived.Lib.SmallJoins
import Derived.Lib.AppendIntMem
namespace Go.Proofs.YtpaknaaainhgfaaDoor
open Go.RowKit

/-- The table of the powers of ten holds them. -/
def Pow (w : World) : Prop := Lib.TabIs Tryd.prog w "internal/strconv.uint64pow10" .u64 Lib.pow10Tab
theorem gPow : Tryd.prog.globalNamed "internal/strconv.uint64pow10" = some 2 := by kernel_rfl
theorem pow_below {w w' : World} (h : Pow w) (hb : Below w.heap.size w w') : Pow w' := by
  unfold Pow Lib.TabIs at h ⊢
  unfold World.var? at h ⊢
  rw [gPow] at h ⊢
  simp only [Option.bind_some] at h ⊢
  have hlt : 2 < w.heap.size := by
    rcases Nat.lt_or_ge 2 w.heap.size with h' | h'
    · exact h'
    · rw [Array.getElem?_eq_none h'] at h; cases h
  rw [hb.block 2 hlt]
  exact h

theorem w32_range (a : Int) : -2147483648 ≤ wrap32 a ∧ wrap32 a ≤ 2147483647 := by unfold wrap32; omega

set_option maxHeartbeats 1000000 in
theorem Show_any (a : Int) (w : World) (hp : Pow w) : Calls Tryd.prog 22 #[.int .i64 a] w fun e w' => e = .returned (.string ⟨(Lib.itoa (wrap32 a)).toArray⟩) ∧ Below w.heap.size w w' := by
  have hr := w32_range a
  go_enter Tryd.func22, Tryd.ntmps22
  go_wp2_with fail
  refine (Wrap_any _ _).mono ?_
  rintro e w1 ⟨rfl, rfl⟩
  go_wp2_with fail
  refine (Tryd.strconv_FormatInt_10 (wrap32 a) (by omega) (by omega) w hp).mono ?_
  rintro e w1 ⟨rfl, k, os, rfl⟩
  go_wp2
  go_ret
  exact ⟨rfl, Lib.below_grow _ _ (Nat.le_refl _) _ _⟩

/-- Read, of a text that spells an int32. -/
theorem Read_ok (s : ByteArray) (hs : s.size ≤ 9223372036854775806) (v : Int) (h : Lib.parseIntB 32 s.data.toList = .ok v) (hb : (Lib.itoa (wrap32 v) == s.toList) = true) (w : World) (hp : Pow w) :
    Calls Tryd.prog 20 #[.string s] w fun e w' => e = .returned (.tuple #[.int .i64 v, .bool true]) ∧ Below w.heap.size w w' := by
  go_enter Tryd.func20, Tryd.ntmps20
  go_wp2_with fail
  refine (Tryd.strconv_ParseInt_10_at32_ok s hs v h w).mono ?_
  rintro e w1 ⟨rfl, hw⟩
  have hb1 : Below w.heap.size w w1 := by
    rcases hw with rfl | ⟨t, rfl⟩
    · exact Below.refl _ _
    · exact Joins.below_bytesWorld _ _ _ _ (Nat.le_refl _)
  clear hw
  have hp1 := pow_below hp hb1
  go_wp2_with fail
  refine (Show_any v w1 hp1).mono ?_
  rintro e w2 ⟨rfl, hb2⟩
  have hb02 := hb1.trans (hb2.mono hb1.size)
  go_wp2
  go_ret2
  exact ⟨rfl, hb02⟩

theorem ex_add : wrap32 (wrap32 2147483647 + wrap32 1) = -2147483648 := by decide +kernel
theorem ex_quo : wrap32 ((wrap32 (-7)).tdiv (wrap32 2)) = -3 := by decide +kernel
theorem ex_rem : (wrap32 (-7)).tmod (wrap32 2) = -1 := by decide +kernel
theorem ex_neg : wrap32 (wrap32 0 - wrap32 5) = -5 := by decide +kernel
theorem ex_wrap : wrap32 4294967297 = 1 := by decide +kernel
theorem ex_show : (⟨(Lib.itoa (wrap32 (-3))).toArray⟩ : ByteArray) = ⟨#[45, 51]⟩ := by decide +kernel
theorem ex_read : Lib.parseIntB 32 (⟨#[45, 51]⟩ : ByteArray).data.toList = .ok (-3) := by decide +kernel

set_option maxRecDepth 100000 in
set_option maxHeartbeats 2000000 in
theorem awake_any (w : World) (hp : Pow w) : Calls Tryd.prog 12 #[] w fun e w' => e = .returned (.bool true) ∧ Below w.heap.size w w' := by
  go_enter Tryd.func12, Tryd.ntmps12
  go_wp2_with fail
  refine (Do_add 2147483647 1 _).mono ?_
  rw [ex_add]
  rintro e w1 ⟨rfl, hb1⟩
  go_wp2_with fail
  refine (Do_quo (-7) 2 _ (by decide +kernel)).mono ?_
  rw [ex_quo]
  rintro e w2 ⟨rfl, hb2⟩
  have hb02 := hb1.trans (hb2.mono hb1.size)
  clear hb1 hb2
  go_wp2_with fail
  refine (Do_rem (-7) 2 _ (by decide +kernel)).mono ?_
  rw [ex_rem]
  rintro e w3 ⟨rfl, hb3⟩
  have hb03 := hb02.trans (hb3.mono hb02.size)
  clear hb02 hb3
  go_wp2_with fail
  refine (Test_lt (-1) 0 _).mono ?_
  rw [show decide (wrap32 (-1) < wrap32 0) = true from by decide +kernel]
  rintro e w4 ⟨rfl, rfl⟩
  go_wp2_with fail
  refine (Read_ok ⟨#[45, 51]⟩ (by decide) (-3) ex_read (by rw [Lib.toList_data]; decide +kernel) _ (pow_below hp hb03)).mono ?_
  rintro e w5 ⟨rfl, hb5⟩
  have hb05 := hb03.trans (hb5.mono hb03.size)
  clear hb03 hb5
  go_wp2_with fail
  refine (Show_any (-3) _ (pow_below hp hb05)).mono ?_
  rw [ex_show]
  rintro e w6 ⟨rfl, hb6⟩
  have hb06 := hb05.trans (hb6.mono hb05.size)
  clear hb05 hb6
  go_wp2_with fail
  refine (Neg_any 5 _).mono ?_
  rw [ex_neg]
  rintro e w7 ⟨rfl, hb7⟩
  have hb07 := hb06.trans (hb7.mono hb06.size)
  clear hb06 hb7
  go_wp2_with fail
  refine (Wrap_any 4294967297 _).mono ?_
  rw [ex_wrap]
  rintro e w8 ⟨rfl, rfl⟩
  go_wp2
  go_ret
  exact ⟨rfl, hb07⟩
end Go.Proofs.YtpaknaaainhgfaaDoor
