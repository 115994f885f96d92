/-
  For the law HeapNone: it returns true for every text and every number. Conditions: the table of the powers of ten holds them; the text is no longer than any text may be.
-/
import Derived.Test.YtpaknaaainhgfaaDoorHwake
namespace Go.Proofs.YtpaknaaainhgfaaDoor
open Go.RowKit Go.Maps Go.WideMaps

set_option maxRecDepth 100000 in
set_option maxHeartbeats 2000000 in
theorem Make_full (s : ByteArray) (w : World) (base h m : Nat) (cs : List ByteArray) (f : Store) (hn : cs.length = 10000) (H : Hp w base h cs m f) :
    Calls Tryd.prog 26 #[.pointer (some ⟨h, 0, none⟩), .string s] w fun e w' => e = .returned (.tuple #[val2 0 0, .int .i64 2]) ∧ Below w.heap.size w w' := by
  have hlt := H.lt
  obtain ⟨p, c, mv, hb, hown, hm⟩ := H
  rw [hn] at hb
  have c0 : w.cell? ⟨h, 0, none⟩ = some (.slice p 10000 c) := hb.cell rfl
  clear hown hm hb hn
  go_enter Tryd.func26, Tryd.ntmps26
  go_wp2
  refine bodyPost_ret (results_cell_row_tmp rfl _ _ w.heap.size 44 #[.int .i64 0, .int .i64 0] (0, 0) _ rfl (heap_alloc_new _ _) Tryd.underlying44 rfl rfl) rfl ?_
  exact ⟨rfl, (Below.refl _ _).alloc (Nat.le_refl _) _⟩

theorem none_get1 (id : ByteArray) : getOf 0 (fun _ _ => none) 0 0 id ⟨#[105, 110, 116]⟩ = ((0, 0), 220) := rfl
theorem none_get2 (id : ByteArray) : getOf 0 (fun _ _ => none) 3 1 id ⟨#[105, 110, 116]⟩ = ((0, 0), 220) := rfl
theorem none_get3 (id : ByteArray) : getOf 0 (fun _ _ => none) 2 0 id ⟨#[105, 110, 116]⟩ = ((0, 0), 1) := rfl

set_option maxRecDepth 100000 in
set_option maxHeartbeats 8000000 in
theorem HeapNone_any (id : ByteArray) (many : Int) (hid : id.size ≤ maxLen) (w : World) (hp : Pow w) : Calls Tryd.prog 11 #[.string id, .int .i64 many] w fun e w' => e = .returned (.bool true) ∧ Below w.heap.size w w' := by
  go_enter Tryd.func11, Tryd.ntmps11
  go_wp2_with fail
  refine (hawake_any _ hp).mono ?_
  rintro e w1 ⟨rfl, b1⟩
  go_wp2_with fail
  refine (Make_nil id _).mono ?_
  rintro e w2 ⟨rfl, b2⟩
  have B2 := b1.trans (b2.mono b1.size)
  clear b1 b2
  go_wp2_with fail
  refine (Class_nil 3 1 _).mono ?_
  rintro e w3 ⟨rfl, b3⟩
  have B3 := (B2.alloc B2.size (.cells #[.int .i64 0, .int .i64 0] 44)).trans (b3.mono (by have := B2.size; simp; omega))
  clear B2 b3
  go_wp2_with fail
  refine (Get_nil 1 0 id id _).mono ?_
  rintro e w4 ⟨rfl, b4⟩
  have B4 := B3.trans (b4.mono B3.size)
  clear B3 b4
  go_wp2_with fail
  refine (Set_nil 1 0 0 0 id _).mono ?_
  rintro e w5 ⟨rfl, b5⟩
  have B5 := (B4.alloc B4.size (.cells #[.int .i64 0, .int .i64 0] 44)).trans (b5.mono (by have := B4.size; simp; omega))
  clear B4 b5
  go_wp2_with fail
  refine (Many_nil _).mono ?_
  rintro e w6 ⟨rfl, rfl⟩
  go_wp2_with fail
  refine (New_any _).mono ?_
  rintro e w7 ⟨rfl, hw7⟩
  have H0 : Hp w7 w.heap.size w6.heap.size [] 0 (fun _ _ => none) := by rw [hw7]; exact Hp.made _ _
  have B7 : Below w.heap.size w w7 := by rw [hw7]; exact B5.alloc B5.size _
  have hl6 := B5.size
  clear hw7 B5
  go_wp2_with fail
  refine (Get_any 0 0 (by decide) id ⟨#[105, 110, 116]⟩ hid _ _ _ _ _ _ H0).mono ?_
  rw [show List.length ([] : List ByteArray) = 0 from rfl, none_get1]
  rintro e w8 ⟨rfl, b8⟩
  have H8 := (H0.later b8).later ((Below.refl _ _).alloc (Nat.le_refl _) (.cells #[.int .i64 0, .int .i64 0] 44))
  have B8 := (B7.trans (b8.mono B7.size)).alloc (by have := (B7.trans (b8.mono B7.size)).size; exact this) (.cells #[.int .i64 0, .int .i64 0] 44)
  clear H0 B7 b8
  go_wp2_with fail
  refine (Get_any 3 1 (by decide) id ⟨#[105, 110, 116]⟩ hid _ _ _ _ _ _ H8).mono ?_
  rw [show List.length ([] : List ByteArray) = 0 from rfl, none_get2]
  rintro e w9 ⟨rfl, b9⟩
  have H9 := (H8.later b9).later ((Below.refl _ _).alloc (Nat.le_refl _) (.cells #[.int .i64 0, .int .i64 0] 44))
  have B9 := (B8.trans (b9.mono B8.size)).alloc (by have := (B8.trans (b9.mono B8.size)).size; exact this) (.cells #[.int .i64 0, .int .i64 0] 44)
  clear H8 B8 b9
  go_wp2_with fail
  refine (Get_any 2 0 (by decide) id ⟨#[105, 110, 116]⟩ hid _ _ _ _ _ _ H9).mono ?_
  rw [show List.length ([] : List ByteArray) = 0 from rfl, none_get3]
  rintro e wA ⟨rfl, bA⟩
  have HA := (H9.later bA).later ((Below.refl _ _).alloc (Nat.le_refl _) (.cells #[.int .i64 0, .int .i64 0] 44))
  have BA := (B9.trans (bA.mono B9.size)).alloc (by have := (B9.trans (bA.mono B9.size)).size; exact this) (.cells #[.int .i64 0, .int .i64 0] 44)
  clear H9 B9 bA
  obtain ⟨g, hg⟩ : ∃ g, w6.heap.size = g := ⟨_, rfl⟩
  rw [hg] at HA hl6 ⊢
  obtain ⟨W, hW⟩ : ∃ W, Hid (wA.alloc (.cells #[.int .i64 0, .int .i64 0] 44) = W) := ⟨_, rfl⟩
  rw [hW.out] at HA BA
  by_cases hbits : (bits BinOp.and IntKind.i64 many 15 != 0) = true
  · go_wp2_with fail
    rw [hW.out]
    go_ret
    exact ⟨rfl, BA⟩
  · have hbit : (bits BinOp.and IntKind.i64 many 15 != 0) = false := by simpa using hbits
    clear hbits
    go_wp2_with fail
    rw [hW.out]
    clear hW hp hid hbit
    go_loopw [21] (fun i wr => ∃ k : Nat, k ≤ 10000 ∧ i = .int .i64 k ∧ (∃ cs : List ByteArray, cs.length = k ∧ Hp wr w.heap.size g cs 0 (fun _ _ => none)) ∧ Below w.heap.size w wr) (fun i _ => 10000 - (intOf i).toNat)
    case atStart => exact ⟨0, Nat.zero_le _, rfl, ⟨[], rfl, HA⟩, BA⟩
    case round =>
      obtain ⟨k, hk, rfl, ⟨cs, hcs, H⟩, hB⟩ := hrel
      have Hcs := Lib.hid hcs; clear hcs
      by_cases hlt : k < 10000
      · go_wp2_with fail
        refine (Make_in ⟨#[65]⟩ _ w.heap.size g 0 cs _ (by rw [Hcs.out]; exact hlt) hB.size H).mono ?_
        rintro e w' ⟨rfl, H', T⟩
        have hB' := hB.trans (T.below (Nat.le_refl _) hl6 hB.size)
        clear T H hB
        go_wp2
        go_roundw
        case rel => exact ⟨k + 1, by omega, by go_num, ⟨cs ++ [⟨#[65]⟩], by rw [List.length_append, Hcs.out]; rfl, H'⟩, hB'⟩
        case measure => simp [intOf]; omega
      · obtain rfl : k = 10000 := by omega
        clear hlt hk
        go_wp2_with fail
        refine (Make_full ⟨#[65]⟩ _ w.heap.size g 0 cs _ Hcs.out H).mono ?_
        rintro e w1 ⟨rfl, b1⟩
        have H1 := H.later b1
        have hB1 := hB.trans (b1.mono hB.size)
        have H2 := H1.later ((Below.refl _ _).alloc (Nat.le_refl _) (.cells #[.int .i64 0, .int .i64 0] 44))
        have hB2 := hB1.alloc hB1.size (.cells #[.int .i64 0, .int .i64 0] 44)
        have kf : ∀ W : World, (binOp .eql 44 (val2 0 0) (val2 0 0)).run Tryd.prog W = .ok (.bool true) W := fun _ => by kernel_rfl
        go_wp2_with fail
        refine (Many_in _ _ _ _ _ _ H2).mono ?_
        rw [Hcs.out]
        rintro e w2 ⟨rfl, rfl⟩
        go_wp2
        go_ret
        exact ⟨rfl, hB2⟩
end Go.Proofs.YtpaknaaainhgfaaDoor
