/-
  For the laws of token: the document's examples hold. Condition: the library's own variables and the table are as they are laid.
-/
import Derived.Test.YtamhlobjolnlhaaDoorSpell
import Derived.Test.YtamhlobjolnlhaaDoorAt
namespace Go.Proofs.YtamhlobjolnlhaaDoor
open Go.RowKit Go.Shelf

theorem kind_one {l : List UInt8} {k : Int} (h1 : sep l = (0, true)) (h2 : first l = (k, l.length, 0)) (h3 : l ≠ []) : kindOf l = k := by
  have hl : 0 < l.length := List.length_pos_iff.2 h3
  have e : lexR 0 l = ([⟨k, l, 0, []⟩, ⟨5, [], l.length, []⟩], 0, 0) := by
    have e2 : lexR l.length [] = ([⟨5, [], l.length, []⟩], 0, 0) := by rw [lexR, sep_nil]; simp
    rw [lexR, h1]
    simp only [List.drop_zero, Nat.add_zero, Nat.zero_add]
    rw [if_neg (by simp), if_neg h3, h2]
    simp only
    rw [if_neg (by omega), List.drop_length, e2]
    simp
  unfold kindOf
  rw [e]
  simp [kindIn]
theorem k_a : kindOf [97] = 1 := kind_one (by simp [sep, blank]) (by decide) (by simp)
theorem k_b : kindOf [98] = 1 := kind_one (by simp [sep, blank]) (by decide) (by simp)
theorem k_1 : kindOf [49] = 2 := kind_one (by simp [sep, blank]) (by decide) (by simp)
theorem k_lt : kindOf [60] = 4 := kind_one (by simp [sep, blank]) (by decide) (by simp)
theorem k_eq : kindOf [61] = 4 := kind_one (by simp [sep, blank]) (by decide) (by simp)
theorem k_cl : kindOf [41] = 4 := kind_one (by simp [sep, blank]) (by decide) (by simp)
theorem k_sl : kindOf [47] = 4 := kind_one (by simp [sep, blank]) (by decide) (by simp)
theorem k_st : kindOf [42] = 4 := kind_one (by simp [sep, blank]) (by decide) (by simp)
theorem k_wh : kindOf [119, 104, 105, 108, 101] = 3 := kind_one (by simp [sep, blank]) (by decide) (by simp)
theorem g_a1 : gapOf [97] [49] = true := by unfold gapOf; rw [k_a, k_1]; decide
theorem g_le : gapOf [60] [61] = true := by unfold gapOf; rw [k_lt, k_eq]; decide
theorem g_ss : gapOf [47] [42] = true := by unfold gapOf; rw [k_sl, k_st]; decide
theorem g_1a : gapOf [49] [97] = false := by unfold gapOf; rw [k_1, k_a]; decide
theorem g_ca : gapOf [41] [97] = false := by unfold gapOf; rw [k_cl, k_a]; decide
theorem g_1l : gapOf [49] [60] = false := by unfold gapOf; rw [k_1, k_lt]; decide
theorem g_ec : gapOf [61] [41] = false := by unfold gapOf; rw [k_eq, k_cl]; decide
theorem g_cb : gapOf [41] [98] = false := by unfold gapOf; rw [k_cl, k_b]; decide
def exL : List (List UInt8) := [[97], [49], [60], [61], [41], [98]]
theorem ex_spell : spellTo exL 6 = [97, 32, 49, 60, 32, 61, 41, 98] := by
  have t0 : gapAt exL 0 = false := rfl
  have t1 : gapAt exL 1 = true := g_a1
  have t2 : gapAt exL 2 = false := g_1l
  have t3 : gapAt exL 3 = true := g_le
  have t4 : gapAt exL 4 = false := g_ec
  have t5 : gapAt exL 5 = false := g_cb
  rw [spell_next, spell_next, spell_next, spell_next, spell_next, spell_next, t0, t1, t2, t3, t4, t5]
  rfl
theorem ex_kinds : ∀ x ∈ exL, kindOf x ≠ 0 := by
  intro x hx
  simp only [exL, List.mem_cons, List.not_mem_nil, or_false] at hx
  rcases hx with rfl | rfl | rfl | rfl | rfl | rfl
  · rw [k_a]; decide
  · rw [k_1]; decide
  · rw [k_lt]; decide
  · rw [k_eq]; decide
  · rw [k_cl]; decide
  · rw [k_b]; decide
theorem ex_row (w : World) : Strs (w.alloc (.cells #[.string ⟨#[97]⟩, .string ⟨#[49]⟩, .string ⟨#[60]⟩, .string ⟨#[61]⟩, .string ⟨#[41]⟩, .string ⟨#[98]⟩] 9)) (.slice (some ⟨w.heap.size, 0, none⟩) 6 6) exL := by
  refine ⟨_, 6, rfl, Nat.le_refl _, by simp [maxLen], fun k x h => ⟨w.heap.size, 0, rfl, by simp, ?_⟩⟩
  rw [Lib.cell_of_heap (World.alloc_heap_new w _)]
  have hm : (#[.string ⟨#[97]⟩, .string ⟨#[49]⟩, .string ⟨#[60]⟩, .string ⟨#[61]⟩, .string ⟨#[41]⟩, .string ⟨#[98]⟩] : Array Value).toList = exL.map (fun x => Value.string (bs x)) := rfl
  show _[0 + k]? = _
  rw [Nat.zero_add, ← Array.getElem?_toList, hm, List.getElem?_map, h]
  rfl
theorem tok_row (W : World) (t : Tk) : Toks (W.alloc (.cells #[.int .i64 t.kind, .string (bs t.text), .int .i64 t.at_, .string (bs t.lead)] 30)) (.slice (some ⟨W.heap.size, 0, none⟩) 1 1) [t] := by
  have h := World.alloc_heap_new W (.cells #[.int .i64 t.kind, .string (bs t.text), .int .i64 t.at_, .string (bs t.lead)] 30)
  refine ⟨_, 1, rfl, Nat.le_refl _, by simp [maxLen], fun k u hk => ⟨W.heap.size, 0, rfl, by simp, ?_⟩⟩
  have hk0 : k = 0 := by have := (List.getElem?_eq_some_iff.1 hk).1; simp at this; omega
  subst hk0
  obtain rfl : t = u := by simpa using hk
  refine ⟨?_, ?_, ?_, ?_⟩ <;> rw [Lib.cell_of_heap h] <;> rfl
set_option maxRecDepth 100000 in
set_option maxHeartbeats 8000000 in
theorem wake4_any (w : World) (hW : TokW w) : Calls Tryd.prog 21 #[] w fun e w' => e = .returned (.bool true) ∧ Below w.heap.size w w' := by
  have HW := Lib.hid hW; clear hW
  have hW4 := HW.out.lex.size
  have hS := Lib.hid (ex_row w)
  have hB0 := Lib.hid ((Below.refl _ w).alloc (Nat.le_refl _) (.cells #[.string ⟨#[97]⟩, .string ⟨#[49]⟩, .string ⟨#[60]⟩, .string ⟨#[61]⟩, .string ⟨#[41]⟩, .string ⟨#[98]⟩] 9))
  go_enter Tryd.func21, Tryd.ntmps21
  go_wp2_with fail
  refine (Spell_any _ exL _ hS.out (HW.out.below hB0.out hW4) (by decide) (by decide)).mono ?_
  rintro e w1 ⟨hr, b1⟩
  have B1 := hB0.out.trans (b1.mono hB0.out.size)
  rcases hr with ⟨⟨x, hx, h0⟩, -⟩ | ⟨-, rfl⟩
  · exact absurd h0 (ex_kinds x hx)
  rw [show exL.length = 6 from rfl, ex_spell]
  clear b1
  go_wp2_with fail
  refine (Gap_any ⟨#[97]⟩ ⟨#[49]⟩ _ (HW.out.below B1 hW4) (by decide) (by decide)).mono ?_
  rw [show gapOf (tl ⟨#[97]⟩) (tl ⟨#[49]⟩) = true from g_a1]
  rintro e w2 ⟨rfl, b2⟩
  have B2 := B1.trans (b2.mono B1.size)
  clear B1 b2
  go_wp2_with fail
  refine (Gap_any ⟨#[60]⟩ ⟨#[61]⟩ _ (HW.out.below B2 hW4) (by decide) (by decide)).mono ?_
  rw [show gapOf (tl ⟨#[60]⟩) (tl ⟨#[61]⟩) = true from g_le]
  rintro e w3 ⟨rfl, b3⟩
  have B3 := B2.trans (b3.mono B2.size)
  clear B2 b3
  go_wp2_with fail
  refine (Gap_any ⟨#[47]⟩ ⟨#[42]⟩ _ (HW.out.below B3 hW4) (by decide) (by decide)).mono ?_
  rw [show gapOf (tl ⟨#[47]⟩) (tl ⟨#[42]⟩) = true from g_ss]
  rintro e w4 ⟨rfl, b4⟩
  have B4 := B3.trans (b4.mono B3.size)
  clear B3 b4
  go_wp2_with fail
  refine (Gap_any ⟨#[49]⟩ ⟨#[97]⟩ _ (HW.out.below B4 hW4) (by decide) (by decide)).mono ?_
  rw [show gapOf (tl ⟨#[49]⟩) (tl ⟨#[97]⟩) = false from g_1a]
  rintro e w5 ⟨rfl, b5⟩
  have B5 := B4.trans (b5.mono B4.size)
  clear B4 b5
  go_wp2_with fail
  refine (Gap_any ⟨#[41]⟩ ⟨#[97]⟩ _ (HW.out.below B5 hW4) (by decide) (by decide)).mono ?_
  rw [show gapOf (tl ⟨#[41]⟩) (tl ⟨#[97]⟩) = false from g_ca]
  rintro e w6 ⟨rfl, b6⟩
  have B6 := B5.trans (b6.mono B5.size)
  clear B5 b6
  rw [show bs [97, 32, 49, 60, 32, 61, 41, 98] = { data := #[97, 32, 49, 60, 32, 61, 41, 98] } from rfl]
  go_wp2_with fail
  refine (Kind_any ⟨#[119, 104, 105, 108, 101]⟩ _ (HW.out.lex.below B6 hW4) (by decide)).mono ?_
  rw [show kindOf (tl ⟨#[119, 104, 105, 108, 101]⟩) = 3 from k_wh]
  rintro e w7 ⟨rfl, b7⟩
  have B7 := B6.trans (b7.mono B6.size)
  clear B6 b7
  have hT7 : Toks (w7.alloc (.cells #[.int .i64 0, .string ⟨#[97, 98]⟩, .int .i64 3, .string ⟨#[]⟩] 30)) (.slice (some ⟨w7.heap.size, 0, none⟩) 1 1) [⟨0, [97, 98], 3, []⟩] := tok_row w7 ⟨0, [97, 98], 3, []⟩
  have hT7 := Lib.hid hT7
  have hB7 := B7.alloc B7.size (.cells #[.int .i64 0, .string ⟨#[97, 98]⟩, .int .i64 3, .string ⟨#[]⟩] 30)
  have HB7 := Lib.hid hB7
  clear B7 hB7
  go_wp2_with fail
  refine (At_any _ [⟨0, [97, 98], 3, []⟩] 4 _ hT7.out (by decide) (by decide) (by decide)).mono ?_
  rintro e w8 ⟨⟨r, rfl, hr⟩, b8⟩
  obtain rfl : r = 0 := by
    rcases hr with ⟨-, h⟩ | ⟨k, t, rfl, h, -⟩
    · exact absurd (by unfold Tk.has; decide) (h _ (List.mem_singleton.2 rfl))
    · have := (List.getElem?_eq_some_iff.1 h).1; simp at this; omega
  have B8 := HB7.out.trans (b8.mono HB7.out.size)
  clear b8 hr
  have hT8 : Toks (w8.alloc (.cells #[.int .i64 1, .string ⟨#[97]⟩, .int .i64 0, .string ⟨#[]⟩] 30)) (.slice (some ⟨w8.heap.size, 0, none⟩) 1 1) [⟨1, [97], 0, []⟩] := tok_row w8 ⟨1, [97], 0, []⟩
  have hT8 := Lib.hid hT8
  have HB8 := Lib.hid (B8.alloc B8.size (.cells #[.int .i64 1, .string ⟨#[97]⟩, .int .i64 0, .string ⟨#[]⟩] 30))
  clear B8
  go_wp2_with fail
  refine (Texts_any _ [⟨1, [97], 0, []⟩] _ hT8.out (by decide)).mono ?_
  rw [show textsL [⟨1, [97], 0, []⟩] = [[97]] from rfl]
  rintro e w9 ⟨⟨v9, rfl, ho9⟩, b9⟩
  obtain ⟨a9, c9, rfl, -⟩ := own_strs ho9
  have B9 := HB8.out.trans (b9.mono HB8.out.size)
  simp only [List.length_cons, List.length_nil, Nat.zero_add]
  go_wp2_with fail
  go_ret
  exact ⟨rfl, B9⟩
end Go.Proofs.YtamhlobjolnlhaaDoor
