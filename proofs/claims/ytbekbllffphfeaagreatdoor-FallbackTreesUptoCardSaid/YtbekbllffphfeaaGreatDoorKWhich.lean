/-
  For the laws of marker: which mark a line is, and a text without its last newline, by the reference. Condition: lines of at most 5,000,000 bytes, marks of 1 to 100,000.
-/
import Derived.Test.YtbekbllffphfeaaGreatDoorKPstate
namespace Go.Proofs.YtbekbllffphfeaaGreatDoor.K
open Go.RowKit Go.Shelf
set_option linter.unusedSimpArgs false

theorem ext_dropLast (s : ByteArray) : s.extract 0 (s.size - 1) = bs (tl s).dropLast := by
  rw [ext_bs, List.dropLast_eq_take, tl_length]; simp
set_option maxRecDepth 100000 in
set_option maxHeartbeats 2000000 in
theorem trimmed_yes (s : ByteArray) (hs : s.size ≤ 50000000) (h : (tl s).getLast? = some 10) (w : World) : Calls Tryz.prog 52 #[.string s] w fun e w' => e = .returned (.tuple #[.string (bs (tl s).dropLast), .bool true]) ∧ w' = w := by
  have hp := size_pos (s := s) h
  have hlt2 : s.size - 1 < s.size := by omega
  have hby := last_no hlt2 h
  have hd1 : ((s.size : Int) == 0) = false := by rw [beq_eq_false_iff_ne]; omega
  have g3 : ((s.size : Int) - 1).toNat = s.size - 1 := by omega
  have g5 : (0 : Int) ≤ (s.size : Int) - 1 := by omega
  have g6 : (s.size : Int) - 1 < s.size := by omega
  have g7 : (s.size : Int) - 1 ≤ s.size := by omega
  have he := ext_dropLast s
  clear h
  go_enter Tryz.func52, Tryz.ntmps52
  go_wp2
  go_ret2
  exact ⟨rfl, rfl⟩
set_option maxRecDepth 100000 in
set_option maxHeartbeats 2000000 in
theorem trimmed_no (s : ByteArray) (hs : s.size ≤ 50000000) (h : ¬ (tl s).getLast? = some 10) (w : World) : Calls Tryz.prog 52 #[.string s] w fun e w' => e = .returned (.tuple #[.string s, .bool false]) ∧ w' = w := by
  cases hl : (tl s).getLast? with
  | none =>
    have hz : s.size = 0 := size_zero (List.getLast?_eq_none_iff.1 hl)
    have hd1 : ((s.size : Int) == 0) = true := by rw [hz]; rfl
    have Hz := Lib.hid hz
    clear hz hl h
    go_enter Tryz.func52, Tryz.ntmps52
    go_wp2
    go_ret2
    exact ⟨rfl, rfl⟩
  | some c =>
    have hc : c ≠ 10 := fun e => h (by rw [hl, e])
    have hp := size_pos (s := s) hl
    have hlt2 : s.size - 1 < s.size := by omega
    have hby := last_yes hlt2 hl hc
    have hd1 : ((s.size : Int) == 0) = false := by rw [beq_eq_false_iff_ne]; omega
    have g3 : ((s.size : Int) - 1).toNat = s.size - 1 := by omega
    have g5 : (0 : Int) ≤ (s.size : Int) - 1 := by omega
    have g6 : (s.size : Int) - 1 < s.size := by omega
    clear h hl
    go_enter Tryz.func52, Tryz.ntmps52
    go_wp2
    go_ret2
    exact ⟨rfl, rfl⟩
/-- The reference's order of the marks. -/
def secOf (i : Nat) : Nat := if i = 3 then 0 else i + 1
def posOf (s : Nat) : Nat := if s = 0 then 3 else s - 1
def refK (s : Nat) : Int := if s = 0 then 4 else s
def bk (c : Bool) : Nat := if c then 1 else 0
/-- What which answers. -/
def whichV (r : Option (Nat × Bool)) : Value :=
  match r with
  | some (s, c) => .tuple #[.int .i64 (refK s), .bool c]
  | none => .tuple #[.int .i64 0, .bool false]
theorem refK_sec {i : Nat} (h : i < 4) : refK (secOf i) = (i : Int) + 1 := by
  have h4 : i = 0 ∨ i = 1 ∨ i = 2 ∨ i = 3 := by omega
  rcases h4 with rfl | rfl | rfl | rfl <;> rfl
theorem sec_lt {i : Nat} (h : i < 4) : secOf i < 4 := by unfold secOf; split <;> omega
theorem pos_lt {s : Nat} (h : s < 4) : posOf s < 4 := by unfold posOf; split <;> omega
theorem sec_pos {s : Nat} (h : s < 4) : secOf (posOf s) = s := by unfold secOf posOf; split <;> split <;> omega
theorem signs_at {i : Nat} (h : i < 4) : (#[.string ⟨#[60]⟩, .string ⟨#[124]⟩, .string ⟨#[61]⟩, .string ⟨#[62]⟩] : Array Value)[i]? = some (.string (bs [signB (secOf i)])) := by
  have h4 : i = 0 ∨ i = 1 ∨ i = 2 ∨ i = 3 := by omega
  rcases h4 with rfl | rfl | rfl | rfl <;> rfl
theorem words_at {i : Nat} (h : i < 4) : (#[.string ⟨#[111, 117, 114, 115]⟩, .string ⟨#[98, 97, 115, 101]⟩, .string ⟨#[]⟩, .string ⟨#[116, 104, 101, 105, 114, 115]⟩] : Array Value)[i]? = some (.string (bs (labB (secOf i)))) := by
  have h4 : i = 0 ∨ i = 1 ∨ i = 2 ∨ i = 3 := by omega
  rcases h4 with rfl | rfl | rfl | rfl <;> rfl
/-- No mark was met ahead of place i, sign k. -/
def NoYet (n : Nat) (l : By) (i k : Nat) : Prop := ∀ s c, IsM n l s c → i < posOf s ∨ (i = posOf s ∧ k ≤ bk c)
theorem NoYet.start (n : Nat) (l : By) : NoYet n l 0 0 := fun s c _ => by
  rcases Nat.eq_zero_or_pos (posOf s) with h | h
  · exact .inr ⟨h.symm, Nat.zero_le _⟩
  · exact .inl h
theorem NoYet.next {n i : Nat} {l : By} (h : NoYet n l i 2) : NoYet n l (i + 1) 0 := fun s c hm => by
  rcases h s c hm with h1 | ⟨h1, h2⟩
  · rcases Nat.lt_or_ge (i + 1) (posOf s) with h3 | h3
    · exact .inl h3
    · exact .inr ⟨by omega, Nat.zero_le _⟩
  · unfold bk at h2; split at h2 <;> omega
theorem NoYet.done {n : Nat} {l : By} (h : NoYet n l 4 0) : markOf n l = none := markOf_none fun s c hm => by
  have := pos_lt hm.1
  rcases h s c hm with h1 | ⟨h1, -⟩ <;> omega
theorem NoYet.step {n i k : Nat} {l : By} (h : NoYet n l i k) (hk : k < 2) (hno : ¬ IsM n l (secOf i) (k == 1)) : NoYet n l i (k + 1) := fun s c hm => by
  rcases h s c hm with h1 | ⟨h1, h2⟩
  · exact .inl h1
  · refine .inr ⟨h1, ?_⟩
    have hne : k ≠ bk c := fun e => hno (by
      rw [h1, sec_pos hm.1, show (k == 1) = c from by subst e; cases c <;> rfl]
      exact hm)
    omega
set_option maxRecDepth 100000 in
set_option maxHeartbeats 8000000 in
theorem which_any (l : ByteArray) (n : Nat) (hn : 1 ≤ n) (hn2 : n ≤ 100000) (w : World) : Calls Tryz.prog 51 #[.string l, .int .i64 n] w fun e w' => e = .returned (whichV (markOf n (tl l))) ∧ Below w.heap.size w w' := by
  by_cases h1 : l.size ≤ n
  · have f1 : decide ((l.size : Int) ≤ (n : Int)) = true := decide_eq_true (by omega)
    have hno : Hid (markOf n (tl l) = none) := Lib.hid (markOf_len hn (by rw [tl_length]; exact h1))
    rw [hno.out]
    go_enter Tryz.func51, Tryz.ntmps51
    go_wp2_with fail
    go_ret2
    exact ⟨rfl, Below.refl _ _⟩
  · have f1 : decide ((l.size : Int) ≤ (n : Int)) = false := decide_eq_false (by omega)
    obtain ⟨V, hV⟩ : ∃ V, Hid (whichV (markOf n (tl l)) = V) := ⟨_, Lib.hid rfl⟩
    rw [hV.out]
    obtain ⟨W1, hW1⟩ : ∃ W1, Hid (w.alloc (.cells #[.string ⟨#[60]⟩, .string ⟨#[124]⟩, .string ⟨#[61]⟩, .string ⟨#[62]⟩] 9) = W1) := ⟨_, Lib.hid rfl⟩
    obtain ⟨W2, hW2⟩ : ∃ W2, Hid (W1.alloc (.cells #[.string ⟨#[111, 117, 114, 115]⟩, .string ⟨#[98, 97, 115, 101]⟩, .string ⟨#[]⟩, .string ⟨#[116, 104, 101, 105, 114, 115]⟩] 9) = W2) := ⟨_, Lib.hid rfl⟩
    have s1 : W1.heap.size = w.heap.size + 1 := by rw [← hW1.out, World.size_alloc]
    have r1 : RowAt W1 w.heap.size 9 #[.string ⟨#[60]⟩, .string ⟨#[124]⟩, .string ⟨#[61]⟩, .string ⟨#[62]⟩] := by rw [← hW1.out]; exact RowAt.new w 9 _
    have r2 : RowAt W2 (w.heap.size + 1) 9 #[.string ⟨#[111, 117, 114, 115]⟩, .string ⟨#[98, 97, 115, 101]⟩, .string ⟨#[]⟩, .string ⟨#[116, 104, 101, 105, 114, 115]⟩] := by rw [← hW2.out, ← s1]; exact RowAt.new W1 9 _
    have R1 : Hid (RowAt W2 w.heap.size 9 #[.string ⟨#[60]⟩, .string ⟨#[124]⟩, .string ⟨#[61]⟩, .string ⟨#[62]⟩]) := by rw [← hW2.out]; exact Lib.hid (r1.alloc _)
    have R2 := Lib.hid r2
    have B2 : Hid (Below w.heap.size w W2) := by
      rw [← hW2.out, ← hW1.out]; exact Lib.hid (((Below.refl _ w).alloc (Nat.le_refl _) _).alloc (by simp) _)
    clear s1 r1 r2
    go_enter Tryz.func51, Tryz.ntmps51
    go_wp2_with fail
    rw [hW1.out, hW2.out]
    go_loopw [8] (fun c wr => ∃ i : Nat, c = .int .i64 i ∧ i ≤ 4 ∧ Hid (NoYet n (tl l) i 0) ∧ ∃ q, Hid (wr = W2.drewN q)) (fun c _ => 4 - (intOf c).toNat)
    case atStart => exact ⟨0, rfl, by omega, Lib.hid (NoYet.start _ _), 0, Lib.hid rfl⟩
    case round =>
      obtain ⟨i, rfl, hi, hno, q, hq⟩ := hrel
      by_cases hi4 : i < 4
      · have f4 : decide ((i : Int) < 4) = true := decide_eq_true (by omega)
        obtain ⟨c, hc⟩ : ∃ c, Hid (signB (secOf i) = c) := ⟨_, Lib.hid rfl⟩
        obtain ⟨x, hx⟩ : ∃ x, Hid (labB (secOf i) = x) := ⟨_, Lib.hid rfl⟩
        have hxl : x.length ≤ 6 := by rw [← hx.out]; exact labB_le _
        have d0 : Hid (W2.cell? ⟨w.heap.size, i, none⟩ = some (.string (bs [c]))) := by rw [← hc.out]; exact Lib.hid (R1.out.cell (signs_at hi4))
        have d1 : Hid (W2.cell? ⟨w.heap.size + 1, i, none⟩ = some (.string (bs x))) := by rw [← hx.out]; exact Lib.hid (R2.out.cell (words_at hi4))
        go_wp2_with fail
        go_loopw [9] (fun c wx => ∃ k : Nat, c = .int .i64 k ∧ k ≤ 2 ∧ Hid (NoYet n (tl l) i k) ∧ ∃ q, Hid (wx = W2.drewN q)) (fun c _ => 2 - (intOf c).toNat)
        case atStart => exact ⟨0, rfl, by omega, hno, q, hq⟩
        case round =>
          obtain ⟨k, rfl, hk, hno2, q2, hq2⟩ := hrel
          by_cases hk2 : k < 2
          · have f5 : decide ((k : Int) < 2) = true := decide_eq_true (by omega)
            obtain ⟨kc, hkc⟩ : ∃ kc : Bool, Hid ((k == 1) = kc) := ⟨_, Lib.hid rfl⟩
            have hkc2 : ((k : Int) == 1) = kc := by rw [← hkc.out, Bool.eq_iff_iff]; simp; omega
            obtain ⟨A, hA⟩ : ∃ A, Hid (mk c n kc x = A) := ⟨_, Lib.hid rfl⟩
            obtain ⟨B, hB⟩ : ∃ B, Hid (mk c n kc [] = B) := ⟨_, Lib.hid rfl⟩
            have e0 : wr.cell? ⟨w.heap.size, i, none⟩ = some (.string (bs [c])) := by rw [hq2.out]; exact d0.out
            have e1 : wr.cell? ⟨w.heap.size + 1, i, none⟩ = some (.string (bs x)) := by rw [hq2.out]; exact d1.out
            have p0 : (0 : Int) ≤ (i : Int) := by omega
            have Q1 : Hid (∀ m, Calls Tryz.prog 60 #[.string (bs [c]), .int .i64 n, .bool kc, .string (bs x)] (wr.drewN m) fun e w'' => e = .returned (.string (bs A)) ∧ ∃ q, w'' = wr.drewN q) := Lib.hid fun m => by
              rw [← hA.out]; exact Calls.quiet_of_same (refmark_same c n hn2 kc x (by omega) _)
            go_wp2_with fail
            go_quiet (with_reducible exact Q1.out _)
            go_wp2_with fail
            refine (refmark_same c n hn2 kc [] (by decide) _).mono ?_
            rw [hB.out]
            rintro e w3 ⟨rfl, rfl⟩
            have HBw : Hid (Below w.heap.size w (wr.drewN nq)) := by rw [hq2.out]; exact Lib.hid (below_draws (below_draws B2.out _) _)
            have tlt : l.toList = tl l := Lib.toList_data l
            by_cases ha : tl l = A
            · have g1 : (l.toList == A) = true := by rw [tlt]; simpa using ha
              have hm : IsM n (tl l) (secOf i) kc := ⟨sec_lt hi4, .inr (by rw [hc.out, hx.out, hA.out]; exact ha)⟩
              have hfin : Hid (Value.tuple #[.int .i64 ((i : Int) + 1), .bool kc] = V) := Lib.hid (by
                rw [← hV.out, markOf_some hn hm]
                show _ = Value.tuple #[.int .i64 (refK (secOf i)), .bool kc]
                rw [refK_sec hi4])
              clear tlt ha hm Q1
              go_wp2_with fail
              go_ret2
              exact ⟨congrArg Ending.returned hfin.out, HBw.out⟩
            · have g1 : (l.toList == A) = false := by rw [tlt]; simpa using ha
              by_cases hb : tl l = B
              · have g2 : (l.toList == B) = true := by rw [tlt]; simpa using hb
                have hm : IsM n (tl l) (secOf i) kc := ⟨sec_lt hi4, .inl (by rw [hc.out, hB.out]; exact hb)⟩
                have hfin : Hid (Value.tuple #[.int .i64 ((i : Int) + 1), .bool kc] = V) := Lib.hid (by
                  rw [← hV.out, markOf_some hn hm]
                  show _ = Value.tuple #[.int .i64 (refK (secOf i)), .bool kc]
                  rw [refK_sec hi4])
                clear tlt ha hb hm Q1
                go_wp2_with fail
                go_ret2
                exact ⟨congrArg Ending.returned hfin.out, HBw.out⟩
              · have g2 : (l.toList == B) = false := by rw [tlt]; simpa using hb
                have hnx : Hid (NoYet n (tl l) i (k + 1)) := Lib.hid (hno2.out.step hk2 (by
                  rw [hkc.out]
                  rintro ⟨-, h | h⟩
                  · rw [hc.out, hB.out] at h; exact hb h
                  · rw [hc.out, hx.out, hA.out] at h; exact ha h))
                clear tlt ha hb Q1
                go_wp2_with fail
                exact ⟨⟨k + 1, by go_num, by omega, hnx, q2 + nq, Lib.hid (by rw [hq2.out]; exact World.drewN_drewN _ q2 nq)⟩, by simp [intOf]; omega⟩
          · obtain rfl : k = 2 := by omega
            have hnx := Lib.hid hno2.out.next
            go_wp2_with fail
            exact ⟨⟨i + 1, by go_num, by omega, hnx, q2, hq2⟩, by simp [intOf]; omega⟩
      · obtain rfl : i = 4 := by omega
        have hfin : Hid (Value.tuple #[.int .i64 0, .bool false] = V) := Lib.hid (by rw [← hV.out, hno.out.done]; rfl)
        go_wp2_with fail
        go_ret2
        exact ⟨congrArg Ending.returned hfin.out, by rw [hq.out]; exact below_draws B2.out _⟩
end Go.Proofs.YtbekbllffphfeaaGreatDoor.K
