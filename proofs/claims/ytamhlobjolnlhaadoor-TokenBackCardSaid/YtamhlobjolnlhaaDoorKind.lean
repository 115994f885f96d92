/-
  For the laws of token: of which kind a text is. Condition: at most 1,048,576 bytes.
-/
import Derived.Test.YtamhlobjolnlhaaDoorRefl
namespace Go.Proofs.YtamhlobjolnlhaaDoor
open Go.RowKit Go.Shelf

/-- The kind of the one token that makes up l; or 0. -/
def kindIn (l : List UInt8) (T : List Tk) (e : Int) : Int :=
  if e = 0 then (match T with | [t, _] => if t.text = l then t.kind else 0 | _ => 0) else 0
def kindOf (l : List UInt8) : Int := kindIn l (lexR 0 l).1 (lexR 0 l).2.2
set_option maxRecDepth 100000 in
set_option maxHeartbeats 8000000 in
theorem Kind_any (s : ByteArray) (w : World) (hW : LexW w) (hs : s.size ≤ 1048576) : Calls Tryd.prog 22 #[.string s] w fun e w' => e = .returned (.int .i64 (kindOf (tl s))) ∧ Below w.heap.size w w' := by
  obtain ⟨q, hq⟩ : ∃ q, Hid (lexR 0 (tl s) = q) := ⟨_, Lib.hid rfl⟩
  unfold kindOf
  rw [hq.out]
  obtain ⟨T, p, x⟩ := q
  obtain ⟨r, hr⟩ : ∃ r, Hid (kindIn (tl s) T x = r) := ⟨_, Lib.hid rfl⟩
  simp only [hr.out]
  go_enter Tryd.func22, Tryd.ntmps22
  go_wp2_with fail
  refine (Lex_any s _ hW hs).mono ?_
  unfold LexGives
  rw [hq.out]
  simp only
  rintro e w2 ⟨⟨v2, rfl, a, cap, rfl, hc, hm, hat⟩, b2⟩
  clear hq
  by_cases h0 : x = 0
  · subst h0
    by_cases h2 : T.length = 2
    · match T, h2 with
      | [t, u], _ =>
        obtain ⟨b, off, rfl, hbl, c0, c1, c2, c3⟩ := hat 0 t rfl
        simp only [Nat.zero_mul, Nat.add_zero] at c0 c1 c2 c3
        have f := bs_beq s t.text
        clear hat
        simp only [List.length_cons, List.length_nil, Nat.reduceAdd] at *
        by_cases he : t.text = tl s
        · rw [decide_eq_true he] at f
          obtain rfl : r = t.kind := by rw [← hr.out]; simp [kindIn, he]
          clear hr he
          go_wp2_with fail
          go_ret
          exact ⟨rfl, b2⟩
        · rw [decide_eq_false he] at f
          obtain rfl : r = 0 := by rw [← hr.out]; simp [kindIn, he]
          clear hr he
          go_wp2_with fail
          go_ret
          exact ⟨rfl, b2⟩
    · have d1 : ((T.length : Int) != 2) = true := by rw [bne_iff_ne]; omega
      have hk : kindIn (tl s) T 0 = 0 := by
        clear hr hat hc d1
        match T, h2 with
        | [], _ => rfl
        | [_], _ => rfl
        | [_, _], h => simp at h
        | _ :: _ :: _ :: _, _ => rfl
      obtain rfl : r = 0 := hr.out.symm.trans hk
      clear hat hk h2 hr
      go_wp2_with fail
      go_ret
      exact ⟨rfl, b2⟩
  · have d0 : (x != 0) = true := by simpa using h0
    have hk : kindIn (tl s) T x = 0 := by unfold kindIn; rw [if_neg h0]
    obtain rfl : r = 0 := hr.out.symm.trans hk
    clear hat hk hr
    go_wp2_with fail
    go_ret
    exact ⟨rfl, b2⟩
set_option maxRecDepth 100000 in
set_option maxHeartbeats 8000000 in
theorem RefKind_any (s : ByteArray) (w : World) (hs : s.size ≤ 1048576) : Calls Tryd.prog 23 #[.string s] w fun e w' => e = .returned (.int .i64 (kindOf (tl s))) ∧ Below w.heap.size w w' := by
  obtain ⟨q, hq⟩ : ∃ q, Hid (lexR 0 (tl s) = q) := ⟨_, Lib.hid rfl⟩
  unfold kindOf
  rw [hq.out]
  obtain ⟨T, p, x⟩ := q
  obtain ⟨r, hr⟩ : ∃ r, Hid (kindIn (tl s) T x = r) := ⟨_, Lib.hid rfl⟩
  simp only [hr.out]
  go_enter Tryd.func23, Tryd.ntmps23
  go_wp2_with fail
  refine (RefLex_any s _ hs).mono ?_
  unfold LexGives
  rw [hq.out]
  simp only
  rintro e w2 ⟨⟨v2, rfl, a, cap, rfl, hc, hm, hat⟩, b2⟩
  clear hq
  by_cases h0 : x = 0
  · subst h0
    by_cases h2 : T.length = 2
    · match T, h2 with
      | [t, u], _ =>
        obtain ⟨b, off, rfl, hbl, c0, c1, c2, c3⟩ := hat 0 t rfl
        simp only [Nat.zero_mul, Nat.add_zero] at c0 c1 c2 c3
        have f := bs_beq s t.text
        clear hat
        simp only [List.length_cons, List.length_nil, Nat.reduceAdd] at *
        by_cases he : t.text = tl s
        · rw [decide_eq_true he] at f
          obtain rfl : r = t.kind := by rw [← hr.out]; simp [kindIn, he]
          clear hr he
          go_wp2_with fail
          go_ret
          exact ⟨rfl, b2⟩
        · rw [decide_eq_false he] at f
          obtain rfl : r = 0 := by rw [← hr.out]; simp [kindIn, he]
          clear hr he
          go_wp2_with fail
          go_ret
          exact ⟨rfl, b2⟩
    · have d1 : ((T.length : Int) != 2) = true := by rw [bne_iff_ne]; omega
      have hk : kindIn (tl s) T 0 = 0 := by
        clear hr hat hc d1
        match T, h2 with
        | [], _ => rfl
        | [_], _ => rfl
        | [_, _], h => simp at h
        | _ :: _ :: _ :: _, _ => rfl
      obtain rfl : r = 0 := hr.out.symm.trans hk
      clear hat hk h2 hr
      go_wp2_with fail
      go_ret
      exact ⟨rfl, b2⟩
  · have d0 : (x != 0) = true := by simpa using h0
    have hk : kindIn (tl s) T x = 0 := by unfold kindIn; rw [if_neg h0]
    obtain rfl : r = 0 := hr.out.symm.trans hk
    clear hat hk hr
    go_wp2_with fail
    go_ret
    exact ⟨rfl, b2⟩
end Go.Proofs.YtamhlobjolnlhaaDoor
