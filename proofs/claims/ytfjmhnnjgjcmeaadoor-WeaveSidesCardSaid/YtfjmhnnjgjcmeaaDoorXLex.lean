/-
  For the laws of lex: the tokens of a text. Condition: at most 1,048,576 bytes; the library's own variables are as they are laid.
-/
import Derived.Test.YtfjmhnnjgjcmeaaDoorXAdd
import Derived.Laws.EntriesVeiled
namespace Go.Proofs.YtfjmhnnjgjcmeaaDoor.X
open Go.RowKit Go.Shelf

/-- What comes of tokens that are there already. -/
def cont (T : List Tk) (q : List Tk × Nat × Int) : List Tk × Nat × Int := if q.2.2 ≠ 0 then ([], q.2) else (T ++ q.1, 0, 0)
theorem lexR_zero (n : Nat) (l : List UInt8) : (lexR n l).2.2 = 0 → (lexR n l).2.1 = 0 := by
  rw [lexR]
  split
  · simp
  · split
    · simp
    · split
      · intro h
        rcases first_cases (l.drop (sep l).1) with h1 | h1
        · rename_i h2; omega
        · simp only at h; omega
      · split
        · rename_i h; intro h2; exact absurd h2 h
        · simp
theorem lexR_err (n : Nat) (l : List UInt8) : (lexR n l).2.2 ≠ 0 → (lexR n l).1 = [] := by
  rw [lexR]
  split
  · simp
  · split
    · simp
    · split
      · simp
      · split
        · simp
        · simp
def LexAt (l : List UInt8) (k : Nat) (T : List Tk) : Prop := k ≤ l.length ∧ T.length ≤ k ∧ lexR 0 l = cont T (lexR k (l.drop k))
theorem LexAt.start (l : List UInt8) : LexAt l 0 [] := by
  refine ⟨Nat.zero_le _, Nat.le_refl _, ?_⟩
  unfold cont
  rw [List.drop_zero, List.nil_append]
  have h1 := lexR_zero 0 l
  have h2 := lexR_err 0 l
  generalize lexR 0 l = q at *
  obtain ⟨T, p, e⟩ := q
  by_cases h : e = 0
  · subst h
    have := h1 rfl
    simp only at this
    subst this
    simp
  · have := h2 h
    simp only at this
    subst this
    rw [if_pos h]
theorem LexAt.sep_err {l : List UInt8} {k : Nat} {T : List Tk} (h : LexAt l k T) (hs : (sep (l.drop k)).2 = false) : lexR 0 l = ([], k + (sep (l.drop k)).1, 32) := by
  rw [h.2.2, lexR, if_pos hs]
  rfl
theorem LexAt.first_err {l : List UInt8} {k : Nat} {T : List Tk} (h : LexAt l k T) (hs : (sep (l.drop k)).2 = true) (hne : (l.drop k).drop (sep (l.drop k)).1 ≠ []) (hf : (first ((l.drop k).drop (sep (l.drop k)).1)).2.2 ≠ 0) :
    lexR 0 l = ([], k + (sep (l.drop k)).1, (first ((l.drop k).drop (sep (l.drop k)).1)).2.2) := by
  rcases first_cases ((l.drop k).drop (sep (l.drop k)).1) with h1 | h1
  · exact absurd h1.2.1 hf
  · rw [h.2.2, lexR, if_neg (by rw [hs]; simp), if_neg hne, if_pos h1.1]
    unfold cont
    rw [if_pos hf]
theorem LexAt.last {s : ByteArray} {k : Nat} {T : List Tk} (h : LexAt (tl s) k T) (hs : (sep ((tl s).drop k)).2 = true) (hnil : ((tl s).drop k).drop (sep ((tl s).drop k)).1 = []) :
    lexR 0 (tl s) = (T ++ [tokAt s 5 k (k + (sep ((tl s).drop k)).1) 0], 0, 0) := by
  rw [h.2.2, lexR, if_neg (by rw [hs]; simp), if_pos hnil]
  unfold cont tokAt
  simp
theorem LexAt.next {s : ByteArray} {k : Nat} {T : List Tk} (h : LexAt (tl s) k T) (hs : (sep ((tl s).drop k)).2 = true) (hne : ((tl s).drop k).drop (sep ((tl s).drop k)).1 ≠ []) (hf : (first (((tl s).drop k).drop (sep ((tl s).drop k)).1)).2.2 = 0) :
    LexAt (tl s) (k + (sep ((tl s).drop k)).1 + (first (((tl s).drop k).drop (sep ((tl s).drop k)).1)).2.1) (T ++ [tokAt s (first (((tl s).drop k).drop (sep ((tl s).drop k)).1)).1 k (k + (sep ((tl s).drop k)).1) (first (((tl s).drop k).drop (sep ((tl s).drop k)).1)).2.1]) := by
  have hsl := sep_le ((tl s).drop k)
  rcases first_cases (((tl s).drop k).drop (sep ((tl s).drop k)).1) with h1 | h1
  · obtain ⟨p1, p2, p3, -, -⟩ := h1
    rw [List.length_drop, List.length_drop] at p3
    rw [List.length_drop] at hsl
    obtain ⟨hk, hT, hx⟩ := h
    refine ⟨by omega, by rw [List.length_append, List.length_singleton]; omega, ?_⟩
    rw [hx, lexR, if_neg (by rw [hs]; simp), if_neg hne, if_neg (by omega)]
    have e1 : (((tl s).drop k).drop (sep ((tl s).drop k)).1).drop (first (((tl s).drop k).drop (sep ((tl s).drop k)).1)).2.1 = (tl s).drop (k + (sep ((tl s).drop k)).1 + (first (((tl s).drop k).drop (sep ((tl s).drop k)).1)).2.1) := by rw [List.drop_drop, List.drop_drop]; congr 1; omega
    rw [e1]
    have e2 : ((tl s).drop k).drop (sep ((tl s).drop k)).1 = (tl s).drop (k + (sep ((tl s).drop k)).1) := by rw [List.drop_drop]
    generalize lexR (k + (sep ((tl s).drop k)).1 + (first (((tl s).drop k).drop (sep ((tl s).drop k)).1)).2.1) ((tl s).drop (k + (sep ((tl s).drop k)).1 + (first (((tl s).drop k).drop (sep ((tl s).drop k)).1)).2.1)) = q
    unfold cont tokAt
    by_cases hq : q.2.2 ≠ 0
    · rw [if_pos hq, if_pos hq, if_pos (by exact hq)]
    · rw [if_neg hq, if_neg (by simp), if_neg hq]
      rw [e2]
      simp
  · omega

def LexGives (w : World) (s : ByteArray) (e : Ending) (w' : World) : Prop :=
  (∃ v, e = .returned (.tuple #[v, .int .i64 ((lexR 0 (tl s)).2.1 : Nat), .int .i64 (lexR 0 (tl s)).2.2]) ∧ Toks w' v (lexR 0 (tl s)).1) ∧ Below w.heap.size w w'
theorem lexB_new (w : World) (s : ByteArray) : LexB ((((w.alloc (.cells #[.string s] 9)).alloc (.cells #[.slice none 0 0] 58)).alloc (.cells #[.int .i64 0] 3)).alloc (.cells #[.int .i64 0] 3)) w.heap.size s [] (0 : Nat) (0 : Nat) ∧
    Below w.heap.size w ((((w.alloc (.cells #[.string s] 9)).alloc (.cells #[.slice none 0 0] 58)).alloc (.cells #[.int .i64 0] 3)).alloc (.cells #[.int .i64 0] 3)) := by
  have b1 := Boxed.new w 9 (.string s)
  have b2 := Boxed.new (w.alloc (.cells #[.string s] 9)) 58 (.slice none 0 0)
  have b3 := Boxed.new ((w.alloc (.cells #[.string s] 9)).alloc (.cells #[.slice none 0 0] 58)) 3 (.int .i64 0)
  have b4 := Boxed.new (((w.alloc (.cells #[.string s] 9)).alloc (.cells #[.slice none 0 0] 58)).alloc (.cells #[.int .i64 0] 3)) 3 (.int .i64 0)
  simp only [World.size_alloc] at b2 b3 b4
  refine ⟨⟨((b1.alloc _).alloc _).alloc _, ⟨_, (b2.alloc _).alloc _, World.ownsRow_nil _ _ _ _⟩, b3.alloc _, b4, by simp⟩, ?_⟩
  exact ((((Below.refl _ w).alloc (by simp) _).alloc (by simp) _).alloc (by simp; omega) _).alloc (by simp; omega) _

theorem LexB.setAt {W : World} {B : Nat} {s : ByteArray} {T : List Tk} {a p : Int} (h : LexB W B s T a p) (q : Int) : LexB (W.setCell ⟨B + 3, 0, none⟩ (.int .i64 q)) B s T a q := by
  obtain ⟨h1, ⟨v, h2, hown⟩, h3, h4, hsz⟩ := h
  exact ⟨h1.other (by omega) _, ⟨v, h2.other (by omega) _, ownsRow_setCell_below hown (a := ⟨B + 3, 0, none⟩) (by show B + 3 < B + 4; omega) _⟩, h3.other (by omega) _, h4.set _, by simp; omega⟩
theorem boxed_below {W W' : World} {B : Nat} {t : TypeId} {v : Value} (h : Boxed W B t v) (hb : Below W.heap.size W W') : Boxed W' B t v := (hb.block _ h.lt).trans h
theorem own_below {W W' : World} {base e size n : Nat} {v : Value} {xs : List Value} (h : W.ownsRow base e size v n xs) (hb : Below W.heap.size W W') : W'.ownsRow base e size v n xs := by
  refine ⟨h.1, ?_⟩
  rcases h.2 with h0 | ⟨g, cap, cur, e1, h1, hg, h2, h3, h4, h5⟩
  · exact .inl h0
  · exact .inr ⟨g, cap, cur, e1, h1, (hb.block _ (Array.getElem?_eq_some_iff.1 hg).1).trans hg, h2, h3, h4, h5⟩
theorem LexB.below {W W' : World} {B : Nat} {s : ByteArray} {T : List Tk} {a p : Int} (h : LexB W B s T a p) (hb : Below W.heap.size W W') : LexB W' B s T a p := by
  obtain ⟨h1, ⟨v, h2, hown⟩, h3, h4, hsz⟩ := h
  exact ⟨boxed_below h1 hb, ⟨v, boxed_below h2 hb, own_below hown hb⟩, boxed_below h3 hb, boxed_below h4 hb, Nat.le_trans hsz hb.size⟩
theorem ext_tl (s : ByteArray) (k : Nat) : tl (s.extract k s.size) = (tl s).drop k := Lib.extract_to_end s k

set_option maxRecDepth 100000 in
set_option maxHeartbeats 16000000 in
theorem Lex_any (s : ByteArray) (w : World) (hW : LexW w) (hs : s.size ≤ 1048576) : Calls Tryd.prog 26 #[.string s] w (LexGives w s) := by
  have HW := Lib.hid hW; clear hW
  have hd : decide ((1048576 : Int) < (s.size : Int)) = false := by simp; omega
  obtain ⟨hB0, hbel⟩ := lexB_new w s
  have HB0 := Lib.hid hB0; clear hB0
  have Hbel := Lib.hid hbel; clear hbel
  go_enter Tryd.func26, Tryd.ntmps26
  go_wp2_with fail
  go_loopw [9] (fun _ wr => ∃ (k : Nat) (T : List Tk), Hid (LexB wr w.heap.size s T k k) ∧ k ≤ s.size ∧ Hid (LexAt (tl s) k T) ∧ Below w.heap.size w wr) (fun _ wr => s.size - (intOf ((wr.cell? ⟨w.heap.size + 3, 0, none⟩).getD undef)).toNat)
  case atStart => exact ⟨0, [], HB0, Nat.zero_le _, Lib.hid (LexAt.start _), Hbel.out⟩
  case round =>
    obtain ⟨k, T, hL, hk, hat, hB⟩ := hrel
    have hW4 := HW.out.size
    have c1 := hL.out.text.cell
    have c4 := hL.out.at_.cell
    have f4 := hL.out.at_.frozen
    have hcut : Hid (tl (s.extract k s.size) = (tl s).drop k) := Lib.hid (ext_tl s k)
    have hWr : Hid (LexW wr) := Lib.hid (HW.out.below hB hW4)
    have hsl := sep_le ((tl s).drop k)
    rw [List.length_drop, tl_length] at hsl
    obtain ⟨p, hp⟩ : ∃ p, Hid ((sep ((tl s).drop k)).1 = p) := ⟨_, Lib.hid rfl⟩
    rw [hp.out] at hsl
    have hkp : (k : Int) + p ≤ 1048576 := by omega
    have hszb : (s.extract k s.size).size ≤ 2000000000 := by rw [ByteArray.size_extract]; omega
    have Hszb := Lib.hid hszb; clear hszb
    obtain ⟨b, hb⟩ : ∃ b, Hid ((sep ((tl s).drop k)).2 = b) := ⟨_, Lib.hid rfl⟩
    go_wp2_with fail
    refine (separators_any _ _ hWr.out Hszb.out).mono ?_
    unfold SepGives
    rw [hcut.out, hp.out, hb.out]
    rintro e w' ⟨rfl, rfl⟩
    have hL2 : Hid (LexB (wr.setCell ⟨w.heap.size + 3, 0, none⟩ (.int .i64 (k + p : Nat))) w.heap.size s T k (k + p : Nat)) := Lib.hid (hL.out.setAt _)
    have hB2 : Hid (Below w.heap.size w (wr.setCell ⟨w.heap.size + 3, 0, none⟩ (.int .i64 (k + p : Nat)))) := Lib.hid (hB.setCell (p := ⟨w.heap.size + 3, 0, none⟩) (by show w.heap.size ≤ w.heap.size + 3; omega) _)
    have hsum : ((k : Int) + (p : Int)) = ((k + p : Nat) : Int) := by omega
    have Hsum := Lib.hid hsum; clear hsum
    cases b with
    | false =>
      have hfin : Hid (lexR 0 (tl s) = ([], k + p, 32)) := Lib.hid (by have := hat.out.sep_err hb.out; rwa [hp.out] at this)
      go_wp2_with fail
      go_quiet (fail)
      go_wp2_with fail
      go_ret3
      refine ⟨⟨.slice none 0 0, ?_, ?_⟩, ?_⟩
      · rw [hfin.out]
        show Ending.returned (.tuple #[.slice none 0 0, .int .i64 ((k : Int) + p), .int .i64 32]) = _
        rw [Hsum.out]
      · rw [hfin.out]; exact toks_nil _
      · have h3 := hB2.out
        rw [← Hsum.out] at h3
        exact below_draws h3 nq
    | true =>
      have hdk := List.drop_drop (i := p) (j := k) (l := tl s)
      by_cases hend : k + p = s.size
      · have hnil : ((tl s).drop k).drop p = [] := by rw [hdk]; exact List.drop_of_length_le (by rw [tl_length]; omega)
        have hfin : Hid (lexR 0 (tl s) = (T ++ [tokAt s 5 k (k + p) 0], 0, 0)) := Lib.hid (by have := hat.out.last hb.out (by rw [hp.out]; exact hnil); rwa [hp.out] at this)
        have hd2 : ((k : Int) + (p : Int) == (s.size : Int)) = true := by rw [beq_iff_eq]; omega
        have hTl := hat.out.2.1
        clear hnil hdk
        have Hend := Lib.hid hend; clear hend
        go_wp2_with fail
        simp only [Hsum.out]
        refine (add_any _ w.heap.size s T 5 k (k + p) 0 hL2.out (by omega) (by omega) (by omega) (by omega)).mono ?_
        rintro e w3 ⟨⟨r, rfl⟩, hL3, hb3⟩
        have hB3 : Hid (Below w.heap.size w w3) := Lib.hid (hB2.out.trans hb3)
        obtain ⟨-, ⟨v, h2, hown⟩, -, -, -⟩ := hL3
        have c2 := h2.cell
        have htk := own_toks hown
        have Htk := Lib.hid htk; clear htk hown hb3
        go_wp2_with fail
        go_ret3
        refine ⟨⟨v, ?_, ?_⟩, hB3.out⟩
        · rw [hfin.out]; rfl
        · rw [hfin.out]; exact Htk.out
      · have hne : (tl s).drop (k + p) ≠ [] := by
          intro e
          have := congrArg List.length e
          rw [List.length_drop, tl_length, List.length_nil] at this
          omega
        have hd2 : ((k : Int) + (p : Int) == (s.size : Int)) = false := by rw [beq_eq_false_iff_ne]; omega
        have hTl := hat.out.2.1
        have hcut2 : Hid (tl (s.extract (k + p) s.size) = (tl s).drop (k + p)) := Lib.hid (ext_tl s (k + p))
        have hex0 : 0 < (s.extract (k + p) s.size).size := by rw [ByteArray.size_extract]; omega
        have hex1 : (s.extract (k + p) s.size).size ≤ 2000000000 := by rw [ByteArray.size_extract]; omega
        have Hex0 := Lib.hid hex0; clear hex0
        have Hex1 := Lib.hid hex1; clear hex1
        have hW2 : Hid (LexW (wr.setCell ⟨w.heap.size + 3, 0, none⟩ (.int .i64 (k + p : Nat)))) := Lib.hid (HW.out.below hB2.out hW4)
        have hq1 : (0 : Int) ≤ (k : Int) + p := by omega
        have hq2 : (k : Int) + p ≤ (s.size : Int) := by omega
        have hne2 : ((tl s).drop k).drop (sep ((tl s).drop k)).1 ≠ [] := by rw [hp.out, hdk]; exact hne
        have Hne2 := Lib.hid hne2
        have Hdk := Lib.hid hdk
        have hfc := first_cases ((tl s).drop (k + p))
        obtain ⟨F, hF⟩ : ∃ F, Hid (first ((tl s).drop (k + p)) = F) := ⟨_, Lib.hid rfl⟩
        obtain ⟨kind, n, err⟩ := F
        rw [hF.out] at hfc
        rw [List.length_drop, tl_length] at hfc
        dsimp only at hfc
        clear hne hne2 hdk
        go_wp2_with fail
        simp only [Hsum.out]
        refine (first_any (s.extract (k + p) s.size) _ hW2.out Hex0.out Hex1.out).mono ?_
        unfold FirstGives
        rw [hcut2.out, hF.out]
        rintro e w3 ⟨rfl, hb3⟩
        have hL3 : Hid (LexB w3 w.heap.size s T k (k + p : Nat)) := Lib.hid (hL2.out.below hb3)
        have hB3 : Hid (Below w.heap.size w w3) := Lib.hid (hB2.out.trans (hb3.mono hB2.out.size))
        have g4 := hL3.out.at_.cell
        clear hb3 c1 c4 f4
        rcases hfc with ⟨n0, rfl, n1, n2, n3⟩ | ⟨rfl, he, rfl⟩
        · have hnx : Hid (LexAt (tl s) (k + p + n) (T ++ [tokAt s kind k (k + p) n])) := Lib.hid (by
            have := hat.out.next hb.out Hne2.out (by rw [hp.out, Hdk.out, hF.out])
            rw [hp.out, Hdk.out, hF.out] at this
            exact this)
          go_wp2_with fail
          refine (add_any _ w.heap.size s T kind k (k + p) n hL3.out (by omega) (by omega) (by omega) (by omega)).mono ?_
          rintro e w4 ⟨⟨r, rfl⟩, hL4, hb4⟩
          have hB4 := hB3.out.trans hb4
          have g5 := hL4.at_.cell
          have HL4 := Lib.hid hL4
          clear hb4 g4 hL4
          go_wp2_with fail
          refine ⟨⟨k + p + n, _, HL4, by omega, hnx, hB4⟩, ?_⟩
          rw [hL.out.at_.cell, g5]
          simp [intOf]
          omega
        · have hfin : Hid (lexR 0 (tl s) = ([], k + p, err)) := Lib.hid (by
            have := hat.out.first_err hb.out Hne2.out (by rw [hp.out, Hdk.out, hF.out]; dsimp only; omega)
            rwa [hp.out, Hdk.out, hF.out] at this)
          have hed : (err != 0) = true := by rw [bne_iff_ne]; omega
          go_wp2_with fail
          go_quiet (fail)
          go_wp2_with fail
          go_ret3
          refine ⟨⟨.slice none 0 0, ?_, ?_⟩, below_draws hB3.out nq⟩
          · rw [hfin.out]; rfl
          · rw [hfin.out]; exact toks_nil _
end Go.Proofs.YtfjmhnnjgjcmeaaDoor.X
