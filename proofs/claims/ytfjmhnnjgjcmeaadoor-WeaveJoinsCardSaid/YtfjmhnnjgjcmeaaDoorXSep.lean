/-
  For the laws of lex: what stands between tokens. Condition: the text has at most 2 to the 31 bytes; the library's own variable is a number.
-/
import Derived.Test.YtfjmhnnjgjcmeaaDoorXMark
import Derived.WalkMore
namespace Go.Proofs.YtfjmhnnjgjcmeaaDoor.X
open Go.RowKit Go.Shelf

/-- What the world holds of the library's own variables. -/
structure LexW (W : World) : Prop where
  max : ∃ m, W.cell? ⟨0, 0, none⟩ = some (.int .i64 m)
  rng : ∃ te pe, W.cell? ⟨2, 0, none⟩ = some (.iface te pe)
  size : 4 ≤ W.heap.size
theorem LexW.below {W W' : World} {B : Nat} (h : LexW W) (hb : Below B W W') (hB : 4 ≤ B) : LexW W' := by
  obtain ⟨⟨m, h1⟩, ⟨te, pe, h2⟩, h3⟩ := h
  refine ⟨⟨m, (hb.cell (p := ⟨0, 0, none⟩) (by show 0 < B; omega)).trans h1⟩, ⟨te, pe, (hb.cell (p := ⟨2, 0, none⟩) (by show 2 < B; omega)).trans h2⟩, by have := hb.size; omega⟩

theorem close_index : ∀ l : List UInt8, Lib.index l [42, 47] = (match closeAt l with | none => -1 | some n => (n : Int))
  | [] => by simp [Lib.index, closeAt]
  | [a] => by
    have h : ([42, 47] : List UInt8).isPrefixOf [a] = false := by simp [List.isPrefixOf]
    simp [Lib.index, closeAt, h]
  | a :: b :: r => by
    have ih := close_index (b :: r)
    rw [Lib.index, closeAt]
    by_cases h : a = 42 ∧ b = 47
    · obtain ⟨rfl, rfl⟩ := h
      simp [List.isPrefixOf]
    · have hp : ([42, 47] : List UInt8).isPrefixOf (a :: b :: r) = false := by
        simp [List.isPrefixOf]
        intro h1 h2
        exact h ⟨h1.symm, h2.symm⟩
      rw [hp, if_neg h, ih]
      cases hc : closeAt (b :: r) with
      | none => simp
      | some n =>
        have : ((n : Int) == -1) = false := by rw [beq_eq_false_iff_ne]; omega
        simp [this]
theorem line_index : ∀ l : List UInt8, (if Lib.indexByte l 10 < 0 then (l.length : Int) else Lib.indexByte l 10) = lineLen l
  | [] => by simp [Lib.indexByte, lineLen]
  | c :: r => by
    have ih := line_index r
    have hg := Lib.indexByte_ge r 10
    unfold lineLen at ih ⊢
    rw [Lib.indexByte]
    by_cases h : c = 10
    · subst h; simp
    · have hb : (c != 10) = true := by simp [h]
      rw [List.takeWhile_cons_of_pos (p := fun c : UInt8 => c != 10) hb]
      have hc : (c == 10) = false := by simp [h]
      simp only [hc, Bool.false_eq_true, if_false, List.length_cons]
      generalize Lib.indexByte r 10 = q at ih hg ⊢
      by_cases h1 : q = -1
      · subst h1
        simp at ih ⊢
        omega
      · have h2 : (q == -1) = false := by simp [h1]
        rw [if_neg (by omega)] at ih
        simp only [h2, Bool.false_eq_true, if_false]
        rw [if_neg (by omega)]
        omega
/-- The state of the loop over what stands between tokens. -/
def SepAt (l : List UInt8) (k : Nat) : Prop := k ≤ l.length ∧ sep l = ((sep (l.drop k)).1 + k, (sep (l.drop k)).2)
theorem SepAt.start (l : List UInt8) : SepAt l 0 := ⟨Nat.zero_le _, by simp⟩
theorem SepAt.next {l : List UInt8} {k n : Nat} (h : SepAt l k) (hn : k + n ≤ l.length) (hs : sep (l.drop k) = ((sep ((l.drop k).drop n)).1 + n, (sep ((l.drop k).drop n)).2)) : SepAt l (k + n) := by
  obtain ⟨h1, h2⟩ := h
  refine ⟨hn, ?_⟩
  rw [h2, hs, List.drop_drop]
  simp only [Prod.mk.injEq, and_true]
  omega
theorem SepAt.done {l : List UInt8} {k : Nat} {b : Bool} (h : SepAt l k) (hs : sep (l.drop k) = (0, b)) : sep l = (k, b) := by
  rw [h.2, hs]
  simp
theorem sep_blank {c : UInt8} {r : List UInt8} (h : blank c = true) : sep (c :: r) = ((sep r).1 + 1, (sep r).2) := by rw [sep, if_pos h]
theorem slash_blank {c : UInt8} (h : c = 47) : blank c = false := by subst h; decide
theorem sep_line {c : UInt8} {r : List UInt8} (h : c = 47 ∧ r.head? = some 47) : sep (c :: r) = ((sep (r.drop (lineLen r))).1 + (lineLen r + 1), (sep (r.drop (lineLen r))).2) := by
  rw [sep, if_neg (by rw [slash_blank h.1]; simp), if_pos h]
theorem sep_note {c : UInt8} {r : List UInt8} (h : c = 47 ∧ r.head? = some 42) : sep (c :: r) = (match closeAt (r.drop 1) with
      | none => (0, false)
      | some n => ((sep (r.drop (n + 3))).1 + (n + 4), (sep (r.drop (n + 3))).2)) := by
  rw [sep, if_neg (by rw [slash_blank h.1]; simp), if_neg (by rw [h.2]; simp), if_pos h]
  cases closeAt (r.drop 1) <;> rfl
theorem sep_stop {c : UInt8} {r : List UInt8} (h1 : blank c = false) (h2 : ¬ (c = 47 ∧ r.head? = some 47)) (h3 : ¬ (c = 47 ∧ r.head? = some 42)) : sep (c :: r) = (0, true) := by
  rw [sep, if_neg (by rw [h1]; simp), if_neg h2, if_neg h3]
theorem blank_index (c : UInt8) : 0 ≤ Lib.indexByte [32, 9, 10, 13] c ↔ blank c = true := by
  rw [index_mem]
  simp [blank, or_assoc]
theorem prefix_two (a b c : UInt8) (r : List UInt8) : Lib.hasPrefix (c :: r) [a, b] = decide (c = a ∧ r.head? = some b) := by
  rw [Bool.eq_iff_iff]
  cases r with
  | nil => simp [Lib.hasPrefix, List.isPrefixOf]
  | cons d r =>
    simp only [Lib.hasPrefix, List.isPrefixOf, Bool.and_true, Bool.and_eq_true, beq_iff_eq, List.head?_cons, Option.some.injEq, decide_eq_true_eq]
    exact ⟨fun h => ⟨h.1.symm, h.2.symm⟩, fun h => ⟨h.1.symm, h.2.symm⟩⟩

theorem sep_index (c : UInt8) (q : Int) (w : World) (hq : Lib.indexByte [32, 9, 10, 13] c = q) : Calls Tryd.prog 38 #[.string ⟨#[32, 9, 10, 13]⟩, .int .u8 (c.toNat : Int)] w fun e w' => e = .returned (.int .i64 q) ∧ w = w' := by
  refine (Tryd.strings_IndexByte ⟨#[32, 9, 10, 13]⟩ (c.toNat : Int) w).mono ?_
  rw [byte_back]
  rintro e w' ⟨rfl, rfl⟩
  exact ⟨ret_int hq, rfl⟩
theorem newline_index (r : ByteArray) (q : Int) (w : World) (hq : Lib.indexByte (tl r) 10 = q) : Calls Tryd.prog 38 #[.string r, .int .u8 10] w fun e w' => e = .returned (.int .i64 q) ∧ w = w' := by
  refine (Tryd.strings_IndexByte r 10 w).mono ?_
  rintro e w' ⟨rfl, rfl⟩
  exact ⟨ret_int hq, rfl⟩
theorem prefix_is (r : ByteArray) (p : ByteArray) (v : Bool) (w : World) (hv : Lib.hasPrefix (tl r) (tl p) = v) : Calls Tryd.prog 39 #[.string r, .string p] w fun e w' => e = .returned (.bool v) ∧ w = w' := by
  refine (Tryd.strings_HasPrefix r p w).mono ?_
  rintro e w' ⟨rfl, rfl⟩
  exact ⟨ret_bool hv, rfl⟩
theorem index_is (r : ByteArray) (q : Int) (w : World) (hW : LexW w) (hr : r.size < 4294967281) (hq : Lib.index (tl r) [42, 47] = q) : Calls Tryd.prog 40 #[.string r, .string ⟨#[42, 47]⟩] w fun e w' => e = .returned (.int .i64 q) ∧ w = w' := by
  obtain ⟨m, hm⟩ := hW.max
  refine (Tryd.strings_Index r ⟨#[42, 47]⟩ m w hr hm).mono ?_
  rintro e w' ⟨rfl, rfl⟩
  exact ⟨ret_int hq, rfl⟩
def SepGives (w : World) (l : List UInt8) (e : Ending) (w' : World) : Prop := e = .returned (.tuple #[.int .i64 ((sep l).1 : Nat), .int .i64 (if (sep l).2 = true then 0 else 32)]) ∧ w = w'

set_option maxRecDepth 100000 in
set_option maxHeartbeats 8000000 in
theorem separators_any (s : ByteArray) (w : World) (hW : LexW w) (hs : s.size ≤ 2000000000) : Calls Tryd.prog 32 #[.string s] w (SepGives w (tl s)) := by
  have HW := Lib.hid hW; clear hW
  go_enter Tryd.func32, Tryd.ntmps32
  go_wp2_with fail
  go_step3
  go_wp2_with fail
  go_step3
  go_wp2_with fail
  go_loop [4] (fun c => ∃ k : Nat, c = .int .i64 k ∧ k ≤ s.size ∧ Hid (SepAt (tl s) k)) (fun c => s.size - (intOf c).toNat)
  case atStart => exact ⟨0, rfl, Nat.zero_le _, Lib.hid (SepAt.start _)⟩
  case round =>
    obtain ⟨k, rfl, hk, hst⟩ := hrel
    by_cases hlt : k < s.size
    · have hkd : decide (k < s.size) = true := decide_eq_true hlt
      have hex : 0 < (s.extract k s.size).size := by rw [ByteArray.size_extract]; omega
      go_wp2_with fail
      have hrl : tl (s.extract k s.size) = (tl s).drop k := Lib.extract_to_end s k
      have hrs : (s.extract k s.size).size = s.size - k := by rw [ByteArray.size_extract]; omega
      have hr0 : (tl (s.extract k s.size))[0]? = some (s.extract k s.size)[0] := tl_get _ hex
      obtain ⟨c, hc⟩ : ∃ c, Hid ((s.extract k s.size)[0] = c) := ⟨_, Lib.hid rfl⟩
      rw [hc.out] at hr0
      simp only [hc.out]
      clear hc
      generalize s.extract k s.size = r at hex hrl hrs hr0 ⊢
      obtain ⟨l', hl'⟩ : ∃ l', Hid (tl r = c :: l') := by
        cases h : tl r with
        | nil => rw [h] at hr0; simp at hr0
        | cons x l' =>
          rw [h] at hr0
          obtain rfl : x = c := by simpa using hr0
          exact ⟨l', Lib.hid rfl⟩
      have hdk : Hid ((tl s).drop k = c :: l') := Lib.hid (hrl.symm.trans hl'.out)
      have hll : l'.length + 1 = s.size - k := by
        have h1 := congrArg List.length hl'.out
        rw [tl_length] at h1
        simp at h1
        omega
      have Hrs := Lib.hid hrs
      have hrs2 : (r.size : Int) = (s.size : Int) - k := by omega
      have Hll := Lib.hid hll
      clear hr0 hrl hrs hll
      obtain ⟨q, hq⟩ : ∃ q, Hid (Lib.indexByte [32, 9, 10, 13] c = q) := ⟨_, Lib.hid rfl⟩
      have hbi := blank_index c
      rw [hq.out] at hbi
      have Hbi := Lib.hid hbi; clear hbi
      refine (sep_index c q _ hq.out).mono ?_
      rintro e w' ⟨rfl, rfl⟩
      cases hbl : blank c with
      | true =>
        have hq0 : 0 ≤ q := Hbi.out.2 hbl
        have hqd : decide (0 ≤ q) = true := decide_eq_true hq0
        have hnx : Hid (SepAt (tl s) (k + 1)) := Lib.hid (hst.out.next (n := 1) (by rw [tl_length]; omega) (by rw [hdk.out, sep_blank hbl]; simp))
        clear hrs2
        go_wp2_with fail
        exact ⟨⟨k + 1, by go_num, by omega, hnx⟩, by simp [intOf]; omega⟩
      | false =>
        have hq0 : q < 0 := Int.not_le.1 (fun h => by have := Hbi.out.1 h; rw [hbl] at this; cases this)
        have hqd : decide (0 ≤ q) = false := decide_eq_false (by omega)
        by_cases hline : c = 47 ∧ l'.head? = some 47
        · have hp : Hid (Lib.hasPrefix (tl r) (tl ⟨#[47, 47]⟩) = true) := Lib.hid (by rw [hl'.out, show tl ⟨#[47, 47]⟩ = [47, 47] from rfl, prefix_two]; exact decide_eq_true hline)
          obtain ⟨n, hn⟩ : ∃ n, Hid (Lib.indexByte (tl r) 10 = n) := ⟨_, Lib.hid rfl⟩
          have hll2 := line_index (tl r)
          rw [hn.out, tl_length] at hll2
          have hlc : lineLen (tl r) = lineLen l' + 1 := by
            rw [hl'.out]
            unfold lineLen
            rw [List.takeWhile_cons_of_pos (p := fun c : UInt8 => c != 10) (by rw [hline.1]; rfl)]
            simp
          have hle := lineLen_le l'
          rw [hlc] at hll2
          have hnx : Hid (SepAt (tl s) (k + (lineLen l' + 1))) := Lib.hid (hst.out.next (n := lineLen l' + 1) (by rw [tl_length]; have := Hll.out; omega) (by rw [hdk.out, sep_line hline]; simp))
          have hln : lineLen l' + 1 ≤ s.size - k := by have := Hll.out; omega
          have Hlc := Lib.hid hlc; clear hlc hline
          have hm1 : 1 ≤ lineLen l' + 1 := by omega
          have hrb : r.size ≤ 2000000000 := by omega
          by_cases hn0 : n < 0
          · rw [if_pos hn0] at hll2
            have hnd : decide (n < 0) = true := decide_eq_true hn0
            have hsum : (r.size : Int) = ((lineLen l' + 1 : Nat) : Int) := hll2
            generalize lineLen l' + 1 = m at *
            have Hsum := Lib.hid hsum
            clear hll2 hsum hrs2
            go_wp2_with (first | (go_at_call 39; refine (prefix_is r ⟨#[47, 47]⟩ true _ hp.out).mono ?_; rintro e w' ⟨rfl, rfl⟩) | (go_at_call 38; refine (newline_index r n _ hn.out).mono ?_; rintro e w' ⟨rfl, rfl⟩))
            exact ⟨⟨k + m, by rw [Hsum.out]; go_num, by omega, hnx⟩, by have := Hsum.out; simp [intOf]; omega⟩
          · rw [if_neg hn0] at hll2
            have hnd : decide (n < 0) = false := decide_eq_false hn0
            obtain rfl : n = ((lineLen l' + 1 : Nat) : Int) := hll2
            generalize lineLen l' + 1 = m at *
            clear hrs2
            go_wp2_with (first | (go_at_call 39; refine (prefix_is r ⟨#[47, 47]⟩ true _ hp.out).mono ?_; rintro e w' ⟨rfl, rfl⟩) | (go_at_call 38; refine (newline_index r _ _ hn.out).mono ?_; rintro e w' ⟨rfl, rfl⟩))
            exact ⟨⟨k + m, by go_num, by omega, hnx⟩, by simp [intOf]; omega⟩
        · have hp : Hid (Lib.hasPrefix (tl r) (tl ⟨#[47, 47]⟩) = false) := Lib.hid (by rw [hl'.out, show tl ⟨#[47, 47]⟩ = [47, 47] from rfl, prefix_two]; exact decide_eq_false hline)
          by_cases hnote : c = 47 ∧ l'.head? = some 42
          · have hp2 : Hid (Lib.hasPrefix (tl r) (tl ⟨#[47, 42]⟩) = true) := Lib.hid (by rw [hl'.out, show tl ⟨#[47, 42]⟩ = [47, 42] from rfl, prefix_two]; exact decide_eq_true hnote)
            have hl1 : 1 ≤ l'.length := by
              cases l' with
              | nil => simp at hnote
              | cons x l' => simp
            have hr2 : (2 : Int) ≤ (r.size : Int) := by have := Hll.out; omega
            have hr2' : 2 ≤ r.size := by omega
            have hrb : r.size ≤ 2000000000 := by omega
            have hcut : Hid (tl (r.extract 2 r.size) = l'.drop 1) := Lib.hid (by rw [show tl (r.extract 2 r.size) = (tl r).drop 2 from Lib.extract_to_end r 2, hl'.out]; rfl)
            have hcs : (r.extract 2 r.size).size < 4294967281 := by rw [ByteArray.size_extract]; omega
            have Hcs := Lib.hid hcs; clear hcs
            obtain ⟨m, hm⟩ : ∃ m, Hid (Lib.index (tl (r.extract 2 r.size)) [42, 47] = m) := ⟨_, Lib.hid rfl⟩
            have hci := close_index (l'.drop 1)
            rw [← hcut.out, hm.out] at hci
            have hst2 := sep_note hnote
            rw [← hdk.out] at hst2
            have Hst2 := Lib.hid hst2; clear hst2 hline hrs2
            cases hcl : closeAt (l'.drop 1) with
            | none =>
              have hcl2 := hcl
              rw [← hcut.out] at hcl
              rw [hcl] at hci
              have hfin : Hid (sep (tl s) = (k, false)) := Lib.hid (hst.out.done (by rw [Hst2.out, hcl2]))
              have hci' : m = -1 := hci
              have hm0 : m < 0 := by omega
              have hmd : decide (m < 0) = true := decide_eq_true hm0
              clear hci hcl hcl2 hci'
              go_wp2_with (first | (go_at_call 39; first | (refine (prefix_is r ⟨#[47, 47]⟩ false _ hp.out).mono ?_; rintro e w' ⟨rfl, rfl⟩) | (refine (prefix_is r ⟨#[47, 42]⟩ true _ hp2.out).mono ?_; rintro e w' ⟨rfl, rfl⟩)) | (go_at_call 40; refine (index_is _ m _ HW.out Hcs.out hm.out).mono ?_; rintro e w' ⟨rfl, rfl⟩))
              go_ret2
              exact ⟨by rw [hfin.out]; rfl, rfl⟩
            | some n =>
              have hcl2 := hcl
              have hle := closeAt_le hcl
              rw [← hcut.out] at hcl
              rw [hcl] at hci
              obtain rfl : m = (n : Int) := hci
              rw [List.length_drop] at hle
              have hmd : decide ((n : Int) < 0) = false := by simp
              have hnb : k + (n + 4) ≤ s.size := by have := Hll.out; omega
              have hnx : Hid (SepAt (tl s) (k + (n + 4))) := Lib.hid (hst.out.next (n := n + 4) (by rw [tl_length]; omega) (by rw [Hst2.out, hcl2, hdk.out]; rfl))
              clear hcl hcl2
              go_wp2_with (first | (go_at_call 39; first | (refine (prefix_is r ⟨#[47, 47]⟩ false _ hp.out).mono ?_; rintro e w' ⟨rfl, rfl⟩) | (refine (prefix_is r ⟨#[47, 42]⟩ true _ hp2.out).mono ?_; rintro e w' ⟨rfl, rfl⟩)) | (go_at_call 40; refine (index_is _ _ _ HW.out Hcs.out hm.out).mono ?_; rintro e w' ⟨rfl, rfl⟩))
              exact ⟨⟨k + (n + 4), by go_num, by omega, hnx⟩, by simp [intOf]; omega⟩
          · have hp2 : Hid (Lib.hasPrefix (tl r) (tl ⟨#[47, 42]⟩) = false) := Lib.hid (by rw [hl'.out, show tl ⟨#[47, 42]⟩ = [47, 42] from rfl, prefix_two]; exact decide_eq_false hnote)
            have hfin : Hid (sep (tl s) = (k, true)) := Lib.hid (hst.out.done (by rw [hdk.out, sep_stop hbl hline hnote]))
            clear hrs2
            go_wp2_with (go_at_call 39; first | (refine (prefix_is r ⟨#[47, 47]⟩ false _ hp.out).mono ?_; rintro e w' ⟨rfl, rfl⟩) | (refine (prefix_is r ⟨#[47, 42]⟩ false _ hp2.out).mono ?_; rintro e w' ⟨rfl, rfl⟩))
            go_ret2
            exact ⟨by rw [hfin.out]; rfl, rfl⟩
    · obtain rfl : k = s.size := by omega
      have hfin := hst.out.done (b := true) (by rw [List.drop_eq_nil_of_le (by rw [tl_length]; exact Nat.le_refl _)]; rw [sep])
      have Hfin := Lib.hid hfin; clear hfin
      go_wp2_with fail
      go_ret2
      exact ⟨by rw [Hfin.out]; rfl, rfl⟩
end Go.Proofs.YtfjmhnnjgjcmeaaDoor.X
