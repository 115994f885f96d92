/-
  For the laws on the parser: the document's tokens of a text. Condition: at most 1,048,576 bytes.
-/
import Derived.BigQuiet
import Derived.Deep.AppendLies
import Derived.Deep.QuietTactic
import Derived.Deep.RegionHeldLaw
import Derived.IntWalk
import Derived.Laws.AppendOwn
import Derived.Laws.EntriesVeiled
import Derived.Lib.Hide
import Derived.Lib.IndexBytes
import Derived.Lib.IndexMore
import Derived.Lib.SmallJoins
import Derived.RangeFuncBox
import Derived.RangeFuncNested
import Derived.WalkKit
import Derived.WalkMore
import Derived.WalkSpells
import Derived.Lib.Builder
import Derived.Test.YtbnbmjdjkadgoaaDoorBase
namespace Go.Proofs.YtbnbmjdjkadgoaaDoor.X
open Go.RowKit Go.Shelf
set_option linter.unusedSimpArgs false
set_option linter.unusedVariables false

def dig (c : UInt8) : Bool := 48 ≤ c && c ≤ 57
def ltr (c : UInt8) : Bool := (97 ≤ c && c ≤ 122) || (65 ≤ c && c ≤ 90) || c == 95
def aln (c : UInt8) : Bool := dig c || ltr c
def nameLen : List UInt8 → Nat
  | [] => 0
  | c :: r => if ltr c = true then (r.takeWhile aln).length + 1 else 0
def numLen (l : List UInt8) : Nat := (l.takeWhile dig).length
def twoM : List (List UInt8) := [[61, 61], [33, 61], [60, 61], [62, 61], [38, 38], [124, 124]]
def oneM : List UInt8 := [43, 45, 42, 47, 37, 60, 62, 61, 33, 40, 41, 123, 125, 59, 44, 46]
def markLen : List UInt8 → Nat
  | [] => 0
  | c :: r => if (c :: r).take 2 ∈ twoM then 2 else if c ∈ oneM then 1 else 0
def blank (c : UInt8) : Bool := c == 32 || c == 9 || c == 10 || c == 13
/-- How long a line is, without its end. -/
def lineLen (l : List UInt8) : Nat := (l.takeWhile (fun c => c != 10)).length
/-- Where a note ends. -/
def closeAt : List UInt8 → Option Nat
  | [] => none
  | [_] => none
  | a :: b :: r => if a = 42 ∧ b = 47 then some 0 else (closeAt (b :: r)).map (· + 1)
/-- What stands between tokens: how long it is, and whether its notes end. -/
def sep : List UInt8 → Nat × Bool
  | [] => (0, true)
  | c :: r =>
    if blank c = true then ((sep r).1 + 1, (sep r).2)
    else if c = 47 ∧ r.head? = some 47 then ((sep (r.drop (lineLen r))).1 + (lineLen r + 1), (sep (r.drop (lineLen r))).2)
    else if c = 47 ∧ r.head? = some 42 then
      match closeAt (r.drop 1) with
      | none => (0, false)
      | some n => ((sep (r.drop (n + 3))).1 + (n + 4), (sep (r.drop (n + 3))).2)
    else (0, true)
termination_by l => l.length
decreasing_by all_goals (simp only [List.length_cons, List.length_drop]; omega)
def keptL : List (List UInt8) := [[99, 108, 97, 115, 115], [101, 120, 116, 101, 110, 100, 115], [115, 116, 97, 116, 105, 99], [118, 111, 105, 100], [105, 110, 116], [98, 111, 111, 108, 101, 97, 110], [105, 102], [101, 108, 115, 101],
  [119, 104, 105, 108, 101], [114, 101, 116, 117, 114, 110], [112, 114, 105, 110, 116], [116, 114, 117, 101], [102, 97, 108, 115, 101], [110, 117, 108, 108], [116, 104, 105, 115], [110, 101, 119]]
/-- A number's value. -/
def valOf (l : List UInt8) : Nat := l.foldl (fun n c => 10 * n + (c.toNat - 48)) 0
def badNum (l : List UInt8) : Bool := decide (2147483647 < valOf l) || (decide (1 < l.length) && l.head? == some 48)
/-- The token that begins here: its kind, its length, or an error. -/
def first (l : List UInt8) : Int × Nat × Int :=
  if 0 < nameLen l then (if 20 < nameLen l then (0, 0, 2) else if l.take (nameLen l) ∈ keptL then (3, nameLen l, 0) else (1, nameLen l, 0))
  else if 0 < numLen l then (if badNum (l.take (numLen l)) = true then (0, 0, 31) else (2, numLen l, 0))
  else if 0 < markLen l then (4, markLen l, 0)
  else (0, 0, 30)
structure Tk where
  kind : Int
  text : List UInt8
  at_ : Int
  lead : List UInt8
/-- The tokens of what is left at a place, or where there is none, and why. -/
def lexR (n : Nat) (l : List UInt8) : List Tk × Nat × Int :=
  if (sep l).2 = false then ([], n + (sep l).1, 32)
  else if l.drop (sep l).1 = [] then ([⟨5, [], ((n + (sep l).1 : Nat) : Int), l.take (sep l).1⟩], 0, 0)
  else if (first (l.drop (sep l).1)).2.1 = 0 then ([], n + (sep l).1, (first (l.drop (sep l).1)).2.2)
  else
    if (lexR (n + (sep l).1 + (first (l.drop (sep l).1)).2.1) ((l.drop (sep l).1).drop (first (l.drop (sep l).1)).2.1)).2.2 ≠ 0 then
      ([], (lexR (n + (sep l).1 + (first (l.drop (sep l).1)).2.1) ((l.drop (sep l).1).drop (first (l.drop (sep l).1)).2.1)).2)
    else (⟨(first (l.drop (sep l).1)).1, (l.drop (sep l).1).take (first (l.drop (sep l).1)).2.1, ((n + (sep l).1 : Nat) : Int), l.take (sep l).1⟩ ::
      (lexR (n + (sep l).1 + (first (l.drop (sep l).1)).2.1) ((l.drop (sep l).1).drop (first (l.drop (sep l).1)).2.1)).1, 0, 0)
termination_by l.length
decreasing_by
  all_goals
    rename_i _ h2 h3
    have : l.drop (sep l).1 ≠ [] := h2
    have h4 : 0 < (l.drop (sep l).1).length := List.length_pos_iff.2 this
    simp only [List.length_drop] at h4 ⊢
    omega

theorem nameLen_le (l : List UInt8) : nameLen l ≤ l.length := by
  cases l with
  | nil => exact Nat.le_refl _
  | cons c r =>
    have := (List.takeWhile_sublist aln (l := r)).length_le
    rw [nameLen]
    by_cases h : ltr c = true
    · rw [if_pos h]; simp; omega
    · rw [if_neg h]; simp
theorem numLen_le (l : List UInt8) : numLen l ≤ l.length := (List.takeWhile_sublist dig (l := l)).length_le
theorem markLen_le (l : List UInt8) : markLen l ≤ l.length := by
  cases l with
  | nil => exact Nat.le_refl _
  | cons c r =>
    rw [markLen]
    by_cases h : (c :: r).take 2 ∈ twoM
    · rw [if_pos h]
      have : ((c :: r).take 2).length = 2 := by
        simp only [twoM, List.mem_cons, List.not_mem_nil, or_false] at h
        rcases h with h | h | h | h | h | h <;> rw [h] <;> rfl
      rw [List.length_take] at this
      omega
    · rw [if_neg h]
      split <;> simp
theorem lineLen_le (l : List UInt8) : lineLen l ≤ l.length := (List.takeWhile_sublist _ (l := l)).length_le
theorem closeAt_le : ∀ {l : List UInt8} {n : Nat}, closeAt l = some n → n + 2 ≤ l.length
  | [], n, h => by simp [closeAt] at h
  | [_], n, h => by simp [closeAt] at h
  | a :: b :: r, n, h => by
    unfold closeAt at h
    split at h
    · obtain rfl : 0 = n := by simpa using h
      simp
    · cases hc : closeAt (b :: r) with
      | none => rw [hc] at h; simp at h
      | some m =>
        rw [hc] at h
        obtain rfl : m + 1 = n := by simpa using h
        have := closeAt_le hc
        simp at this ⊢
        omega
theorem sep_le : ∀ (l : List UInt8), (sep l).1 ≤ l.length
  | [] => by rw [sep]; exact Nat.le_refl _
  | c :: r => by
    rw [sep]
    split
    · have := sep_le r; simp; omega
    · split
      · have h1 := sep_le (r.drop (lineLen r))
        have h2 := lineLen_le r
        simp only [List.length_drop] at h1
        simp
        omega
      · split
        · split
          · simp
          · rename_i n hn
            have h1 := sep_le (r.drop (n + 3))
            have h2 := closeAt_le hn
            simp only [List.length_drop] at h1 h2
            simp
            omega
        · simp
termination_by l => l.length
decreasing_by all_goals (simp only [List.length_cons, List.length_drop]; omega)
theorem first_cases (l : List UInt8) : (0 < (first l).2.1 ∧ (first l).2.2 = 0 ∧ (first l).2.1 ≤ l.length ∧ 0 < (first l).1 ∧ (first l).1 < 5) ∨ ((first l).2.1 = 0 ∧ ((first l).2.2 = 2 ∨ (first l).2.2 = 31 ∨ (first l).2.2 = 30) ∧ (first l).1 = 0) := by
  have h1 := nameLen_le l
  have h2 := numLen_le l
  have h3 := markLen_le l
  unfold first
  split
  · split
    · right; simp
    · split
      · left; exact ⟨by assumption, rfl, h1, by simp, by simp⟩
      · left; exact ⟨by assumption, rfl, h1, by simp, by simp⟩
  · split
    · split
      · right; simp
      · left; exact ⟨by assumption, rfl, h2, by simp, by simp⟩
    · split
      · left; exact ⟨by assumption, rfl, h3, by simp, by simp⟩
      · right; simp
/-- A text's bytes. -/
abbrev tl (s : ByteArray) : List UInt8 := s.data.toList
theorem tl_length (s : ByteArray) : (tl s).length = s.size := by simp [tl]
theorem dig_iff (c : UInt8) : dig c = decide (48 ≤ (c.toNat : Int) ∧ (c.toNat : Int) ≤ 57) := by
  rw [Bool.eq_iff_iff]; simp [dig, UInt8.le_iff_toNat_le]; omega
theorem ltr_iff (c : UInt8) : ltr c = decide ((97 ≤ (c.toNat : Int) ∧ (c.toNat : Int) ≤ 122) ∨ (65 ≤ (c.toNat : Int) ∧ (c.toNat : Int) ≤ 90) ∨ (c.toNat : Int) = 95) := by
  rw [Bool.eq_iff_iff]; simp [ltr, UInt8.le_iff_toNat_le, ← UInt8.toNat_inj]; omega
theorem byte_bd (c : UInt8) : 0 ≤ (c.toNat : Int) ∧ (c.toNat : Int) < 256 := by have := c.toNat_lt; omega

theorem ret_bool {a b : Bool} (h : a = b) : Ending.returned (.bool a) = Ending.returned (.bool b) := by rw [h]
theorem dig_true (c : UInt8) (h : dig c = true) : 48 ≤ (c.toNat : Int) ∧ (c.toNat : Int) ≤ 57 := by rw [dig_iff] at h; simpa using h
set_option maxHeartbeats 1000000 in
theorem letter_any (c : UInt8) (w : World) : Calls Tryd.prog 52 #[.int .u8 (c.toNat : Int)] w fun e w' => e = .returned (.bool (ltr c)) ∧ w = w' := by
  obtain ⟨v, hv⟩ : ∃ v, Hid (ltr c = v) := ⟨_, Lib.hid rfl⟩
  rw [hv.out]
  have h2 := ltr_iff c
  have Hv : Hid (decide ((97 ≤ (c.toNat : Int) ∧ (c.toNat : Int) ≤ 122) ∨ (65 ≤ (c.toNat : Int) ∧ (c.toNat : Int) ≤ 90) ∨ (c.toNat : Int) = 95) = v) := by rw [← h2]; exact hv
  have hb := byte_bd c
  clear h2 hv
  generalize (c.toNat : Int) = x at Hv hb ⊢
  by_cases h95 : x = 95
  · subst h95
    obtain rfl : true = v := by rw [← Hv.out]; simp
    go_enter Tryd.func52, Tryd.ntmps52
    go_wp2_with fail
    go_ret
    exact ⟨rfl, rfl⟩
  · have q : (x == 95) = false := by simp [h95]
    go_enter Tryd.func52, Tryd.ntmps52
    go_wp2_with fail
    all_goals
      go_ret
      refine ⟨ret_bool ?_, rfl⟩
      rw [← Hv.out]
      first
      | (simp [h95]; done)
      | (simp [h95]; omega)
      | (simp only [h95, or_false]; rw [Bool.eq_iff_iff]; simp; omega)
set_option maxHeartbeats 1000000 in
theorem digit_any (c : UInt8) (w : World) : Calls Tryd.prog 50 #[.int .u8 (c.toNat : Int)] w fun e w' => e = .returned (.bool (dig c)) ∧ w = w' := by
  obtain ⟨v, hv⟩ : ∃ v, Hid (dig c = v) := ⟨_, Lib.hid rfl⟩
  rw [hv.out]
  have h2 := dig_iff c
  have Hv : Hid (decide (48 ≤ (c.toNat : Int) ∧ (c.toNat : Int) ≤ 57) = v) := by rw [← h2]; exact hv
  have hb := byte_bd c
  clear h2 hv
  generalize (c.toNat : Int) = x at Hv hb ⊢
  go_enter Tryd.func50, Tryd.ntmps50
  go_wp2_with fail
  all_goals
    go_ret
    refine ⟨ret_bool ?_, rfl⟩
    rw [← Hv.out]
    first
    | (simp; done)
    | (simp; omega)
    | (rw [eq_comm, decide_eq_decide]; omega)

/-- How far a run of such bytes goes. -/
theorem run_next {p : UInt8 → Bool} {l : List UInt8} {k : Nat} {c : UInt8} (h : k ≤ (l.takeWhile p).length) (hc : l[k]? = some c) : (p c = true → k + 1 ≤ (l.takeWhile p).length) ∧ (p c = false → k = (l.takeWhile p).length) := by
  induction l generalizing k with
  | nil => simp at hc
  | cons x l ih =>
    cases k with
    | zero =>
      obtain rfl : x = c := by simpa using hc
      constructor
      · intro h2; rw [List.takeWhile_cons_of_pos h2]; simp
      · intro h2; rw [List.takeWhile_cons_of_neg (by simp [h2])]; rfl
    | succ k =>
      cases hx : p x with
      | false => rw [List.takeWhile_cons_of_neg (by simp [hx])] at h; simp at h
      | true =>
        rw [List.takeWhile_cons_of_pos hx] at h ⊢
        simp only [List.length_cons] at h ⊢
        have := ih (k := k) (by omega) (by simpa using hc)
        constructor
        · intro h2; have := this.1 h2; omega
        · intro h2; have := this.2 h2; omega
theorem tl_get (s : ByteArray) {k : Nat} (h : k < s.size) : (tl s)[k]? = some s[k] := by
  rw [List.getElem?_eq_getElem (by rw [tl_length]; exact h)]
  rfl

abbrev bs (l : List UInt8) : ByteArray := ⟨l.toArray⟩
theorem tl_bs (l : List UInt8) : tl (bs l) = l := by simp [tl]
theorem bs_tl (s : ByteArray) : bs (tl s) = s := by cases s; simp [tl, bs]
theorem ext_bs (s : ByteArray) (a b : Nat) : s.extract a b = bs (((tl s).drop a).take (b - a)) := by
  rw [← bs_tl (s.extract a b)]
  show bs (s.extract a b).data.toList = _
  rw [Lib.extract_data]
def Tk.row (t : Tk) : List Value := [.int .i64 t.kind, .string (bs t.text), .int .i64 t.at_, .string (bs t.lead)]
/-- The cells of t lie at o on. -/
def Tk.lies (W : World) (b o : Nat) (t : Tk) : Prop :=
  W.cell? ⟨b, o, none⟩ = some (.int .i64 t.kind) ∧ W.cell? ⟨b, o + 1, none⟩ = some (.string (bs t.text)) ∧ W.cell? ⟨b, o + 2, none⟩ = some (.int .i64 t.at_) ∧ W.cell? ⟨b, o + 3, none⟩ = some (.string (bs t.lead))
/-- The value v is a slice that reads as the tokens T. -/
def Toks (W : World) (v : Value) (T : List Tk) : Prop :=
  ∃ (a : Option Addr) (cap : Nat), v = .slice a T.length cap ∧ T.length ≤ cap ∧ cap ≤ maxLen ∧ ∀ k (t : Tk), T[k]? = some t → ∃ b off, a = some ⟨b, off, none⟩ ∧ b < W.heap.size ∧ t.lies W b (off + k * 4)
theorem toks_nil (W : World) : Toks W (.slice none 0 0) [] := ⟨none, 0, rfl, Nat.le_refl _, Nat.zero_le _, by simp⟩
theorem rows_length (T : List Tk) : (T.flatMap Tk.row).length = T.length * 4 := by
  induction T with
  | nil => rfl
  | cons h T ih => rw [List.flatMap_cons, List.length_append, ih]; simp [Tk.row]; omega
theorem rows_get {T : List Tk} {k : Nat} {t : Tk} (hk : T[k]? = some t) (j : Nat) (hj : j < 4) : (T.flatMap Tk.row)[k * 4 + j]? = t.row[j]? := by
  induction T generalizing k with
  | nil => simp at hk
  | cons g T ih =>
    rw [List.flatMap_cons]
    cases k with
    | zero =>
      obtain rfl : g = t := by simpa using hk
      rw [List.getElem?_append_left (by simp [Tk.row]; omega)]
      simp
    | succ k =>
      rw [List.getElem?_append_right (by simp [Tk.row]; omega)]
      rw [← ih (by simpa using hk)]
      congr 1
      simp [Tk.row]
      omega
theorem own_toks {W : World} {base n : Nat} {v : Value} {T : List Tk} (h : W.ownsRow base 66 4 v n (T.flatMap Tk.row)) : Toks W v T := by
  have hl := h.1
  rw [rows_length] at hl
  obtain rfl : n = T.length := by omega
  rcases h.2 with ⟨rfl, h0⟩ | ⟨g, cap, cur, rfl, _, hg, h1, h2, h3, h4⟩
  · obtain rfl : T = [] := List.eq_nil_of_length_eq_zero h0
    exact toks_nil W
  · refine ⟨_, cap, rfl, h1, h2, fun k t hk => ⟨g, 0, rfl, (Array.getElem?_eq_some_iff.1 hg).1, ?_⟩⟩
    have hc : ∀ j, j < 4 → W.cell? ⟨g, 0 + k * 4 + j, none⟩ = t.row[j]? := by
      intro j hj
      have hkl := (List.getElem?_eq_some_iff.1 hk).1
      rw [← rows_get hk j hj, ← h4, List.getElem?_take_of_lt (by omega)]
      simp [World.cell?, hg]
    exact ⟨hc 0 (by omega), hc 1 (by omega), hc 2 (by omega), hc 3 (by omega)⟩
theorem add_flat (b off j : Nat) : (⟨b, off, none⟩ : Addr).add j = ⟨b, off + j, none⟩ := by
  by_cases h0 : j = 0 <;> simp [Addr.add, h0]
theorem tok_new (W : World) (k : Int) (x : ByteArray) (p : Int) (y : ByteArray) (t : TypeId) : ∀ j u, ([.int .i64 k, .string x, .int .i64 p, .string y] : List Value)[j]? = some u → (W.alloc (.cells #[.int .i64 k, .string x, .int .i64 p, .string y] t)).cell? ((⟨W.heap.size, 0, none⟩ : Addr).add j) = some u := by
  intro j u hj
  rw [add_flat, Nat.zero_add]
  simp only [World.cell?, World.alloc_heap_new]
  simpa using hj
theorem tok_one (k : Int) (x : ByteArray) (p : Int) (y : ByteArray) : ∀ u ∈ ([.int .i64 k, .string x, .int .i64 p, .string y] : List Value), u.oneCell' = true := by
  intro u hu
  simp at hu
  rcases hu with rfl | rfl | rfl | rfl <;> rfl
theorem infoTok : (Tryd.prog.info? 66).map (fun i => (i.zero, i.size, i.bytes)) = some (some (.agg #[.int .i64 0, .string ⟨#[]⟩, .int .i64 0, .string ⟨#[]⟩]), 4, 48) := by kernel_rfl
theorem below_draws {B : Nat} {a w : World} (h : Below B a w) (q : Nat) : Below B a (w.drewN q) := ⟨h.os, h.tape, h.output, h.size, h.block⟩

/-- The token of the text s with the lead from a on, at p, of n bytes. -/
def tokAt (s : ByteArray) (kind : Int) (a p n : Nat) : Tk := ⟨kind, ((tl s).drop p).take n, (p : Int), ((tl s).drop a).take (p - a)⟩
theorem tokAt_row (s : ByteArray) (kind : Int) (a p n : Nat) : (tokAt s kind a p n).row = [.int .i64 kind, .string (s.extract p (p + n)), .int .i64 (p : Int), .string (s.extract a p)] := by
  unfold tokAt Tk.row
  rw [ext_bs s p (p + n), ext_bs s a p]
  simp

/-- What comes of tokens that are there already. -/
def cont (T : List Tk) (q : List Tk × Nat × Int) : List Tk × Nat × Int := if q.2.2 ≠ 0 then ([], q.2) else (T ++ q.1, 0, 0)
theorem lexR_zero (n : Nat) (l : List UInt8) : (lexR n l).2.2 = 0 → (lexR n l).2.1 = 0 := by
  rw [lexR]
  split
  · simp
  · split
    · simp
    · split
      · intro h
        rcases first_cases (l.drop (sep l).1) with h1 | h1
        · rename_i h2; omega
        · simp only at h; omega
      · split
        · rename_i h; intro h2; exact absurd h2 h
        · simp
theorem lexR_err (n : Nat) (l : List UInt8) : (lexR n l).2.2 ≠ 0 → (lexR n l).1 = [] := by
  rw [lexR]
  split
  · simp
  · split
    · simp
    · split
      · simp
      · split
        · simp
        · simp
def LexAt (l : List UInt8) (k : Nat) (T : List Tk) : Prop := k ≤ l.length ∧ T.length ≤ k ∧ lexR 0 l = cont T (lexR k (l.drop k))
theorem LexAt.start (l : List UInt8) : LexAt l 0 [] := by
  refine ⟨Nat.zero_le _, Nat.le_refl _, ?_⟩
  unfold cont
  rw [List.drop_zero, List.nil_append]
  have h1 := lexR_zero 0 l
  have h2 := lexR_err 0 l
  generalize lexR 0 l = q at *
  obtain ⟨T, p, e⟩ := q
  by_cases h : e = 0
  · subst h
    have := h1 rfl
    simp only at this
    subst this
    simp
  · have := h2 h
    simp only at this
    subst this
    rw [if_pos h]
theorem LexAt.sep_err {l : List UInt8} {k : Nat} {T : List Tk} (h : LexAt l k T) (hs : (sep (l.drop k)).2 = false) : lexR 0 l = ([], k + (sep (l.drop k)).1, 32) := by
  rw [h.2.2, lexR, if_pos hs]
  rfl
theorem LexAt.first_err {l : List UInt8} {k : Nat} {T : List Tk} (h : LexAt l k T) (hs : (sep (l.drop k)).2 = true) (hne : (l.drop k).drop (sep (l.drop k)).1 ≠ []) (hf : (first ((l.drop k).drop (sep (l.drop k)).1)).2.2 ≠ 0) :
    lexR 0 l = ([], k + (sep (l.drop k)).1, (first ((l.drop k).drop (sep (l.drop k)).1)).2.2) := by
  rcases first_cases ((l.drop k).drop (sep (l.drop k)).1) with h1 | h1
  · exact absurd h1.2.1 hf
  · rw [h.2.2, lexR, if_neg (by rw [hs]; simp), if_neg hne, if_pos h1.1]
    unfold cont
    rw [if_pos hf]
theorem LexAt.last {s : ByteArray} {k : Nat} {T : List Tk} (h : LexAt (tl s) k T) (hs : (sep ((tl s).drop k)).2 = true) (hnil : ((tl s).drop k).drop (sep ((tl s).drop k)).1 = []) :
    lexR 0 (tl s) = (T ++ [tokAt s 5 k (k + (sep ((tl s).drop k)).1) 0], 0, 0) := by
  rw [h.2.2, lexR, if_neg (by rw [hs]; simp), if_pos hnil]
  unfold cont tokAt
  simp
theorem LexAt.next {s : ByteArray} {k : Nat} {T : List Tk} (h : LexAt (tl s) k T) (hs : (sep ((tl s).drop k)).2 = true) (hne : ((tl s).drop k).drop (sep ((tl s).drop k)).1 ≠ []) (hf : (first (((tl s).drop k).drop (sep ((tl s).drop k)).1)).2.2 = 0) :
    LexAt (tl s) (k + (sep ((tl s).drop k)).1 + (first (((tl s).drop k).drop (sep ((tl s).drop k)).1)).2.1) (T ++ [tokAt s (first (((tl s).drop k).drop (sep ((tl s).drop k)).1)).1 k (k + (sep ((tl s).drop k)).1) (first (((tl s).drop k).drop (sep ((tl s).drop k)).1)).2.1]) := by
  have hsl := sep_le ((tl s).drop k)
  rcases first_cases (((tl s).drop k).drop (sep ((tl s).drop k)).1) with h1 | h1
  · obtain ⟨p1, p2, p3, -, -⟩ := h1
    rw [List.length_drop, List.length_drop] at p3
    rw [List.length_drop] at hsl
    obtain ⟨hk, hT, hx⟩ := h
    refine ⟨by omega, by rw [List.length_append, List.length_singleton]; omega, ?_⟩
    rw [hx, lexR, if_neg (by rw [hs]; simp), if_neg hne, if_neg (by omega)]
    have e1 : (((tl s).drop k).drop (sep ((tl s).drop k)).1).drop (first (((tl s).drop k).drop (sep ((tl s).drop k)).1)).2.1 = (tl s).drop (k + (sep ((tl s).drop k)).1 + (first (((tl s).drop k).drop (sep ((tl s).drop k)).1)).2.1) := by rw [List.drop_drop, List.drop_drop]; congr 1; omega
    rw [e1]
    have e2 : ((tl s).drop k).drop (sep ((tl s).drop k)).1 = (tl s).drop (k + (sep ((tl s).drop k)).1) := by rw [List.drop_drop]
    generalize lexR (k + (sep ((tl s).drop k)).1 + (first (((tl s).drop k).drop (sep ((tl s).drop k)).1)).2.1) ((tl s).drop (k + (sep ((tl s).drop k)).1 + (first (((tl s).drop k).drop (sep ((tl s).drop k)).1)).2.1)) = q
    unfold cont tokAt
    by_cases hq : q.2.2 ≠ 0
    · rw [if_pos hq, if_pos hq, if_pos (by exact hq)]
    · rw [if_neg hq, if_neg (by simp), if_neg hq]
      rw [e2]
      simp
  · omega

def LexGives (w : World) (s : ByteArray) (e : Ending) (w' : World) : Prop :=
  (∃ v, e = .returned (.tuple #[v, .int .i64 ((lexR 0 (tl s)).2.1 : Nat), .int .i64 (lexR 0 (tl s)).2.2]) ∧ Toks w' v (lexR 0 (tl s)).1) ∧ Below w.heap.size w w'
theorem own_below {W W' : World} {base e size n : Nat} {v : Value} {xs : List Value} (h : W.ownsRow base e size v n xs) (hb : Below W.heap.size W W') : W'.ownsRow base e size v n xs := by
  refine ⟨h.1, ?_⟩
  rcases h.2 with h0 | ⟨g, cap, cur, e1, h1, hg, h2, h3, h4, h5⟩
  · exact .inl h0
  · exact .inr ⟨g, cap, cur, e1, h1, (hb.block _ (Array.getElem?_eq_some_iff.1 hg).1).trans hg, h2, h3, h4, h5⟩
theorem tw_take {p : UInt8 → Bool} {r : List UInt8} : r.take (r.takeWhile p).length = r.takeWhile p := by
  induction r with
  | nil => rfl
  | cons c r ih =>
    rw [List.takeWhile_cons]
    split
    · simp [ih]
    · rfl
theorem tw_all {p : UInt8 → Bool} {r : List UInt8} {c : UInt8} (h : c ∈ r.takeWhile p) : p c = true := by
  induction r with
  | nil => simp at h
  | cons d r ih =>
    rw [List.takeWhile_cons] at h
    split at h
    · rcases List.mem_cons.1 h with rfl | h
      · assumption
      · exact ih h
    · simp at h
theorem sep_nil : sep [] = (0, true) := by rw [sep]
theorem sep_else {c : UInt8} {r : List UInt8} (h1 : blank c = false) (h2 : ¬ (c = 47 ∧ r.head? = some 47)) (h3 : ¬ (c = 47 ∧ r.head? = some 42)) : sep (c :: r) = (0, true) := by
  rw [sep, if_neg (by simp [h1]), if_neg h2, if_neg h3]
/-- The kept names lie in a new block. -/
theorem kept_row (w : World) : ∃ W2, Hid (w.alloc (.cells #[.string ⟨#[99, 108, 97, 115, 115]⟩, .string ⟨#[101, 120, 116, 101, 110, 100, 115]⟩, .string ⟨#[115, 116, 97, 116, 105, 99]⟩, .string ⟨#[118, 111, 105, 100]⟩, .string ⟨#[105, 110, 116]⟩, .string ⟨#[98, 111, 111, 108, 101, 97, 110]⟩, .string ⟨#[105, 102]⟩, .string ⟨#[101, 108, 115, 101]⟩, .string ⟨#[119, 104, 105, 108, 101]⟩, .string ⟨#[114, 101, 116, 117, 114, 110]⟩, .string ⟨#[112, 114, 105, 110, 116]⟩, .string ⟨#[116, 114, 117, 101]⟩, .string ⟨#[102, 97, 108, 115, 101]⟩, .string ⟨#[110, 117, 108, 108]⟩, .string ⟨#[116, 104, 105, 115]⟩, .string ⟨#[110, 101, 119]⟩] 9) = W2) ∧ W2.heap.size = w.heap.size + 1 ∧ Below w.heap.size w W2 ∧ ∀ k x, keptL[k]? = some x → W2.cell? ⟨w.heap.size, k, none⟩ = some (.string (bs x)) := by
  refine ⟨_, Lib.hid rfl, by simp, (Below.refl _ w).alloc (Nat.le_refl _) _, fun k x h => ?_⟩
  rw [Lib.cell_of_heap (World.alloc_heap_new w _)]
  have hm : (#[.string ⟨#[99, 108, 97, 115, 115]⟩, .string ⟨#[101, 120, 116, 101, 110, 100, 115]⟩, .string ⟨#[115, 116, 97, 116, 105, 99]⟩, .string ⟨#[118, 111, 105, 100]⟩, .string ⟨#[105, 110, 116]⟩, .string ⟨#[98, 111, 111, 108, 101, 97, 110]⟩, .string ⟨#[105, 102]⟩, .string ⟨#[101, 108, 115, 101]⟩, .string ⟨#[119, 104, 105, 108, 101]⟩, .string ⟨#[114, 101, 116, 117, 114, 110]⟩, .string ⟨#[112, 114, 105, 110, 116]⟩, .string ⟨#[116, 114, 117, 101]⟩, .string ⟨#[102, 97, 108, 115, 101]⟩, .string ⟨#[110, 117, 108, 108]⟩, .string ⟨#[116, 104, 105, 115]⟩, .string ⟨#[110, 101, 119]⟩] : Array Value).toList = keptL.map (fun x => Value.string (bs x)) := rfl
  show _[k]? = _
  rw [← Array.getElem?_toList, hm, List.getElem?_map, h]
  rfl
theorem kept_len : keptL.length = 16 := rfl
theorem bs_beq (s : ByteArray) (x : List UInt8) : (x == s.toList) = decide (x = tl s) := by
  rw [Lib.toList_data, Bool.eq_iff_iff]
  simp [tl]
set_option maxRecDepth 100000 in
set_option maxHeartbeats 4000000 in
theorem RefKept_any (s : ByteArray) (w : World) : Calls Tryd.prog 53 #[.string s] w fun e w' => e = .returned (.bool (decide (tl s ∈ keptL))) ∧ Below w.heap.size w w' := by
  obtain ⟨W2, hW2, hs2, hb2, hrow⟩ := kept_row w
  have Hrow := Lib.hid hrow; clear hrow
  go_enter Tryd.func53, Tryd.ntmps53
  go_wp2_with fail
  rw [hW2.out]
  go_loop [4] (fun c => ∃ k : Nat, c = .int .i64 k ∧ k ≤ 16 ∧ Hid (∀ j x, j < k → keptL[j]? = some x → x ≠ tl s)) (fun c => 16 - (intOf c).toNat)
  case atStart => exact ⟨0, rfl, by omega, Lib.hid (fun j x h => by omega)⟩
  case round =>
    obtain ⟨k, rfl, hk, hno⟩ := hrel
    by_cases hlt : k < 16
    · obtain ⟨x, hx⟩ : ∃ x, keptL[k]? = some x := ⟨_, List.getElem?_eq_getElem (by rw [kept_len]; exact hlt)⟩
      have c0 := Hrow.out k x hx
      have f := bs_beq s x
      by_cases he : x = tl s
      · have hin : Hid (decide (tl s ∈ keptL) = true) := Lib.hid (by rw [decide_eq_true_iff, ← he]; exact List.mem_of_getElem? hx)
        rw [decide_eq_true he] at f
        clear he hx
        go_wp2_with fail
        go_ret
        exact ⟨ret_bool (by rw [hin.out]), hb2⟩
      · have hn : Hid (∀ j y, j < k + 1 → keptL[j]? = some y → y ≠ tl s) := Lib.hid (fun j y hj hy => by
          rcases Nat.lt_or_ge j k with h | h
          · exact hno.out j y h hy
          · obtain rfl : j = k := by omega
            rw [hx] at hy
            exact Option.some.inj hy ▸ he)
        rw [decide_eq_false he] at f
        clear he hx hno
        go_wp2_with fail
        exact ⟨⟨k + 1, by go_num, by omega, hn⟩, by simp [intOf]; omega⟩
    · obtain rfl : k = 16 := by omega
      have hin : Hid (decide (tl s ∈ keptL) = false) := Lib.hid (by
        rw [decide_eq_false_iff_not]
        intro hm
        obtain ⟨j, hj⟩ := List.mem_iff_getElem?.1 hm
        exact hno.out j _ (by have := (List.getElem?_eq_some_iff.1 hj).1; rw [kept_len] at this; exact this) hj rfl)
      clear hno
      go_wp2_with fail
      go_ret
      exact ⟨ret_bool (by rw [hin.out]), hb2⟩
theorem aln_of {c : UInt8} : aln c = (dig c || ltr c) := rfl
def greatL (l : List UInt8) : Bool := decide (10 < l.length) || decide (2147483647 < valOf l)
theorem valOf_next {l : List UInt8} {k : Nat} {c : UInt8} (h : l[k]? = some c) : valOf (l.take (k + 1)) = 10 * valOf (l.take k) + (c.toNat - 48) := by
  unfold valOf
  rw [List.take_add_one, h, List.foldl_append]
  rfl
theorem valOf_lt {l : List UInt8} (h : ∀ c ∈ l, dig c = true) : ∀ k, k ≤ l.length → valOf (l.take k) < 10 ^ k
  | 0, _ => by simp [valOf]
  | k + 1, hk => by
    have ih := valOf_lt h k (by omega)
    have hc := List.getElem?_eq_getElem (l := l) (i := k) (by omega)
    have := dig_true _ (h _ (List.mem_of_getElem? hc))
    rw [valOf_next hc, Nat.pow_succ]
    omega
theorem ten_le {k : Nat} (h : k ≤ 10) : 10 ^ k ≤ 10000000000 := Nat.pow_le_pow_right (n := 10) (by omega) h
set_option maxRecDepth 100000 in
set_option maxHeartbeats 4000000 in
theorem great_any (s : ByteArray) (w : World) (hd : ∀ c ∈ tl s, dig c = true) : Calls Tryd.prog 51 #[.string s] w fun e w' => e = .returned (.bool (greatL (tl s))) ∧ w = w' := by
  have hl := tl_length s
  have Hd := Lib.hid hd; clear hd
  obtain ⟨v, hv⟩ : ∃ v, Hid (greatL (tl s) = v) := ⟨_, Lib.hid rfl⟩
  rw [hv.out]
  go_enter Tryd.func51, Tryd.ntmps51
  by_cases h10 : 10 < s.size
  · have h1 : decide (10 < (s.size : Int)) = true := by simp; omega
    have hf : v = true := by rw [← hv.out]; unfold greatL; rw [decide_eq_true (p := 10 < (tl s).length) (by omega)]; rfl
    subst hf
    go_wp2_with fail
    go_ret
    exact ⟨rfl, rfl⟩
  have h1 : decide (10 < (s.size : Int)) = false := by simp; omega
  go_wp2_with fail
  go_loop [3, 4] (fun c d => ∃ k : Nat, c = .int .i64 (valOf ((tl s).take k) : Nat) ∧ d = .int .i64 k ∧ k ≤ s.size) (fun _ d => s.size - (intOf d).toNat)
  case atStart => exact ⟨0, rfl, rfl, Nat.zero_le _⟩
  case round =>
    obtain ⟨k, rfl, rfl, hk⟩ := hrel
    have hlt10 := valOf_lt Hd.out k (by omega)
    have h10' := ten_le (k := k) (by omega)
    by_cases hlt : k < s.size
    · obtain ⟨c, hc⟩ : ∃ c, s[k] = c := ⟨_, rfl⟩
      have hg := tl_get s hlt
      rw [hc] at hg
      have hdc := dig_true c (Hd.out c (List.mem_of_getElem? hg))
      have hnx := Lib.hid (valOf_next hg)
      clear hg
      have i1 : IntKind.u8.wrap ((c.toNat : Int) - 48) = (c.toNat : Int) - 48 := Go.IntWalk.u8_in _ (by omega)
      have i2 : IntKind.i64.wrap ((c.toNat : Int) - 48) = (c.toNat : Int) - 48 := Go.IntWalk.i64_in _ (by omega)
      generalize valOf ((tl s).take k) = n at *
      have i3 : IntKind.i64.wrap (10 * (n : Int)) = 10 * (n : Int) := Go.IntWalk.i64_in _ (by omega)
      have i4 : IntKind.i64.wrap (10 * (n : Int) + ((c.toNat : Int) - 48)) = 10 * (n : Int) + ((c.toNat : Int) - 48) := Go.IntWalk.i64_in _ (by omega)
      go_wp2_with fail
      exact ⟨⟨k + 1, by rw [hnx.out]; congr 1; omega, by go_num, by omega⟩, by simp [intOf]; omega⟩
    · obtain rfl : k = s.size := by omega
      have hall : (tl s).take s.size = tl s := List.take_of_length_le (by omega)
      rw [hall] at hlt10 ⊢
      obtain ⟨n, hn⟩ : ∃ n, Hid (valOf (tl s) = n) := ⟨_, Lib.hid rfl⟩
      rw [hn.out] at hlt10 ⊢
      have hf : v = decide (2147483647 < (n : Int)) := by
        rw [← hv.out]
        unfold greatL
        rw [decide_eq_false (p := 10 < (tl s).length) (by omega), hn.out, Bool.false_or, Bool.eq_iff_iff]
        simp
        omega
      subst hf
      clear hall
      go_wp2_with fail
      go_ret
      exact ⟨rfl, rfl⟩
/-- The marks of two bytes lie in a new block. -/
theorem two_row (w : World) : ∃ W2, Hid (w.alloc (.cells #[.string ⟨#[61, 61]⟩, .string ⟨#[33, 61]⟩, .string ⟨#[60, 61]⟩, .string ⟨#[62, 61]⟩, .string ⟨#[38, 38]⟩, .string ⟨#[124, 124]⟩] 9) = W2) ∧ W2.heap.size = w.heap.size + 1 ∧ Below w.heap.size w W2 ∧ ∀ k x, twoM[k]? = some x → W2.cell? ⟨w.heap.size, k, none⟩ = some (.string (bs x)) := by
  refine ⟨_, Lib.hid rfl, by simp, (Below.refl _ w).alloc (Nat.le_refl _) _, fun k x h => ?_⟩
  rw [Lib.cell_of_heap (World.alloc_heap_new w _)]
  have hm : (#[.string ⟨#[61, 61]⟩, .string ⟨#[33, 61]⟩, .string ⟨#[60, 61]⟩, .string ⟨#[62, 61]⟩, .string ⟨#[38, 38]⟩, .string ⟨#[124, 124]⟩] : Array Value).toList = twoM.map (fun x => Value.string (bs x)) := rfl
  show _[k]? = _
  rw [← Array.getElem?_toList, hm, List.getElem?_map, h]
  rfl
theorem two_len : twoM.length = 6 := rfl
theorem one_len : oneM.length = 16 := rfl
theorem two_size {x : List UInt8} (h : x ∈ twoM) : x.length = 2 := by
  simp only [twoM, List.mem_cons, List.not_mem_nil, or_false] at h
  rcases h with rfl | rfl | rfl | rfl | rfl | rfl <;> rfl
theorem ext_beq (s : ByteArray) (k : Nat) (x : List UInt8) : ((s.extract k (k + 2)).toList == x) = decide (((tl s).drop k).take 2 = x) := by
  rw [Lib.toList_data, Bool.eq_iff_iff, show (s.extract k (k + 2)).data.toList = tl (s.extract k (k + 2)) from rfl, ext_bs, tl_bs, show k + 2 - k = 2 from by omega]
  simp
set_option maxRecDepth 100000 in
set_option maxHeartbeats 8000000 in
theorem mark_any (s : ByteArray) (k : Nat) (w : World) (hs : s.size ≤ 2000000000) (hk : k < s.size) : Calls Tryd.prog 54 #[.string s, .int .i64 k] w fun e w' => e = .returned (.int .i64 (markLen ((tl s).drop k) : Nat)) ∧ Below w.heap.size w w' := by
  have hl := tl_length s
  obtain ⟨W2, hW2, hs2, hb2, hrow⟩ := two_row w
  have Hrow := Lib.hid hrow; clear hrow
  obtain ⟨v, hv⟩ : ∃ v, Hid (markLen ((tl s).drop k) = v) := ⟨_, Lib.hid rfl⟩
  rw [hv.out]
  obtain ⟨c, hc⟩ : ∃ c, s[k] = c := ⟨_, rfl⟩
  have hg := tl_get s hk
  rw [hc] at hg
  obtain ⟨r, hr⟩ : ∃ r, (tl s).drop k = c :: r := by
    obtain ⟨h1, h2⟩ := List.getElem?_eq_some_iff.1 hg
    exact ⟨_, by rw [List.drop_eq_getElem_cons h1, h2]⟩
  have Hr := Lib.hid hr; clear hr hg
  obtain ⟨one, hone⟩ : ∃ one, Hid (({ data := #[43, 45, 42, 47, 37, 60, 62, 61, 33, 40, 41, 123, 125, 59, 44, 46] } : ByteArray) = one) := ⟨_, Lib.hid rfl⟩
  have o1 : one.size = 16 := by rw [← hone.out]; rfl
  have o2 : Hid (tl one = oneM) := Lib.hid (by rw [← hone.out]; rfl)
  go_enter Tryd.func54, Tryd.ntmps54
  go_wp2_with fail
  rw [hW2.out]
  go_loopw [6] (fun x wr => ∃ j q : Nat, Hid (wr = W2.drewN q) ∧ x = .int .i64 j ∧ j ≤ 6 ∧ Hid (∀ i x, i < j → twoM[i]? = some x → (c :: r).take 2 ≠ x)) (fun x _ => 6 - (intOf x).toNat)
  case atStart => exact ⟨0, 0, Lib.hid rfl, rfl, by omega, Lib.hid (fun i x h => by omega)⟩
  case round =>
    obtain ⟨j, q, hq, rfl, hj, hno⟩ := hrel
    by_cases hgo : j < 6 ∧ k + 2 ≤ s.size
    · obtain ⟨hj6, hk2⟩ := hgo
      obtain ⟨x, hx⟩ : ∃ x, twoM[j]? = some x := ⟨_, List.getElem?_eq_getElem (by rw [two_len]; exact hj6)⟩
      have c0 : wr.cell? ⟨w.heap.size, j, none⟩ = some (.string (bs x)) := by rw [hq.out]; exact Hrow.out j x hx
      have f := ext_beq s k x
      rw [Hr.out] at f
      have hB : Hid (∀ n, Below w.heap.size w (wr.drewN n)) := Lib.hid (fun n => by rw [hq.out]; exact below_draws (below_draws hb2 q) n)
      by_cases he : (c :: r).take 2 = x
      · have hf : v = 2 := by rw [← hv.out, Hr.out, markLen, if_pos (he ▸ List.mem_of_getElem? hx)]
        subst hf
        rw [decide_eq_true he] at f
        clear he hx hno
        go_wp2_with fail
        go_quiet (fail)
        go_wp2_with fail
        go_ret
        exact ⟨rfl, hB.out nq⟩
      · have hn : Hid (∀ i y, i < j + 1 → twoM[i]? = some y → (c :: r).take 2 ≠ y) := Lib.hid (fun i y hi hy => by
          rcases Nat.lt_or_ge i j with h | h
          · exact hno.out i y h hy
          · obtain rfl : i = j := by omega
            rw [hx] at hy
            exact Option.some.inj hy ▸ he)
        rw [decide_eq_false he] at f
        clear he hx hno
        go_wp2_with fail
        go_quiet (fail)
        go_wp2_with fail
        exact ⟨⟨j + 1, q + nq, Lib.hid (by rw [hq.out, World.drewN_drewN]), by go_num, by omega, hn⟩, by simp [intOf]; omega⟩
    · have hno2 : Hid ((c :: r).take 2 ∉ twoM) := Lib.hid (fun hm => by
        by_cases hk2 : k + 2 ≤ s.size
        · obtain ⟨i, hi⟩ := List.mem_iff_getElem?.1 hm
          have h6 := (List.getElem?_eq_some_iff.1 hi).1
          rw [two_len] at h6
          exact hno.out i _ (by omega) hi rfl
        · have h2 := two_size hm
          rw [← Hr.out, List.length_take, List.length_drop] at h2
          omega)
      have hB : Hid (Below w.heap.size w wr) := Lib.hid (by rw [hq.out]; exact below_draws hb2 q)
      clear hno
      have hk3 : j < 6 → ¬ (k + 2 ≤ s.size) := fun h1 h2 => hgo ⟨h1, h2⟩
      clear hgo
      obtain ⟨W3, hW3⟩ : ∃ W3, W3 = wr := ⟨_, rfl⟩
      subst hW3
      have hor : (j < 6 ∧ ¬ (k + 2 ≤ s.size)) ∨ j = 6 := by
        rcases Nat.lt_or_ge j 6 with h | h
        · exact .inl ⟨h, hk3 h⟩
        · exact .inr (by omega)
      clear hk3
      rcases hor with ⟨h6, hk2⟩ | rfl
      all_goals
        go_wp2_with fail
        rw [hone.out]
        go_loopw [8] (fun x wr => ∃ j q : Nat, Hid (wr = W3.drewN q) ∧ x = .int .i64 j ∧ j ≤ 16 ∧ Hid (∀ i x, i < j → oneM[i]? = some x → c ≠ x)) (fun x _ => 16 - (intOf x).toNat)
        case atStart => exact ⟨0, 0, Lib.hid rfl, rfl, by omega, Lib.hid (fun i x h => by omega)⟩
        case round =>
          obtain ⟨j, q, hq, rfl, hj, hno⟩ := hrel
          by_cases hlt : j < 16
          · obtain ⟨x, hx⟩ : ∃ x, one[j] = x := ⟨_, rfl⟩
            have hg := tl_get one (show j < one.size by omega)
            rw [hx, o2.out] at hg
            have hcx : ((c.toNat : Int) == (x.toNat : Int)) = decide (c = x) := by
              rw [Bool.eq_iff_iff]
              simp only [beq_iff_eq, decide_eq_true_eq]
              constructor
              · intro h; exact UInt8.toNat_inj.1 (by omega)
              · rintro rfl; rfl
            have hB3 : Hid (∀ n, Below w.heap.size w (wr.drewN n)) := Lib.hid (fun n => by rw [hq.out]; exact below_draws (below_draws hB.out q) n)
            by_cases he : c = x
            · have hf : v = 1 := by rw [← hv.out, Hr.out, markLen, if_neg hno2.out, if_pos (he ▸ List.mem_of_getElem? hg)]
              subst hf
              rw [decide_eq_true he] at hcx
              clear he hg hno
              go_wp2_with fail
              go_quiet (fail)
              go_wp2_with fail
              go_ret
              exact ⟨rfl, hB3.out nq⟩
            · have hn : Hid (∀ i y, i < j + 1 → oneM[i]? = some y → c ≠ y) := Lib.hid (fun i y hi hy => by
                rcases Nat.lt_or_ge i j with h | h
                · exact hno.out i y h hy
                · obtain rfl : i = j := by omega
                  rw [hg] at hy
                  exact Option.some.inj hy ▸ he)
              rw [decide_eq_false he] at hcx
              clear he hg hno
              go_wp2_with fail
              go_quiet (fail)
              go_wp2_with fail
              exact ⟨⟨j + 1, q + nq, Lib.hid (by rw [hq.out, World.drewN_drewN]), by go_num, by omega, hn⟩, by simp [intOf]; omega⟩
          · obtain rfl : j = 16 := by omega
            have hno1 : c ∉ oneM := fun hm => by
              obtain ⟨i, hi⟩ := List.mem_iff_getElem?.1 hm
              have h6 := (List.getElem?_eq_some_iff.1 hi).1
              rw [one_len] at h6
              exact hno.out i _ (by omega) hi rfl
            have hf : v = 0 := by rw [← hv.out, Hr.out, markLen, if_neg hno2.out, if_neg hno1]
            subst hf
            have hB3 : Hid (Below w.heap.size w wr) := Lib.hid (by rw [hq.out]; exact below_draws hB.out q)
            clear hno hno1
            go_wp2_with fail
            go_ret
            exact ⟨rfl, hB3.out⟩
/-- What a note's end means for where the separators end. -/
def CloseFin (l : List UInt8) (a P : Nat) (B : Bool) : Option Nat → Prop
  | none => P = a ∧ B = false
  | some n => P = (a + 2 + n + 2) + (sep (l.drop (a + 2 + n + 2))).1 ∧ B = (sep (l.drop (a + 2 + n + 2))).2
theorem drop_at {s : ByteArray} {a : Nat} {c : UInt8} (h : a < s.size) (hc : s[a] = c) : (tl s).drop a = c :: (tl s).drop (a + 1) := by
  have hg := tl_get s h
  rw [hc] at hg
  obtain ⟨h1, h2⟩ := List.getElem?_eq_some_iff.1 hg
  rw [List.drop_eq_getElem_cons h1, h2]
theorem byte_eq {c d : UInt8} : ((c.toNat : Int) == (d.toNat : Int)) = decide (c = d) := by
  rw [Bool.eq_iff_iff]
  simp only [beq_iff_eq, decide_eq_true_eq]
  constructor
  · intro h; exact UInt8.toNat_inj.1 (by omega)
  · rintro rfl; rfl
theorem line_at {s : ByteArray} {a : Nat} {c : UInt8} (h : a < s.size) (hc : s[a] = c) : lineLen ((tl s).drop a) = if c = 10 then 0 else lineLen ((tl s).drop (a + 1)) + 1 := by
  rw [drop_at h hc, lineLen, List.takeWhile_cons]
  by_cases h10 : c = 10
  · subst h10; simp
  · rw [if_pos (by simpa using h10), if_neg h10]; rfl
theorem line_end {s : ByteArray} {a : Nat} (h : s.size ≤ a) : lineLen ((tl s).drop a) = 0 := by
  rw [List.drop_of_length_le (by rw [tl_length]; exact h)]; rfl
theorem close_at {s : ByteArray} {a : Nat} {c d : UInt8} (h : a + 1 < s.size) (hc : s[a] = c) (hd : s[a + 1] = d) : closeAt ((tl s).drop a) = if c = 42 ∧ d = 47 then some 0 else (closeAt ((tl s).drop (a + 1))).map (· + 1) := by
  rw [drop_at (by omega) hc, drop_at h hd]
  conv => lhs; unfold closeAt
theorem close_end {s : ByteArray} {a : Nat} (h : s.size ≤ a + 1) : closeAt ((tl s).drop a) = none := by
  have hl : ((tl s).drop a).length ≤ 1 := by rw [List.length_drop, tl_length]; omega
  match hx : (tl s).drop a, hl with
  | [], _ => rfl
  | [_], _ => rfl
set_option maxRecDepth 100000 in
set_option maxHeartbeats 8000000 in
theorem between_any (s : ByteArray) (k : Nat) (w : World) (hs : s.size ≤ 2000000000) (hk : k ≤ s.size) :
    Calls Tryd.prog 39 #[.string s, .int .i64 k] w fun e w' => e = .returned (.tuple #[.int .i64 (k + (sep ((tl s).drop k)).1 : Nat), .bool (sep ((tl s).drop k)).2]) ∧ w = w' := by
  have hl := tl_length s
  obtain ⟨P, hP⟩ : ∃ P, Hid (k + (sep ((tl s).drop k)).1 = P) := ⟨_, Lib.hid rfl⟩
  obtain ⟨B, hB⟩ : ∃ B, Hid ((sep ((tl s).drop k)).2 = B) := ⟨_, Lib.hid rfl⟩
  rw [hP.out, hB.out]
  go_enter Tryd.func39, Tryd.ntmps39
  go_wp2_with fail
  go_loop [1] (fun c => ∃ a : Nat, c = .int .i64 a ∧ a ≤ s.size ∧ Hid (P = a + (sep ((tl s).drop a)).1 ∧ B = (sep ((tl s).drop a)).2)) (fun c => s.size - (intOf c).toNat)
  case atStart => exact ⟨k, rfl, hk, Lib.hid ⟨hP.out.symm, hB.out.symm⟩⟩
  case round =>
    obtain ⟨a, rfl, ha, hat⟩ := hrel
    by_cases hlt : a < s.size
    · obtain ⟨c, hc⟩ : ∃ c, s[a] = c := ⟨_, rfl⟩
      have hx := Lib.hid (drop_at hlt hc)
      by_cases hbl : blank c = true
      · have hn : Hid (P = (a + 1) + (sep ((tl s).drop (a + 1))).1 ∧ B = (sep ((tl s).drop (a + 1))).2) := Lib.hid (by
          have := hat.out
          rw [hx.out, sep, if_pos hbl] at this
          simp only at this
          exact ⟨by omega, this.2⟩)
        have hor : c = 32 ∨ c = 9 ∨ c = 10 ∨ c = 13 := by simpa [blank, or_assoc] using hbl
        clear hbl hat
        rcases hor with rfl | rfl | rfl | rfl
        all_goals
          go_wp2_with fail
          exact ⟨⟨a + 1, by go_num, by omega, hn⟩, by simp [intOf]; omega⟩
      · have hbf : blank c = false := by simpa using hbl
        have n1 : ((c.toNat : Int) == 32) = false := by have := byte_eq (c := c) (d := 32); rw [decide_eq_false (by rintro rfl; simp [blank] at hbf)] at this; exact this
        have n2 : ((c.toNat : Int) == 9) = false := by have := byte_eq (c := c) (d := 9); rw [decide_eq_false (by rintro rfl; simp [blank] at hbf)] at this; exact this
        have n3 : ((c.toNat : Int) == 10) = false := by have := byte_eq (c := c) (d := 10); rw [decide_eq_false (by rintro rfl; simp [blank] at hbf)] at this; exact this
        have n4 : ((c.toNat : Int) == 13) = false := by have := byte_eq (c := c) (d := 13); rw [decide_eq_false (by rintro rfl; simp [blank] at hbf)] at this; exact this
        by_cases hlast : s.size ≤ a + 1
        · have d1 : decide ((s.size : Int) ≤ (a : Int) + 1) = true := by simp; omega
          have he : Hid (P = a ∧ B = true) := Lib.hid (by
            have := hat.out
            rw [hx.out, List.drop_of_length_le (by omega : (tl s).length ≤ a + 1), sep_else hbf (by simp) (by simp)] at this
            exact ⟨by simpa using this.1, this.2⟩)
          obtain ⟨rfl, rfl⟩ := he.out
          clear hbl hat he
          go_wp2_with fail
          go_ret2
          exact ⟨rfl, rfl⟩
        · have d1 : decide ((s.size : Int) ≤ (a : Int) + 1) = false := by simp; omega
          have hlt2 : a + 1 < s.size := by omega
          obtain ⟨d, hd⟩ : ∃ d, s[a + 1] = d := ⟨_, rfl⟩
          have hh : Hid (((tl s).drop (a + 1)).head? = some d) := Lib.hid (by rw [drop_at hlt2 hd]; rfl)
          by_cases e1 : c = 47
          · subst e1
            by_cases e2 : d = 47
            · have hn : Hid (P = a + lineLen ((tl s).drop a) + (sep ((tl s).drop (a + lineLen ((tl s).drop a)))).1 ∧ B = (sep ((tl s).drop (a + lineLen ((tl s).drop a)))).2) := Lib.hid (by
                have := hat.out
                rw [hx.out, sep, if_neg (by rw [hbf]; simp), if_pos ⟨rfl, by rw [hh.out, e2]⟩, List.drop_drop] at this
                have h10 : (47 : UInt8) ≠ 10 := by decide
                rw [line_at hlt hc, if_neg h10, show a + (lineLen ((tl s).drop (a + 1)) + 1) = a + 1 + lineLen ((tl s).drop (a + 1)) from by omega]
                simp only at this
                exact ⟨by omega, this.2⟩)
              have hle : a + lineLen ((tl s).drop a) ≤ s.size := by have := lineLen_le ((tl s).drop a); rw [List.length_drop, hl] at this; omega
              have hpos : 0 < lineLen ((tl s).drop a) := by rw [line_at hlt hc, if_neg (by decide)]; omega
              subst e2
              generalize hz : a + lineLen ((tl s).drop a) = z at hn hle
              have hza : a < z := by omega
              have Hz := Lib.hid hz
              clear hpos hbl hat hz
              go_wp2_with fail
              go_loop [1] (fun x => ∃ b : Nat, x = .int .i64 b ∧ b ≤ s.size ∧ Hid (b + lineLen ((tl s).drop b) = z)) (fun x => s.size - (intOf x).toNat)
              case atStart => exact ⟨a, rfl, ha, Hz⟩
              case round =>
                obtain ⟨b, rfl, hb, hbz⟩ := hrel
                by_cases hlb : b < s.size
                · obtain ⟨e, he⟩ : ∃ e, s[b] = e := ⟨_, rfl⟩
                  have hla := line_at hlb he
                  by_cases e10 : e = 10
                  · rw [if_pos e10] at hla
                    obtain rfl : b = z := by have := hbz.out; omega
                    subst e10
                    clear hla hbz
                    go_wp2_with fail
                    exact ⟨⟨b, rfl, hle, hn⟩, by simp [intOf]; omega⟩
                  · have p10 : ¬ (e.toNat : Int) = 10 := fun h => e10 (UInt8.toNat_inj.1 (by show e.toNat = 10; omega))
                    have r10 : ((e.toNat : Int) != 10) = true := by simpa using p10
                    have hnx : Hid (b + 1 + lineLen ((tl s).drop (b + 1)) = z) := Lib.hid (by rw [if_neg e10] at hla; have := hbz.out; omega)
                    clear hla hbz e10
                    go_wp2_with fail
                    exact ⟨⟨b + 1, by go_num, by omega, hnx⟩, by simp [intOf]; omega⟩
                · obtain rfl : b = z := by
                    have := hbz.out
                    rw [line_end (by omega)] at this
                    omega
                  clear hbz
                  go_wp2_with fail
                  exact ⟨⟨b, rfl, hle, hn⟩, by simp [intOf]; omega⟩
            · have p2 : ¬ (d.toNat : Int) = 47 := fun h => e2 (UInt8.toNat_inj.1 (by show d.toNat = 47; omega))
              have r2 : ((d.toNat : Int) != 47) = true := by simpa using p2
              by_cases e3 : d = 42
              · subst e3
                obtain ⟨C, hC⟩ : ∃ C, closeAt ((tl s).drop (a + 2)) = C := ⟨_, rfl⟩
                have hfin : Hid (CloseFin (tl s) a P B C) := Lib.hid (by
                  have := hat.out
                  rw [hx.out, sep, if_neg (by rw [hbf]; simp), if_neg (by rw [hh.out]; simp), if_pos ⟨rfl, hh.out⟩, List.drop_drop, show a + 1 + 1 = a + 2 from rfl, hC] at this
                  cases C with
                  | none => exact ⟨by simpa using this.1, this.2⟩
                  | some n =>
                    unfold CloseFin
                    simp only at this ⊢
                    rw [List.drop_drop, show a + 1 + (n + 3) = a + 2 + n + 2 from by omega] at this
                    exact ⟨by omega, this.2⟩)
                have HC : Hid (C = (closeAt ((tl s).drop (a + 2))).map (· + (a + 2 - (a + 2)))) := Lib.hid (by rw [hC]; cases C <;> simp)
                clear hC hbl hat
                go_wp2_with fail
                go_loop [7] (fun x => ∃ b : Nat, x = .int .i64 b ∧ a + 2 ≤ b ∧ b ≤ s.size ∧ Hid (C = (closeAt ((tl s).drop b)).map (· + (b - (a + 2))))) (fun x => s.size - (intOf x).toNat)
                case atStart => exact ⟨a + 2, by go_num, Nat.le_refl _, by omega, HC⟩
                case round =>
                  obtain ⟨b, rfl, hab, hb, hbC⟩ := hrel
                  by_cases hlb : b + 1 < s.size
                  · obtain ⟨e, he⟩ : ∃ e, s[b] = e := ⟨_, rfl⟩
                    obtain ⟨f, hf⟩ : ∃ f, s[b + 1] = f := ⟨_, rfl⟩
                    have hca := close_at hlb he hf
                    have step : ¬ (e = 42 ∧ f = 47) → Hid (C = (closeAt ((tl s).drop (b + 1))).map (· + (b + 1 - (a + 2)))) := fun h => Lib.hid (by
                      rw [hbC.out, hca, if_neg h]
                      cases closeAt ((tl s).drop (b + 1)) with
                      | none => rfl
                      | some n => simp; omega)
                    have Step := Lib.hid step
                    clear step
                    by_cases e42 : e = 42
                    · by_cases f47 : f = 47
                      · rw [if_pos ⟨e42, f47⟩] at hca
                        have hCs : C = some (b - (a + 2)) := by rw [hbC.out, hca]; simp
                        have hn : Hid (P = (b + 2) + (sep ((tl s).drop (b + 2))).1 ∧ B = (sep ((tl s).drop (b + 2))).2) := Lib.hid (by
                          have := hfin.out
                          rw [hCs] at this
                          unfold CloseFin at this
                          simp only at this
                          rw [show a + 2 + (b - (a + 2)) + 2 = b + 2 from by omega] at this
                          exact this)
                        subst e42 f47
                        clear hca hbC Step hfin hCs
                        go_wp2_with fail
                        exact ⟨⟨b + 2, by go_num, by omega, hn⟩, by simp [intOf]; omega⟩
                      · have hn := Step.out (fun h => f47 h.2)
                        have p47 : ¬ (f.toNat : Int) = 47 := fun h => f47 (UInt8.toNat_inj.1 (by show f.toNat = 47; omega))
                        have r47 : ((f.toNat : Int) != 47) = true := by simpa using p47
                        subst e42
                        clear hca hbC Step f47
                        go_wp2_with fail
                        exact ⟨⟨b + 1, by go_num, by omega, by omega, hn⟩, by simp [intOf]; omega⟩
                    · have hn := Step.out (fun h => e42 h.1)
                      have p42 : ¬ (e.toNat : Int) = 42 := fun h => e42 (UInt8.toNat_inj.1 (by show e.toNat = 42; omega))
                      have r42 : ((e.toNat : Int) != 42) = true := by simpa using p42
                      clear hca hbC Step e42
                      go_wp2_with fail
                      exact ⟨⟨b + 1, by go_num, by omega, by omega, hn⟩, by simp [intOf]; omega⟩
                  · have hCn : C = none := by rw [hbC.out, close_end (by omega)]; rfl
                    have he : Hid (P = a ∧ B = false) := Lib.hid (by have := hfin.out; rw [hCn] at this; exact this)
                    obtain ⟨rfl, rfl⟩ := he.out
                    have d2 : decide ((b : Int) + 1 < (s.size : Int)) = false := by simp; omega
                    have d3 : decide ((s.size : Int) ≤ (b : Int) + 1) = true := by simp; omega
                    clear hbC hfin he hCn
                    go_wp2_with fail
                    go_ret2
                    exact ⟨rfl, rfl⟩
              · have p3 : ¬ (d.toNat : Int) = 42 := fun h => e3 (UInt8.toNat_inj.1 (by show d.toNat = 42; omega))
                have r3 : ((d.toNat : Int) != 42) = true := by simpa using p3
                have he : Hid (P = a ∧ B = true) := Lib.hid (by
                  have := hat.out
                  rw [hx.out, sep_else hbf (by rw [hh.out]; simp [e2]) (by rw [hh.out]; simp [e3])] at this
                  exact ⟨by simpa using this.1, this.2⟩)
                obtain ⟨rfl, rfl⟩ := he.out
                clear hbl hat he e2 e3
                go_wp2_with fail
                go_ret2
                exact ⟨rfl, rfl⟩
          · have p1 : ¬ (c.toNat : Int) = 47 := fun h => e1 (UInt8.toNat_inj.1 (by show c.toNat = 47; omega))
            have r1 : ((c.toNat : Int) != 47) = true := by simpa using p1
            have he : Hid (P = a ∧ B = true) := Lib.hid (by
              have := hat.out
              rw [hx.out, sep_else hbf (by simp [e1]) (by simp [e1])] at this
              exact ⟨by simpa using this.1, this.2⟩)
            obtain ⟨rfl, rfl⟩ := he.out
            clear hbl hat he e1
            go_wp2_with fail
            go_ret2
            exact ⟨rfl, rfl⟩
    · obtain rfl : a = s.size := by omega
      have he : Hid (P = s.size ∧ B = true) := Lib.hid (by
        have := hat.out
        rw [List.drop_of_length_le (by omega), sep_nil] at this
        exact ⟨by simpa using this.1, this.2⟩)
      obtain ⟨rfl, rfl⟩ := he.out
      clear hat he
      go_wp2_with fail
      go_ret2
      exact ⟨rfl, rfl⟩
theorem valOf_ge {l : List UInt8} {c : UInt8} (h0 : l[0]? = some c) (h : 49 ≤ c.toNat) : ∀ k, k < l.length → 10 ^ k ≤ valOf (l.take (k + 1))
  | 0, _ => by
    rw [valOf_next h0]
    simp [valOf]
    omega
  | k + 1, hk => by
    have ih := valOf_ge h0 h k (by omega)
    rw [valOf_next (List.getElem?_eq_getElem (l := l) (i := k + 1) (by omega)), Nat.pow_succ]
    omega
theorem great_bad {l : List UInt8} {c : UInt8} (h0 : l[0]? = some c) (hd : ∀ c ∈ l, dig c = true) : (greatL l || (decide (1 < l.length) && c == 48)) = badNum l := by
  have hh : (l.head? == some 48) = (c == 48) := by
    cases l with
    | nil => simp at h0
    | cons d r =>
      obtain rfl : d = c := by simpa using h0
      simp
  unfold badNum greatL
  rw [hh]
  by_cases h10 : 10 < l.length
  · rw [decide_eq_true h10, decide_eq_true (p := 1 < l.length) (by omega)]
    by_cases h48 : c = 48
    · subst h48; simp
    · have hc := dig_true c (hd c (List.mem_of_getElem? h0))
      have h49 : 49 ≤ c.toNat := by
        have : c.toNat ≠ 48 := fun e => h48 (UInt8.toNat_inj.1 (by show c.toNat = 48; exact e))
        omega
      have h1 := valOf_ge h0 h49 (l.length - 1) (by omega)
      rw [show l.length - 1 + 1 = l.length from by omega, List.take_length] at h1
      have h2 : 10 ^ 10 ≤ 10 ^ (l.length - 1) := Nat.pow_le_pow_right (by omega) (by omega)
      rw [decide_eq_true (p := 2147483647 < valOf l) (by omega)]
      simp
  · rw [decide_eq_false h10]
    simp
theorem dig_not {c : UInt8} (h : dig c = true) : ltr c = false := by
  have := dig_true c h
  rw [ltr_iff]
  simp
  omega
theorem tw_head {p : UInt8 → Bool} {c : UInt8} {r : List UInt8} (h : p c = true) : 0 < ((c :: r).takeWhile p).length := by
  rw [List.takeWhile_cons, if_pos h]; simp
theorem first_num {c : UInt8} {r : List UInt8} (h : dig c = true) : first (c :: r) = if badNum ((c :: r).take (numLen (c :: r))) = true then (0, 0, 31) else (2, numLen (c :: r), 0) := by
  have h1 : nameLen (c :: r) = 0 := by rw [nameLen, if_neg (by rw [dig_not h]; simp)]
  have h2 : 0 < numLen (c :: r) := tw_head h
  unfold first
  rw [if_neg (by omega), if_pos h2]
theorem first_name {c : UInt8} {r : List UInt8} (h : ltr c = true) : nameLen (c :: r) = ((c :: r).takeWhile aln).length ∧ first (c :: r) = if 20 < nameLen (c :: r) then (0, 0, 2) else if (c :: r).take (nameLen (c :: r)) ∈ keptL then (3, nameLen (c :: r), 0) else (1, nameLen (c :: r), 0) := by
  have h1 : nameLen (c :: r) = ((c :: r).takeWhile aln).length := by rw [nameLen, if_pos h, List.takeWhile_cons, if_pos (by rw [aln_of, h]; simp)]; rfl
  refine ⟨h1, ?_⟩
  have h2 : 0 < nameLen (c :: r) := by rw [nameLen, if_pos h]; omega
  unfold first
  rw [if_pos h2]
theorem first_mark {c : UInt8} {r : List UInt8} (h : dig c = false) (h' : ltr c = false) : first (c :: r) = if 0 < markLen (c :: r) then (4, markLen (c :: r), 0) else (0, 0, 30) := by
  have h1 : nameLen (c :: r) = 0 := by rw [nameLen, if_neg (by rw [h']; simp)]
  have h2 : numLen (c :: r) = 0 := by unfold numLen; rw [List.takeWhile_cons, if_neg (by rw [h]; simp)]; rfl
  unfold first
  rw [if_neg (by omega), if_neg (by omega)]
set_option maxRecDepth 100000 in
set_option maxHeartbeats 8000000 in
theorem token_any (s : ByteArray) (k : Nat) (w : World) (hs : s.size ≤ 2000000000) (hk : k < s.size) :
    Calls Tryd.prog 40 #[.string s, .int .i64 k] w fun e w' => e = .returned (.tuple #[.int .i64 (first ((tl s).drop k)).1, .int .i64 ((first ((tl s).drop k)).2.1 : Nat), .int .i64 (first ((tl s).drop k)).2.2]) ∧ Below w.heap.size w w' := by
  have hl := tl_length s
  obtain ⟨F, hF⟩ : ∃ F, Hid (first ((tl s).drop k) = F) := ⟨_, Lib.hid rfl⟩
  rw [hF.out]
  obtain ⟨f1, f2, f3⟩ := F
  obtain ⟨c, hc⟩ : ∃ c, s[k] = c := ⟨_, rfl⟩
  have Hx := Lib.hid (drop_at hk hc)
  generalize hr : (tl s).drop (k + 1) = r at Hx
  have hlen : (c :: r).length = s.size - k := by rw [← Hx.out, List.length_drop, hl]
  have hat : ∀ n d, (h : k + n < s.size) → s[k + n] = d → (c :: r)[n]? = some d := fun n d h e => by
    rw [← Hx.out, List.getElem?_drop, tl_get s h, e]
  have Hat := Lib.hid hat
  have Hr := Lib.hid hr
  clear hat hr
  simp only
  go_enter Tryd.func40, Tryd.ntmps40
  go_wp2_with fail
  refine (digit_any c _).mono ?_
  rintro e w' ⟨rfl, rfl⟩
  obtain ⟨b0, hb0⟩ : ∃ b, Hid (dig c = b) := ⟨_, Lib.hid rfl⟩
  rw [hb0.out]
  cases b0 with
  | true =>
    have hF2 := hF.out
    rw [Hx.out, first_num hb0.out] at hF2
    have HF2 := Lib.hid hF2; clear hF2
    have hnl : numLen (c :: r) ≤ s.size - k := by rw [← hlen]; exact numLen_le _
    go_wp2_with fail
    go_loop [7] (fun x => ∃ n : Nat, x = .int .i64 n ∧ n ≤ numLen (c :: r)) (fun x => s.size - (intOf x).toNat)
    case atStart => exact ⟨0, rfl, Nat.zero_le _⟩
    case round =>
      obtain ⟨n, rfl, hn⟩ := hrel
      by_cases hlt : k + n < s.size
      · obtain ⟨d, hd⟩ : ∃ d, s[k + n] = d := ⟨_, rfl⟩
        have hg := Hat.out n d hlt hd
        have hnx := run_next hn hg
        have Hnx := Lib.hid hnx
        clear hnx hg
        have j5 : ((k : Int) + (n : Int)).toNat = k + n := by omega
        have j0 : (0 : Int) ≤ (k : Int) + (n : Int) := by omega
        have j1 : (k : Int) + (n : Int) < (s.size : Int) := by omega
        go_wp2_with fail
        refine (digit_any d _).mono ?_
        rintro e w' ⟨rfl, rfl⟩
        obtain ⟨b1, hb1⟩ : ∃ b, Hid (dig d = b) := ⟨_, Lib.hid rfl⟩
        rw [hb1.out]
        cases b1 with
        | true =>
          have hn2 : Hid (n + 1 ≤ numLen (c :: r)) := Lib.hid (Hnx.out.1 hb1.out)
          clear Hnx
          go_wp2_with fail
          exact ⟨⟨n + 1, by go_num, hn2.out⟩, by simp [intOf]; omega⟩
        | false =>
          have hfin : Hid (n = numLen (c :: r)) := Lib.hid (Hnx.out.2 hb1.out)
          clear Hnx
          have i5 : ((k : Int) + (n : Int)).toNat = k + n := by omega
          have i1 : (k : Int) ≤ (k : Int) + (n : Int) := by omega
          have i2 : (k : Int) + (n : Int) ≤ (s.size : Int) := by omega
          have hcut : tl (s.extract k (k + n)) = (c :: r).take n := by rw [ext_bs, tl_bs, Hx.out, show k + n - k = n from by omega]
          have hdg : ∀ x ∈ (c :: r).take n, dig x = true := by
            intro x hx
            rw [hfin.out, numLen, tw_take] at hx
            exact tw_all hx
          have Hcut := Lib.hid hcut
          have Hdg := Lib.hid hdg
          clear hcut hdg
          go_wp2_with fail
          refine (great_any (s.extract k (k + n)) _ (by rw [Hcut.out]; exact Hdg.out)).mono ?_
          rw [Hcut.out]
          rintro e w' ⟨rfl, rfl⟩
          have hn0 : 0 < n := by rw [hfin.out]; exact tw_head hb0.out
          have hbad := great_bad (l := (c :: r).take n) (c := c) (by rw [List.getElem?_take, if_pos hn0]; rfl) Hdg.out
          have hF2 := HF2.out
          rw [← hfin.out, ← hbad, List.length_take, hlen, Nat.min_eq_left (by omega)] at hF2
          obtain ⟨g, hg⟩ : ∃ g, Hid (greatL ((c :: r).take n) = g) := ⟨_, Lib.hid rfl⟩
          rw [hg.out] at hF2 ⊢
          have HF3 := Lib.hid hF2
          clear hF2 hbad HF2
          cases g with
          | true =>
            have he := HF3.out
            simp only [Bool.true_or, if_true, Prod.mk.injEq] at he
            obtain ⟨rfl, rfl, rfl⟩ := he
            clear HF3
            go_wp2_with fail
            go_ret3
            exact ⟨rfl, Below.refl _ _⟩
          | false =>
            by_cases h1 : 1 < n
            · have d1 : decide ((1 : Int) < (n : Int)) = true := by simp; omega
              by_cases h48 : c = 48
              · have he := HF3.out
                rw [decide_eq_true h1, h48] at he
                simp only [beq_self_eq_true, Bool.and_self, Bool.or_true, if_true, Prod.mk.injEq] at he
                obtain ⟨rfl, rfl, rfl⟩ := he
                subst h48
                clear HF3
                go_wp2_with fail
                go_ret3
                exact ⟨rfl, Below.refl _ _⟩
              · have he := HF3.out
                have p48 : ¬ (c.toNat : Int) = 48 := fun h => h48 (UInt8.toNat_inj.1 (by show c.toNat = 48; omega))
                have q48 : ((c.toNat : Int) == 48) = false := by simpa using p48
                have h48' : (c == 48) = false := by simpa using h48
                rw [h48'] at he
                simp only [Bool.and_false, Bool.or_false, Bool.false_eq_true, if_false, Prod.mk.injEq] at he
                obtain ⟨rfl, rfl, rfl⟩ := he
                clear HF3
                go_wp2_with fail
                go_ret3
                exact ⟨rfl, Below.refl _ _⟩
            · have d1 : decide ((1 : Int) < (n : Int)) = false := by simp; omega
              have he := HF3.out
              rw [decide_eq_false h1] at he
              simp only [Bool.false_and, Bool.or_false, Bool.false_eq_true, if_false, Prod.mk.injEq] at he
              obtain ⟨rfl, rfl, rfl⟩ := he
              clear HF3
              go_wp2_with fail
              go_ret3
              exact ⟨rfl, Below.refl _ _⟩
      · have hfin : Hid (n = numLen (c :: r)) := Lib.hid (by omega)
        have j1 : decide ((k : Int) + (n : Int) < (s.size : Int)) = false := by simp; omega
        have i5 : ((k : Int) + (n : Int)).toNat = k + n := by omega
        have i1 : (k : Int) ≤ (k : Int) + (n : Int) := by omega
        have i2 : (k : Int) + (n : Int) ≤ (s.size : Int) := by omega
        have hcut : tl (s.extract k (k + n)) = (c :: r).take n := by rw [ext_bs, tl_bs, Hx.out, show k + n - k = n from by omega]
        have hdg : ∀ x ∈ (c :: r).take n, dig x = true := by
          intro x hx
          rw [hfin.out, numLen, tw_take] at hx
          exact tw_all hx
        have Hcut := Lib.hid hcut
        have Hdg := Lib.hid hdg
        clear hcut hdg
        go_wp2_with fail
        refine (great_any (s.extract k (k + n)) _ (by rw [Hcut.out]; exact Hdg.out)).mono ?_
        rw [Hcut.out]
        rintro e w' ⟨rfl, rfl⟩
        have hn0 : 0 < n := by rw [hfin.out]; exact tw_head hb0.out
        have hbad := great_bad (l := (c :: r).take n) (c := c) (by rw [List.getElem?_take, if_pos hn0]; rfl) Hdg.out
        have hF2 := HF2.out
        rw [← hfin.out, ← hbad, List.length_take, hlen, Nat.min_eq_left (by omega)] at hF2
        obtain ⟨g, hg⟩ : ∃ g, Hid (greatL ((c :: r).take n) = g) := ⟨_, Lib.hid rfl⟩
        rw [hg.out] at hF2 ⊢
        have HF3 := Lib.hid hF2
        clear hF2 hbad HF2
        cases g with
        | true =>
          have he := HF3.out
          simp only [Bool.true_or, if_true, Prod.mk.injEq] at he
          obtain ⟨rfl, rfl, rfl⟩ := he
          clear HF3
          go_wp2_with fail
          go_ret3
          exact ⟨rfl, Below.refl _ _⟩
        | false =>
          by_cases h1 : 1 < n
          · have d1 : decide ((1 : Int) < (n : Int)) = true := by simp; omega
            by_cases h48 : c = 48
            · have he := HF3.out
              rw [decide_eq_true h1, h48] at he
              simp only [beq_self_eq_true, Bool.and_self, Bool.or_true, if_true, Prod.mk.injEq] at he
              obtain ⟨rfl, rfl, rfl⟩ := he
              subst h48
              clear HF3
              go_wp2_with fail
              go_ret3
              exact ⟨rfl, Below.refl _ _⟩
            · have he := HF3.out
              have p48 : ¬ (c.toNat : Int) = 48 := fun h => h48 (UInt8.toNat_inj.1 (by show c.toNat = 48; omega))
              have q48 : ((c.toNat : Int) == 48) = false := by simpa using p48
              have h48' : (c == 48) = false := by simpa using h48
              rw [h48'] at he
              simp only [Bool.and_false, Bool.or_false, Bool.false_eq_true, if_false, Prod.mk.injEq] at he
              obtain ⟨rfl, rfl, rfl⟩ := he
              clear HF3
              go_wp2_with fail
              go_ret3
              exact ⟨rfl, Below.refl _ _⟩
          · have d1 : decide ((1 : Int) < (n : Int)) = false := by simp; omega
            have he := HF3.out
            rw [decide_eq_false h1] at he
            simp only [Bool.false_and, Bool.or_false, Bool.false_eq_true, if_false, Prod.mk.injEq] at he
            obtain ⟨rfl, rfl, rfl⟩ := he
            clear HF3
            go_wp2_with fail
            go_ret3
            exact ⟨rfl, Below.refl _ _⟩
  | false =>
    go_wp2_with fail
    refine (letter_any c _).mono ?_
    rintro e w' ⟨rfl, rfl⟩
    obtain ⟨b9, hb9⟩ : ∃ b, Hid (ltr c = b) := ⟨_, Lib.hid rfl⟩
    rw [hb9.out]
    cases b9 with
    | true =>
      obtain ⟨hN, hF0⟩ := first_name (r := r) hb9.out
      have hF2 := hF.out
      rw [Hx.out, hF0] at hF2
      have HF2 := Lib.hid hF2; clear hF2 hF0
      have hnl : ((c :: r).takeWhile aln).length ≤ s.size - k := by rw [← hlen]; exact (List.takeWhile_sublist aln).length_le
      go_wp2_with fail
      go_loop [7] (fun x => ∃ n : Nat, x = .int .i64 n ∧ n ≤ ((c :: r).takeWhile aln).length) (fun x => s.size - (intOf x).toNat)
      case atStart => exact ⟨0, rfl, Nat.zero_le _⟩
      case round =>
        obtain ⟨n, rfl, hn⟩ := hrel
        by_cases hlt : k + n < s.size
        · obtain ⟨d, hd⟩ : ∃ d, s[k + n] = d := ⟨_, rfl⟩
          have hg := Hat.out n d hlt hd
          have hnx := run_next hn hg
          have Hnx := Lib.hid hnx
          clear hnx hg
          have j5 : ((k : Int) + (n : Int)).toNat = k + n := by omega
          have j0 : (0 : Int) ≤ (k : Int) + (n : Int) := by omega
          have j1 : (k : Int) + (n : Int) < (s.size : Int) := by omega
          go_wp2_with fail
          refine (letter_any d _).mono ?_
          rintro e w' ⟨rfl, rfl⟩
          obtain ⟨b1, hb1⟩ : ∃ b, Hid (ltr d = b) := ⟨_, Lib.hid rfl⟩
          rw [hb1.out]
          cases b1 with
          | true =>
            have hn2 : Hid (n + 1 ≤ ((c :: r).takeWhile aln).length) := Lib.hid (Hnx.out.1 (by rw [aln_of, hb1.out]; simp))
            clear Hnx
            go_wp2_with fail
            exact ⟨⟨n + 1, by go_num, hn2.out⟩, by simp [intOf]; omega⟩
          | false =>
            go_wp2_with fail
            refine (digit_any d _).mono ?_
            rintro e w' ⟨rfl, rfl⟩
            obtain ⟨b2, hb2⟩ : ∃ b, Hid (dig d = b) := ⟨_, Lib.hid rfl⟩
            rw [hb2.out]
            cases b2 with
            | true =>
              have hn2 : Hid (n + 1 ≤ ((c :: r).takeWhile aln).length) := Lib.hid (Hnx.out.1 (by rw [aln_of, hb2.out]; simp))
              clear Hnx
              go_wp2_with fail
              exact ⟨⟨n + 1, by go_num, hn2.out⟩, by simp [intOf]; omega⟩
            | false =>
              have hfin : Hid (n = ((c :: r).takeWhile aln).length) := Lib.hid (Hnx.out.2 (by rw [aln_of, hb1.out, hb2.out]; rfl))
              clear Hnx
              have hd20 : decide ((20 : Int) < (n : Int)) = decide (20 < n) := by rw [Bool.eq_iff_iff]; simp; omega
              have hF2 := HF2.out
              rw [hN, ← hfin.out] at hF2
              have HF3 := Lib.hid hF2
              clear hF2 HF2
              by_cases h20 : 20 < n
              · rw [decide_eq_true h20] at hd20
                have he := HF3.out
                rw [if_pos h20] at he
                simp only [Prod.mk.injEq] at he
                obtain ⟨rfl, rfl, rfl⟩ := he
                clear HF3
                go_wp2_with fail
                go_ret3
                exact ⟨rfl, Below.refl _ _⟩
              · rw [decide_eq_false h20] at hd20
                have he := HF3.out
                rw [if_neg h20] at he
                have HF4 := Lib.hid he
                clear he HF3
                have i5 : ((k : Int) + (n : Int)).toNat = k + n := by omega
                have i1 : (k : Int) ≤ (k : Int) + (n : Int) := by omega
                have i2 : (k : Int) + (n : Int) ≤ (s.size : Int) := by omega
                have hcut : tl (s.extract k (k + n)) = (c :: r).take n := by rw [ext_bs, tl_bs, Hx.out, show k + n - k = n from by omega]
                have Hcut := Lib.hid hcut
                clear hcut
                go_wp2_with fail
                refine (RefKept_any (s.extract k (k + n)) _).mono ?_
                rw [Hcut.out]
                rintro e w5 ⟨rfl, b5⟩
                by_cases hm : (c :: r).take n ∈ keptL
                · have he := HF4.out
                  rw [if_pos hm] at he
                  simp only [Prod.mk.injEq] at he
                  obtain ⟨rfl, rfl, rfl⟩ := he
                  rw [decide_eq_true hm]
                  clear HF4 hm
                  go_wp2_with fail
                  go_ret3
                  exact ⟨rfl, b5⟩
                · have he := HF4.out
                  rw [if_neg hm] at he
                  simp only [Prod.mk.injEq] at he
                  obtain ⟨rfl, rfl, rfl⟩ := he
                  rw [decide_eq_false hm]
                  clear HF4 hm
                  go_wp2_with fail
                  go_ret3
                  exact ⟨rfl, b5⟩
        · have hfin : Hid (n = ((c :: r).takeWhile aln).length) := Lib.hid (by omega)
          have j1 : decide ((k : Int) + (n : Int) < (s.size : Int)) = false := by simp; omega
          have hd20 : decide ((20 : Int) < (n : Int)) = decide (20 < n) := by rw [Bool.eq_iff_iff]; simp; omega
          have hF2 := HF2.out
          rw [hN, ← hfin.out] at hF2
          have HF3 := Lib.hid hF2
          clear hF2 HF2
          by_cases h20 : 20 < n
          · rw [decide_eq_true h20] at hd20
            have he := HF3.out
            rw [if_pos h20] at he
            simp only [Prod.mk.injEq] at he
            obtain ⟨rfl, rfl, rfl⟩ := he
            clear HF3
            go_wp2_with fail
            go_ret3
            exact ⟨rfl, Below.refl _ _⟩
          · rw [decide_eq_false h20] at hd20
            have he := HF3.out
            rw [if_neg h20] at he
            have HF4 := Lib.hid he
            clear he HF3
            have i5 : ((k : Int) + (n : Int)).toNat = k + n := by omega
            have i1 : (k : Int) ≤ (k : Int) + (n : Int) := by omega
            have i2 : (k : Int) + (n : Int) ≤ (s.size : Int) := by omega
            have hcut : tl (s.extract k (k + n)) = (c :: r).take n := by rw [ext_bs, tl_bs, Hx.out, show k + n - k = n from by omega]
            have Hcut := Lib.hid hcut
            clear hcut
            go_wp2_with fail
            refine (RefKept_any (s.extract k (k + n)) _).mono ?_
            rw [Hcut.out]
            rintro e w5 ⟨rfl, b5⟩
            by_cases hm : (c :: r).take n ∈ keptL
            · have he := HF4.out
              rw [if_pos hm] at he
              simp only [Prod.mk.injEq] at he
              obtain ⟨rfl, rfl, rfl⟩ := he
              rw [decide_eq_true hm]
              clear HF4 hm
              go_wp2_with fail
              go_ret3
              exact ⟨rfl, b5⟩
            · have he := HF4.out
              rw [if_neg hm] at he
              simp only [Prod.mk.injEq] at he
              obtain ⟨rfl, rfl, rfl⟩ := he
              rw [decide_eq_false hm]
              clear HF4 hm
              go_wp2_with fail
              go_ret3
              exact ⟨rfl, b5⟩
    | false =>
      have hF2 := hF.out
      rw [Hx.out, first_mark hb0.out hb9.out] at hF2
      have HF2 := Lib.hid hF2; clear hF2
      go_wp2_with fail
      refine (mark_any s k _ hs hk).mono ?_
      rw [Hx.out]
      rintro e w5 ⟨rfl, b5⟩
      have hml := HF2.out
      generalize markLen (c :: r) = m at hml
      by_cases hm : 0 < m
      · have hm0 : ((m : Int) == 0) = false := by rw [beq_eq_false_iff_ne]; omega
        rw [if_pos hm] at hml
        simp only [Prod.mk.injEq] at hml
        obtain ⟨rfl, rfl, rfl⟩ := hml
        go_wp2_with fail
        go_ret3
        exact ⟨rfl, b5⟩
      · obtain rfl : m = 0 := by omega
        rw [if_neg hm] at hml
        simp only [Prod.mk.injEq] at hml
        obtain ⟨rfl, rfl, rfl⟩ := hml
        go_wp2_with fail
        go_ret3
        exact ⟨rfl, b5⟩
theorem below_drew {B : Nat} {a w : World} (h : Below B a w) : Below B a w.drew := below_draws h 1
theorem rows_add (T : List Tk) (t : Tk) : T.flatMap Tk.row ++ t.row = (T ++ [t]).flatMap Tk.row := by simp
set_option maxRecDepth 100000 in
set_option maxHeartbeats 8000000 in
theorem RefLex_any (s : ByteArray) (w : World) (hs : s.size ≤ 1048576) : Calls Tryd.prog 27 #[.string s] w (LexGives w s) := by
  have hl := tl_length s
  obtain ⟨i0, hi0, hz0, hz1, hz2⟩ := info_parts infoTok
  have hd : decide ((1048576 : Int) < (s.size : Int)) = false := by simp; omega
  go_enter Tryd.func27, Tryd.ntmps27
  go_wp2_with fail
  go_loopw [5, 6] (fun v c wr => ∃ (k : Nat) (T : List Tk), c = .int .i64 k ∧ k ≤ s.size ∧ Hid (LexAt (tl s) k T) ∧ Hid (wr.ownsRow w.heap.size 66 4 v T.length (T.flatMap Tk.row)) ∧ Hid (Below w.heap.size w wr)) (fun _ c _ => s.size - (intOf c).toNat)
  case atStart => exact ⟨0, [], rfl, Nat.zero_le _, Lib.hid (LexAt.start _), Lib.hid (World.ownsRow_nil _ _ _ _), Lib.hid (Below.refl _ _)⟩
  case round =>
    obtain ⟨k, T, rfl, hk, hat, hown, hB⟩ := hrel
    have hTl := hat.out.2.1
    obtain ⟨p, hp⟩ : ∃ p, Hid ((sep ((tl s).drop k)).1 = p) := ⟨_, Lib.hid rfl⟩
    obtain ⟨b, hb⟩ : ∃ b, Hid ((sep ((tl s).drop k)).2 = b) := ⟨_, Lib.hid rfl⟩
    have hpl := sep_le ((tl s).drop k)
    rw [hp.out, List.length_drop, hl] at hpl
    go_wp2_with fail
    refine (between_any s k _ (by omega) hk).mono ?_
    rw [hp.out, hb.out]
    rintro e w' ⟨rfl, rfl⟩
    cases b with
    | false =>
      have hfin : Hid (lexR 0 (tl s) = ([], k + p, 32)) := Lib.hid (by have := hat.out.sep_err hb.out; rwa [hp.out] at this)
      go_wp2_with fail
      go_ret3
      unfold LexGives
      rw [hfin.out]
      exact ⟨⟨.slice none 0 0, rfl, toks_nil _⟩, hB.out⟩
    | true =>
      have hdk := List.drop_drop (i := p) (j := k) (l := tl s)
      have hbs := hB.out.size
      by_cases hend : k + p = s.size
      · have hnil : ((tl s).drop k).drop p = [] := by rw [hdk]; exact List.drop_of_length_le (by omega)
        have hfin : Hid (lexR 0 (tl s) = (T ++ [tokAt s 5 k (k + p) 0], 0, 0)) := Lib.hid (by have := hat.out.last hb.out (by rw [hp.out]; exact hnil); rwa [hp.out] at this)
        have hd2 : (((k + p : Nat) : Int) == (s.size : Int)) = true := by rw [beq_iff_eq]; omega
        have hrow : (tokAt s 5 k (k + p) 0).row = [.int .i64 5, .string ⟨#[]⟩, .int .i64 ((k + p : Nat) : Int), .string (s.extract k s.size)] := by
          rw [tokAt_row, ← hend, show s.extract (k + p) (k + p + 0) = ⟨#[]⟩ from by rw [ext_bs]; simp [bs]]
        have Hrow := Lib.hid hrow
        have Hend := Lib.hid hend
        clear hrow hnil hdk hend
        go_wp2_with (at_builtin; refine wpList_append_own _ rfl _ _ 62 rfl w.heap.size 66 i0 _ 4 48 Tryd.underlying62 hi0 hz0 hz1 hz2 rfl (by decide) _ _ _ rfl (hown.out.alloc _) ⟨wr.heap.size, 0, none⟩ 1 1 [.int .i64 5, .string ⟨#[]⟩, .int .i64 ((k + p : Nat) : Int), .string (s.extract k s.size)] rfl rfl (tok_new _ _ _ _ _ _) (tok_one _ _ _ _) (by unfold maxLen; omega) (by omega) (by simp; omega) ?_; intro v' w2 hown' hgrow _)
        rw [← Hrow.out, rows_add] at hown'
        have hB2 := (hB.out.alloc hbs _).grown hgrow (by simp; omega) (fun k hk => (hown.out.lt k hk).1)
        go_ret3
        unfold LexGives
        rw [hfin.out]
        exact ⟨⟨v', rfl, own_toks hown'⟩, hB2⟩
      · have hne : (tl s).drop (k + p) ≠ [] := by
          intro e
          have := congrArg List.length e
          rw [List.length_drop, hl, List.length_nil] at this
          omega
        have hd2 : (((k + p : Nat) : Int) == (s.size : Int)) = false := by rw [beq_eq_false_iff_ne]; omega
        have hd3 : ((k : Int) + (p : Int) == (s.size : Int)) = false := by rw [beq_eq_false_iff_ne]; omega
        have hne2 : ((tl s).drop k).drop p ≠ [] := by rw [hdk]; exact hne
        have Hne2 := Lib.hid hne2
        have Hdk := Lib.hid hdk
        have hfc := first_cases ((tl s).drop (k + p))
        obtain ⟨F, hF⟩ : ∃ F, Hid (first ((tl s).drop (k + p)) = F) := ⟨_, Lib.hid rfl⟩
        obtain ⟨kind, n, err⟩ := F
        rw [hF.out, List.length_drop, hl] at hfc
        dsimp only at hfc
        have hsum : ((k : Int) + (p : Int)) = ((k + p : Nat) : Int) := by omega
        have Hsum := Lib.hid hsum
        clear hne hne2 hdk hsum
        go_wp2_with fail
        simp only [Hsum.out]
        refine (token_any s (k + p) _ (by omega) (by omega)).mono ?_
        rw [hF.out]
        rintro e w3 ⟨rfl, b3⟩
        have hB3 : Hid (Below w.heap.size w w3) := Lib.hid (hB.out.trans (b3.mono hbs))
        have hown3 : Hid (w3.ownsRow w.heap.size 66 4 u5 T.length (T.flatMap Tk.row)) := Lib.hid (own_below hown.out b3)
        have hbs3 := hB3.out.size
        clear b3
        rcases hfc with ⟨n0, rfl, n1, n2, n3⟩ | ⟨rfl, he, rfl⟩
        · have hnx : Hid (LexAt (tl s) (k + p + n) (T ++ [tokAt s kind k (k + p) n])) := Lib.hid (by
            have := hat.out.next hb.out (by rw [hp.out]; exact Hne2.out) (by rw [hp.out, Hdk.out, hF.out])
            rw [hp.out, Hdk.out, hF.out] at this
            exact this)
          have hkP : k ≤ k + p := by omega
          have hPn : k + p + n ≤ s.size := by omega
          have hrow := tokAt_row s kind k (k + p) n
          clear hat hp hpl hF Hsum Hdk Hne2 hd2 hd3 hend n1
          generalize k + p = P at *
          have Hrow := Lib.hid hrow
          clear hrow
          have q1 : (0 : Int) ≤ (P : Int) := by omega
          have q2 : (P : Int) ≤ (P : Int) + n := by omega
          have q3 : (P : Int) + n ≤ (s.size : Int) := by omega
          have q5 : (k : Int) ≤ (P : Int) := by omega
          have q6 : (P : Int) ≤ (s.size : Int) := by omega
          have q7 : IntKind.i64.wrap ((P : Int) + n) = (P : Int) + n := IntWalk.i64_in _ (by omega)
          have q8 : ((P : Int) + n).toNat = P + n := by omega
          have q9 : (0 : Int) ≤ (k : Int) := by omega
          go_wp2_with fail
          go_region_held_law (fun _ => True) (first | go_keep | trivial)
            ((refine step_append_lies _ (by rfl) _ _ _ (by rfl) w.heap.size 66 i0 _ 4 48 Tryd.underlying62 hi0 hz0 hz1 hz2 rfl (by decide) _ T.length _ (by rfl) (hown3.out.alloc _) ⟨w3.heap.size, 0, none⟩ 1 1 [.int .i64 kind, .string (s.extract P (P + n)), .int .i64 (P : Int), .string (s.extract k P)] (by rfl) rfl (fun j u hj => tok_new w3 _ _ _ _ 66 j u hj) (tok_one _ _ _ _) (by omega) (by unfold maxLen; omega) (by omega) (by simp; omega) (w3.heap.size + 1) (by simp) ?_; intro g cap' w2 hown' hgrow _ _; have HB2 : Hid (Below w.heap.size w w2) := by first | exact Lib.hid (Below.grown (hB3.out.alloc hbs3 _) hgrow (by simp; omega) (fun k hk => (hown3.out.lt k hk).1)) | exact Lib.hid (Below.grown (below_drew (hB3.out.alloc hbs3 _)) hgrow (by simp; omega) (fun k hk => (hown3.out.lt k hk).1)) | exact Lib.hid (Below.grown ((below_drew hB3.out).alloc hbs3 _) hgrow (by simp; omega) (fun k hk => (hown3.out.lt k hk).1)) | exact Lib.hid (Below.grown (below_draws (hB3.out.alloc hbs3 _) _) hgrow (by simp; omega) (fun k hk => (hown3.out.lt k hk).1)) | exact Lib.hid (Below.grown ((below_draws hB3.out _).alloc hbs3 _) hgrow (by simp; omega) (fun k hk => (hown3.out.lt k hk).1)) | (trace_state; fail)))
          have Hown2 : Hid (w2.ownsRow w.heap.size 66 4 (.slice (some ⟨g, 0, none⟩) (T.length + 1) cap') (T ++ [tokAt s kind k P n]).length ((T ++ [tokAt s kind k P n]).flatMap Tk.row)) := by
            rw [← rows_add, Hrow.out, List.length_append, List.length_singleton]
            exact Lib.hid hown'
          clear hown' hgrow hown hown3 hB hB3
          go_wp2_with fail
          exact ⟨⟨P + n, _, by go_num, by omega, hnx, Hown2, HB2⟩, by simp [intOf]; omega⟩
        · have hfin : Hid (lexR 0 (tl s) = ([], k + p, err)) := Lib.hid (by
            have := hat.out.first_err hb.out (by rw [hp.out]; exact Hne2.out) (by rw [hp.out, Hdk.out, hF.out]; dsimp only; omega)
            rwa [hp.out, Hdk.out, hF.out] at this)
          have hed : (err != 0) = true := by rw [bne_iff_ne]; omega
          go_wp2_with fail
          go_ret3
          unfold LexGives
          rw [hfin.out]
          exact ⟨⟨.slice none 0 0, rfl, toks_nil _⟩, hB3.out⟩
end Go.Proofs.YtbnbmjdjkadgoaaDoor.X
