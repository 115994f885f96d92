/-
  For the laws of lex: a slice that reads as tokens; the closure that lays one token more. Condition: at most 2 to the 31 bytes, and as many tokens.
-/
import Derived.Test.YtfjmhnnjgjcmeaaDoorXFirst
import Derived.RangeFuncBox
import Derived.RangeFuncNested
import Derived.Test.YtfjmhnnjgjcmeaaDoorXLast
import Derived.Laws.AppendOwn
namespace Go.Proofs.YtfjmhnnjgjcmeaaDoor.X
open Go.RowKit Go.Shelf
set_option linter.unusedSimpArgs false

abbrev bs (l : List UInt8) : ByteArray := ⟨l.toArray⟩
theorem tl_bs (l : List UInt8) : tl (bs l) = l := by simp [tl]
theorem bs_tl (s : ByteArray) : bs (tl s) = s := by cases s; simp [tl, bs]
theorem bs_size (l : List UInt8) : (bs l).size = l.length := by rw [← tl_length, tl_bs]
theorem ext_bs (s : ByteArray) (a b : Nat) : s.extract a b = bs (((tl s).drop a).take (b - a)) := by
  rw [← bs_tl (s.extract a b)]
  show bs (s.extract a b).data.toList = _
  rw [Lib.extract_data]
def Tk.row (t : Tk) : List Value := [.int .i64 t.kind, .string (bs t.text), .int .i64 t.at_, .string (bs t.lead)]
/-- The cells of t lie at o on. -/
def Tk.lies (W : World) (b o : Nat) (t : Tk) : Prop :=
  W.cell? ⟨b, o, none⟩ = some (.int .i64 t.kind) ∧ W.cell? ⟨b, o + 1, none⟩ = some (.string (bs t.text)) ∧ W.cell? ⟨b, o + 2, none⟩ = some (.int .i64 t.at_) ∧ W.cell? ⟨b, o + 3, none⟩ = some (.string (bs t.lead))
/-- The value v is a slice that reads as the tokens T. -/
def Toks (W : World) (v : Value) (T : List Tk) : Prop :=
  ∃ (a : Option Addr) (cap : Nat), v = .slice a T.length cap ∧ T.length ≤ cap ∧ cap ≤ maxLen ∧ ∀ k (t : Tk), T[k]? = some t → ∃ b off, a = some ⟨b, off, none⟩ ∧ b < W.heap.size ∧ t.lies W b (off + k * 4)
theorem Tk.lies.below {W W' : World} {B b o : Nat} {t : Tk} (hh : t.lies W b o) (hb : Below B W W') (hl : b < B) : t.lies W' b o :=
  ⟨(hb.cell (p := ⟨b, o, none⟩) hl).trans hh.1, (hb.cell (p := ⟨b, o + 1, none⟩) hl).trans hh.2.1, (hb.cell (p := ⟨b, o + 2, none⟩) hl).trans hh.2.2.1, (hb.cell (p := ⟨b, o + 3, none⟩) hl).trans hh.2.2.2⟩
theorem Toks.below {W W' : World} {v : Value} {T : List Tk} (h : Toks W v T) (hb : Below W.heap.size W W') : Toks W' v T := by
  obtain ⟨a, cap, rfl, hc, hm, hx⟩ := h
  refine ⟨a, cap, rfl, hc, hm, fun k t hk => ?_⟩
  obtain ⟨b, off, rfl, hl, hat⟩ := hx k t hk
  exact ⟨b, off, rfl, by have := hb.size; omega, hat.below hb hl⟩
theorem toks_nil (W : World) : Toks W (.slice none 0 0) [] := ⟨none, 0, rfl, Nat.le_refl _, Nat.zero_le _, by simp⟩
theorem rows_length (T : List Tk) : (T.flatMap Tk.row).length = T.length * 4 := by
  induction T with
  | nil => rfl
  | cons h T ih => rw [List.flatMap_cons, List.length_append, ih]; simp [Tk.row]; omega
theorem rows_get {T : List Tk} {k : Nat} {t : Tk} (hk : T[k]? = some t) (j : Nat) (hj : j < 4) : (T.flatMap Tk.row)[k * 4 + j]? = t.row[j]? := by
  induction T generalizing k with
  | nil => simp at hk
  | cons g T ih =>
    rw [List.flatMap_cons]
    cases k with
    | zero =>
      obtain rfl : g = t := by simpa using hk
      rw [List.getElem?_append_left (by simp [Tk.row]; omega)]
      simp
    | succ k =>
      rw [List.getElem?_append_right (by simp [Tk.row]; omega)]
      rw [← ih (by simpa using hk)]
      congr 1
      simp [Tk.row]
      omega
theorem own_toks {W : World} {base n : Nat} {v : Value} {T : List Tk} (h : W.ownsRow base 63 4 v n (T.flatMap Tk.row)) : Toks W v T := by
  have hl := h.1
  rw [rows_length] at hl
  obtain rfl : n = T.length := by omega
  rcases h.2 with ⟨rfl, h0⟩ | ⟨g, cap, cur, rfl, _, hg, h1, h2, h3, h4⟩
  · obtain rfl : T = [] := List.eq_nil_of_length_eq_zero h0
    exact toks_nil W
  · refine ⟨_, cap, rfl, h1, h2, fun k t hk => ⟨g, 0, rfl, (Array.getElem?_eq_some_iff.1 hg).1, ?_⟩⟩
    have hc : ∀ j, j < 4 → W.cell? ⟨g, 0 + k * 4 + j, none⟩ = t.row[j]? := by
      intro j hj
      have hkl := (List.getElem?_eq_some_iff.1 hk).1
      rw [← rows_get hk j hj, ← h4, List.getElem?_take_of_lt (by omega)]
      simp [World.cell?, hg]
    exact ⟨hc 0 (by omega), hc 1 (by omega), hc 2 (by omega), hc 3 (by omega)⟩
theorem add_flat (b off j : Nat) : (⟨b, off, none⟩ : Addr).add j = ⟨b, off + j, none⟩ := by
  by_cases h0 : j = 0 <;> simp [Addr.add, h0]
theorem tok_new (W : World) (k : Int) (x : ByteArray) (p : Int) (y : ByteArray) (t : TypeId) : ∀ j u, ([.int .i64 k, .string x, .int .i64 p, .string y] : List Value)[j]? = some u → (W.alloc (.cells #[.int .i64 k, .string x, .int .i64 p, .string y] t)).cell? ((⟨W.heap.size, 0, none⟩ : Addr).add j) = some u := by
  intro j u hj
  rw [add_flat, Nat.zero_add]
  simp only [World.cell?, World.alloc_heap_new]
  simpa using hj
theorem tok_one (k : Int) (x : ByteArray) (p : Int) (y : ByteArray) : ∀ u ∈ ([.int .i64 k, .string x, .int .i64 p, .string y] : List Value), u.oneCell' = true := by
  intro u hu
  simp at hu
  rcases hu with rfl | rfl | rfl | rfl <;> rfl
theorem infoTok : (Tryd.prog.info? 63).map (fun i => (i.zero, i.size, i.bytes)) = some (some (.agg #[.int .i64 0, .string ⟨#[]⟩, .int .i64 0, .string ⟨#[]⟩]), 4, 48) := by kernel_rfl
theorem hneq {W : World} {base e size n : Nat} {v : Value} {xs : List Value} (h : W.ownsRow base e size v n xs) (q : Nat) (hq : q < base) : some q ≠ v.ownBlock := fun e => by
  have := (h.lt q e.symm).1
  omega
theorem below_draws {B : Nat} {a w : World} (h : Below B a w) (q : Nat) : Below B a (w.drewN q) := ⟨h.os, h.tape, h.output, h.size, h.block⟩

theorem kept_drew {W w2 : World} {o : Obj} {B : Nat} {t : TypeId} {v : Value} {row : Option Nat} (h : Boxed W B t v) (hg : (W.alloc o).drew.grownBy w2 row) (hne : some B ≠ row) : Boxed w2 B t v :=
  Boxed.kept (W := (W.alloc o).drew) (h.alloc o) hg hne
/-- The boxes of Lex: the text, the tokens, where the token's lead begins, where it stands. -/
structure LexB (W : World) (B : Nat) (s : ByteArray) (T : List Tk) (lead at_ : Int) : Prop where
  text : Boxed W B 9 (.string s)
  toks : ∃ v, Boxed W (B + 1) 58 v ∧ W.ownsRow (B + 4) 63 4 v T.length (T.flatMap Tk.row)
  lead : Boxed W (B + 2) 3 (.int .i64 lead)
  at_ : Boxed W (B + 3) 3 (.int .i64 at_)
  size : B + 4 ≤ W.heap.size
/-- The token of the text s with the lead from a on, at p, of n bytes. -/
def tokAt (s : ByteArray) (kind : Int) (a p n : Nat) : Tk := ⟨kind, ((tl s).drop p).take n, (p : Int), ((tl s).drop a).take (p - a)⟩
theorem tokAt_row (s : ByteArray) (kind : Int) (a p n : Nat) : (tokAt s kind a p n).row = [.int .i64 kind, .string (s.extract p (p + n)), .int .i64 (p : Int), .string (s.extract a p)] := by
  unfold tokAt Tk.row
  rw [ext_bs s p (p + n), ext_bs s a p]
  simp

def Adds (W : World) (B : Nat) (s : ByteArray) (T : List Tk) (q : Int) (e : Ending) (W' : World) : Prop := (∃ v, e = .returned v) ∧ LexB W' B s T q q ∧ Below B W W'
set_option maxRecDepth 100000 in
set_option maxHeartbeats 8000000 in
theorem add_any (W : World) (B : Nat) (s : ByteArray) (T : List Tk) (kind : Int) (a p n : Nat) (hW : LexB W B s T a p) (hap : a ≤ p) (hpn : p + n ≤ s.size) (hs : s.size ≤ 2000000000) (hT : T.length ≤ 2000000000) :
    Calls Tryd.prog 31 #[.int .i64 kind, .int .i64 n, .pointer (some ⟨B + 1, 0, none⟩), .pointer (some ⟨B, 0, none⟩), .pointer (some ⟨B + 3, 0, none⟩), .pointer (some ⟨B + 2, 0, none⟩)] W (Adds W B s (T ++ [tokAt s kind a p n]) (p + n : Nat)) := by
  obtain ⟨i0, hi0, hz0, hz1, hz2⟩ := info_parts infoTok
  obtain ⟨h1, ⟨v, h2, hown⟩, h3, h4, hsz⟩ := hW
  have c1 := h1.cell
  have c2 := h2.cell
  have c3 := h3.cell
  have c4 := h4.cell
  have hadd : IntKind.i64.wrap ((p : Int) + n) = (p : Int) + n := IntWalk.i64_in _ (by omega)
  have q1 : (0 : Int) ≤ (p : Int) := by omega
  have q2 : (p : Int) ≤ (p : Int) + n := by omega
  have q3 : (p : Int) + n ≤ (s.size : Int) := by omega
  have q4 : (0 : Int) ≤ (a : Int) := by omega
  have q5 : (a : Int) ≤ (p : Int) := by omega
  have q6 : (p : Int) ≤ (s.size : Int) := by omega
  go_enter Tryd.func31, Tryd.ntmps31
  go_wp2_with fail
  refine wp_region_E (S := fun W' => W'.cell? ⟨B, 0, none⟩ = some (.string s) ∧ W'.cell? ⟨B + 1, 0, none⟩ = some v ∧ W'.cell? ⟨B + 2, 0, none⟩ = some (.int .i64 a) ∧ W'.cell? ⟨B + 3, 0, none⟩ = some (.int .i64 p)) (z := 16) (by kernel_rfl) ?_
  have hS : W.drew.cell? ⟨B, 0, none⟩ = some (.string s) ∧ W.drew.cell? ⟨B + 1, 0, none⟩ = some v ∧ W.drew.cell? ⟨B + 2, 0, none⟩ = some (.int .i64 a) ∧ W.drew.cell? ⟨B + 3, 0, none⟩ = some (.int .i64 p) := ⟨c1, c2, c3, c4⟩
  refine wpAnyE_take (i := 0) (v := ?_) rfl (by kernel_rfl) (by kernel_rfl) (by kernel_rfl) (by kernel_rfl) (fun _ _ _ h => h) (Or.inl ⟨by rfl, ?_⟩) hS ?_
  rotate_left
  · intro w hSw
    obtain ⟨x1, x2, x3, x4⟩ := hSw
    go_simp
    try with_reducible rfl
  try simp only [Act.put, List.setIfInBounds_toArray, List.set_cons_zero, List.set_cons_succ]
  refine wpAnyE_take (i := 1) (v := ?_) rfl (by kernel_rfl) (by kernel_rfl) (by kernel_rfl) (by kernel_rfl) (fun _ _ _ h => h) (Or.inl ⟨by rfl, ?_⟩) hS ?_
  rotate_left
  · intro w hSw
    obtain ⟨x1, x2, x3, x4⟩ := hSw
    go_simp
    try with_reducible rfl
  try simp only [Act.put, List.setIfInBounds_toArray, List.set_cons_zero, List.set_cons_succ]
  refine wpAnyE_take (i := 2) (v := ?_) rfl (by kernel_rfl) (by kernel_rfl) (by kernel_rfl) (by kernel_rfl) (fun _ _ _ h => h) (Or.inl ⟨by rfl, ?_⟩) hS ?_
  rotate_left
  · intro w hSw
    obtain ⟨x1, x2, x3, x4⟩ := hSw
    go_simp
    try with_reducible rfl
  try simp only [Act.put, List.setIfInBounds_toArray, List.set_cons_zero, List.set_cons_succ]
  refine wpAnyE_take (i := 3) (v := ?_) rfl (by kernel_rfl) (by kernel_rfl) (by kernel_rfl) (by kernel_rfl) (fun _ _ _ h => h) (Or.inl ⟨by rfl, ?_⟩) hS ?_
  rotate_left
  · intro w hSw
    obtain ⟨x1, x2, x3, x4⟩ := hSw
    go_simp
    try with_reducible rfl
  try simp only [Act.put, List.setIfInBounds_toArray, List.set_cons_zero, List.set_cons_succ]
  refine wpAnyE_take (i := 4) (v := ?_) rfl (by kernel_rfl) (by kernel_rfl) (by kernel_rfl) (by kernel_rfl) (fun _ _ _ h => h) (Or.inl ⟨by rfl, ?_⟩) hS ?_
  rotate_left
  · intro w hSw
    obtain ⟨x1, x2, x3, x4⟩ := hSw
    go_simp
    try with_reducible rfl
  try simp only [Act.put, List.setIfInBounds_toArray, List.set_cons_zero, List.set_cons_succ]
  refine wpAnyE_take (i := 5) (v := ?_) rfl (by kernel_rfl) (by kernel_rfl) (by kernel_rfl) (by kernel_rfl) (fun _ _ _ h => h) (Or.inl ⟨by rfl, ?_⟩) hS ?_
  rotate_left
  · intro w hSw
    obtain ⟨x1, x2, x3, x4⟩ := hSw
    go_simp
    try with_reducible rfl
  try simp only [Act.put, List.setIfInBounds_toArray, List.set_cons_zero, List.set_cons_succ]
  refine wpAnyE_take (i := 6) (v := ?_) rfl (by kernel_rfl) (by kernel_rfl) (by kernel_rfl) (by kernel_rfl) (fun _ _ _ h => h) (Or.inl ⟨by rfl, ?_⟩) hS ?_
  rotate_left
  · intro w hSw
    obtain ⟨x1, x2, x3, x4⟩ := hSw
    go_simp
    try with_reducible rfl
  try simp only [Act.put, List.setIfInBounds_toArray, List.set_cons_zero, List.set_cons_succ]
  refine wpAnyE_take (i := 7) (v := ?_) rfl (by kernel_rfl) (by kernel_rfl) (by kernel_rfl) (by kernel_rfl) (fun _ _ _ h => h) (Or.inl ⟨by rfl, ?_⟩) hS ?_
  rotate_left
  · intro w hSw
    obtain ⟨x1, x2, x3, x4⟩ := hSw
    go_simp
    try with_reducible rfl
  try simp only [Act.put, List.setIfInBounds_toArray, List.set_cons_zero, List.set_cons_succ]
  refine wpAnyE_take (i := 8) (v := ?_) rfl (by kernel_rfl) (by kernel_rfl) (by kernel_rfl) (by kernel_rfl) (fun _ _ _ h => h) (Or.inl ⟨by rfl, ?_⟩) hS ?_
  rotate_left
  · intro w hSw
    obtain ⟨x1, x2, x3, x4⟩ := hSw
    go_simp
    try with_reducible rfl
  try simp only [Act.put, List.setIfInBounds_toArray, List.set_cons_zero, List.set_cons_succ]
  refine wpAnyE_take (i := 9) (v := ?_) rfl (by kernel_rfl) (by kernel_rfl) (by kernel_rfl) (by kernel_rfl) (fun _ _ _ h => h) (Or.inl ⟨by rfl, ?_⟩) hS ?_
  rotate_left
  · intro w hSw
    obtain ⟨x1, x2, x3, x4⟩ := hSw
    go_simp
    try with_reducible rfl
  try simp only [Act.put, List.setIfInBounds_toArray, List.set_cons_zero, List.set_cons_succ]
  refine wpAnyE_take (i := 10) (v := ?_) rfl (by kernel_rfl) (by kernel_rfl) (by kernel_rfl) (by kernel_rfl) (fun _ _ _ h => h) (Or.inl ⟨by rfl, ?_⟩) hS ?_
  rotate_left
  · intro w hSw
    obtain ⟨x1, x2, x3, x4⟩ := hSw
    go_simp
    try with_reducible rfl
  try simp only [Act.put, List.setIfInBounds_toArray, List.set_cons_zero, List.set_cons_succ]
  refine wpAnyE_take (i := 11) (v := ?_) rfl (by kernel_rfl) (by kernel_rfl) (by kernel_rfl) (by kernel_rfl) (fun _ _ _ h => h) (Or.inl ⟨by rfl, ?_⟩) hS ?_
  rotate_left
  · intro w hSw
    obtain ⟨x1, x2, x3, x4⟩ := hSw
    go_simp
    try with_reducible rfl
  try simp only [Act.put, List.setIfInBounds_toArray, List.set_cons_zero, List.set_cons_succ]
  refine wpAnyE_take (i := 12) (v := ?_) rfl (by kernel_rfl) (by kernel_rfl) (by kernel_rfl) (by kernel_rfl) (fun _ _ _ h => h) (Or.inl ⟨by rfl, ?_⟩) hS ?_
  rotate_left
  · intro w hSw
    obtain ⟨x1, x2, x3, x4⟩ := hSw
    go_simp
    try with_reducible rfl
  try simp only [Act.put, List.setIfInBounds_toArray, List.set_cons_zero, List.set_cons_succ]
  refine wpAnyE_take (i := 13) (v := ?_) rfl (by kernel_rfl) (by kernel_rfl) (by kernel_rfl) (by kernel_rfl) (fun _ _ _ h => h) (Or.inl ⟨by rfl, ?_⟩) hS ?_
  rotate_left
  · intro w hSw
    obtain ⟨x1, x2, x3, x4⟩ := hSw
    go_simp
    try with_reducible rfl
  try simp only [Act.put, List.setIfInBounds_toArray, List.set_cons_zero, List.set_cons_succ]
  refine wpAnyE_one (i := 14) (by kernel_rfl) rfl (fun K hK => ?_)
  go_simp
  refine hK.out _ _ (fun _ => ⟨(h1.alloc _).cell, (h2.alloc _).cell, (h3.alloc _).cell, (h4.alloc _).cell⟩) ?_
  clear hK K
  refine wpAnyE_one (i := 15) (by kernel_rfl) rfl (fun K hK => ?_)
  refine step_append_lies _ (by rfl) _ _ _ (by rfl) (B + 4) 63 i0 _ 4 48 Tryd.underlying58 hi0 hz0 hz1 hz2 rfl (by decide) _ T.length _ (by rfl) (hown.alloc _) ⟨W.heap.size, 0, none⟩ 1 1 [.int .i64 kind, .string (s.extract p ((p : Int) + n).toNat), .int .i64 (p : Int), .string (s.extract a p)] (by rfl) rfl (fun j u hj => tok_new W kind _ _ _ 63 j u hj) (tok_one _ _ _ _) (by omega) (by unfold maxLen; omega) (by omega) (by simp; omega) (W.heap.size + 1) (by simp) ?_
  intro g cap' w2 hown' hgrow _ _
  have b1 := kept_drew h1 hgrow (hneq hown _ (by omega))
  have b2 := kept_drew h2 hgrow (hneq hown _ (by omega))
  have b3 := kept_drew h3 hgrow (hneq hown _ (by omega))
  have b4 := kept_drew h4 hgrow (hneq hown _ (by omega))
  have hbel : Below B W w2 := (below_draws (((Below.refl B W).alloc (by omega) _)) 1).grown hgrow (by show B ≤ (W.alloc _).heap.size; simp; omega) (fun j ej => by have := (hown.lt j ej).1; omega)
  refine hK.out _ _ (fun _ => ⟨b1.cell, b2.cell, b3.cell, b4.cell⟩) ?_
  clear hK K
  have f2 := b2.frozen
  have e2 := b2.cell
  refine wpAnyE_one (i := 16) (by kernel_rfl) rfl (fun K hK => ?_)
  go_simp
  refine hK.out _ _ (fun h => absurd rfl h) ?_
  clear hK K
  refine wpAnyE_done (by kernel_rfl) ?_ _
  have e3 := b3.cell
  have f3 := b3.frozen
  have e4 := b4.cell
  have f4 := b4.frozen
  clear hS c1 c2 c3 c4 hadd
  go_wp2_with fail
  go_end0
  have hpn2 : ((p : Int) + n) = ((p + n : Nat) : Int) := by omega
  rw [hpn2]
  refine ⟨⟨_, rfl⟩, ⟨?_, ⟨.slice (some ⟨g, 0, none⟩) (T.length + 1) cap', ?_, ?_⟩, ?_, ?_, ?_⟩, ?_⟩
  · exact ((b1.other (by omega) _).other (by omega) _).other (by omega) _
  · exact ((b2.set _).other (by omega) _).other (by omega) _
  · have ho := ownsRow_setCell_below (ownsRow_setCell_below (ownsRow_setCell_below hown' (a := ⟨B + 1, 0, none⟩) (by show B + 1 < B + 4; omega) (.slice (some ⟨g, 0, none⟩) (T.length + 1) cap')) (a := ⟨B + 3, 0, none⟩) (by show B + 3 < B + 4; omega) (.int .i64 ((p + n : Nat) : Int))) (a := ⟨B + 2, 0, none⟩) (by show B + 2 < B + 4; omega) (.int .i64 ((p + n : Nat) : Int))
    rw [List.flatMap_append, List.flatMap_singleton, tokAt_row, List.length_append]
    exact ho
  · exact ((b3.other (by omega) _).other (by omega) _).set _
  · exact ((b4.other (by omega) _).set _).other (by omega) _
  · have := hbel.size
    simp
    omega
  · exact ((hbel.setCell (p := ⟨B + 1, 0, none⟩) (by show B ≤ B + 1; omega) _).setCell (p := ⟨B + 3, 0, none⟩) (by show B ≤ B + 3; omega) _).setCell (p := ⟨B + 2, 0, none⟩) (by show B ≤ B + 2; omega) _
end Go.Proofs.YtfjmhnnjgjcmeaaDoor.X
