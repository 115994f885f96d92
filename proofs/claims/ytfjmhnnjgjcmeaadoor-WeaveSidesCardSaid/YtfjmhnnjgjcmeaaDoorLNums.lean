/-
  For the laws of lcs: Numbers: texts as numbers. Conditions: at most 1,000 rows of at most 1,000,000 texts each, each text no longer than any text may be.
-/
import Derived.Test.YtfjmhnnjgjcmeaaDoorLMatch
import Derived.Maps.OwnOps
import Derived.Maps.OwnSet
import Derived.OwnWalk
import Derived.Laws.AppendOwn
namespace Go.Proofs.YtfjmhnnjgjcmeaaDoor.L
open Go.RowKit Go.Maps Go.WideMaps

/-- A text's bytes. -/
abbrev wd (s : ByteArray) : List UInt8 := s.data.toList
/-- The texts known behind one more. -/
def numStep (L : List (List UInt8)) (s : ByteArray) : List (List UInt8) := if wd s ∈ L then L else L ++ [wd s]
def knownBy (L : List (List UInt8)) (ss : List ByteArray) : List (List UInt8) := ss.foldl numStep L
/-- The numbers of a row. -/
def numRow : List (List UInt8) → List ByteArray → List Int
  | _, [] => []
  | L, s :: ss => (L.idxOf (wd s) : Int) :: numRow (numStep L s) ss
/-- The numbers of all rows. -/
def numRows : List (List UInt8) → List (List ByteArray) → List (List Int)
  | _, [] => []
  | L, r :: rs => numRow L r :: numRows (knownBy L r) rs
theorem numRow_length : ∀ (L : List (List UInt8)) (ss : List ByteArray), (numRow L ss).length = ss.length
  | _, [] => rfl
  | L, s :: ss => by simp [numRow, numRow_length]
theorem numRows_length : ∀ (L : List (List UInt8)) (rs : List (List ByteArray)), (numRows L rs).length = rs.length
  | _, [] => rfl
  | L, r :: rs => by simp [numRows, numRows_length]
theorem numRow_get : ∀ (L : List (List UInt8)) (ss : List ByteArray) (j : Nat) (s : ByteArray), ss[j]? = some s → (numRow L ss)[j]? = some ((knownBy L (ss.take j)).idxOf (wd s) : Int)
  | _, [], j, s, h => by simp at h
  | L, x :: ss, 0, s, h => by simp at h; subst h; simp [numRow, knownBy]
  | L, x :: ss, j + 1, s, h => by
    have := numRow_get (numStep L x) ss j s (by simpa using h)
    simpa [numRow, knownBy] using this
theorem knownBy_snoc (L : List (List UInt8)) (ss : List ByteArray) (j : Nat) (s : ByteArray) (h : ss[j]? = some s) : knownBy L (ss.take (j + 1)) = numStep (knownBy L (ss.take j)) s := by
  unfold knownBy
  rw [List.take_add_one, h, List.foldl_append]
  rfl
theorem knownBy_length (L : List (List UInt8)) (ss : List ByteArray) : (knownBy L ss).length ≤ L.length + ss.length := by
  unfold knownBy
  induction ss generalizing L with
  | nil => simp
  | cons s ss ih =>
    have h := ih (numStep L s)
    have h2 : (numStep L s).length ≤ L.length + 1 := by unfold numStep; split <;> simp
    simp only [List.foldl_cons, List.length_cons]
    omega

/-- The value v is a slice that holds the values vs. -/
def Vals (W : World) (v : Value) (vs : List Value) : Prop :=
  ∃ (a : Option Addr) (cap : Nat), v = .slice a vs.length cap ∧ vs.length ≤ cap ∧ cap ≤ maxLen ∧ (vs = [] ∨ ∃ b off, a = some ⟨b, off, none⟩ ∧ b < W.heap.size ∧ ∀ j x, vs[j]? = some x → W.cell? ⟨b, off + j, none⟩ = some x)
theorem Vals.at {W : World} {v : Value} {vs : List Value} (h : Vals W v vs) : ∃ a cap, v = .slice a vs.length cap ∧ vs.length ≤ cap ∧ cap ≤ maxLen ∧ ∀ k x, vs[k]? = some x → ∃ b off, a = some ⟨b, off, none⟩ ∧ b < W.heap.size ∧ W.cell? ⟨b, off + k, none⟩ = some x := by
  obtain ⟨a, cap, rfl, hc, hm, hx⟩ := h
  refine ⟨a, cap, rfl, hc, hm, fun k x hk => ?_⟩
  rcases hx with h | ⟨b, off, rfl, hb, hx⟩
  · rw [h] at hk; simp at hk
  · exact ⟨b, off, rfl, hb, hx k x hk⟩
theorem Vals.below {W W' : World} {v : Value} {vs : List Value} (h : Vals W v vs) (hb : Below W.heap.size W W') : Vals W' v vs := by
  rcases h with ⟨a, cap, rfl, hc, hm, h | ⟨b, off, rfl, hlt, hx⟩⟩
  · exact ⟨a, cap, rfl, hc, hm, .inl h⟩
  · exact ⟨_, cap, rfl, hc, hm, .inr ⟨b, off, rfl, by have := hb.size; omega, fun j x hj => (hb.cell (p := ⟨b, off + j, none⟩) hlt).trans (hx j x hj)⟩⟩
theorem vals_of_row {W : World} {b : Nat} {vs : List Value} {t : TypeId} (h : RowAt W b t vs.toArray) (hm : vs.length ≤ maxLen) : Vals W (.slice (some ⟨b, 0, none⟩) vs.length vs.length) vs :=
  ⟨_, _, rfl, Nat.le_refl _, hm, .inr ⟨b, 0, rfl, h.lt, fun j x hj => by rw [Nat.zero_add]; exact h.cell (by simp [hj])⟩⟩
theorem vals_nil (W : World) : Vals W (.slice none 0 0) [] := ⟨none, 0, rfl, Nat.le_refl _, Nat.zero_le _, .inl rfl⟩

theorem law9 : Keyed Tryd.prog 9 := string_keyed Tryd.underlying9
theorem zero3 (W : World) : (zeroValue 3).run Tryd.prog W = .ok (.int .i64 0) W := by kernel_rfl
/-- Block b is a map that holds each known text's number. -/
def Known (W : World) (b : Nat) (L : List (List UInt8)) : Prop :=
  ∃ D : DataW Unit, W.ownsMap Tryd.prog 9 (plainElem Tryd.prog 3) b L.length D ∧ Maps.size D = L.length ∧
    ∀ s : List UInt8, Maps.has D (.string s) = decide (s ∈ L) ∧ (s ∈ L → D.atKey (.string s) (.lit (.int .i64 0)) = .lit (.int .i64 (L.idxOf s : Nat)))
theorem Known.made (W : World) : Known (W.alloc (.map #[] 0)) W.heap.size [] :=
  ⟨.map [], World.ownsMap_made W Tryd.prog 9 _, rfl, fun s => ⟨by simp [Maps.has], fun h => by simp at h⟩⟩
theorem Known.lt {W : World} {b : Nat} {L : List (List UInt8)} (h : Known W b L) : b < W.heap.size := by
  obtain ⟨D, h, _⟩ := h
  exact h.lt
theorem Known.same {W W' : World} {b : Nat} {L : List (List UInt8)} (h : Known W b L) (hb : W'.heap[b]? = W.heap[b]?) : Known W' b L := by
  obtain ⟨D, ⟨es, cl, h1, h2⟩, hk⟩ := h
  exact ⟨D, ⟨es, cl, hb.trans h1, h2⟩, hk⟩
theorem Known.look {W : World} {b : Nat} {L : List (List UInt8)} (h : Known W b L) (s : ByteArray) (hs : s.size ≤ maxLen) :
    ∃ c : Int, (Instr.lookup 95 (.map (some b)) (.string s) true).run Tryd.prog W = .ok (.tuple #[.int .i64 c, .bool (decide (wd s ∈ L))]) W ∧ (wd s ∈ L → c = (L.idxOf (wd s) : Nat)) := by
  obtain ⟨D, hD, _, hk⟩ := h
  obtain ⟨h1, h2⟩ := hk (wd s)
  obtain ⟨v, ps, hrun, hv⟩ := hD.look_ok law9 Tryd.underlying95 (zero3 W) (plainElem_int Tryd.underlying3 (by decide)) (keyOf_string_mk Tryd.underlying9 hs)
  obtain ⟨c, rfl, hc, _⟩ := plainElem_int_inv Tryd.underlying3 hv
  simp only [Prod.mk.injEq] at hc
  refine ⟨c, by rw [hrun, h1], fun hm => ?_⟩
  have := (h2 hm).symm.trans hc.1
  simpa using this.symm
theorem Known.len {W : World} {b : Nat} {L : List (List UInt8)} (h : Known W b L) (ty : TypeId) : (Builtin.len_ #[95] ty #[.map (some b)]).run Tryd.prog W = .ok (.int .i64 (L.length : Nat)) W := by
  obtain ⟨D, hD, hs, _⟩ := h
  rw [hD.len Tryd.underlying95, hs]
theorem Known.put {W : World} {b : Nat} {L : List (List UInt8)} (h : Known W b L) (s : ByteArray) (hs : s.size ≤ maxLen) (hn : wd s ∉ L) (hl : L.length < 1000000000000) :
    ∃ W', (Instr.mapUpdate 95 (.map (some b)) (.string s) (.int .i64 (L.length : Nat))).run Tryd.prog W = .ok () W' ∧ Known W' b (L ++ [wd s]) ∧ W.grownBy W' (some b) := by
  obtain ⟨D, hD, hsz, hk⟩ := h
  have hkey := keyOf_string_mk (k := 9) Tryd.underlying9 hs
  obtain ⟨W', hrun, hown, hg⟩ := hD.update law9 Tryd.underlying95 (by unfold maxLen; omega) hkey (plainElem_int (a := (L.length : Int)) Tryd.underlying3 (WalkArith.wf_i64 ⟨by omega, by omega⟩))
  refine ⟨W', hrun, ⟨_, by rw [List.length_append]; exact hown, ?_, fun t => ?_⟩, hg⟩
  · rw [size_put (hD.tidy law9), (hk (wd s)).1, hsz]
    simp [hn]
  · by_cases e : t = wd s
    · subst e
      rw [has_put_same hD.isMap (law9.key hkey), atKey_put_same hD.isMap (law9.key hkey)]
      refine ⟨by simp, fun _ => ?_⟩
      rw [List.idxOf_append, if_neg hn]
      simp
    · have hne : Lit.string t ≠ Lit.string (wd s) := by
        intro h
        injection h with h
        exact e h
      rw [has_put_other hne, atKey_put_other hne, (hk t).1]
      refine ⟨by simp [e], fun hm => ?_⟩
      have hm' : t ∈ L := by simpa [e] using hm
      rw [(hk t).2 hm', List.idxOf_append, if_pos hm']

/-- Nothing below block B but block m has turned. -/
structure But (B m : Nat) (W W' : World) : Prop where
  os : W'.os = W.os
  tape : W'.tape = W.tape
  output : W'.output = W.output
  size : W.heap.size ≤ W'.heap.size
  keep : ∀ k, k < B → k ≠ m → W'.heap[k]? = W.heap[k]?
theorem But.refl (B m : Nat) (W : World) : But B m W W := ⟨rfl, rfl, rfl, Nat.le_refl _, fun _ _ _ => rfl⟩
theorem But.below {B m : Nat} {A C E : World} (x : But B m A C) (y : Below B C E) : But B m A E :=
  ⟨y.os.trans x.os, y.tape.trans x.tape, y.output.trans x.output, Nat.le_trans x.size y.size, fun k h1 h2 => (y.block k h1).trans (x.keep k h1 h2)⟩
theorem But.grown {B m : Nat} {A C E : World} (x : But B m A C) (y : C.grownBy E (some m)) (hB : B ≤ A.heap.size) : But B m A E :=
  ⟨y.os.trans x.os, y.tape.trans x.tape, y.output.trans x.output, Nat.le_trans x.size y.size, fun k h1 h2 => (y.block k (by have := x.size; omega) (by simpa using h2)).trans (x.keep k h1 h2)⟩
theorem But.low {B m b : Nat} {A C : World} (x : But B m A C) (h1 : b ≤ B) (h2 : b ≤ m) : Below b A C := ⟨x.os, x.tape, x.output, x.size, fun k hk => x.keep k (by omega) (by omega)⟩

/-- The inner loop of Numbers, behind j rounds: the row's first j numbers are there; the map knows what stands there. -/
def NRow (W : World) (g n m j : Nat) (L : List (List UInt8)) (ss : List ByteArray) : Prop :=
  (∃ f : Nat → Int, (∀ i x, i < j → (numRow L ss)[i]? = some x → f i = x) ∧ RowAt W g 3 (rowN n f)) ∧ Known W m (knownBy L (ss.take j))
/-- The rows that are told lie in memory, and are these numbers. -/
def NOut (W : World) (vals : List Value) (ns : List (List Int)) : Prop :=
  vals.length = ns.length ∧ ∀ (j : Nat) (l : List Int), ns[j]? = some l → ∃ g : Nat, vals[j]? = some (.slice (some ⟨g, 0, none⟩) l.length l.length) ∧ RowAt W g 3 (l.map (Value.int .i64)).toArray
/-- What is so behind Numbers. -/
def NGives (w : World) (ns : List (List Int)) (e : Ending) (w' : World) : Prop :=
  ∃ v vals, e = .returned v ∧ Vals w' v vals ∧ NOut w' vals ns ∧ Below w.heap.size w w'

theorem own_ne {w : World} {base e size n h : Nat} {v : Value} {xs : List Value} {cs : Array Value} {t : TypeId} (ho : w.ownsRow base e size v n xs) (hb : RowAt w h t cs) (hne : t ≠ e) : some h ≠ v.ownBlock := by
  rcases ho.2 with ⟨rfl, rfl⟩ | ⟨g, cap, cur, rfl, _, hg, _⟩
  · simp [Value.ownBlock]
  · intro hh
    simp [Value.ownBlock] at hh
    subst hh
    unfold RowAt at hb
    rw [hb] at hg
    cases hg
    exact hne rfl
theorem own_map {w : World} {base e size n b : Nat} {v : Value} {xs : List Value} {L : List (List UInt8)} (ho : w.ownsRow base e size v n xs) (hb : Known w b L) : some b ≠ v.ownBlock := by
  obtain ⟨D, ⟨es, cl, hb, _⟩, _⟩ := hb
  rcases ho.2 with ⟨rfl, rfl⟩ | ⟨g, cap, cur, rfl, _, hg, _⟩
  · simp [Value.ownBlock]
  · intro hh
    simp [Value.ownBlock] at hh
    subst hh
    rw [hb] at hg
    cases hg
theorem row_map {w : World} {b g : Nat} {L : List (List UInt8)} {t : TypeId} {cs : Array Value} (hr : RowAt w g t cs) (hb : Known w b L) : g ≠ b := by
  obtain ⟨D, ⟨es, cl, hb, _⟩, _⟩ := hb
  rintro rfl
  unfold RowAt at hr
  rw [hr] at hb
  cases hb
theorem owns_same {W W' : World} {base e size n : Nat} {v : Value} {xs : List Value} (h : W.ownsRow base e size v n xs) (hb : ∀ k, v.ownBlock = some k → W'.heap[k]? = W.heap[k]?) : W'.ownsRow base e size v n xs := by
  refine ⟨h.1, ?_⟩
  rcases h.2 with hn | ⟨g, cap, cur, rfl, hg, hgg, rest⟩
  · exact .inl hn
  · exact .inr ⟨g, cap, cur, rfl, hg, (hb g (by simp [Value.ownBlock])).trans hgg, rest⟩
theorem own_vals {W : World} {base e n : Nat} {v : Value} {xs : List Value} (h : W.ownsRow base e 1 v n xs) : Vals W v xs := by
  have hl : xs.length = n := by have := h.1; omega
  rcases h.2 with ⟨rfl, rfl⟩ | ⟨g, cap, cur, rfl, _, hgg, h1, h2, h3, h4⟩
  · obtain rfl : xs = [] := List.eq_nil_of_length_eq_zero hl
    exact vals_nil W
  · refine ⟨_, cap, by rw [hl], by omega, h2, ?_⟩
    right
    refine ⟨g, 0, rfl, (Array.getElem?_eq_some_iff.1 hgg).1, fun j x hj => ?_⟩
    rw [Nat.zero_add]
    simp [World.cell?, hgg]
    rw [← h4, List.getElem?_take] at hj
    split at hj
    · simpa using hj
    · cases hj

/-- What is known behind the first i rows. -/
def knownRows (rows : List (List ByteArray)) (i : Nat) : List (List UInt8) := (rows.take i).foldl knownBy []
theorem numRows_get : ∀ (L : List (List UInt8)) (rs : List (List ByteArray)) (i : Nat) (ss : List ByteArray), rs[i]? = some ss → (numRows L rs)[i]? = some (numRow ((rs.take i).foldl knownBy L) ss)
  | _, [], i, ss, h => by simp at h
  | L, r :: rs, 0, ss, h => by simp at h; subst h; simp [numRows]
  | L, r :: rs, i + 1, ss, h => by
    have := numRows_get (knownBy L r) rs i ss (by simpa using h)
    simpa [numRows] using this
theorem knownRows_succ {rows : List (List ByteArray)} {i : Nat} {ss : List ByteArray} (h : rows[i]? = some ss) : knownRows rows (i + 1) = knownBy (knownRows rows i) ss := by
  unfold knownRows
  rw [List.take_add_one, h, List.foldl_append]
  rfl
/-- Behind i rows. -/
def NSt (m : Nat) (W : World) (o : Value) (i : Nat) (rows : List (List ByteArray)) : Prop :=
  ∃ vs, W.ownsRow m 85 1 o i vs ∧ NOut W vs ((numRows [] rows).take i) ∧ Known W m (knownRows rows i) ∧ (knownRows rows i).length ≤ i * 1000000
theorem NOut.same {W W' : World} {vs : List Value} {ns : List (List Int)} (h : NOut W vs ns) (hk : ∀ g cs, RowAt W g 3 cs → W'.heap[g]? = W.heap[g]?) : NOut W' vs ns :=
  ⟨h.1, fun j l hj => by obtain ⟨g, h1, h2⟩ := h.2 j l hj; exact ⟨g, h1, h2.same (hk g _ h2)⟩⟩
theorem NOut.snoc {W : World} {vs : List Value} {ns : List (List Int)} {g : Nat} {l : List Int} (h : NOut W vs ns) (hr : RowAt W g 3 (l.map (Value.int .i64)).toArray) : NOut W (vs ++ [.slice (some ⟨g, 0, none⟩) l.length l.length]) (ns ++ [l]) := by
  obtain ⟨h1, h2⟩ := h
  refine ⟨by simp [h1], fun j l' hj => ?_⟩
  by_cases e : j < ns.length
  · rw [List.getElem?_append_left e] at hj
    rw [List.getElem?_append_left (by omega)]
    exact h2 j l' hj
  · rw [List.getElem?_append_right (by omega)] at hj
    have hz : j - ns.length = 0 := by
      have := (List.getElem?_eq_some_iff.1 hj).1
      simp at this
      omega
    rw [hz] at hj
    simp at hj
    subst hj
    rw [List.getElem?_append_right (by omega), h1, hz]
    exact ⟨g, rfl, hr⟩

theorem NSt.next {m i n g : Nat} {W w1 : World} {o v' : Value} {vs : List Value} {rows : List (List ByteArray)} {l : List Int} (hown : W.ownsRow m 85 1 o i vs) (hout : NOut W vs ((numRows [] rows).take i)) (hkn : Known W m (knownRows rows (i + 1)))
    (hkl : (knownRows rows (i + 1)).length ≤ (i + 1) * 1000000) (hr : RowAt W g 3 (l.map (Value.int .i64)).toArray) (hn : l.length = n) (hl : (numRows [] rows)[i]? = some l)
    (hown' : w1.ownsRow m 85 1 v' (i + 1) (vs ++ [.slice (some ⟨g, 0, none⟩) n n])) (hg : (W.alloc (.cells #[.slice (some ⟨g, 0, none⟩) n n] 85)).grownBy w1 o.ownBlock) : NSt m w1 v' (i + 1) rows := by
  subst hn
  have hkeep : ∀ k, k < W.heap.size → some k ≠ o.ownBlock → w1.heap[k]? = W.heap[k]? := fun k h1 h2 => by
    rw [hg.block k (by simp; omega) h2, Below.heap_alloc _ _ k h1]
  have hrow : ∀ (k : Nat) (cs : Array Value), RowAt W k 3 cs → w1.heap[k]? = W.heap[k]? := fun k cs hk => hkeep k hk.lt (own_ne hown hk (by decide))
  refine ⟨_, hown', ?_, hkn.same (hkeep m hkn.lt (own_map hown hkn)), hkl⟩
  rw [List.take_add_one, hl]
  exact NOut.snoc (hout.same hrow) (hr.same (hrow g _ hr))

set_option maxRecDepth 100000 in
set_option maxHeartbeats 16000000 in
theorem Numbers_any (v : Value) (vals : List Value) (rows : List (List ByteArray)) (w : World) (hv : Vals w v vals) (hl : vals.length = rows.length) (hr : ∀ (j : Nat) (x : Value) (ss : List ByteArray), vals[j]? = some x → rows[j]? = some ss → Vals w x (ss.map Value.string) ∧ ss.length ≤ 1000000 ∧ ∀ s ∈ ss, s.size ≤ maxLen) (hrows : rows.length ≤ 1000) :
    Calls Tryd.prog 34 #[v] w (NGives w (numRows [] rows)) := by
  obtain ⟨a0, c0, rfl, -, -, hat⟩ := hv.at
  rw [hl]
  have Hat := Lib.hid hat; clear hat
  have Hr := Lib.hid hr; clear hr
  have Hl := Lib.hid hl; clear hl
  obtain ⟨m, hm⟩ : ∃ m, w.heap.size = m := ⟨_, rfl⟩
  obtain ⟨W2, hW2⟩ : ∃ W2, Hid (w.alloc (.map #[] 0) = W2) := ⟨_, Lib.hid rfl⟩
  have hmk : (Instr.makeMap 95 none).run Tryd.prog w = .ok (.map (some m)) W2 := by rw [← hW2.out, ← hm]; rfl
  have k2 : Known W2 m [] := by rw [← hW2.out, ← hm]; exact Known.made w
  have b2 : Below m w W2 := by rw [← hW2.out, ← hm]; exact (Below.refl _ w).alloc (Nat.le_refl _) _
  obtain ⟨i0, hi0, hz0, hz1, hz2⟩ : ∃ i0, Tryd.prog.info? 85 = some i0 ∧ i0.zero = some (.slice none 0 0) ∧ i0.size = 1 ∧ i0.bytes = 24 := info_parts (by kernel_rfl)
  go_enter Tryd.func34, Tryd.ntmps34
  go_wp2_with fail
  have hSt : NSt m W2 (.slice none 0 0) 0 rows := ⟨[], World.ownsRow_nil _ _ _ _, ⟨by simp, fun j l hj => by simp at hj⟩, k2, by simp [knownRows]⟩
  clear hmk k2 hW2
  have hm0 : w.heap.size ≤ m := by omega
  go_loopw [4, 15] (fun o c wr => ∃ i : Nat, i ≤ rows.length ∧ c = .int .i64 i ∧ NSt m wr o i rows ∧ Below m w wr) (fun _ c _ => rows.length - (intOf c).toNat)
  case atStart => exact ⟨0, Nat.zero_le _, rfl, hSt, b2⟩
  case round =>
    clear hSt b2
    obtain ⟨i, hi, rfl, hSt, hB⟩ := hrel
    by_cases hlt : i < rows.length
    · obtain ⟨ss, hss⟩ : ∃ ss, Hid (rows[i]? = some ss) := ⟨rows[i], Lib.hid (List.getElem?_eq_getElem hlt)⟩
      obtain ⟨x, hx⟩ : ∃ x, Hid (vals[i]? = some x) := ⟨vals[i]'(by rw [Hl.out]; exact hlt), Lib.hid (List.getElem?_eq_getElem _)⟩
      obtain ⟨hxv, hsl, hsz⟩ := Hr.out i x ss hx.out hss.out
      obtain ⟨b, off, rfl, hb, hcell⟩ := Hat.out i x hx.out
      have hc : wr.cell? ⟨b, off + i, none⟩ = some x := (hB.cell (p := ⟨b, off + i, none⟩) (by show b < m; omega)).trans hcell
      obtain ⟨ax, cx, rfl, -, -, hatx⟩ := hxv.at
      rw [List.length_map] at hc
      have Hatx := Lib.hid hatx; clear hatx
      have Hsz := Lib.hid hsz; clear hsz
      obtain ⟨n, hn⟩ : ∃ n, ss.length = n := ⟨_, rfl⟩
      rw [hn] at hc hsl
      have Hn := Lib.hid hn; clear hn
      have hSt' := hSt
      obtain ⟨vs, hown, hout, hkn, hkl⟩ := hSt
      obtain ⟨K, hK⟩ : ∃ K, knownRows rows i = K := ⟨_, rfl⟩
      rw [hK] at hkn hkl
      have HK := Lib.hid hK; clear hK
      obtain ⟨g, hg⟩ : ∃ g, wr.heap.size = g := ⟨_, rfl⟩
      obtain ⟨W3, hW3⟩ : ∃ W3, Hid (wr.alloc (.cells (rowN n fun _ => 0) 3) = W3) := ⟨_, Lib.hid rfl⟩
      have hmk : (Instr.makeSlice 85 (.int .i64 (n : Int)) (.int .i64 (n : Int))).run Tryd.prog wr = .ok (.slice (some ⟨g, 0, none⟩) n n) W3 := by rw [made_rowN n hsl, hW3.out, hg]
      have r3 : RowAt W3 g 3 (rowN n fun _ => 0) := by rw [← hW3.out, ← hg]; exact RowAt.new _ _ _
      have b3 : Below g wr W3 := by rw [← hW3.out, ← hg]; exact (Below.refl _ wr).alloc (Nat.le_refl _) _
      have hmg : m < g := by rw [← hg]; exact hkn.lt
      have hN3 : NRow W3 g n m 0 K ss := ⟨⟨fun _ => 0, fun i x h => by omega, r3⟩, hkn.same (b3.block m hmg)⟩
      have Hown := Lib.hid hown; clear hown
      have Hout := Lib.hid hout; clear hout
      have Hg := Lib.hid hg; clear hg
      have hkm := own_map Hown.out hkn
      have Hkm := Lib.hid hkm
      have Hrm := Lib.hid (fun cs (h : RowAt wr m 3 cs) => row_map h hkn rfl)
      clear hW3 r3 hkn hcell hxv hkm hSt'
      go_wp2_with fail
      clear hmk hc
      obtain ⟨Wo, rfl⟩ : ∃ Wo : World, Wo = wr := ⟨_, rfl⟩
      have bN3 : But g m Wo W3 := (But.refl _ _ _).below b3
      clear b3
      have Hi := Lib.hid hi; clear hi
      go_loopw [24] (fun c wi => ∃ j : Nat, j ≤ n ∧ c = .int .i64 j ∧ NRow wi g n m j K ss ∧ But g m Wo wi) (fun c _ => n - (intOf c).toNat)
      case atStart => exact ⟨0, Nat.zero_le _, rfl, hN3, bN3⟩
      case round =>
        clear hN3 bN3
        obtain ⟨j, hj, rfl, ⟨⟨f, hf, rg⟩, hkn⟩, hBut⟩ := hrel
        by_cases hlj : j < n
        · have hlj' : j < ss.length := by rw [Hn.out]; exact hlj
          obtain ⟨s, hs⟩ : ∃ s, Hid (ss[j]? = some s) := ⟨ss[j], Lib.hid (List.getElem?_eq_getElem hlj')⟩
          have hss' := Hsz.out s (List.mem_of_getElem? hs.out)
          obtain ⟨bx, ox, rfl, hbx, hcx⟩ := Hatx.out j (.string s) (by rw [List.getElem?_map, hs.out]; rfl)
          have hbm : bx < m := by omega
          have hc : wr.cell? ⟨bx, ox + j, none⟩ = some (.string s) := ((hBut.low (Nat.le_of_lt hmg) (Nat.le_refl m)).cell (p := ⟨bx, ox + j, none⟩) hbm).trans ((hB.cell (p := ⟨bx, ox + j, none⟩) hbm).trans hcx)
          have hklen := knownBy_length K (ss.take j)
          have hjt : (ss.take j).length = j := by rw [List.length_take]; omega
          rw [hjt] at hklen
          have hk1 := knownBy_snoc K ss j s hs.out
          have hn1 := numRow_get K ss j s hs.out
          have Hk1 := Lib.hid hk1; clear hk1
          have Hn1 := Lib.hid hn1; clear hn1
          have Hf := Lib.hid hf; clear hf
          obtain ⟨Kj, hKj⟩ : ∃ Kj, Hid (knownBy K (ss.take j) = Kj) := ⟨_, Lib.hid rfl⟩
          rw [hKj.out] at hkn hklen Hk1 Hn1
          have hgw := rg.lt
          have hgm : g ≠ m := by omega
          obtain ⟨c, hlook, hcI⟩ := hkn.look s hss'
          by_cases hin : wd s ∈ Kj
          · have hdi : decide (wd s ∈ Kj) = true := by simpa using hin
            rw [hdi] at hlook
            have c0 : wr.cell? ⟨g, j, none⟩ = some (.int .i64 (f j)) := rg.cell (rowN_get _ hlj)
            have f0 := rg.frozen j
            have HN : Hid (NRow (wr.setCell ⟨g, j, none⟩ (.int .i64 c)) g n m (j + 1) K ss) := by
              refine Lib.hid ⟨⟨_, ?_, by have := rg.set j (.int .i64 c); rw [rowN_set] at this; exact this⟩, ?_⟩
              · intro i y h1 h2
                show (if i = j then c else f i) = y
                by_cases e : i = j
                · subst e
                  rw [if_pos rfl, hcI hin]
                  rw [Hn1.out] at h2
                  exact Option.some.inj h2
                · rw [if_neg e]
                  exact Hf.out i y (by omega) h2
              · rw [Hk1.out]
                unfold numStep
                rw [if_pos hin]
                exact hkn.same (Below.heap_setCell _ _ _ m (by show m ≠ g; omega))
            have HBut : Hid (But g m Wo (wr.setCell ⟨g, j, none⟩ (.int .i64 c))) := Lib.hid (hBut.below ((Below.refl _ _).setCell (p := ⟨g, j, none⟩) (Nat.le_refl _) _))
            clear rg hkn hBut hcI hin hdi hcx Hatx
            go_wp2_with fail
            exact ⟨⟨j + 1, by omega, by go_num, HN.out, HBut.out⟩, by simp [intOf]; omega⟩
          · have hdi : decide (wd s ∈ Kj) = false := by simpa using hin
            rw [hdi] at hlook
            obtain ⟨W', hput, hkn', hgr⟩ := hkn.put s hss' hin (by omega)
            have hlen := fun ty => hkn.len ty
            have rg' : RowAt W' g 3 (rowN n f) := rg.same (hgr.block g hgw (by simpa using hgm))
            have c0 : W'.cell? ⟨g, j, none⟩ = some (.int .i64 (f j)) := rg'.cell (rowN_get _ hlj)
            have f0 := rg'.frozen j
            have hidx : Kj.idxOf (wd s) = Kj.length := List.idxOf_eq_length hin
            have HN : Hid (NRow (W'.setCell ⟨g, j, none⟩ (.int .i64 (Kj.length : Nat))) g n m (j + 1) K ss) := by
              refine Lib.hid ⟨⟨_, ?_, by have := rg'.set j (.int .i64 (Kj.length : Nat)); rw [rowN_set] at this; exact this⟩, ?_⟩
              · intro i y h1 h2
                show (if i = j then ((Kj.length : Nat) : Int) else f i) = y
                by_cases e : i = j
                · subst e
                  rw [if_pos rfl, ← hidx]
                  rw [Hn1.out] at h2
                  exact Option.some.inj h2
                · rw [if_neg e]
                  exact Hf.out i y (by omega) h2
              · rw [Hk1.out]
                unfold numStep
                rw [if_neg hin]
                exact hkn'.same (Below.heap_setCell _ _ _ m (by show m ≠ g; omega))
            have HBut : Hid (But g m Wo (W'.setCell ⟨g, j, none⟩ (.int .i64 (Kj.length : Nat)))) := Lib.hid ((hBut.grown hgr (by have := Hg.out; omega)).below ((Below.refl _ _).setCell (p := ⟨g, j, none⟩) (Nat.le_refl _) _))
            clear rg hkn hBut hcI hin hdi hcx Hatx rg' hkn' hgr hidx hklen
            go_wp2_with fail
            exact ⟨⟨j + 1, by omega, by go_num, HN.out, HBut.out⟩, by simp [intOf]; omega⟩
        · obtain rfl : j = n := by omega
          have hl := numRows_get [] rows i ss hss.out
          have hl' : (numRows [] rows)[i]? = some (numRow K ss) := by rw [← HK.out]; exact hl
          have hlen : (numRow K ss).length = j := by rw [numRow_length, Hn.out]
          have hrow : RowAt wr g 3 ((numRow K ss).map (Value.int .i64)).toArray := by
            rw [← rowN_list (numRow K ss) f (fun i x h => hf i x (by have := (List.getElem?_eq_some_iff.1 h).1; omega) h), hlen]
            exact rg
          have hkeep : ∀ k, k < g → k ≠ m → wr.heap[k]? = Wo.heap[k]? := hBut.keep
          have hown : wr.ownsRow m 85 1 _ i vs := owns_same Hown.out (fun k e => hkeep k (by have := (Hown.out.lt k e).2; rw [← Hg.out]; exact this) (by
            rintro rfl
            exact Hkm.out e.symm))
          have hkn2 : Known wr m (knownRows rows (i + 1)) := by
            rw [knownRows_succ hss.out, HK.out]
            rw [List.take_of_length_le (by rw [Hn.out]; exact Nat.le_refl _)] at hkn
            exact hkn
          have hkl2 : (knownRows rows (i + 1)).length ≤ (i + 1) * 1000000 := by
            rw [knownRows_succ hss.out, HK.out]
            have := knownBy_length K ss
            have := Hn.out
            omega
          have hout2 : NOut wr vs ((numRows [] rows).take i) := Hout.out.same (fun k cs hk => hkeep k (by rw [← Hg.out]; exact hk.lt) (by
            rintro rfl
            exact Hrm.out _ hk))
          have hbw : Below m w wr := hB.trans (hBut.low (Nat.le_of_lt hmg) (Nat.le_refl m))
          have hin2 : i + 1 ≤ 1000 := by omega
          have Hlast := Lib.hid (fun v' w1 => NSt.next (v' := v') (w1 := w1) hown hout2 hkn2 hkl2 hrow hlen hl')
          have hmw : m ≤ wr.heap.size := by have := hkn2.lt; omega
          have Hbw := Lib.hid hbw; clear hbw
          clear hkn hf rg hBut hkeep hkn2 hkl2 hout2 hrow hl hl' hlen hB Hkm Hout Hrm
          go_wp2_with (at_builtin; refine wpList_append_own _ rfl _ _ 82 rfl m 85 i0 (.slice none 0 0) 1 24 Tryd.underlying82 hi0 hz0 hz1 hz2 rfl (by decide) _ _ _ rfl (hown.alloc _) ⟨wr.heap.size, 0, none⟩ 1 1 [.slice (some ⟨g, 0, none⟩) j j] rfl rfl (cell_one_new _ _ _) (by simp [Value.oneCell']) (by unfold maxLen; omega) (by omega) (by simp; omega) ?_; intro v' w1 hown' hgrow _)
          refine ⟨⟨i + 1, by omega, by go_num, Hlast.out _ _ hown' hgrow, (Hbw.out.alloc hmw _).grown hgrow (by simp; omega) (fun k hk => (hown.lt k hk).1)⟩, by simp [intOf]; omega⟩
    · obtain rfl : i = rows.length := by omega
      obtain ⟨vs, hown, hout, -, -⟩ := hSt
      rw [List.take_of_length_le (by rw [numRows_length]; exact Nat.le_refl _)] at hout
      have Hout := Lib.hid hout; clear hout
      have Hown := Lib.hid hown; clear hown
      go_wp2_with fail
      go_ret
      exact ⟨_, vs, rfl, own_vals Hown.out, Hout.out, hB.mono hm0⟩
end Go.Proofs.YtfjmhnnjgjcmeaaDoor.L
