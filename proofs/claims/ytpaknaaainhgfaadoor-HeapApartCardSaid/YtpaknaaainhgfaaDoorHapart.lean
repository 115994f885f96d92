/-
  For the law HeapApart: it returns true for any three numbers. Condition: the table of the powers of ten holds them.
-/
import Derived.Test.YtpaknaaainhgfaaDoorHnone
import Derived.Deep.RegionHeld3
import Derived.StillTailTactics
import Derived.Laws.Bits64b
import Derived.IntWalk
namespace Go.Proofs.YtpaknaaainhgfaaDoor
open Go.RowKit Go.Maps Go.WideMaps
set_option linter.unusedVariables false

theorem mask_i64 (a : Int) (c : Nat) (hc : c < 4611686018427387904) : ∃ m : Nat, bits .and .i64 a (c : Int) = (m : Int) ∧ m ≤ c := by
  have h2 : (BitVec.ofInt 64 (c : Int)).toNat = c := by
    rw [BitVec.ofInt_natCast, BitVec.toNat_ofNat]; exact Nat.mod_eq_of_lt (by omega)
  refine ⟨(BitVec.ofInt 64 a &&& BitVec.ofInt 64 (c : Int)).toNat, ?_, ?_⟩
  · show IntKind.i64.wrap ((BitVec.ofInt 64 a &&& BitVec.ofInt 64 (c : Int)).toNat : Int) = _
    refine IntWalk.i64_in _ ?_
    rw [BitVec.toNat_and, h2]
    have := Nat.and_le_right (n := (BitVec.ofInt 64 a).toNat) (m := c)
    omega
  · rw [BitVec.toNat_and, h2]
    exact Nat.and_le_right

/-- The three fields' ids. -/
def idn (k : Nat) : ByteArray := if k = 0 then ⟨#[102]⟩ else if k = 1 then ⟨#[103]⟩ else ⟨#[104]⟩
theorem idn_inj {j k : Nat} (hj : j < 3) (hk : k < 3) (h : idn j = idn k) : j = k := by
  match j, k, hj, hk with
  | 0, 0, _, _ => rfl
  | 1, 1, _, _ => rfl
  | 2, 2, _, _ => rfl
  | 0, 1, _, _ => exact absurd h (by decide)
  | 0, 2, _, _ => exact absurd h (by decide)
  | 1, 0, _, _ => exact absurd h (by decide)
  | 1, 2, _, _ => exact absurd h (by decide)
  | 2, 0, _, _ => exact absurd h (by decide)
  | 2, 1, _, _ => exact absurd h (by decide)
theorem idn_small (k : Nat) : (idn k).size ≤ maxLen := by
  unfold idn
  split
  · simp [maxLen, ByteArray.size]
  · split <;> simp [maxLen, ByteArray.size]
/-- What the objects hold: i of them whole, and k fields of the next one. -/
def Filled (f : Store) (i k : Nat) : Prop := ∀ j q : Nat, q < 3 → (j < i ∨ (j = i ∧ q < k)) → f ((j : Int) + 1) (idn q) = some (1, 10 * (j : Int) + q)
theorem Filled.next {f : Store} {i k : Nat} (h : Filled f i k) (hk : k < 3) : Filled (f.set ((i : Int) + 1) (idn k) (1, 10 * (i : Int) + k)) i (k + 1) := by
  intro j q hq hjq
  unfold Store.set
  by_cases e : ((j : Int) + 1 = (i : Int) + 1 ∧ idn q = idn k)
  · rw [if_pos e]
    have h1 : j = i := by omega
    have h2 := idn_inj hq hk e.2
    rw [h1, h2]
  · rw [if_neg e]
    refine h j q hq ?_
    rcases hjq with h1 | ⟨h1, h2⟩
    · exact .inl h1
    · right
      refine ⟨h1, ?_⟩
      by_cases e2 : q = k
      · exact absurd ⟨by omega, by rw [e2]⟩ e
      · omega
theorem Filled.up {f : Store} {i : Nat} (h : Filled f i 3) : Filled f (i + 1) 0 := by
  intro j q hq hjq
  refine h j q hq ?_
  omega
/-- The objects' values, as the law's row holds them. -/
def objs (i : Nat) : List Value := (List.range i).flatMap fun j : Nat => [Value.int .i64 3, Value.int .i64 ((j : Int) + 1)]
theorem objs_length (i : Nat) : (objs i).length = i * 2 := by
  unfold objs
  induction i with
  | zero => rfl
  | succ i ih => rw [List.range_succ, List.flatMap_append, List.length_append, ih]; simp; omega
theorem objs_succ (i : Nat) : objs (i + 1) = objs i ++ [.int .i64 3, .int .i64 ((i : Int) + 1)] := by
  unfold objs
  rw [List.range_succ, List.flatMap_append]
  rfl
theorem objs_get : ∀ (i j : Nat), j < i → (objs i)[j * 2]? = some (.int .i64 3) ∧ (objs i)[j * 2 + 1]? = some (.int .i64 ((j : Int) + 1))
  | 0, j, h => by omega
  | i + 1, j, h => by
    rw [objs_succ]
    have hl := objs_length i
    by_cases e : j < i
    · have := objs_get i j e
      rw [List.getElem?_append_left (by omega), List.getElem?_append_left (by omega)]
      exact this
    · obtain rfl : j = i := by omega
      rw [List.getElem?_append_right (by omega), List.getElem?_append_right (by omega), hl]
      simp

/-- A heap stays where a row of the law's own objects grows. -/
theorem Hp.grown {W W' : World} {base h m b2 n : Nat} {cs : List ByteArray} {f : Store} {v : Value} {xs : List Value} (H : Hp W base h cs m f) (hown : W.ownsRow b2 44 2 v n xs) (hg : W.grownBy W' v.ownBlock) : Hp W' base h cs m f := by
  obtain ⟨p, c, mv, hr, ho, hm⟩ := H
  refine ⟨p, c, mv, hr.same (hg.block h hr.lt (own_ne hown hr (by decide))), owns_same ho (fun k hk => ?_), ?_⟩
  · rcases ho.2 with ⟨e, _⟩ | ⟨g, cap, cur, e, _, hgg, _⟩
    · rw [e] at hk; simp [Value.ownBlock] at hk
    · rw [e] at hk
      simp [Value.ownBlock] at hk
      subst hk
      exact hg.block g (Array.getElem?_eq_some_iff.1 hgg).1 (own_ne hown (show RowAt W g 9 cur from hgg) (by decide))
  · rcases hm with hm | ⟨b, rfl, h1, hM⟩
    · exact .inl hm
    · refine .inr ⟨b, rfl, h1, hM.later (hg.block b hM.lt ?_)⟩
      intro e
      obtain ⟨D, ⟨es, cl, hb', _⟩, _⟩ := hM
      rcases hown.2 with ⟨e1, _⟩ | ⟨g, cap, cur, e1, _, hgg, _⟩
      · rw [e1] at e; simp [Value.ownBlock] at e
      · rw [e1] at e
        simp [Value.ownBlock] at e
        subst e
        rw [hgg] at hb'
        cases hb'
theorem own_turn {B h base m b2 n : Nat} {W W' : World} {cs : List ByteArray} {f : Store} {v : Value} {xs : List Value} (hown : W.ownsRow b2 44 2 v n xs) (H : Hp W base h cs m f) (ht : Turn B h W W') : W'.ownsRow b2 44 2 v n xs := by
  obtain ⟨p, c, mv, hr, _⟩ := H
  refine owns_same hown fun k e => ?_
  rcases hown.2 with ⟨e1, _⟩ | ⟨g, cap, cur, e1, _, hgg, _⟩
  · rw [e1] at e; simp [Value.ownBlock] at e
  · rw [e1] at e
    simp [Value.ownBlock] at e
    subst e
    refine ht.keep g ⟨(Array.getElem?_eq_some_iff.1 hgg).1, ?_, .inr ⟨cur, 44, (0, 0), hgg, by decide⟩⟩
    rintro rfl
    unfold RowAt at hr
    rw [hr] at hgg
    cases hgg
theorem own_down {b2 n : Nat} {W W' : World} {v : Value} {xs : List Value} (hown : W.ownsRow b2 44 2 v n xs) (hb : Below W.heap.size W W') : W'.ownsRow b2 44 2 v n xs := owns_same hown fun k e => hb.block k (hown.lt k e).2
theorem cell_two_new (w : World) (x y : Value) (t : TypeId) : ∀ j u, [x, y][j]? = some u → (w.alloc (.cells #[x, y] t)).cell? ((⟨w.heap.size, 0, none⟩ : Addr).add j) = some u := by
  intro j u hj
  have e : (⟨w.heap.size, 0, none⟩ : Addr).add j = ⟨w.heap.size, j, none⟩ := by
    by_cases h0 : j = 0 <;> simp [Addr.add, h0]
  rw [e]
  exact (RowAt.new w t #[x, y]).cell (by simpa using hj)
abbrev ids3 : Array Value := #[.string ⟨#[102]⟩, .string ⟨#[103]⟩, .string ⟨#[104]⟩]
theorem ids3_get {k : Nat} (h : k < 3) : ids3[k]? = some (.string (idn k)) := by
  match k, h with
  | 0, _ => rfl
  | 1, _ => rfl
  | 2, _ => rfl
theorem where_obj {len : Nat} {j : Nat} (h : j < len) : whereAt len 3 ((j : Int) + 1) = ((j : Int) + 1, 0) := if_pos ⟨rfl, by omega, by omega⟩
set_option maxRecDepth 100000 in
theorem info44 : ∃ i0, Tryd.prog.info? 44 = some i0 ∧ i0.zero = some (val2 0 0) ∧ i0.size = 2 ∧ i0.bytes = 16 := ⟨_, rfl, by kernel_rfl, by kernel_rfl, by kernel_rfl⟩

theorem obj_cells {W : World} {b2 n gl c : Nat} (h : W.ownsRow b2 44 2 (.slice (some ⟨gl, 0, none⟩) n c) n (objs n)) {p : Nat} (hp : p < n) : W.cell? ⟨gl, p * 2, none⟩ = some (.int .i64 3) ∧ W.cell? ⟨gl, p * 2 + 1, none⟩ = some (.int .i64 ((p : Int) + 1)) := by
  have hadd : ∀ j, (⟨gl, 0, none⟩ : Addr).add j = ⟨gl, j, none⟩ := fun j => by by_cases h0 : j = 0 <;> simp [Addr.add, h0]
  have e1 := (h.cells (g := gl) rfl) (p * 2) _ (objs_get n p hp).1
  have e2 := (h.cells (g := gl) rfl) (p * 2 + 1) _ (objs_get n p hp).2
  rw [hadd] at e1 e2
  exact ⟨e1, e2⟩
theorem below_undrew {B : Nat} {W W' : World} (h : Below B W.drew W') : Below B W W' := ⟨h.os, h.tape, h.output, h.size, h.block⟩
theorem cells3 {V W : World} {B n gl c j h k : Nat} (hl : V.ownsRow B 44 2 (.slice (some ⟨gl, 0, none⟩) n c) n (objs n)) (hg : RowAt V (h + 1) 9 ids3) (hb : Below V.heap.size V W) (hj : j < n) (hk : k < 3) :
    W.cell? ⟨gl, j * 2, none⟩ = some (.int .i64 3) ∧ W.cell? ⟨gl, j * 2 + 1, none⟩ = some (.int .i64 ((j : Int) + 1)) ∧ W.cell? ⟨h + 1, k, none⟩ = some (.string (idn k)) :=
  ⟨(obj_cells (own_down hl hb) hj).1, (obj_cells (own_down hl hb) hj).2, (hg.later hb).cell (ids3_get hk)⟩
/-- What the law wants to find. -/
def wantV (p q j k : Nat) : Int × Int := if j = p ∧ k = q then (2, 1) else (1, 10 * (j : Int) + k)
theorem fin_get {f : Store} {n p q : Nat} (h : Filled f n 0) (hq : q < 3) {j k : Nat} (hj : j < n) (hk : k < 3) : ((f.set ((p : Int) + 1) (idn q) (2, 1)).set 0 (idn q) (1, 999)) ((j : Int) + 1) (idn k) = some (wantV p q j k) := by
  unfold Store.set wantV
  rw [if_neg (by rintro ⟨e, _⟩; omega)]
  by_cases e : j = p ∧ k = q
  · rw [if_pos e, if_pos ⟨by omega, by rw [e.2]⟩]
  · rw [if_neg e, if_neg (by rintro ⟨e1, e2⟩; exact e ⟨by omega, idn_inj hk hq e2⟩)]
    exact h j k hk (.inl hj)
theorem fin_static {f : Store} {p q : Nat} : ((f.set ((p : Int) + 1) (idn q) (2, 1)).set 0 (idn q) (1, 999)) 0 (idn q) = some (1, 999) := by
  unfold Store.set
  rw [if_pos ⟨rfl, rfl⟩]
/-- The law's state: the heap, its own row of objects, its ids. -/
def St (w W : World) (B h gi i k : Nat) (l : Value) (n : Nat) : Prop :=
  (∃ cs m f, Hp W B h cs m f ∧ cs.length = n ∧ m ≤ 3 * i + k ∧ Filled f i k) ∧ W.ownsRow B 44 2 l n (objs n) ∧ RowAt W gi 9 ids3 ∧ gi < B ∧ h < B ∧ gi ≠ h ∧ w.heap.size ≤ h ∧ Below w.heap.size w W ∧ B ≤ W.heap.size

set_option maxRecDepth 100000 in
set_option maxHeartbeats 8000000 in
theorem HeapApart_any (many a b : Int) (w : World) (hp : Pow w) : Calls Tryd.prog 10 #[.int .i64 many, .int .i64 a, .int .i64 b] w fun e w' => e = .returned (.bool true) ∧ Below w.heap.size w w' := by
  obtain ⟨n0, hn0, hn1⟩ := mask_i64 many 15 (by decide)
  have hn0' : bits .and .i64 many 15 = (n0 : Int) := hn0
  obtain ⟨a0, ha0, ha1⟩ := mask_i64 a 1023 (by decide)
  have ha0' : bits .and .i64 a 1023 = (a0 : Int) := ha0
  obtain ⟨b0, hb0, hb1⟩ := mask_i64 b 1023 (by decide)
  have hb0' : bits .and .i64 b 1023 = (b0 : Int) := hb0
  clear hn0 ha0 hb0
  go_enter Tryd.func10, Tryd.ntmps10
  go_wp2_with fail
  refine (hawake_any _ hp).mono ?_
  rintro e w1 ⟨rfl, b1⟩
  go_wp2_with fail
  refine (New_any _).mono ?_
  rintro e w2 ⟨rfl, hw2⟩
  obtain ⟨h, hh⟩ : ∃ h, w1.heap.size = h := ⟨_, rfl⟩
  obtain ⟨n, hn⟩ : ∃ n : Nat, 2 + n0 = n := ⟨_, rfl⟩
  have hnI : (2 : Int) + (n0 : Int) = (n : Int) := by omega
  have hn2 : 2 ≤ n ∧ n ≤ 17 := by omega
  rw [hh]
  obtain ⟨W3, hW3⟩ : ∃ W3, Hid (w2.alloc (.cells ids3 9) = W3) := ⟨_, Lib.hid rfl⟩
  have hH : Hp W3 (h + 2) h [] 0 (fun _ _ => none) := by
    rw [← hW3.out]
    refine Hp.later ?_ ((Below.refl _ w2).alloc (Nat.le_refl _) _)
    rw [hw2, ← hh]
    exact Hp.made w1 _
  have hs2 : w2.heap.size = h + 1 := by rw [hw2]; simp [hh]
  have hgi : RowAt W3 (h + 1) 9 ids3 := by rw [← hW3.out, ← hs2]; exact RowAt.new _ _ _
  have bW3 : Below w.heap.size w W3 := by
    rw [← hW3.out, hw2]
    exact (b1.alloc b1.size _).alloc (by have := b1.size; simp; omega) _
  have hSt : St w W3 (h + 2) h (h + 1) 0 0 (.slice none 0 0) 0 := by
    refine ⟨⟨[], 0, _, hH, rfl, by omega, fun j q _ hj => by omega⟩, World.ownsRow_nil _ _ _ _, hgi, by omega, by omega, by omega, by rw [← hh]; exact b1.size, bW3, by rw [← hW3.out]; simp [hs2]⟩
  have HSt := Lib.hid hSt; clear hSt
  have Hs2 := Lib.hid hs2; clear hs2
  clear hH hgi bW3 hw2 b1 hp hn hh
  obtain ⟨i44, hi44, hz44, hs44, hb44⟩ := info44
  go_wp2_with fail
  rw [Hs2.out, hW3.out]
  clear hW3 Hs2
  go_loopw [10, 12] (fun l c wr => ∃ i : Nat, i ≤ n ∧ c = .int .i64 i ∧ St w wr (h + 2) h (h + 1) i 0 l i) (fun _ c _ => n - (intOf c).toNat)
  case atStart => exact ⟨0, Nat.zero_le _, rfl, HSt.out⟩
  case round =>
    clear HSt
    obtain ⟨i, hi, rfl, ⟨cs, m, f, H, hcs, hm, hF⟩, hown, hgi, q1, q2, q3, q4, hB, q5⟩ := hrel
    have Hcs := Lib.hid hcs; clear hcs
    have HF := Lib.hid hF; clear hF
    by_cases hlt : i < n
    · have hdl : decide (i < n) = true := by simpa using hlt
      go_wp2_with fail
      refine (Make_in ⟨#[65]⟩ _ (h + 2) h m cs f (by rw [Hcs.out]; omega) q5 H).mono ?_
      rw [Hcs.out]
      rintro e w4 ⟨rfl, H4, T4⟩
      have own4 := own_turn hown H T4
      have gi4 := hgi.turn_low T4 q3 q1
      have B4 := hB.trans (T4.below (by omega) q4 hB.size)
      have s4 : h + 2 ≤ w4.heap.size := by have := T4.size; omega
      clear H hown hgi T4 hB q5
      have hc2 := cell_two_new (w4.alloc (.cells #[.int .i64 3, .int .i64 ((i : Int) + 1)] 44)) (.int .i64 3) (.int .i64 ((i : Int) + 1)) 44
      rw [World.size_alloc] at hc2
      have Hc2 := Lib.hid hc2; clear hc2
      have hs4 := B4.size
      go_wp2_with (at_builtin; refine wpList_append_own _ rfl _ _ 69 rfl (h + 2) 44 i44 (val2 0 0) 2 16 Tryd.underlying69 hi44 hz44 hs44 hb44 rfl (by decide) _ _ _ rfl ((own4.alloc _).alloc _) ⟨w4.heap.size + 1, 0, none⟩ 1 1 [.int .i64 3, .int .i64 ((i : Int) + 1)] rfl rfl Hc2.out (by simp [Value.oneCell']) (by unfold maxLen; omega) (by omega) (by simp; omega) ?_; intro v' w6 hown6 hgrow6 _)
      have Hx : Hp w6 (h + 2) h (cs ++ [⟨#[65]⟩]) m f := Hp.grown (Hp.later (Hp.later H4 ((Below.refl _ w4).alloc (Nat.le_refl _) _)) ((Below.refl _ _).alloc (Nat.le_refl _) _)) ((own4.alloc _).alloc _) hgrow6
      have r6 : RowAt w6 w4.heap.size 44 #[.int .i64 3, .int .i64 ((i : Int) + 1)] := RowAt.same ((RowAt.new w4 44 _).alloc _) (hgrow6.block _ (by simp; omega) (by intro e; have := (own4.lt _ e.symm).2; omega))
      have gi6 : RowAt w6 (h + 1) 9 ids3 := RowAt.same ((gi4.alloc _).alloc _) (hgrow6.block _ (by simp; omega) (own_ne own4 gi4 (by decide)))
      have B6 : Below w.heap.size w w6 := ((B4.alloc hs4 _).alloc (by simp; omega) _).grown hgrow6 (by simp; omega) (fun k hk => by have := (own4.lt k hk).1; omega)
      have own6 : w6.ownsRow (h + 2) 44 2 v' (i + 1) (objs (i + 1)) := by rw [objs_succ]; exact hown6
      have s6 : h + 2 ≤ w6.heap.size := by have := hgrow6.size; simp at this; omega
      obtain ⟨b13, hb13⟩ : ∃ b13, w4.heap.size = b13 := ⟨_, rfl⟩
      rw [hb13] at r6 ⊢
      have hbg : h + 2 ≤ b13 := by omega
      have h13 : b13 ≠ h := by omega
      have Hinner : (∃ m f, Hp w6 (h + 2) h (cs ++ [⟨#[65]⟩]) m f ∧ m ≤ 3 * i + 0 ∧ Filled f i 0) := ⟨m, f, Hx, hm, HF.out⟩
      have HI := Lib.hid Hinner
      have Hall := Lib.hid (And.intro own6 (And.intro gi6 (And.intro r6 (And.intro B6 s6))))
      clear own6 gi6 r6 B6 s6 Hinner Hx hgrow6 hown6 own4 gi4 B4 H4 hs4 s4 Hc2 hb13 HF
      go_loopw [15] (fun c wr => ∃ k : Nat, k ≤ 3 ∧ c = .int .i64 k ∧ (∃ m f, Hp wr (h + 2) h (cs ++ [⟨#[65]⟩]) m f ∧ m ≤ 3 * i + k ∧ Filled f i k) ∧ wr.ownsRow (h + 2) 44 2 v' (i + 1) (objs (i + 1)) ∧ RowAt wr (h + 1) 9 ids3 ∧ RowAt wr b13 44 #[.int .i64 3, .int .i64 ((i : Int) + 1)] ∧ Below w.heap.size w wr ∧ h + 2 ≤ wr.heap.size) (fun c _ => 3 - (intOf c).toNat)
      case atStart => exact ⟨0, by omega, rfl, HI.out, Hall.out.1, Hall.out.2.1, Hall.out.2.2.1, Hall.out.2.2.2.1, Hall.out.2.2.2.2⟩
      case round =>
        clear HI Hall
        obtain ⟨k, hk, rfl, ⟨m', f', H, hm', hF⟩, hown, hgi, hr13, hB, hsz⟩ := hrel
        by_cases hlk : k < 3
        · have c0 : wr.cell? ⟨b13, 0, none⟩ = some (.int .i64 3) := hr13.cell rfl
          have c1 : wr.cell? ⟨b13, 1, none⟩ = some (.int .i64 ((i : Int) + 1)) := hr13.cell rfl
          have ci : wr.cell? ⟨h + 1, k, none⟩ = some (.string (idn k)) := hgi.cell (ids3_get hlk)
          have v1 : IntKind.i64.wrap (10 * (i : Int)) = 10 * (i : Int) := IntWalk.i64_in _ (by omega)
          have v2 : IntKind.i64.wrap (10 * (i : Int) + (k : Int)) = 10 * (i : Int) + (k : Int) := IntWalk.i64_in _ (by omega)
          have hdk : decide (k < 3) = true := by simpa using hlk
          have hk3 : (k : Int) < 3 := by omega
          have hwa : whereAt (cs ++ [(⟨#[65]⟩ : ByteArray)]).length 3 ((i : Int) + 1) = ((i : Int) + 1, 0) := where_obj (by rw [List.length_append, Hcs.out]; simp)
          have Hwa := Lib.hid hwa; clear hwa
          have HH := Lib.hid H
          have HFk := Lib.hid (hF.next hlk)
          have Hrest := Lib.hid (And.intro hown (And.intro hgi (And.intro hr13 hB)))
          clear H hF hown hgi hr13 hB
          go_wp2_with fail
          go_still_tail 11, (by kernel_rfl)
          change wpList _ _ _ _ _ wr.drew
          obtain ⟨V, hV⟩ : ∃ V, Hid (wr.drew = V) := ⟨_, Lib.hid rfl⟩
          have HV : Hid (Hp V (h + 2) h (cs ++ [⟨#[65]⟩]) m' f') := by rw [← hV.out]; exact Lib.hid (HH.out.later (below_draws (Below.refl _ wr) 1))
          have HrV : Hid (V.ownsRow (h + 2) 44 2 v' (i + 1) (objs (i + 1)) ∧ RowAt V (h + 1) 9 ids3 ∧ RowAt V b13 44 #[.int .i64 3, .int .i64 ((i : Int) + 1)] ∧ Below w.heap.size w V) := by
            rw [← hV.out]
            exact Lib.hid ⟨Hrest.out.1, Hrest.out.2.1, Hrest.out.2.2.1, below_draws Hrest.out.2.2.2 1⟩
          have hszV : h + 2 ≤ V.heap.size := by rw [← hV.out]; exact hsz
          rw [hV.out]
          clear hV HH Hrest c0 c1 ci v1 v2
          go_wp2_with fail
          refine (Set_any 3 ((i : Int) + 1) 1 (10 * (i : Int) + (k : Int)) (WalkArith.wf_i64 ⟨by omega, by omega⟩) (idn k) (idn_small k) _ (h + 2) h m' (by unfold maxLen; omega) _ f' HV.out hszV).mono ?_
          rw [Hwa.out]
          rintro e w7 ⟨rfl, H7, T7⟩
          rw [setOf, if_pos (by rw [Hwa.out]), Hwa.out] at H7
          have own7 := own_turn HrV.out.1 HV.out T7
          have gi7 := HrV.out.2.1.turn_low T7 q3 q1
          have r7 := HrV.out.2.2.1.turn T7 h13 (by decide)
          have B7 := HrV.out.2.2.2.trans (T7.below (by omega) q4 HrV.out.2.2.2.size)
          have s7 : h + 2 ≤ w7.heap.size := by have := T7.size; omega
          clear T7 HrV HV hszV
          go_wp2_with fail
          exact ⟨⟨k + 1, by omega, by go_num, ⟨_, _, H7, by omega, HFk.out⟩, own7, gi7, r7, B7, s7⟩, by simp [intOf]; omega⟩
        · obtain rfl : k = 3 := by omega
          clear hlk hk
          go_wp2_with fail
          exact ⟨⟨i + 1, by omega, by go_num, ⟨_, m', f', H, by rw [List.length_append, Hcs.out]; rfl, by omega, hF.up⟩, hown, hgi, q1, q2, q3, q4, hB, hsz⟩, by simp [intOf]; omega⟩
    · obtain rfl : i = n := by omega
      obtain ⟨pl, cl, hform⟩ := slice_of_owns hown
      subst hform
      obtain ⟨gl, rfl⟩ : ∃ gl, pl = some ⟨gl, 0, none⟩ := by
        rcases hown.2 with ⟨e1, e2⟩ | ⟨g, cap, cur, e1, _⟩
        · omega
        · injection e1 with e1 _ _
          exact ⟨g, e1⟩
      obtain ⟨p, hpp⟩ : ∃ p : Nat, a0 % i = p := ⟨_, rfl⟩
      have hpI : (a0 : Int) % (i : Int) = (p : Int) := by omega
      have hpl : p < i := by rw [← hpp]; exact Nat.mod_lt _ (by omega)
      obtain ⟨q, hqq⟩ : ∃ q : Nat, b0 % 3 = q := ⟨_, rfl⟩
      have hqI : (b0 : Int) % 3 = (q : Int) := by omega
      have hql : q < 3 := by omega
      have hq3 : (q : Int) < 3 := by omega
      obtain ⟨e1, e2⟩ := obj_cells hown hpl
      have e3 : wr.cell? ⟨h + 1, q, none⟩ = some (.string (idn q)) := hgi.cell (ids3_get hql)
      have hgl : gl ≠ h := by
        rintro rfl
        obtain ⟨_, _, _, hr, _⟩ := H
        rcases hown.2 with ⟨e, _⟩ | ⟨g, cap, cur, e, _, hgg, _⟩
        · cases e
        · injection e with e _ _
          injection e with e
          injection e with e
          subst e
          unfold RowAt at hr
          rw [hr] at hgg
          cases hgg
      have hwp : whereAt cs.length 3 ((p : Int) + 1) = ((p : Int) + 1, 0) := where_obj (by rw [Hcs.out]; exact hpl)
      have hws : whereAt cs.length 1 0 = (0, 0) := by unfold whereAt; simp
      have Hwp := Lib.hid hwp; clear hwp
      have Hws := Lib.hid hws; clear hws
      have hmb : m ≤ 1000 := by omega
      have hdl : decide (i < i) = false := by simp
      have Hown := Lib.hid hown; clear hown
      have Hgi := Lib.hid hgi; clear hgi
      have HBl := Lib.hid hB; clear hB
      clear hpp hqq hlt hi
      go_wp2_with fail
      have HH : Hp wr.drew (h + 2) h cs m f := H.later (below_draws (Below.refl _ wr) 1)
      have Hown' : wr.drew.ownsRow (h + 2) 44 2 (.slice (some ⟨gl, 0, none⟩) i cl) i (objs i) := Hown.out
      have Hgi' : RowAt wr.drew (h + 1) 9 ids3 := Hgi.out
      have e1' : wr.drew.cell? ⟨gl, p * 2, none⟩ = some (.int .i64 3) := e1
      have e2' : wr.drew.cell? ⟨gl, p * 2 + 1, none⟩ = some (.int .i64 ((p : Int) + 1)) := e2
      have e3' : wr.drew.cell? ⟨h + 1, q, none⟩ = some (.string (idn q)) := e3
      have q5' : h + 2 ≤ wr.drew.heap.size := q5
      have HHh := Lib.hid HH; clear HH
      have HBl' : Hid (Below w.heap.size w wr.drew) := Lib.hid (below_draws HBl.out 1)
      have Hl' := Lib.hid Hown'; clear Hown'
      have Hg' := Lib.hid Hgi'; clear Hgi'
      clear e1 e2 e3 H
      go_region_held3 (fun W => W.cell? ⟨gl, p * 2, none⟩ = some (.int .i64 3) ∧ W.cell? ⟨gl, p * 2 + 1, none⟩ = some (.int .i64 ((p : Int) + 1)) ∧ W.cell? ⟨h + 1, q, none⟩ = some (.string (idn q)))
        (first | exact ⟨e1', e2', e3'⟩ | (with_reducible exact Hs7.out) | (with_reducible exact Hs8.out))
        (first
          | (go_at_call 31
             ((with_reducible refine (Set_any 3 ((p : Int) + 1) 2 1 (WalkArith.wf_i64 ⟨by omega, by omega⟩) (idn q) (idn_small q) _ (h + 2) h m (by unfold maxLen; omega) cs f HHh.out q5').mono ?_); rw [Hwp.out]; rintro e w7 ⟨rfl, H7, T7⟩; have s7 : h + 2 ≤ w7.heap.size := Nat.le_trans q5' T7.size; have Hl7 := Lib.hid (own_turn Hl'.out HHh.out T7); have Hg7 := Lib.hid (Hg'.out.turn_low T7 q3 q1); have HB7 := Lib.hid (HBl'.out.trans (T7.below (by omega) q4 HBl'.out.size)); have Hs7 := Lib.hid (And.intro (obj_cells Hl7.out hpl).1 (And.intro (obj_cells Hl7.out hpl).2 (Hg7.out.cell (ids3_get hql)))); have H7h := Lib.hid H7; clear H7 T7))
          | (go_at_call 31
             ((with_reducible refine (Set_any 1 0 1 999 (by decide) (idn q) (idn_small q) _ (h + 2) h (m + 1) (by unfold maxLen; omega) cs _ H7h.out s7).mono ?_); rw [Hws.out]; rintro e w8 ⟨rfl, H8, T8⟩; have s8 : h + 2 ≤ w8.heap.size := Nat.le_trans s7 T8.size; have Hl8 := Lib.hid (own_turn Hl7.out H7h.out T8); have Hg8 := Lib.hid (Hg7.out.turn_low T8 q3 q1); have HB8 := Lib.hid (HB7.out.trans (T8.below (by omega) q4 HB7.out.size)); have Hs8 := Lib.hid (And.intro (obj_cells Hl8.out hpl).1 (And.intro (obj_cells Hl8.out hpl).2 (Hg8.out.cell (ids3_get hql)))); have H8h := Lib.hid H8; clear H8 T8)))
      rw [setOf, if_pos (by rw [Hws.out]), Hws.out, setOf, if_pos (by rw [Hwp.out]), Hwp.out] at H8h
      have Hfin := Lib.hid (fun j k (hj : j < i) (hk : k < 3) => fin_get (p := p) (q := q) HF.out hql hj hk)
      have Hsta := Lib.hid (fin_static (f := f) (p := p) (q := q))
      generalize (f.set ((p : Int) + 1) (idn q) (2, 1)).set 0 (idn q) (1, 999) = fin at H8h Hfin Hsta
      obtain ⟨mm, hmm⟩ : ∃ mm, m + 1 + 1 = mm := ⟨_, rfl⟩
      rw [hmm] at H8h
      clear Hs7 Hs8 Hl7 Hg7 HB7 H7h s7 Hl' Hg' HBl' HHh e1' e2' e3' q5' hmm hmb Hown Hgi HBl HF hm hdl
      clear hnI hn0' ha0' hb0' hpI hqI
      go_wp2_with fail
      go_loopw [18] (fun c wr => ∃ j : Nat, j ≤ i ∧ c = .int .i64 j ∧ Below w8.heap.size w8 wr) (fun c _ => i - (intOf c).toNat)
      case atStart => exact ⟨0, Nat.zero_le _, rfl, Below.refl _ _⟩
      case round =>
        obtain ⟨j, hj, rfl, hB⟩ := hrel
        by_cases hlj : j < i
        · have hdj : decide (j < i) = true := by simpa using hlj
          go_wp2_with fail
          clear hdj
          have HB0 := Lib.hid hB; clear hB
          go_loopw [19] (fun c wr => ∃ k : Nat, k ≤ 3 ∧ c = .int .i64 k ∧ Below w8.heap.size w8 wr) (fun c _ => 3 - (intOf c).toNat)
          case atStart => exact ⟨0, by omega, rfl, HB0.out⟩
          case round =>
            clear HB0
            obtain ⟨k, hk, rfl, hB⟩ := hrel
            by_cases hlk : k < 3
            · have hdk : decide (k < 3) = true := by simpa using hlk
              have hk3 : (k : Int) < 3 := by omega
              have hx := Hfin.out j k hlj hlk
              obtain ⟨x1, x2, hxx⟩ : ∃ x1 x2, wantV p q j k = (x1, x2) := ⟨_, _, rfl⟩
              rw [hxx] at hx
              have Hx := Lib.hid hx; clear hx
              obtain ⟨V, hV⟩ : ∃ V, Hid (wr.alloc (.cells #[.int .i64 x1, .int .i64 x2] 44) = V) := ⟨_, Lib.hid rfl⟩
              have bV : Below wr.heap.size wr V := by rw [← hV.out]; exact (Below.refl _ _).alloc (Nat.le_refl _) _
              have rV : RowAt V wr.heap.size 44 #[.int .i64 x1, .int .i64 x2] := by rw [← hV.out]; exact RowAt.new _ _ _
              have bV8 : Below w8.heap.size w8 V := hB.trans (bV.mono hB.size)
              have HV := Lib.hid (H8h.out.later bV8)
              have lV := own_down Hl8.out bV8
              have gV := Hg8.out.later bV8
              obtain ⟨e1, e2⟩ := obj_cells lV hlj
              have e3 : V.cell? ⟨h + 1, k, none⟩ = some (.string (idn k)) := gV.cell (ids3_get hlk)
              have hW01 := Lib.hid (And.intro (rV.cell (j := 0) rfl) (rV.cell (j := 1) rfl))
              have w0 : V.cell? ⟨wr.heap.size, 0, none⟩ = some (.int .i64 x1) := rV.cell rfl
              have w1' : V.cell? ⟨wr.heap.size, 1, none⟩ = some (.int .i64 x2) := rV.cell rfl
              have HbV8 := Lib.hid bV8; clear bV8
              have HlV := Lib.hid lV; clear lV
              have HgV := Lib.hid gV; clear gV
              have hwj : whereAt cs.length 3 ((j : Int) + 1) = ((j : Int) + 1, 0) := where_obj (by rw [Hcs.out]; exact hlj)
              have hget : getOf cs.length fin 3 ((j : Int) + 1) (idn k) ⟨#[105, 110, 116]⟩ = ((x1, x2), 0) := by
                unfold getOf
                rw [hwj]
                simp only [if_true]
                rw [Hx.out]
                rfl
              have Hget := Lib.hid hget; clear hget hwj
              have v1 : IntKind.i64.wrap (10 * (j : Int)) = 10 * (j : Int) := IntWalk.i64_in _ (by omega)
              clear bV rV hB
              have v2 : IntKind.i64.wrap (10 * (j : Int) + (k : Int)) = 10 * (j : Int) + (k : Int) := IntWalk.i64_in _ (by omega)
              have hcase : (j = p ∧ k = q) ∨ (j = p ∧ k ≠ q) ∨ j ≠ p := by omega
              rcases hcase with ⟨hjp, hkq⟩ | ⟨hjp, hkq⟩ | hjp
              case' inl =>
                have hx12 : x1 = 2 ∧ x2 = 1 := by
                  have : wantV p q j k = (2, 1) := if_pos ⟨hjp, hkq⟩
                  rw [this] at hxx
                  exact ⟨(congrArg Prod.fst hxx).symm, (congrArg Prod.snd hxx).symm⟩
                have hV2 : Hid (wr.alloc (.cells #[.int .i64 2, .int .i64 1] 44) = V) := Lib.hid (by rw [← hV.out, hx12.1, hx12.2])
                have t1 : ((j : Int) == (p : Int)) = true := by simp [hjp]
                have t2 : ((k : Int) == (q : Int)) = true := by simp [hkq]
                clear hjp hkq hxx hx12 hV w0 w1'
                go_wp2_with fail
                rw [hV2.out]
                clear hV2 t1 t2 v1 v2
              case' inr.inl =>
                have hx12 : x1 = 1 ∧ x2 = 10 * (j : Int) + k := by
                  have : wantV p q j k = (1, 10 * (j : Int) + k) := if_neg (fun e => hkq e.2)
                  rw [this] at hxx
                  exact ⟨(congrArg Prod.fst hxx).symm, (congrArg Prod.snd hxx).symm⟩
                have hV2 : Hid (wr.alloc (.cells #[.int .i64 1, .int .i64 (10 * (j : Int) + (k : Int))] 44) = V) := Lib.hid (by rw [← hV.out, hx12.1, hx12.2])
                have t1 : ((j : Int) == (p : Int)) = true := by simp [hjp]
                have t2 : ((k : Int) == (q : Int)) = false := by rw [beq_eq_false_iff_ne]; omega
                clear hjp hkq hxx hx12 hV w0 w1'
                go_wp2_with fail
                rw [hV2.out]
                clear hV2 t1 t2 v1 v2
              case' inr.inr =>
                have hx12 : x1 = 1 ∧ x2 = 10 * (j : Int) + k := by
                  have : wantV p q j k = (1, 10 * (j : Int) + k) := if_neg (fun e => hjp e.1)
                  rw [this] at hxx
                  exact ⟨(congrArg Prod.fst hxx).symm, (congrArg Prod.snd hxx).symm⟩
                have hV2 : Hid (wr.alloc (.cells #[.int .i64 1, .int .i64 (10 * (j : Int) + (k : Int))] 44) = V) := Lib.hid (by rw [← hV.out, hx12.1, hx12.2])
                have t1 : ((j : Int) == (p : Int)) = false := by rw [beq_eq_false_iff_ne]; omega
                clear hjp hxx hx12 hV w0 w1'
                go_wp2_with fail
                rw [hV2.out]
                clear hV2 t1 v1 v2
              all_goals
                have e1' : V.drew.cell? ⟨gl, j * 2, none⟩ = some (.int .i64 3) := e1
                have e2' : V.drew.cell? ⟨gl, j * 2 + 1, none⟩ = some (.int .i64 ((j : Int) + 1)) := e2
                have e3' : V.drew.cell? ⟨h + 1, k, none⟩ = some (.string (idn k)) := e3
                have HVd : Hid (Hp V.drew (h + 2) h cs mm fin) := Lib.hid (HV.out.later (below_draws (Below.refl _ V) 1))
                have Hwj : Hid (V.drew.cell? ⟨wr.heap.size, 0, none⟩ = some (.int .i64 x1) ∧ V.drew.cell? ⟨wr.heap.size, 1, none⟩ = some (.int .i64 x2)) := Lib.hid hW01.out
                have HbVd : Hid (Below w8.heap.size w8 V.drew) := Lib.hid (below_draws HbV8.out 1)
                clear e1 e2 e3 HV
                have Hs9 := Lib.hid (And.intro e1' (And.intro e2' e3'))
                have HsV := Lib.hid (fun o => cells3 (W := (V.alloc o).drew) HlV.out HgV.out (below_draws ((Below.refl _ V).alloc (Nat.le_refl _) o) 1) hlj hlk)
                have HVa := Lib.hid (fun o => HVd.out.later (W' := (V.alloc o).drew) (below_draws ((Below.refl _ V.drew).alloc (Nat.le_refl _) o) 0))
                have HsA := HsV
                have hwbV : wr.heap.size < V.heap.size := World.block_lt_of_cell? V ⟨wr.heap.size, 0, none⟩ Hwj.out.1
                have hV8 : w8.heap.size ≤ V.heap.size := HbV8.out.size
                go_region_held3 (fun W => W.cell? ⟨gl, j * 2, none⟩ = some (.int .i64 3) ∧ W.cell? ⟨gl, j * 2 + 1, none⟩ = some (.int .i64 ((j : Int) + 1)) ∧ W.cell? ⟨h + 1, k, none⟩ = some (.string (idn k)))
                  (first | exact ⟨e1', e2', e3'⟩ | (with_reducible exact HsV.out _) | (with_reducible exact Hs9.out) | (with_reducible exact HsA.out _) | (with_reducible exact HsA.out _ _))
                  (first
                    | (go_at_call 29
                       ((with_reducible refine (Get_any 3 ((j : Int) + 1) (WalkArith.wf_i64 ⟨by omega, by omega⟩) (idn k) ⟨#[105, 110, 116]⟩ (idn_small k) _ (h + 2) h mm cs fin HVd.out).mono ?_); rw [Hget.out]; rintro e w9 ⟨rfl, b9⟩; have b9' := below_undrew b9; have Hs9 := Lib.hid (cells3 HlV.out HgV.out b9' hlj hlk); have HsA := Lib.hid (fun o => cells3 HlV.out HgV.out (b9'.alloc b9'.size o) hlj hlk); have B9 := Lib.hid (HbVd.out.trans (b9.mono HbVd.out.size)); have W9 := Lib.hid b9'; clear b9 b9'))
                    | (go_at_call 29
                       ((with_reducible refine (Get_any 3 ((j : Int) + 1) (WalkArith.wf_i64 ⟨by omega, by omega⟩) (idn k) ⟨#[105, 110, 116]⟩ (idn_small k) _ (h + 2) h mm cs fin (HVa.out _)).mono ?_); rw [Hget.out]; rintro e w9 ⟨rfl, b9⟩; have b8 := below_undrew b9; have b9' := ((Below.refl _ V).alloc (Nat.le_refl _) _).trans (b8.mono (by simp)); have r21 := (RowAt.new V 44 #[.int .i64 0, .int .i64 0]).later b8; have c21 : w9.cell? ⟨V.heap.size, 0, none⟩ = some (.int .i64 0) := r21.cell rfl; have d21 : w9.cell? ⟨V.heap.size, 1, none⟩ = some (.int .i64 0) := r21.cell rfl; have f21 := r21.frozen 0; have g21 := r21.frozen 1; have Hs9 := Lib.hid (cells3 HlV.out HgV.out b9' hlj hlk); have HsA := Lib.hid (fun u v => cells3 HlV.out HgV.out ((b9'.setCell (p := ⟨V.heap.size, 0, none⟩) (Nat.le_refl _) u).setCell (p := ⟨V.heap.size, 1, none⟩) (Nat.le_refl _) v) hlj hlk); have B9 := Lib.hid (HbV8.out.trans (b9'.mono HbV8.out.size)); have W9 := Lib.hid b9'; have R21 := Lib.hid r21; clear b9 b8 b9' r21)))
                all_goals
                  have y0 := (W9.out.cell (p := ⟨wr.heap.size, 0, none⟩) hwbV).trans Hwj.out.1
                  have y1 := (W9.out.cell (p := ⟨wr.heap.size, 1, none⟩) hwbV).trans Hwj.out.2
                  have yne : wr.heap.size ≠ V.heap.size := Nat.ne_of_lt hwbV
                  have yw9 := W9.out.size
                  have yw8 : wr.heap.size < w9.heap.size := Nat.lt_of_lt_of_le hwbV yw9
                  go_wp2_with fail
                  refine ⟨⟨k + 1, by omega, by go_num, ?_⟩, by simp [intOf]; omega⟩
                  first
                  | exact B9.out.alloc B9.out.size _
                  | exact (B9.out.setCell (p := ⟨V.heap.size, 0, none⟩) hV8 _).setCell (p := ⟨V.heap.size, 1, none⟩) hV8 _
            · obtain rfl : k = 3 := by omega
              clear hlk hk
              go_wp2_with fail
              exact ⟨⟨j + 1, by omega, by go_num, hB⟩, by simp [intOf]; omega⟩
        · obtain rfl : j = i := by omega
          have hdj : decide (j < j) = false := by simp
          have e3 : wr.cell? ⟨h + 1, q, none⟩ = some (.string (idn q)) := (Hg8.out.later hB).cell (ids3_get hql)
          have HH := H8h.out.later hB
          have HBw := Lib.hid (HB8.out.trans (hB.mono HB8.out.size))
          have hget : getOf cs.length fin 1 0 (idn q) ⟨#[105, 110, 116]⟩ = ((1, 999), 0) := by
            unfold getOf
            rw [Hws.out]
            simp only [if_true]
            rw [Hsta.out]
            rfl
          have Hget := Lib.hid hget; clear hget
          go_wp2_with fail
          refine (Get_any 1 0 (by decide) (idn q) ⟨#[105, 110, 116]⟩ (idn_small q) _ (h + 2) h mm cs fin HH).mono ?_
          rw [Hget.out]
          rintro e w9 ⟨rfl, b9⟩
          have H9 := (HH.later b9).later ((Below.refl _ _).alloc (Nat.le_refl _) (.cells #[.int .i64 1, .int .i64 999] 44))
          have B9 := HBw.out.trans (b9.mono HBw.out.size)
          have B9' := B9.alloc B9.size (.cells #[.int .i64 1, .int .i64 999] 44)
          clear HH b9 B9 e3 hB
          go_wp2_with fail
          refine (Many_in _ _ _ _ _ _ H9).mono ?_
          rw [Hcs.out]
          rintro e w2 ⟨rfl, rfl⟩
          go_wp2_with fail
          go_ret
          exact ⟨rfl, B9'⟩
end Go.Proofs.YtpaknaaainhgfaaDoor
