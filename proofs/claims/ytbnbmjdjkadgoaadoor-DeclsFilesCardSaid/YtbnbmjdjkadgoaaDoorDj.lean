/-
  For the laws of decls: whether a name is seen around a place. No condition.
-/
import Derived.Test.YtbnbmjdjkadgoaaDoorDh
import Derived.RegionTactic
import Derived.ChangeAlike
namespace Go.Proofs.YtbnbmjdjkadgoaaDoor.D
open Go.RowKit Go.Shelf Go.Maps Go.WideMaps
set_option linter.unusedSimpArgs false
set_option linter.unusedVariables false
set_option maxRecDepth 100000 in
set_option maxHeartbeats 8000000 in
theorem add_any (e : En) (pa : Option Addr) (pn pc : Nat) (tw : Bool) (w : World) (N bl bm bt mb : Nat) (v : Value) (ps : List Pe) (h : AddSt w N bl bm bt mb v ps) (hw : (Lit.int .i64 e.kind).wf = true) (h1 : e.owner.length ≤ 100000000) (h2 : e.name.length ≤ 100000000) (hn : ps.length ≤ 1000000) (F : Nat → Prop) (hs : SupT w N e.params (.slice pa pn pc) F) :
    Calls Tryd.prog 21 #[.agg #[.int .i64 e.kind, .string (bs e.id), .string (bs e.name), .string (bs e.owner), .string (bs e.type), .bool e.stat, .slice pa pn pc, .int .i64 e.file, .int .i64 e.at_], .bool tw, .pointer (some ⟨bt, 0, none⟩), .pointer (some ⟨bm, 0, none⟩), .pointer (some ⟨bl, 0, none⟩)] w
      fun en w' => AddIs w N bl bm bt mb v ps (e, .slice pa pn pc) tw en w' := by
  by_cases hk : e.kind = 4
  · cases tw with
    | true => exact add_loc_no e pa pn pc w N bl bm bt mb v ps h hk
    | false => exact add_loc_yes e pa pn pc w N bl bm bt mb v ps h hk hn F hs
  · by_cases hin : e.key ∈ keysOf (ps.map (·.1))
    · exact add_not_no e pa pn pc w N bl bm bt mb v ps h tw hk hw h1 h2 hn hin
    · exact add_not_yes e pa pn pc w N bl bm bt mb v ps h tw hk hw h1 h2 hn hin F hs
theorem law9 : Keyed Tryd.prog 9 := string_keyed Tryd.underlying9
theorem zero3 (W : World) : (zeroValue 3).run Tryd.prog W = .ok (.int .i64 0) W := by kernel_rfl
/-- Block b is a set of names. -/
def SeenHas (W : World) (b m : Nat) (S : List B8) : Prop := ∃ D : DataW Unit, W.ownsMap Tryd.prog 9 (plainElem Tryd.prog 3) b m D ∧ ∀ s kl, keyOf Tryd.prog 9 (.string s) = some kl → Maps.has D kl = decide (tl s ∈ S)
theorem SeenHas.made (W : World) : SeenHas (W.alloc (.map #[] 0)) W.heap.size 0 [] := ⟨.map [], World.ownsMap_made W Tryd.prog 9 (plainElem Tryd.prog 3), fun _ _ _ => rfl⟩
theorem SeenHas.lt {W : World} {b m : Nat} {T : List B8} (h : SeenHas W b m T) : b < W.heap.size := by
  obtain ⟨D, ⟨es, cl, hb, _⟩, _⟩ := h
  exact (Array.getElem?_eq_some_iff.1 hb).1
theorem SeenHas.later {W W' : World} {b m : Nat} {T : List B8} (h : SeenHas W b m T) (hb : W'.heap[b]? = W.heap[b]?) : SeenHas W' b m T := by
  obtain ⟨D, ⟨es, cl, hb', r⟩, hk⟩ := h
  exact ⟨D, ⟨es, cl, hb.trans hb', r⟩, hk⟩
theorem SeenHas.map {W : World} {b m : Nat} {T : List B8} (h : SeenHas W b m T) : ∃ es cl, W.heap[b]? = some (.map es cl) := by
  obtain ⟨D, ⟨es, cl, hb, _⟩, _⟩ := h
  exact ⟨es, cl, hb⟩
theorem SeenHas.look {W : World} {b m : Nat} {T : List B8} (h : SeenHas W b m T) (s : ByteArray) (hs : s.size ≤ maxLen) :
    ∃ c : Int, (Instr.lookup 98 (.map (some b)) (.string s) true).run Tryd.prog W = .ok (.tuple #[.int .i64 c, .bool (decide (tl s ∈ T))]) W := by
  obtain ⟨D, hD, hx⟩ := h
  have hkl := keyOf_string_mk Tryd.underlying9 hs
  obtain ⟨v, ps, hrun, hv⟩ := hD.look_ok law9 Tryd.underlying98 (zero3 W) (plainElem_int Tryd.underlying3 (by decide)) hkl
  obtain ⟨c, rfl, _⟩ := plainElem_int_inv Tryd.underlying3 hv
  exact ⟨c, by rw [hrun, hx s _ hkl]⟩
theorem seen_none (W : World) (s : ByteArray) (hs : s.size ≤ maxLen) : (Instr.lookup 98 (.map none) (.string s) true).run Tryd.prog W = .ok (.tuple #[.int .i64 0, .bool false]) W :=
  Maps.look_nil true law9 Tryd.underlying98 (zero3 W) (keyOf_string_mk Tryd.underlying9 hs)
theorem SeenHas.put {W : World} {b m : Nat} {T : List B8} (h : SeenHas W b m T) (s : ByteArray) (hs : s.size ≤ maxLen) (i : Int) (hi : (Lit.int .i64 i).wf = true) (hm : m < maxLen) :
    ∃ W', (Instr.mapUpdate 98 (.map (some b)) (.string s) (.int .i64 i)).run Tryd.prog W = .ok () W' ∧ SeenHas W' b (m + 1) (tl s :: T) ∧ W.grownBy W' (some b) := by
  obtain ⟨D, hD, hx⟩ := h
  have hkl := keyOf_string_mk Tryd.underlying9 hs
  obtain ⟨W', hrun, hown, hg⟩ := hD.update law9 Tryd.underlying98 hm hkl (plainElem_int Tryd.underlying3 hi)
  refine ⟨W', hrun, ⟨_, hown, fun s' kl' hkl' => ?_⟩, hg⟩
  by_cases he : kl' = .string s.data.toList
  · subst he
    have h9 := law9.inj hkl hkl'
    obtain rfl : s = s' := by injection h9
    rw [Maps.has_put_same hD.isMap (law9.key hkl)]
    simp
  · have hne : ¬ (tl s' = tl s) := by
      intro h9
      have e2 : s' = s := by rw [← show bs (tl s') = s' from rfl, h9]
      subst e2
      rw [hkl] at hkl'
      exact he (Option.some.inj hkl').symm
    rw [Maps.has_put_other he, hx s' kl' hkl']
    rw [decide_eq_decide, List.mem_cons]
    exact ⟨.inr, fun h9 => h9.elim (fun h8 => absurd h8 hne) id⟩
/-- What is remembered of a node around a place: where it stands, how many kids are done, and which names they declare. -/
structure Bk where
  b : Nat
  o : Nat
  i : Nat
  mv : Option Nat
  s : List B8
def Bk.vals (x : Bk) : List Value := [.pointer (some ⟨x.b, x.o, none⟩), .int .i64 x.i, .map x.mv]
/-- The names are those of its set. -/
def Bk.Ok (W : World) (x : Bk) : Prop := (x.mv = none ∧ x.s = []) ∨ ∃ b m, x.mv = some b ∧ m ≤ x.s.length ∧ SeenHas W b m x.s
/-- The three cells of each, in block g. -/
def BAt (W : World) (g : Nat) (L : List Bk) : Prop := ∀ k x, L[k]? = some x → W.cell? ⟨g, k * 3, none⟩ = some (.pointer (some ⟨x.b, x.o, none⟩)) ∧ W.cell? ⟨g, k * 3 + 1, none⟩ = some (.int .i64 x.i) ∧ W.cell? ⟨g, k * 3 + 2, none⟩ = some (.map x.mv) ∧ x.Ok W
theorem Bk.Ok.later {W W' : World} {x : Bk} (h : x.Ok W) (hb : ∀ b, x.mv = some b → W'.heap[b]? = W.heap[b]?) : x.Ok W' := by
  rcases h with h | ⟨b, m, h1, h2, h3⟩
  · exact .inl h
  · exact .inr ⟨b, m, h1, h2, h3.later (hb b h1)⟩
theorem Bk.Ok.lt {W : World} {x : Bk} (h : x.Ok W) {b : Nat} (hb : x.mv = some b) : b < W.heap.size := by
  rcases h with ⟨h, _⟩ | ⟨c, m, h1, h2, h3⟩
  · rw [h] at hb; cases hb
  · rw [h1] at hb; obtain rfl := Option.some.inj hb; exact h3.lt
theorem BAt.below {W W' : World} {g : Nat} {L : List Bk} (h : BAt W g L) (hb : Below W.heap.size W W') : BAt W' g L := fun k x hx => by
  obtain ⟨h1, h2, h3, h4⟩ := h k x hx
  have hg := World.block_lt_of_cell? W _ h1
  exact ⟨(hb.cell (p := ⟨g, k * 3, none⟩) hg).trans h1, (hb.cell (p := ⟨g, k * 3 + 1, none⟩) hg).trans h2, (hb.cell (p := ⟨g, k * 3 + 2, none⟩) hg).trans h3, h4.later fun b hb2 => hb.block b (h4.lt hb2)⟩
set_option maxRecDepth 100000 in
set_option maxHeartbeats 8000000 in
theorem vis1_any (x : Bk) (name : ByteArray) (hn : name.size ≤ 100000000) (w : World) (nb : Nat) (hx : x.Ok w) (hc : w.cell? ⟨nb, 0, none⟩ = some (.string name)) :
    Calls Tryd.prog 71 #[.agg #[.pointer (some ⟨x.b, x.o, none⟩), .int .i64 x.i, .map x.mv], .pointer (some ⟨nb, 0, none⟩)] w fun e w' => e = .returned (.bool (decide (tl name ∈ x.s))) ∧ Below w.heap.size w w' := by
  have hnl := World.block_lt_of_cell? w _ hc
  have hsz : name.size ≤ maxLen := by unfold maxLen; omega
  obtain ⟨xb, xo, xi, mv, xs⟩ := x
  dsimp only
  have hlk : ∃ c : Int, (Instr.lookup 98 (.map mv) (.string name) true).run Tryd.prog (w.alloc (.cells #[.pointer (some ⟨xb, xo, none⟩), .int .i64 xi, .map mv] 100)) = .ok (.tuple #[.int .i64 c, .bool (decide (tl name ∈ xs))]) (w.alloc (.cells #[.pointer (some ⟨xb, xo, none⟩), .int .i64 xi, .map mv] 100)) := by
    rcases hx with ⟨h1, h2⟩ | ⟨b, m, h1, h2, h3⟩
    · dsimp only at h1 h2
      subst h1 h2
      exact ⟨0, seen_none _ name hsz⟩
    · dsimp only at h1
      subst h1
      exact (h3.later (Below.heap_alloc _ _ _ h3.lt)).look name hsz
  obtain ⟨c, hrun⟩ := hlk
  obtain ⟨q, hq⟩ : ∃ q, Hid (decide (tl name ∈ xs) = q) := ⟨_, Lib.hid rfl⟩
  rw [hq.out] at hrun ⊢
  clear hx hsz
  go_enter Tryd.func71, Tryd.ntmps71
  go_wp2_with fail
  go_ret
  exact ⟨rfl, (Below.refl _ w).alloc (Nat.le_refl _) _⟩
def hasN (L : List Bk) (s : B8) : Bool := L.any fun x => decide (s ∈ x.s)
set_option maxRecDepth 100000 in
set_option maxHeartbeats 8000000 in
theorem index_any (L : List Bk) (g c : Nat) (name : ByteArray) (hn : name.size ≤ 100000000) (hL : L.length ≤ c) (hc : c ≤ maxLen) (w : World) (nb : Nat) (hB : BAt w g L) (hnm : w.cell? ⟨nb, 0, none⟩ = some (.string name)) :
    Calls Tryd.prog 80 #[.slice (some ⟨g, 0, none⟩) L.length c, .func (.func 71) #[] #[.pointer (some ⟨nb, 0, none⟩)]] w fun e w' => (∃ r : Int, e = .returned (.int .i64 r) ∧ decide (0 ≤ r) = hasN L (tl name)) ∧ Below w.heap.size w w' := by
  have HB := Lib.hid hB
  have HN := Lib.hid hnm
  have hnl := World.block_lt_of_cell? w _ hnm
  clear hB hnm
  unfold maxLen at hc
  obtain ⟨n, hn'⟩ : ∃ n, Hid (L.length = n) := ⟨_, Lib.hid rfl⟩
  rw [hn'.out] at hL ⊢
  obtain ⟨q, hq⟩ : ∃ q, Hid (hasN L (tl name) = q) := ⟨_, Lib.hid rfl⟩
  rw [hq.out]
  go_enter Tryd.func80, Tryd.ntmps80
  go_wp2_with fail
  go_loopw [8] (fun c wr => ∃ k : Nat, c = .int .i64 k ∧ k ≤ n ∧ Hid (hasN (L.take k) (tl name) = false) ∧ Hid (Below w.heap.size w wr)) (fun c _ => n - (intOf c).toNat)
  case atStart => exact ⟨0, rfl, by omega, Lib.hid rfl, Lib.hid (Below.refl _ _)⟩
  case round =>
    obtain ⟨k, rfl, hk, hP, hBw⟩ := hrel
    by_cases hlt : k < n
    · obtain ⟨x, hx⟩ : ∃ x, L[k]? = some x := ⟨_, List.getElem?_eq_getElem (by rw [hn'.out]; exact hlt)⟩
      obtain ⟨c0, c1, c2, ok⟩ := (HB.out.below hBw.out) k x hx
      have hV := Lib.hid (vis1_any x name hn wr nb ok ((hBw.out.cell (p := ⟨nb, 0, none⟩) hnl).trans HN.out))
      have i1 : (0 : Int) ≤ (k : Int) := by omega
      have i2 : (k : Int) < (n : Int) := by omega
      have htk : L.take (k + 1) = L.take k ++ [x] := by rw [List.take_add_one, hx]; rfl
      by_cases hin : tl name ∈ x.s
      · have e1 : decide (tl name ∈ x.s) = true := decide_eq_true hin
        rw [e1] at hV
        have hqt : Hid (true = q) := Lib.hid (by
          rw [← hq.out]
          unfold hasN
          exact (List.any_eq_true.2 ⟨x, List.mem_of_getElem? hx, e1⟩).symm)
        have hd : decide ((0 : Int) ≤ (k : Int)) = true := decide_eq_true i1
        have hfin : Hid (∃ r : Int, Ending.returned (.int .i64 (k : Int)) = .returned (.int .i64 r) ∧ decide (0 ≤ r) = q) := Lib.hid ⟨_, rfl, hd.trans hqt.out⟩
        clear hx hin e1 htk hd ok
        go_wp2_with fail
        refine hV.out.mono ?_
        rintro e w2 ⟨rfl, b2⟩
        have B2 := Lib.hid (hBw.out.trans (b2.mono hBw.out.size))
        clear b2
        go_wp2_with fail
        go_ret
        exact ⟨hfin.out, B2.out⟩
      · have e1 : decide (tl name ∈ x.s) = false := decide_eq_false hin
        rw [e1] at hV
        have hP2 : Hid (hasN (L.take (k + 1)) (tl name) = false) := Lib.hid (by
          have h9 := hP.out
          unfold hasN at h9 ⊢
          rw [htk, List.any_append, h9]
          simp [hin])
        clear hx hin e1 htk ok
        go_wp2_with fail
        refine hV.out.mono ?_
        rintro e w2 ⟨rfl, b2⟩
        have B2 := Lib.hid (hBw.out.trans (b2.mono hBw.out.size))
        clear b2
        go_wp2_with fail
        go_roundw
        case rel => exact ⟨k + 1, by go_num, by omega, hP2, B2⟩
        case measure => simp [intOf]; omega
    · have hkn : k = n := by omega
      subst hkn
      have hfin : Hid (∃ r : Int, Ending.returned (.int .i64 (-1)) = .returned (.int .i64 r) ∧ decide (0 ≤ r) = q) := Lib.hid ⟨_, rfl, by
        rw [← hq.out]
        have h9 := hP.out
        rw [List.take_of_length_le (Nat.le_of_eq hn'.out)] at h9
        rw [h9]
        rfl⟩
      go_wp2_with fail
      go_ret
      exact ⟨hfin.out, hBw.out⟩
set_option maxRecDepth 100000 in
theorem contains_any (L : List Bk) (g c : Nat) (name : ByteArray) (hn : name.size ≤ 100000000) (hL : L.length ≤ c) (hc : c ≤ maxLen) (w : World) (nb : Nat) (hB : BAt w g L) (hnm : w.cell? ⟨nb, 0, none⟩ = some (.string name)) :
    Calls Tryd.prog 70 #[.slice (some ⟨g, 0, none⟩) L.length c, .func (.func 71) #[] #[.pointer (some ⟨nb, 0, none⟩)]] w fun e w' => e = .returned (.bool (hasN L (tl name))) ∧ Below w.heap.size w w' := by
  have HI := Lib.hid (index_any L g c name hn hL hc w nb hB hnm)
  obtain ⟨n, hn'⟩ : ∃ n, Hid (L.length = n) := ⟨_, Lib.hid rfl⟩
  rw [hn'.out] at HI ⊢
  obtain ⟨q, hq⟩ : ∃ q, Hid (hasN L (tl name) = q) := ⟨_, Lib.hid rfl⟩
  rw [hq.out] at HI ⊢
  clear hB hnm hL hc
  go_enter Tryd.func70, Tryd.ntmps70
  go_wp2_with fail
  refine HI.out.mono ?_
  rintro e w2 ⟨⟨r, rfl, hr⟩, b2⟩
  cases q
  all_goals
    go_wp2_with fail
    go_ret
    exact ⟨rfl, b2⟩
set_option maxRecDepth 100000 in
theorem visible_any (L : List Bk) (g c : Nat) (name : ByteArray) (hn : name.size ≤ 100000000) (hL : L.length ≤ c) (hc : c ≤ maxLen) (w : World) (hB : BAt w g L) :
    Calls Tryd.prog 61 #[.slice (some ⟨g, 0, none⟩) L.length c, .string name] w fun e w' => e = .returned (.bool (hasN L (tl name))) ∧ Below w.heap.size w w' := by
  have R := RowAt.new w 9 #[.string name]
  have HI := Lib.hid (contains_any L g c name hn hL hc (w.alloc (.cells #[.string name] 9)) w.heap.size (hB.below ((Below.refl _ w).alloc (Nat.le_refl _) _)) (R.cell rfl))
  obtain ⟨n, hn'⟩ : ∃ n, Hid (L.length = n) := ⟨_, Lib.hid rfl⟩
  rw [hn'.out] at HI ⊢
  clear hB R hL hc
  go_enter Tryd.func61, Tryd.ntmps61
  go_wp2_with fail
  refine HI.out.mono ?_
  rintro e w2 ⟨rfl, b2⟩
  have B2 := Lib.hid (((Below.refl _ w).alloc (Nat.le_refl _) (.cells #[.string name] 9)).trans (b2.mono (by simp)))
  clear b2
  go_wp2_with fail
  go_ret
  exact ⟨rfl, B2.out⟩
end Go.Proofs.YtbnbmjdjkadgoaaDoor.D
/-
  For the laws of decls: a name is declared in what is left of a block. Condition: at most 2,000,000 names.
-/
namespace Go.Proofs.YtbnbmjdjkadgoaaDoor.D
open Go.RowKit Go.Shelf Go.Maps Go.WideMaps
set_option linter.unusedSimpArgs false
set_option linter.unusedVariables false
/-- What a declaration leaves. -/
structure Dc (w : World) (g k : Nat) (cs : Array Value) (x : Bk) (nm : B8) (b' : Nat) (w' : World) : Prop where
  row : RowAt w' g 100 (cs.setIfInBounds (k * 3 + 2) (.map (some b')))
  set : ∃ m, m ≤ (nm :: x.s).length ∧ SeenHas w' b' m (nm :: x.s)
  at_ : x.mv = some b' ∨ (x.mv = none ∧ b' = w.heap.size)
  os : w'.os = w.os
  tape : w'.tape = w.tape
  output : w'.output = w.output
  size : w.heap.size ≤ w'.heap.size
  keep : ∀ q, q < w.heap.size → q ≠ g → some q ≠ x.mv → w'.heap[q]? = w.heap[q]?
set_option maxRecDepth 100000 in
set_option maxHeartbeats 8000000 in
theorem declare_some (x : Bk) (b : Nat) (name : ByteArray) (hn : name.size ≤ 100000000) (hl : x.s.length ≤ 2000000) (hi : (x.i : Int) ≤ 2000000) (w : World) (g k : Nat) (cs : Array Value) (R : RowAt w g 100 cs) (h1 : cs[k * 3 + 1]? = some (.int .i64 x.i)) (h2 : cs[k * 3 + 2]? = some (.map (some b))) (hx : x.mv = some b) (ok : x.Ok w) :
    Calls Tryd.prog 62 #[.pointer (some ⟨g, k * 3, none⟩), .string name] w fun e w' => e = .returned (.tuple #[]) ∧ ∃ b', Dc w g k cs x (tl name) b' w' := by
  obtain ⟨m, hm, hset⟩ : ∃ m, m ≤ x.s.length ∧ SeenHas w b m x.s := by
    rcases ok with ⟨h3, _⟩ | ⟨b2, m, h3, h4, h5⟩
    · rw [hx] at h3; cases h3
    · rw [hx] at h3; obtain rfl := Option.some.inj h3; exact ⟨m, h4, h5⟩
  have hsz : name.size ≤ maxLen := by unfold maxLen; omega
  have c1 : w.cell? ⟨g, k * 3 + 1, none⟩ = some (.int .i64 x.i) := R.cell h1
  have c2 : w.cell? ⟨g, k * 3 + 2, none⟩ = some (.map (some b)) := R.cell h2
  have keq := fun (W : World) (r : Option Nat) => run_eql_map_nil (P := Tryd.prog) W 98 9 3 r Tryd.underlying98
  obtain ⟨es, cl, hmap⟩ := hset.map
  have hset2 : SeenHas w.drew b m x.s := hset.later rfl
  obtain ⟨w3, run3, set3, grow3⟩ := hset2.put name hsz x.i (WalkArith.wf_i64 (by omega)) (by unfold maxLen; omega)
  have hne : g ≠ b := row_ne_map R hmap
  have HD : Hid (Dc w g k cs x (tl name) b w3) := Lib.hid ⟨by
      have e : cs.setIfInBounds (k * 3 + 2) (.map (some b)) = cs := by
        obtain ⟨hlt, he⟩ := Array.getElem?_eq_some_iff.1 h2
        rw [← he]
        simp [Array.setIfInBounds, hlt]
      rw [e]
      exact R.same (grow3.block g R.lt (by simpa using hne)), ⟨m + 1, by simp; omega, set3⟩, .inl hx, grow3.os, grow3.tape, grow3.output, grow3.size, fun q q1 q2 q3 => grow3.block q q1 (by rw [hx] at q3; exact q3)⟩
  clear R h1 h2 hset hset2 set3 grow3 hmap ok hx
  go_enter Tryd.func62, Tryd.ntmps62
  go_wp2_with fail
  go_region
  all_goals
    go_end0
    exact ⟨rfl, _, HD.out⟩
set_option maxRecDepth 100000 in
set_option maxHeartbeats 8000000 in
theorem declare_none (x : Bk) (name : ByteArray) (hn : name.size ≤ 100000000) (hl : x.s.length ≤ 2000000) (hi : (x.i : Int) ≤ 2000000) (w : World) (g k : Nat) (cs : Array Value) (R : RowAt w g 100 cs) (h1 : cs[k * 3 + 1]? = some (.int .i64 x.i)) (h2 : cs[k * 3 + 2]? = some (.map none)) (hx : x.mv = none) (ok : x.Ok w) :
    Calls Tryd.prog 62 #[.pointer (some ⟨g, k * 3, none⟩), .string name] w fun e w' => e = .returned (.tuple #[]) ∧ ∃ b', Dc w g k cs x (tl name) b' w' := by
  have hs0 : x.s = [] := by
    rcases ok with ⟨_, h⟩ | ⟨b2, m, h3, h4, h5⟩
    · exact h
    · rw [hx] at h3; cases h3
  have hsz : name.size ≤ maxLen := by unfold maxLen; omega
  have hg := R.lt
  have c1 : w.cell? ⟨g, k * 3 + 1, none⟩ = some (.int .i64 x.i) := R.cell h1
  have c2 : w.cell? ⟨g, k * 3 + 2, none⟩ = some (.map none) := R.cell h2
  have keq := fun (W : World) (r : Option Nat) => run_eql_map_nil (P := Tryd.prog) W 98 9 3 r Tryd.underlying98
  have kmm := @run_makeMap Tryd.prog
  have RA := R.alloc (.map #[] 0)
  have f2 : (w.alloc (.map #[] 0)).frozen? ⟨g, k * 3 + 2, none⟩ = false := RA.frozen _
  have c2' : (w.alloc (.map #[] 0)).cell? ⟨g, k * 3 + 2, none⟩ = some (.map none) := RA.cell h2
  obtain ⟨b, hb⟩ : ∃ b, w.heap.size = b := ⟨_, rfl⟩
  have hne : g ≠ b := by omega
  obtain ⟨V, hV⟩ : ∃ V, Hid ((w.alloc (.map #[] 0)).setCell ⟨g, k * 3 + 2, none⟩ (.map (some b)) = V) := ⟨_, Lib.hid rfl⟩
  have RV : RowAt V g 100 (cs.setIfInBounds (k * 3 + 2) (.map (some b))) := by rw [← hV.out]; exact RA.set _ _
  have hset : SeenHas V b 0 [] := by
    have h9 := SeenHas.made w
    rw [hb] at h9
    refine h9.later ?_
    rw [← hV.out]
    exact Below.heap_setCell _ _ _ b (by simpa using Ne.symm hne)
  have hVk : ∀ q, q < w.heap.size → q ≠ g → V.heap[q]? = w.heap[q]? := fun q q1 q2 => by
    rw [← hV.out, Below.heap_setCell _ _ _ q (by simpa using q2), Below.heap_alloc _ _ q q1]
  have hVs : w.heap.size ≤ V.heap.size := by rw [← hV.out]; simp [World.setCell]
  have hVo : V.os = w.os ∧ V.tape = w.tape ∧ V.output = w.output := by rw [← hV.out]; exact ⟨rfl, rfl, rfl⟩
  have hset2 : SeenHas V.drew b 0 [] := hset.later rfl
  obtain ⟨w3, run3, set3, grow3⟩ := hset2.put name hsz x.i (WalkArith.wf_i64 (by omega)) (by unfold maxLen; omega)
  have d1 : V.cell? ⟨g, k * 3 + 1, none⟩ = some (.int .i64 x.i) := RV.cell (by rw [Array.getElem?_setIfInBounds_ne (by omega)]; exact h1)
  have d2 : V.cell? ⟨g, k * 3 + 2, none⟩ = some (.map (some b)) := RV.cell (by
    obtain ⟨hlt, he⟩ := Array.getElem?_eq_some_iff.1 h2
    rw [Array.getElem?_setIfInBounds_self_of_lt hlt])
  have HD : Hid (Dc w g k cs x (tl name) b w3) := Lib.hid ⟨RV.same (grow3.block g RV.lt (by simpa using hne)), ⟨1, by simp, by rw [hs0]; exact set3⟩, .inr ⟨hx, hb.symm⟩, grow3.os.trans hVo.1, grow3.tape.trans hVo.2.1, grow3.output.trans hVo.2.2, Nat.le_trans hVs grow3.size, fun q q1 q2 q3 => (grow3.block q (Nat.lt_of_lt_of_le q1 hVs) (by
      intro e9
      obtain rfl := Option.some.inj e9
      omega)).trans (hVk q q1 q2)⟩
  clear R h1 h2 hset hset2 set3 grow3 ok hx RA RV hVk hVo hs0
  go_enter Tryd.func62, Tryd.ntmps62
  go_wp2_with fail
  rw [hV.out]
  go_region
  all_goals
    go_end0
    exact ⟨rfl, _, HD.out⟩
theorem declare_any (x : Bk) (name : ByteArray) (hn : name.size ≤ 100000000) (hl : x.s.length ≤ 2000000) (hi : (x.i : Int) ≤ 2000000) (w : World) (g k : Nat) (cs : Array Value) (R : RowAt w g 100 cs) (h1 : cs[k * 3 + 1]? = some (.int .i64 x.i)) (h2 : cs[k * 3 + 2]? = some (.map x.mv)) (ok : x.Ok w) :
    Calls Tryd.prog 62 #[.pointer (some ⟨g, k * 3, none⟩), .string name] w fun e w' => e = .returned (.tuple #[]) ∧ ∃ b', Dc w g k cs x (tl name) b' w' := by
  cases hm : x.mv with
  | none => rw [hm] at h2; exact declare_none x name hn hl hi w g k cs R h1 h2 hm ok
  | some b => rw [hm] at h2; exact declare_some x b name hn hl hi w g k cs R h1 h2 hm ok
end Go.Proofs.YtbnbmjdjkadgoaaDoor.D
