/-
  For the laws of lcs: the document's Numbers. Conditions: at most 1,000 rows of at most 10,000 texts each, each text no longer than any text may be.
-/
import Derived.Test.YthligkdncddmpaaRefs
namespace Go.Proofs.Ythligkdncddmpaa
open Go.RowKit Go.Maps Go.WideMaps
set_option linter.unusedVariables false

/-- The rows that are told are rows of numbers of the call's own. -/
def ROwn (W : World) (base : Nat) (vs : List Value) (ns : List (List Int)) : Prop :=
  vs.length = ns.length ∧ ∀ (j : Nat) (l : List Int), ns[j]? = some l → ∃ x, vs[j]? = some x ∧ W.ownsRow base 3 1 x l.length (l.map (Value.int .i64))
/-- Nothing below base has turned, and no row below B but rows of texts. -/
def Keep9 (base B : Nat) (W W' : World) : Prop := Below base W W' ∧ ∀ (g : Nat) (cs : Array Value) (t : TypeId), g < B → RowAt W g t cs → t ≠ 9 → W'.heap[g]? = W.heap[g]?
theorem Keep9.refl (base B : Nat) (W : World) : Keep9 base B W W := ⟨Below.refl _ _, fun _ _ _ _ _ _ => rfl⟩
theorem Keep9.below {base B : Nat} {A C D : World} (h : Keep9 base B A C) (hb : Below C.heap.size C D) (h1 : base ≤ A.heap.size) (hB : B ≤ A.heap.size) : Keep9 base B A D :=
  ⟨h.1.trans (hb.mono (by have := h.1.size; omega)), fun g cs t hg hr ht => (hb.block g (by have := h.1.size; omega)).trans (h.2 g cs t hg hr ht)⟩
theorem Keep9.grown {base B e : Nat} {A C D : World} {n : Nat} {v : Value} {xs : List Value} (h : Keep9 base B A C) (hown : C.ownsRow base 9 1 v n xs) (hg : C.grownBy D v.ownBlock) (h1 : base ≤ A.heap.size) (hB : B ≤ A.heap.size) (_he : e = 9) : Keep9 base B A D :=
  ⟨h.1.grown hg (by have := h.1.size; omega) (fun k hk => (hown.lt k hk).1), fun g cs t hg' hr ht => by
    have h2 := h.2 g cs t hg' hr ht
    rw [← h2]
    exact hg.block g (by have := h.1.size; omega) (own_ne hown (hr.same h2) ht)⟩
theorem Keep9.grown3 {base B : Nat} {A C D : World} {n : Nat} {v : Value} {xs : List Value} (h : Keep9 base B A C) (hown : C.ownsRow B 3 1 v n xs) (hg : C.grownBy D v.ownBlock) (h1 : base ≤ A.heap.size) (hB : B ≤ A.heap.size) (hbB : base ≤ B) : Keep9 base B A D :=
  ⟨h.1.grown hg (by have := h.1.size; omega) (fun k hk => by have := (hown.lt k hk).1; omega), fun g cs t hg' hr ht => by
    have h2 := h.2 g cs t hg' hr ht
    rw [← h2]
    exact hg.block g (by have := h.1.size; omega) (fun e => by have := (hown.lt g e.symm).1; omega)⟩
theorem own_keep {base B : Nat} {A C : World} {t : TypeId} {n : Nat} {v : Value} {xs : List Value} (h : Keep9 base B A C) (hown : A.ownsRow base t 1 v n xs) (hB : A.heap.size ≤ B) (ht : t ≠ 9) : C.ownsRow base t 1 v n xs := by
  refine owns_same hown fun k e => ?_
  rcases hown.2 with ⟨rfl, _⟩ | ⟨g, cap, cur, rfl, _, hg, _⟩
  · simp [Value.ownBlock] at e
  · simp [Value.ownBlock] at e
    subst e
    exact h.2 g cur t (by have := (Array.getElem?_eq_some_iff.1 hg).1; omega) hg ht

theorem idx_stop {L : List (List UInt8)} {x : List UInt8} {n : Nat} (h : n < L.idxOf x) : ∃ y, L[n]? = some y ∧ y ≠ x := by
  have hl : n < L.length := Nat.lt_of_lt_of_le h List.idxOf_le_length
  refine ⟨L[n], List.getElem?_eq_getElem hl, ?_⟩
  intro e
  have := List.not_of_lt_findIdx (p := (· == x)) (xs := L) (i := n) h
  simp [e] at this
theorem idx_here {L : List (List UInt8)} {x : List UInt8} (h : L.idxOf x < L.length) : L[L.idxOf x]? = some x := by
  rw [List.getElem?_eq_getElem h, List.getElem_idxOf]

theorem owns_later {W W' : World} {base : Nat} {e : TypeId} {size : Nat} {v : Value} {n : Nat} {xs : List Value} (h : W.ownsRow base e size v n xs) (hb : Below W.heap.size W W') : W'.ownsRow base e size v n xs :=
  owns_same h fun k hk => hb.block k (h.lt k hk).2
theorem beq_no {a b : ByteArray} (h : wd a ≠ wd b) : (a.toList == b.toList) = false := by
  rw [ByteArray.toList_eq, ByteArray.toList_eq]; simpa using h
theorem beq_yes {a b : ByteArray} (h : wd a = wd b) : (a.toList == b.toList) = true := by
  rw [ByteArray.toList_eq, ByteArray.toList_eq]; simpa using h
theorem take_snoc_get {l : List Int} {k : Nat} {v : Int} (h : l[k]? = some v) : l.take (k + 1) = l.take k ++ [v] := by
  rw [List.take_add_one, h]; rfl
/-- What is so behind the document's Numbers. -/
def NGivesI (w : World) (ns : List (List Int)) (e : Ending) (w' : World) : Prop :=
  ∃ v vs, e = .returned v ∧ Vals w' v vs ∧ vs.length = ns.length ∧ (∀ (j : Nat) (l : List Int), ns[j]? = some l → ∃ x, vs[j]? = some x ∧ Ints w' .i64 x l) ∧ Below w.heap.size w w'
/-- The texts seen so far. -/
def Seen (W : World) (base : Nat) (v : Value) (L : List (List UInt8)) (m : Nat) : Prop := ∃ S : List ByteArray, W.ownsRow base 9 1 v S.length (S.map Value.string) ∧ S.map wd = L ∧ S.length ≤ m
theorem Seen.later {W W' : World} {base m : Nat} {v : Value} {L : List (List UInt8)} (h : Seen W base v L m) (hk : ∀ g cs, RowAt W g 9 cs → W'.heap[g]? = W.heap[g]?) : Seen W' base v L m := by
  obtain ⟨S, h1, h2, h3⟩ := h
  refine ⟨S, owns_same h1 fun k e => ?_, h2, h3⟩
  rcases h1.2 with ⟨rfl, _⟩ | ⟨g, cap, cur, rfl, _, hg, _⟩
  · simp [Value.ownBlock] at e
  · simp [Value.ownBlock] at e
    subst e
    exact hk g cur hg
/-- Rows of another type stay where a row of the call's own grows. -/
theorem grown_keeps {V w2 : World} {base n : Nat} {t t' : TypeId} {v : Value} {xs : List Value} {o : Obj} (hown : V.ownsRow base t 1 v n xs) (hg : (V.alloc o).grownBy w2 v.ownBlock) (hne : t' ≠ t) (g : Nat) (cs : Array Value) (hr : RowAt V g t' cs) : w2.heap[g]? = V.heap[g]? :=
  (hg.block g (by have := hr.lt; simp; omega) (own_ne hown hr hne)).trans (Below.heap_alloc _ _ _ hr.lt)
theorem own_rebase {W : World} {base base' n : Nat} {t : TypeId} {v : Value} {xs : List Value} (h : W.ownsRow base t 1 v n xs) (hb : base' ≤ base) : W.ownsRow base' t 1 v n xs := by
  refine ⟨h.1, ?_⟩
  rcases h.2 with h2 | ⟨g, cap, cur, h1, h2, h3⟩
  · exact .inl h2
  · exact .inr ⟨g, cap, cur, h1, by omega, h3⟩
theorem own_type {W W' : World} {base n : Nat} {t : TypeId} {v : Value} {xs : List Value} (h : W.ownsRow base t 1 v n xs) (hk : ∀ g cs, RowAt W g t cs → W'.heap[g]? = W.heap[g]?) : W'.ownsRow base t 1 v n xs := by
  refine owns_same h fun k e => ?_
  rcases h.2 with ⟨rfl, _⟩ | ⟨g, cap, cur, rfl, _, hg, _⟩
  · simp [Value.ownBlock] at e
  · simp [Value.ownBlock] at e
    subst e
    exact hk g cur hg
theorem ROwn.snoc {W : World} {base : Nat} {vs : List Value} {ns : List (List Int)} {l : List Int} {x : Value} (h : ROwn W base vs ns) (hx : W.ownsRow base 3 1 x l.length (l.map (Value.int .i64))) : ROwn W base (vs ++ [x]) (ns ++ [l]) := by
  obtain ⟨h1, h2⟩ := h
  refine ⟨by simp [h1], fun j l' hj => ?_⟩
  by_cases e : j < ns.length
  · rw [List.getElem?_append_left e] at hj
    rw [List.getElem?_append_left (by omega)]
    exact h2 j l' hj
  · rw [List.getElem?_append_right (by omega)] at hj
    have hz : j - ns.length = 0 := by
      have := (List.getElem?_eq_some_iff.1 hj).1
      simp at this
      omega
    rw [hz] at hj
    simp at hj
    subst hj
    rw [List.getElem?_append_right (by omega), h1, hz]
    exact ⟨x, rfl, hx⟩
theorem ROwn.later {W W' : World} {base : Nat} {vs : List Value} {ns : List (List Int)} (h : ROwn W base vs ns) (hk : ∀ x l, W.ownsRow base 3 1 x (l : List Int).length (l.map (Value.int .i64)) → W'.ownsRow base 3 1 x l.length (l.map (Value.int .i64))) : ROwn W' base vs ns :=
  ⟨h.1, fun j l hj => by obtain ⟨x, h1, h2⟩ := h.2 j l hj; exact ⟨x, h1, hk x l h2⟩⟩
theorem info9 : ∃ i0, Try.prog.info? 9 = some i0 ∧ i0.zero = some (.string ⟨#[]⟩) ∧ i0.size = 1 ∧ i0.bytes = 16 := ⟨_, rfl, by kernel_rfl, by kernel_rfl, by kernel_rfl⟩
theorem info22 : ∃ i0, Try.prog.info? 22 = some i0 ∧ i0.zero = some (.slice none 0 0) ∧ i0.size = 1 ∧ i0.bytes = 24 := ⟨_, rfl, by kernel_rfl, by kernel_rfl, by kernel_rfl⟩

set_option maxRecDepth 100000 in
set_option maxHeartbeats 16000000 in
theorem RefNumbers_any (v : Value) (vals : List Value) (rows : List (List ByteArray)) (w : World) (hv : Vals w v vals) (hl : vals.length = rows.length) (hr : ∀ (j : Nat) (x : Value) (ss : List ByteArray), vals[j]? = some x → rows[j]? = some ss → Vals w x (ss.map Value.string) ∧ ss.length ≤ 10000 ∧ ∀ s ∈ ss, s.size ≤ maxLen) (hrows : rows.length ≤ 1000) :
    Calls Try.prog 21 #[v] w (NGivesI w (numRows [] rows)) := by
  obtain ⟨a0, c0, rfl, -, -, hat⟩ := hv.at
  rw [hl]
  have Hat := Lib.hid hat; clear hat
  have Hr := Lib.hid hr; clear hr
  have Hl := Lib.hid hl; clear hl
  obtain ⟨i9, hi9, hz9, hs9, hb9⟩ := info9
  obtain ⟨i3, hi3, hz3, hs3, hb3⟩ := info3
  obtain ⟨i22, hi22, hz22, hs22, hb22⟩ := info22
  clear hv
  go_enter Try.func21, Try.ntmps21
  go_wp2_with fail
  go_loopw [3, 4, 5] (fun sn o c wr => ∃ i : Nat, i ≤ rows.length ∧ c = .int .i64 i ∧ Seen wr w.heap.size sn (knownRows rows i) (i * 10000) ∧ (∃ vs, wr.ownsRow w.heap.size 22 1 o i vs ∧ ROwn wr w.heap.size vs ((numRows [] rows).take i)) ∧ Below w.heap.size w wr) (fun _ _ c _ => rows.length - (intOf c).toNat)
  case atStart => exact ⟨0, Nat.zero_le _, rfl, ⟨[], World.ownsRow_nil _ _ _ _, rfl, by simp⟩, ⟨[], World.ownsRow_nil _ _ _ _, rfl, fun j l h => by simp at h⟩, Below.refl _ _⟩
  case round =>
    obtain ⟨i, hi, rfl, hSeen, ⟨vs, hvs, hro⟩, hB⟩ := hrel
    by_cases hlt : i < rows.length
    · obtain ⟨ss, hss⟩ : ∃ ss, Hid (rows[i]? = some ss) := ⟨rows[i], Lib.hid (List.getElem?_eq_getElem hlt)⟩
      obtain ⟨x, hx⟩ : ∃ x, Hid (vals[i]? = some x) := ⟨vals[i]'(by rw [Hl.out]; exact hlt), Lib.hid (List.getElem?_eq_getElem _)⟩
      obtain ⟨hxv, hsl, hsz⟩ := Hr.out i x ss hx.out hss.out
      obtain ⟨b, off, rfl, hb, hcell⟩ := Hat.out i x hx.out
      obtain ⟨ax, cx, rfl, -, -, hatx⟩ := hxv.at
      rw [List.length_map] at hcell
      have Hatx := Lib.hid hatx; clear hatx
      have Hcell := Lib.hid hcell; clear hcell
      have HB := Lib.hid hB; clear hB
      have Hvs := Lib.hid hvs; clear hvs
      have Hro := Lib.hid hro; clear hro
      obtain ⟨K, hK⟩ : ∃ K, Hid (knownRows rows i = K) := ⟨_, Lib.hid rfl⟩
      rw [hK.out] at hSeen
      have HSeen := Lib.hid hSeen; clear hSeen
      obtain ⟨Wo, rfl⟩ : ∃ Wo : World, Wo = wr := ⟨_, rfl⟩
      have hbW : w.heap.size ≤ Wo.heap.size := HB.out.size
      clear hxv
      go_wp2_with fail
      go_loopw [3, 6, 7] (fun sn l c wr => ∃ k : Nat, k ≤ ss.length ∧ c = .int .i64 k ∧ Seen wr w.heap.size sn (knownBy K (ss.take k)) (i * 10000 + k) ∧ wr.ownsRow Wo.heap.size 3 1 l k (((numRow K ss).take k).map (Value.int .i64)) ∧ Keep9 w.heap.size Wo.heap.size Wo wr) (fun _ _ c _ => ss.length - (intOf c).toNat)
      case atStart => exact ⟨0, Nat.zero_le _, rfl, HSeen.out, World.ownsRow_nil _ _ _ _, Keep9.refl _ _ _⟩
      case round =>
        clear HSeen
        obtain ⟨k, hk, rfl, hSeen, hown, hKeep⟩ := hrel
        have hBw : Below w.heap.size w wr := HB.out.trans hKeep.1
        have cr : wr.cell? ⟨b, off + i, none⟩ = some (.slice ax ss.length cx) := (hBw.cell (p := ⟨b, off + i, none⟩) hb).trans Hcell.out
        by_cases hltk : k < ss.length
        · obtain ⟨s, hs⟩ : ∃ s, Hid (ss[k]? = some s) := ⟨ss[k], Lib.hid (List.getElem?_eq_getElem hltk)⟩
          obtain ⟨bx, ox, rfl, hbx, hcx⟩ := Hatx.out k (.string s) (by rw [List.getElem?_map, hs.out]; rfl)
          have cs : wr.cell? ⟨bx, ox + k, none⟩ = some (.string s) := (hBw.cell (p := ⟨bx, ox + k, none⟩) hbx).trans hcx
          obtain ⟨S, hS, hSL, hSl⟩ := hSeen
          obtain ⟨asn, csn, hform, hcc, hcm, hatS⟩ := (own_vals hS).at
          rw [List.length_map] at hform
          subst hform
          have HatS := Lib.hid hatS; clear hatS
          have HSL := Lib.hid hSL; clear hSL
          have HKeep := Lib.hid hKeep; clear hKeep
          have HS := Lib.hid hS; clear hS
          have Hown := Lib.hid hown; clear hown
          obtain ⟨idx, hidx⟩ : ∃ idx, Hid ((S.map wd).idxOf (wd s) = idx) := ⟨_, Lib.hid rfl⟩
          have hidl : idx ≤ S.length := by rw [← hidx.out]; have := List.idxOf_le_length (l := S.map wd) (a := wd s); simpa using this
          obtain ⟨W1, rfl⟩ : ∃ W1 : World, W1 = wr := ⟨_, rfl⟩
          have hW1 := hBw.size
          have Hcr := Lib.hid cr
          have Hcs := Lib.hid cs
          have hSbd : S.length ≤ 100000000 := by omega
          clear hcx hBw
          go_wp2_with fail
          clear cr cs
          go_loopw [8] (fun c wq => ∃ n : Nat, n ≤ idx ∧ c = .int .i64 n ∧ Below W1.heap.size W1 wq) (fun c _ => idx - (intOf c).toNat)
          case atStart => exact ⟨0, Nat.zero_le _, rfl, Below.refl _ _⟩
          case round =>
            obtain ⟨n, hn, rfl, hq⟩ := hrel
            by_cases hnl : n < idx
            · obtain ⟨y, hy, hyne⟩ := idx_stop (L := S.map wd) (x := wd s) (n := n) (by rw [hidx.out]; exact hnl)
              rw [List.getElem?_map] at hy
              obtain ⟨t, ht, rfl⟩ : ∃ t, S[n]? = some t ∧ wd t = y := by
                cases h : S[n]? with
                | none => rw [h] at hy; simp at hy
                | some t => rw [h] at hy; exact ⟨t, rfl, by simpa using hy⟩
              obtain ⟨bs, os, rfl, hbs, hcs'⟩ := HatS.out n (.string t) (by rw [List.getElem?_map, ht]; rfl)
              have c1 : wr.cell? ⟨bs, os + n, none⟩ = some (.string t) := (hq.cell (p := ⟨bs, os + n, none⟩) hbs).trans hcs'
              have c2 : wr.cell? ⟨b, off + i, none⟩ = some (.slice (some ⟨bx, ox, none⟩) ss.length cx) := (hq.cell (p := ⟨b, off + i, none⟩) (by show b < _; omega)).trans Hcr.out
              have c3 : wr.cell? ⟨bx, ox + k, none⟩ = some (.string s) := (hq.cell (p := ⟨bx, ox + k, none⟩) (by show bx < _; omega)).trans Hcs.out
              have hd : decide (n < S.length) = true := by simp; omega
              have hnS : n < S.length := by omega
              have hne := beq_no hyne
              have Hq := Lib.hid hq; clear hq
              clear hy ht hyne hcs'
              go_wp2_with fail
              go_quiet (fail)
              go_wp2_with fail
              exact ⟨⟨n + 1, by omega, by go_num, below_draws Hq.out _⟩, by simp [intOf]; omega⟩
            · obtain rfl : n = idx := by omega
              have hnum := numRow_get K ss k s hs.out
              have hkb := knownBy_snoc K ss k s hs.out
              rw [← HSL.out, hidx.out] at hnum
              rw [← HSL.out] at hkb
              have htk := take_snoc_get hnum
              have Htk := Lib.hid htk; clear htk
              have Hkb := Lib.hid hkb; clear hkb
              have c2 : wr.cell? ⟨b, off + i, none⟩ = some (.slice (some ⟨bx, ox, none⟩) ss.length cx) := (hq.cell (p := ⟨b, off + i, none⟩) (by show b < _; omega)).trans Hcr.out
              have c3 : wr.cell? ⟨bx, ox + k, none⟩ = some (.string s) := (hq.cell (p := ⟨bx, ox + k, none⟩) (by show bx < _; omega)).trans Hcs.out
              clear hnum
              by_cases hnl' : n < S.length
              · have hy := idx_here (L := S.map wd) (x := wd s) (by rw [hidx.out]; simpa using hnl')
                rw [hidx.out, List.getElem?_map] at hy
                obtain ⟨t, ht, hts⟩ : ∃ t, S[n]? = some t ∧ wd t = wd s := by
                  cases h : S[n]? with
                  | none => rw [h] at hy; simp at hy
                  | some t => rw [h] at hy; exact ⟨t, rfl, by simpa using hy⟩
                obtain ⟨bs, os, rfl, hbs, hcs'⟩ := HatS.out n (.string t) (by rw [List.getElem?_map, ht]; rfl)
                have c1 : wr.cell? ⟨bs, os + n, none⟩ = some (.string t) := (hq.cell (p := ⟨bs, os + n, none⟩) hbs).trans hcs'
                have hd : decide (n < S.length) = true := by simpa using hnl'
                have heq := beq_yes hts
                have hqq : ((n : Int) == (S.length : Int)) = false := by rw [beq_eq_false_iff_ne]; omega
                have hin : wd s ∈ S.map wd := List.idxOf_lt_length_iff.1 (by rw [hidx.out]; simpa using hnl')
                have hkb2 : knownBy K (ss.take (k + 1)) = S.map wd := by rw [Hkb.out]; unfold numStep; rw [if_pos hin]
                have Hkb2 := Lib.hid hkb2; clear hkb2
                have Hq := Lib.hid hq; clear hq
                clear hy ht hts hcs' hin
                go_wp2_with fail
                go_quiet (fail)
                obtain ⟨V, hV⟩ : ∃ V, Hid (wr.drewN nq = V) := ⟨_, Lib.hid rfl⟩
                have bV : Below W1.heap.size W1 V := by rw [← hV.out]; exact below_draws Hq.out nq
                have ownV := owns_later Hown.out bV
                have seenV : Hid (Seen V w.heap.size (.slice (some ⟨bs, os, none⟩) S.length csn) (knownBy K (ss.take (k + 1))) (i * 10000 + (k + 1))) := Lib.hid ⟨S, owns_later HS.out bV, Hkb2.out.symm, by omega⟩
                have keepV := Lib.hid (HKeep.out.below bV hbW (Nat.le_refl _))
                have sV : Wo.heap.size ≤ V.heap.size := keepV.out.1.size
                rw [hV.out]
                clear hV bV c1 c2 c3 hd heq
                go_wp2_with (at_builtin; refine wpList_append_own _ rfl _ _ 22 rfl Wo.heap.size 3 i3 (.int .i64 0) 1 8 Try.underlying22 hi3 hz3 hs3 hb3 rfl (by decide) _ _ _ rfl (ownV.alloc _) ⟨V.heap.size, 0, none⟩ 1 1 [.int .i64 n] rfl rfl (cell_one_new _ _ _) (by simp [Value.oneCell']) (by unfold maxLen; omega) (by omega) (by simp; omega) ?_; intro v' w2 hown' hgrow _)
                exact ⟨⟨k + 1, by omega, by go_num, seenV.out.later (fun g cs hr => grown_keeps ownV hgrow (by decide) g cs hr), by rw [Htk.out, List.map_append]; exact hown', (keepV.out.below ((Below.refl _ V).alloc (Nat.le_refl _) _) hbW (Nat.le_refl _)).grown3 (ownV.alloc _) hgrow hbW (Nat.le_refl _) hbW⟩, by simp [intOf]; omega⟩
              · obtain rfl : n = S.length := by omega
                have hd : decide (S.length < S.length) = false := by simp
                have hout : wd s ∉ S.map wd := by
                  intro hm
                  have := List.idxOf_lt_length_iff.2 hm
                  rw [hidx.out] at this
                  simp at this
                have hkb2 : knownBy K (ss.take (k + 1)) = S.map wd ++ [wd s] := by rw [Hkb.out]; unfold numStep; rw [if_neg hout]
                have Hkb2 := Lib.hid hkb2; clear hkb2
                have bV : Below W1.heap.size W1 wr := hq
                have ownV := owns_later Hown.out bV
                have ownS := owns_later HS.out bV
                have keepV := Lib.hid (HKeep.out.below bV hbW (Nat.le_refl _))
                have sV : Wo.heap.size ≤ wr.heap.size := keepV.out.1.size
                clear hout hnl hnl' hq bV
                go_wp2_with fail
                go_quiet (fail)
                obtain ⟨V, hV⟩ : ∃ V, Hid (wr.drewN nq = V) := ⟨_, Lib.hid rfl⟩
                have bwV : Below wr.heap.size wr V := by rw [← hV.out]; exact below_draws (Below.refl _ _) _
                have ownV' := owns_later ownV bwV
                have ownS' := owns_later ownS bwV
                have keepV' := Lib.hid (keepV.out.below bwV hbW (Nat.le_refl _))
                have sV' : Wo.heap.size ≤ V.heap.size := by have := bwV.size; omega
                have d2 : V.cell? ⟨b, off + i, none⟩ = some (.slice (some ⟨bx, ox, none⟩) ss.length cx) := by rw [← hV.out]; exact c2
                have d3 : V.cell? ⟨bx, ox + k, none⟩ = some (.string s) := by rw [← hV.out]; exact c3
                rw [hV.out]
                clear hV c2 c3 hd ownV ownS keepV sV bwV
                have hS1 : S.length + 1 ≤ 100000000 := by omega
                go_wp2_with (first
                  | (at_builtin
                     refine wpList_append_own _ rfl (.tmp 48) (.tmp 56) 27 rfl w.heap.size 9 i9 (.string ⟨#[]⟩) 1 16 Try.underlying27 hi9 hz9 hs9 hb9 rfl (by decide) _ _ _ rfl (ownS'.alloc _) ⟨V.heap.size, 0, none⟩ 1 1 [.string s] rfl rfl (cell_one_new _ _ _) (by simp [Value.oneCell']) (by unfold maxLen; omega) (by omega) (by simp; omega) ?_
                     intro v5 w5 hown5 hgrow5 _
                     have own5 : w5.ownsRow Wo.heap.size 3 1 u6 k _ := owns_same ownV' (fun g e => by
                       rcases ownV'.2 with ⟨e1, _⟩ | ⟨g', cap, cur, e1, _, hg, _⟩
                       · rw [e1] at e; simp [Value.ownBlock] at e
                       · rw [e1] at e
                         simp [Value.ownBlock] at e
                         subst e
                         exact grown_keeps ownS' hgrow5 (by decide) g' cur hg)
                     have keep5 := Lib.hid ((keepV'.out.below ((Below.refl _ V).alloc (Nat.le_refl _) _) hbW (Nat.le_refl _)).grown (ownS'.alloc _) hgrow5 hbW (Nat.le_refl _) rfl)
                     have s5 : Wo.heap.size ≤ w5.heap.size := keep5.out.1.size
                     clear hgrow5 ownV' ownS' keepV' d2 d3)
                  | (at_builtin
                     refine wpList_append_own _ rfl (.tmp 58) (.tmp 60) 22 rfl Wo.heap.size 3 i3 (.int .i64 0) 1 8 Try.underlying22 hi3 hz3 hs3 hb3 rfl (by decide) _ _ _ rfl (own5.alloc _) ⟨w5.heap.size, 0, none⟩ 1 1 [.int .i64 S.length] rfl rfl (cell_one_new _ _ _) (by simp [Value.oneCell']) (by unfold maxLen; omega) (by omega) (by simp; omega) ?_
                     intro v6 w6 hown6 hgrow6 _))
                have seen5 : Seen w5 w.heap.size v5 (knownBy K (ss.take (k + 1))) (i * 10000 + (k + 1)) := ⟨S ++ [s], by simpa using hown5, by rw [Hkb2.out]; simp, by simp; omega⟩
                exact ⟨⟨k + 1, by omega, by go_num, seen5.later (fun g cs hr => grown_keeps own5 hgrow6 (by decide) g cs hr), by rw [Htk.out, List.map_append]; exact hown6, (keep5.out.below ((Below.refl _ w5).alloc (Nat.le_refl _) _) hbW (Nat.le_refl _)).grown3 (own5.alloc _) hgrow6 hbW (Nat.le_refl _) hbW⟩, by simp [intOf]; omega⟩
        · obtain rfl : k = ss.length := by omega
          rw [List.take_of_length_le (Nat.le_refl _), ← hK.out, ← knownRows_succ hss.out] at hSeen
          rw [List.take_of_length_le (by rw [numRow_length]; exact Nat.le_refl _)] at hown
          obtain ⟨al, cl, hf, -, -, -⟩ := (own_vals hown).at
          rw [List.length_map] at hf
          subst hf
          have hown2 : wr.ownsRow w.heap.size 3 1 _ (numRow K ss).length ((numRow K ss).map (Value.int .i64)) := own_rebase (by rw [numRow_length]; exact hown) hbW
          have hvs2 := own_keep hKeep Hvs.out (Nat.le_refl _) (by decide)
          have hro2 : ROwn wr w.heap.size vs ((numRows [] rows).take i) := Hro.out.later (fun x l h => own_keep hKeep h (Nat.le_refl _) (by decide))
          have hro3 := hro2.snoc hown2
          have hl' : (numRows [] rows)[i]? = some (numRow K ss) := by rw [← hK.out]; exact numRows_get [] rows i ss hss.out
          have htk : (numRows [] rows).take (i + 1) = (numRows [] rows).take i ++ [numRow K ss] := by rw [List.take_add_one, hl']; rfl
          rw [← htk] at hro3
          have Hro3 := Lib.hid hro3
          have HSeen := Lib.hid hSeen
          have sW := hBw.size
          have hd : decide (ss.length < ss.length) = false := by simp
          have hi1 : i + 1 ≤ 1000 := by omega
          clear hro3 hSeen hown hro2 hown2 htk hl' hK
          go_wp2_with (at_builtin; refine wpList_append_own _ rfl _ _ 28 rfl w.heap.size 22 i22 (.slice none 0 0) 1 24 Try.underlying28 hi22 hz22 hs22 hb22 rfl (by decide) _ _ _ rfl (hvs2.alloc _) ⟨wr.heap.size, 0, none⟩ 1 1 [.slice al (numRow K ss).length cl] rfl rfl (cell_one_new _ _ _) (by simp [Value.oneCell']) (by unfold maxLen; omega) (by omega) (by simp; omega) ?_; intro v6 w6 hown6 hgrow6 _)
          refine ⟨⟨i + 1, by omega, by go_num, ?_, ⟨_, hown6, Hro3.out.later (fun x l h => own_type h (fun g cs hr => grown_keeps hvs2 hgrow6 (by decide) g cs hr))⟩, (hBw.alloc sW _).grown hgrow6 (by simp; omega) (fun k hk => (hvs2.lt k hk).1)⟩, by simp [intOf]; omega⟩
          obtain ⟨S, q1, q2, q3⟩ := HSeen.out.later (fun g cs hr => grown_keeps hvs2 hgrow6 (by decide) g cs hr)
          exact ⟨S, q1, q2, by omega⟩
    · obtain rfl : i = rows.length := by omega
      rw [List.take_of_length_le (by rw [numRows_length]; exact Nat.le_refl _)] at hro
      have Hro := Lib.hid hro
      have Hvs := Lib.hid hvs
      clear hro hvs hSeen hlt hi
      go_wp2_with fail
      go_ret
      refine ⟨_, vs, rfl, own_vals Hvs.out, Hro.out.1, fun j l hj => ?_, hB⟩
      obtain ⟨x, h1, h2⟩ := Hro.out.2 j l hj
      exact ⟨x, h1, own_ints h2⟩
end Go.Proofs.Ythligkdncddmpaa
