/-
  For the laws of heap: Get, in one word, and Set. Condition: the field's id is no longer than any text may be; the heap has room.
-/
import Derived.Test.YtpaknaaainhgfaaDoorHget
import Derived.RegionTactic
import Derived.ChangeAlike
namespace Go.Proofs.YtpaknaaainhgfaaDoor
open Go.RowKit Go.Maps Go.WideMaps

/-- What Get tells: the value, and the error. -/
def getOf (len : Nat) (f : Store) (k n : Int) (id kind : ByteArray) : (Int × Int) × Int :=
  if (whereAt len k n).2 = 0 then ((f (whereAt len k n).1 id).getD (firstK kind, 0), 0) else ((0, 0), (whereAt len k n).2)
theorem whereAt_err {len : Nat} {k n : Int} (h : (whereAt len k n).2 ≠ 0) : whereAt len k n = (0, (whereAt len k n).2) := by
  unfold whereAt at h ⊢
  split
  · rename_i h1; rw [if_pos h1] at h; exact absurd rfl h
  · split
    · rfl
    · split <;> rfl
theorem whereAt_ok {len : Nat} {k n : Int} (h : (whereAt len k n).2 = 0) : whereAt len k n = ((whereAt len k n).1, 0) := by
  rw [← h]
theorem Get_any (k n : Int) (hkn : (Lit.int .i64 n).wf = true) (id kind : ByteArray) (hid : id.size ≤ maxLen) (w : World) (base h m : Nat) (cs : List ByteArray) (f : Store) (H : Hp w base h cs m f) :
    Calls Tryd.prog 29 #[.pointer (some ⟨h, 0, none⟩), val2 k n, .string id, .string kind] w fun e w' => e = .returned (.tuple #[val2 (getOf cs.length f k n id kind).1.1 (getOf cs.length f k n id kind).1.2, .int .i64 (getOf cs.length f k n id kind).2]) ∧ Below w.heap.size w w' := by
  by_cases he : (whereAt cs.length k n).2 = 0
  · have hw := whereAt_ok he
    cases hf : f (whereAt cs.length k n).1 id with
    | none =>
      have hg : getOf cs.length f k n id kind = ((firstK kind, 0), 0) := by unfold getOf; rw [if_pos he, hf]; rfl
      rw [hg]
      exact Get_none k n hkn id kind hid w base h m cs f H _ hw hf
    | some x =>
      have hg : getOf cs.length f k n id kind = (x, 0) := by unfold getOf; rw [if_pos he, hf]; rfl
      rw [hg]
      exact Get_some k n hkn id kind hid w base h m cs f H _ hw x hf
  · have hw := whereAt_err he
    have hg : getOf cs.length f k n id kind = ((0, 0), (whereAt cs.length k n).2) := by unfold getOf; rw [if_neg he]
    rw [hg]
    exact Get_err k n id kind w base h m cs f H _ hw he

set_option maxRecDepth 100000 in
set_option maxHeartbeats 4000000 in
theorem Set_nil (k n a b : Int) (id : ByteArray) (w : World) : Calls Tryd.prog 31 #[.pointer none, val2 k n, .string id, val2 a b] w fun e w' => e = .returned (.int .i64 1) ∧ Below w.heap.size w w' := by
  have hbelow : Below w.heap.size w ((w.alloc (.cells #[.int .i64 k, .int .i64 n] 44)).alloc (.cells #[.int .i64 a, .int .i64 b] 44)) := ((Below.refl _ w).alloc (Nat.le_refl _) _).alloc (by simp) _
  go_enter Tryd.func31, Tryd.ntmps31
  go_wp2_with fail
  refine (At_nil k n id _).mono ?_
  rintro e w1 ⟨rfl, hb1⟩
  have hb01 : Below w.heap.size w w1 := hbelow.trans (hb1.mono (by simp; omega))
  go_wp2
  go_ret
  exact ⟨rfl, hb01.alloc hb01.size _⟩

set_option maxRecDepth 100000 in
set_option maxHeartbeats 4000000 in
theorem Set_err (k n a b : Int) (id : ByteArray) (w : World) (base h m : Nat) (cs : List ByteArray) (f : Store) (H : Hp w base h cs m f) (er : Int) (hw : whereAt cs.length k n = (0, er)) (her : er ≠ 0) :
    Calls Tryd.prog 31 #[.pointer (some ⟨h, 0, none⟩), val2 k n, .string id, val2 a b] w fun e w' => e = .returned (.int .i64 er) ∧ Below w.heap.size w w' := by
  have hne : (er != 0) = true := by simpa using her
  have hbelow : Below w.heap.size w ((w.alloc (.cells #[.int .i64 k, .int .i64 n] 44)).alloc (.cells #[.int .i64 a, .int .i64 b] 44)) := ((Below.refl _ w).alloc (Nat.le_refl _) _).alloc (by simp) _
  go_enter Tryd.func31, Tryd.ntmps31
  go_wp2_with fail
  refine (At_any k n id _ base h m cs f (H.later hbelow)).mono ?_
  rw [hw, show plcOf (0, er) id = plc 0 ⟨#[]⟩ from if_neg her]
  rintro e w1 ⟨rfl, hb1⟩
  have hb01 : Below w.heap.size w w1 := hbelow.trans (hb1.mono (by simp; omega))
  go_wp2
  go_ret
  exact ⟨rfl, hb01.alloc hb01.size _⟩

/-- Behind a store into the map of a heap. -/
theorem Hp.stored {V V' : World} {base h m bm : Nat} {cs : List ByteArray} {f : Store} {p : Option Addr} {c : Nat} {o a b : Int} {id : ByteArray} {kl : Lit} {D : DataW Unit} (hkl : keyOf Tryd.prog 87 (plc o id) = some kl)
    (hr : RowAt V h 85 (hrow p cs.length c (.map (some bm)))) (ho : V.ownsRow base 9 1 (.slice p cs.length c) cs.length (cs.map Value.string)) (hbm : base ≤ bm)
    (hD : V.ownsMap Tryd.prog 87 valR bm m D) (hk : ∀ o id kl, keyOf Tryd.prog 87 (plc o id) = some kl → Maps.has D kl = (f o id).isSome ∧ D.atKey kl (dat 0 0) = dat ((f o id).getD (0, 0)).1 ((f o id).getD (0, 0)).2)
    (h1 : V'.ownsMap Tryd.prog 87 valR bm (m + 1) (D.put kl (dat a b))) (h2 : V.drew.grownBy V' (some bm)) : Hp V' base h cs (m + 1) (f.set o id (a, b)) := by
  have hb' := hD
  obtain ⟨es, cl, hb, _⟩ := hb'
  have hhb : h ≠ bm := by
    rintro rfl
    unfold RowAt at hr
    rw [hr] at hb
    cases hb
  refine ⟨p, c, .map (some bm), hr.same (h2.block h hr.lt (by simpa using hhb)), owns_same ho (fun k hk' => h2.block k (ho.lt k hk').2 ?_), .inr ⟨bm, rfl, hbm, MapHas.put hkl a b hD.isMap hk h1⟩⟩
  intro e
  rcases ho.2 with ⟨e1, _⟩ | ⟨g, cap, cur, e1, _, hg, _⟩
  · rw [e1] at hk'; cases hk'
  · rw [e1] at hk'
    simp [Value.ownBlock] at hk'
    subst hk'
    have : g = bm := by simpa using e
    subst this
    rw [hg] at hb
    cases hb

set_option maxRecDepth 100000 in
set_option maxHeartbeats 4000000 in
theorem Set_first (k n a b : Int) (hkn : (Lit.int .i64 n).wf = true) (id : ByteArray) (hid : id.size ≤ maxLen) (w : World) (base h m : Nat) (hm : m < maxLen) (cs : List ByteArray) (f : Store) (H : Hp w base h cs m f) (o : Int) (hw : whereAt cs.length k n = (o, 0)) (hbase : base ≤ w.heap.size)
    (h1 : w.cell? ⟨h, 1, none⟩ = some (.map none)) :
    Calls Tryd.prog 31 #[.pointer (some ⟨h, 0, none⟩), val2 k n, .string id, val2 a b] w fun e w' => e = .returned (.int .i64 0) ∧ Hp w' base h cs (m + 1) (f.set o id (a, b)) ∧ Turn base h w w' := by
  have hbelow : Below w.heap.size w ((w.alloc (.cells #[.int .i64 k, .int .i64 n] 44)).alloc (.cells #[.int .i64 a, .int .i64 b] 44)) := ((Below.refl _ w).alloc (Nat.le_refl _) _).alloc (by simp) _
  have hH := H.lt
  obtain ⟨p, c, mv, hr0, ho0, hmm0⟩ := H
  obtain rfl : mv = .map none := by
    have e0 : w.cell? ⟨h, 1, none⟩ = some mv := hr0.cell rfl
    rw [h1] at e0
    exact (Option.some.inj e0).symm
  obtain rfl : f = fun _ _ => none := by
    rcases hmm0 with ⟨_, e⟩ | ⟨b', e, _⟩
    · exact e
    · cases e
  clear hmm0
  have keq := fun (W : World) (r : Option Nat) => run_eql_map_nil (P := Tryd.prog) W 83 87 44 r Tryd.underlying83
  go_enter Tryd.func31, Tryd.ntmps31
  go_wp2_with fail
  refine (At_any k n id _ base h m cs (fun _ _ => none) (Hp.later ⟨p, c, _, hr0, ho0, .inl ⟨rfl, rfl⟩⟩ hbelow)).mono ?_
  rw [hw, show plcOf (o, 0) id = plc o id from rfl]
  rintro e w1 ⟨rfl, hb1⟩
  have r7 : RowAt w1 (w.heap.size + 1) 44 #[.int .i64 a, .int .i64 b] := by
    have := (RowAt.new (w.alloc (.cells #[.int .i64 k, .int .i64 n] 44)) 44 #[.int .i64 a, .int .i64 b]).later hb1
    rw [World.size_alloc] at this
    exact this
  have hb01 : Below w.heap.size w w1 := hbelow.trans (hb1.mono (by simp; omega))
  have hl1 : w.heap.size + 1 < w1.heap.size := r7.lt
  have hr := hr0.later hb01
  have hrl := hr.lt
  have c1w : w1.cell? ⟨h, 1, none⟩ = some (.map none) := hr.cell rfl
  have f1w := hr.frozen 1
  have hwf := whereAt_wf hw hkn
  obtain ⟨kl, hkl⟩ := key_plc o id hwf hid
  obtain ⟨W, hW⟩ : ∃ W, Hid (w1.alloc (.cells #[.int .i64 o, .string id] 87) = W) := ⟨_, rfl⟩
  have hbW : Below w.heap.size w W := by rw [← hW.out]; exact hb01.alloc (by omega) _
  have rW : RowAt W w1.heap.size 87 #[.int .i64 o, .string id] := by rw [← hW.out]; exact RowAt.new _ _ _
  have r7W : RowAt W (w.heap.size + 1) 44 #[.int .i64 a, .int .i64 b] := by rw [← hW.out]; exact r7.alloc _
  have hrW : RowAt W h 85 (hrow p cs.length c (.map none)) := by rw [← hW.out]; exact hr.alloc _
  have hlW := hrW.lt
  have hsW := rW.lt
  have c1 : W.cell? ⟨h, 1, none⟩ = some (.map none) := hrW.cell rfl
  have f1 := hrW.frozen 1
  have hoW : W.ownsRow base 9 1 (.slice p cs.length c) cs.length (cs.map Value.string) := owns_same ho0 (fun k hk => hbW.block k (ho0.lt k hk).2)
  have hh7 : h ≠ w.heap.size + 1 := by omega
  have hh9 : h ≠ w1.heap.size := by omega
  have kmm := @run_makeMap Tryd.prog
  have f2 : ((w1.alloc (.cells #[.int .i64 o, .string id] 87)).alloc (.map #[] 0)).frozen? ⟨h, 1, none⟩ = false := ((hr.alloc _).alloc _).frozen 1
  have c2 : ((w1.alloc (.cells #[.int .i64 o, .string id] 87)).alloc (.map #[] 0)).cell? ⟨h, 1, none⟩ = some (.map none) := ((hr.alloc _).alloc _).cell rfl
  obtain ⟨bm, hbmE⟩ : ∃ x, w1.heap.size + 1 = x := ⟨_, rfl⟩
  have hbm : base ≤ bm := by omega
  obtain ⟨V, hV⟩ : ∃ V, Hid (((w1.alloc (.cells #[.int .i64 o, .string id] 87)).alloc (.map #[] 0)).setCell ⟨h, 1, none⟩ (.map (some bm)) = V) := ⟨_, rfl⟩
  have rV : RowAt V h 85 (hrow p cs.length c (.map (some bm))) := by rw [← hV.out]; exact ((hr.alloc _).alloc _).set 1 _
  have k9 : RowAt V w1.heap.size 87 #[.int .i64 o, .string id] := by
    rw [← hV.out]
    exact ((RowAt.new _ _ _).alloc _).other (Ne.symm hh9) _ _
  have k7 : RowAt V (w.heap.size + 1) 44 #[.int .i64 a, .int .i64 b] := by
    rw [← hV.out]
    exact ((r7.alloc _).alloc _).other (Ne.symm hh7) _ _
  have hVk : ∀ k, k ≠ h → k < w1.heap.size → V.heap[k]? = w1.heap[k]? := fun k h1 h2 => by
    rw [← hV.out, Below.heap_setCell _ _ _ k (by simpa using h1), Below.heap_alloc _ _ k (by simp; omega), Below.heap_alloc _ _ k h2]
  have hoV : V.ownsRow base 9 1 (.slice p cs.length c) cs.length (cs.map Value.string) :=
    owns_same (owns_same ho0 (fun k hk => hb01.block k (ho0.lt k hk).2)) (fun k hk => hVk k (by rintro rfl; exact own_ne ho0 hr0 (by decide) hk.symm) (by have := (ho0.lt k hk).2; omega))
  have hMV : MapHas V bm m (fun _ _ => none) := by
    have hM1 : MapHas ((w1.alloc (.cells #[.int .i64 o, .string id] 87)).alloc (.map #[] 0)) bm m (fun _ _ => none) := by
      obtain ⟨D, ⟨es, cl, e1, e2, e3, e4⟩, hk⟩ := MapHas.made (w1.alloc (.cells #[.int .i64 o, .string id] 87))
      rw [World.size_alloc, hbmE] at e1
      exact ⟨D, ⟨es, cl, e1, e2, by omega, e4⟩, hk⟩
    refine hM1.later ?_
    rw [← hV.out]
    exact Below.heap_setCell _ _ _ bm (by simp; omega)
  have hVt : Turn base h w V := by
    refine ⟨?_, ?_, ?_, ?_, fun k hk => ?_⟩
    · rw [← hV.out]; exact hb01.os
    · rw [← hV.out]; exact hb01.tape
    · rw [← hV.out]; exact hb01.output
    · rw [← hV.out]; simp; omega
    · rw [hVk k hk.2.1 (by have := hk.1; omega)]
      exact hb01.block k hk.1
  go_wp2_with fail
  rw [hV.out]
  have hlV := rV.lt
  have h7V := k7.lt
  have h9V := k9.lt
  have q1 : V.cell? ⟨h, 1, none⟩ = some (.map (some bm)) := rV.cell rfl
  have q2 : V.cell? ⟨w1.heap.size, 0, none⟩ = some (.int .i64 o) := k9.cell rfl
  have q3 : V.cell? ⟨w1.heap.size, 1, none⟩ = some (.string id) := k9.cell rfl
  have q4 : V.cell? ⟨w.heap.size + 1, 0, none⟩ = some (.int .i64 a) := k7.cell rfl
  have q5 : V.cell? ⟨w.heap.size + 1, 1, none⟩ = some (.int .i64 b) := k7.cell rfl
  obtain ⟨D, hD, hk⟩ := hMV
  obtain ⟨V', hrun, hown', hgrown⟩ := hD.drew.update law87 Tryd.underlying83 hm hkl (valR_mk a b)
  have hfin := Hp.stored hkl rV hoV hbm hD hk hown' hgrown
  have htu : Turn base h w V' := by
    refine hVt.trans ⟨hgrown.os, hgrown.tape, hgrown.output, hgrown.size, fun k hs => hgrown.block k hs.1 ?_⟩
    intro e
    have hk_ : k = bm := by simpa using e
    rw [hk_] at hs
    rcases hs.2.2 with h9 | ⟨cs', t', fr, h9, h8⟩
    · omega
    · obtain ⟨es, cl, hb, _⟩ := hD
      rw [hb] at h9
      cases h9
  have Hfin := Lib.hid hfin; clear hfin
  have Htu := Lib.hid htu; clear htu
  clear hown' hgrown hVt rV k9 k7 hoV hD hk hoW hrW r7W rW hr r7 hr0 ho0
  go_region
  all_goals
    go_wp2
    go_ret
    exact ⟨rfl, Hfin.out, Htu.out⟩

set_option maxRecDepth 100000 in
set_option maxHeartbeats 4000000 in
theorem Set_more (k n a b : Int) (hkn : (Lit.int .i64 n).wf = true) (id : ByteArray) (hid : id.size ≤ maxLen) (w : World) (base h m : Nat) (hm : m < maxLen) (cs : List ByteArray) (f : Store) (H : Hp w base h cs m f) (o : Int) (hw : whereAt cs.length k n = (o, 0)) 
    (bm : Nat) (h1 : w.cell? ⟨h, 1, none⟩ = some (.map (some bm))) :
    Calls Tryd.prog 31 #[.pointer (some ⟨h, 0, none⟩), val2 k n, .string id, val2 a b] w fun e w' => e = .returned (.int .i64 0) ∧ Hp w' base h cs (m + 1) (f.set o id (a, b)) ∧ Turn base h w w' := by
  have hbelow : Below w.heap.size w ((w.alloc (.cells #[.int .i64 k, .int .i64 n] 44)).alloc (.cells #[.int .i64 a, .int .i64 b] 44)) := ((Below.refl _ w).alloc (Nat.le_refl _) _).alloc (by simp) _
  have hH := H.lt
  obtain ⟨p, c, mv, hr0, ho0, hmm0⟩ := H
  obtain rfl : mv = .map (some bm) := by
    have e0 : w.cell? ⟨h, 1, none⟩ = some mv := hr0.cell rfl
    rw [h1] at e0
    exact (Option.some.inj e0).symm
  have hM0 : MapHas w bm m f ∧ base ≤ bm := by
    rcases hmm0 with ⟨e, _⟩ | ⟨b', e, e2, e3⟩
    · cases e
    · cases e; exact ⟨e3, e2⟩
  clear hmm0
  have keq := fun (W : World) (r : Option Nat) => run_eql_map_nil (P := Tryd.prog) W 83 87 44 r Tryd.underlying83
  go_enter Tryd.func31, Tryd.ntmps31
  go_wp2_with fail
  refine (At_any k n id _ base h m cs f (Hp.later ⟨p, c, _, hr0, ho0, .inr ⟨bm, rfl, hM0.2, hM0.1⟩⟩ hbelow)).mono ?_
  rw [hw, show plcOf (o, 0) id = plc o id from rfl]
  rintro e w1 ⟨rfl, hb1⟩
  have r7 : RowAt w1 (w.heap.size + 1) 44 #[.int .i64 a, .int .i64 b] := by
    have := (RowAt.new (w.alloc (.cells #[.int .i64 k, .int .i64 n] 44)) 44 #[.int .i64 a, .int .i64 b]).later hb1
    rw [World.size_alloc] at this
    exact this
  have hb01 : Below w.heap.size w w1 := hbelow.trans (hb1.mono (by simp; omega))
  have hl1 : w.heap.size + 1 < w1.heap.size := r7.lt
  have hr := hr0.later hb01
  have hrl := hr.lt
  have c1w : w1.cell? ⟨h, 1, none⟩ = some (.map (some bm)) := hr.cell rfl
  have f1w := hr.frozen 1
  have hwf := whereAt_wf hw hkn
  obtain ⟨kl, hkl⟩ := key_plc o id hwf hid
  obtain ⟨W, hW⟩ : ∃ W, Hid (w1.alloc (.cells #[.int .i64 o, .string id] 87) = W) := ⟨_, rfl⟩
  have hbW : Below w.heap.size w W := by rw [← hW.out]; exact hb01.alloc (by omega) _
  have rW : RowAt W w1.heap.size 87 #[.int .i64 o, .string id] := by rw [← hW.out]; exact RowAt.new _ _ _
  have r7W : RowAt W (w.heap.size + 1) 44 #[.int .i64 a, .int .i64 b] := by rw [← hW.out]; exact r7.alloc _
  have hrW : RowAt W h 85 (hrow p cs.length c (.map (some bm))) := by rw [← hW.out]; exact hr.alloc _
  have hlW := hrW.lt
  have hsW := rW.lt
  have c1 : W.cell? ⟨h, 1, none⟩ = some (.map (some bm)) := hrW.cell rfl
  have f1 := hrW.frozen 1
  have hoW : W.ownsRow base 9 1 (.slice p cs.length c) cs.length (cs.map Value.string) := owns_same ho0 (fun k hk => hbW.block k (ho0.lt k hk).2)
  have hh7 : h ≠ w.heap.size + 1 := by omega
  have hh9 : h ≠ w1.heap.size := by omega
  have hMV : MapHas W bm m f := hM0.1.later (hbW.block bm hM0.1.lt)
  have hbm := hM0.2
  have hVt : Turn base h w W := turn_of_below hbW
  have rV := hrW
  have k9 := rW
  have k7 := r7W
  have hoV := hoW
  go_wp2_with fail
  rw [hW.out]
  have hlV := rV.lt
  have h7V := k7.lt
  have h9V := k9.lt
  have q1 : W.cell? ⟨h, 1, none⟩ = some (.map (some bm)) := rV.cell rfl
  have q2 : W.cell? ⟨w1.heap.size, 0, none⟩ = some (.int .i64 o) := k9.cell rfl
  have q3 : W.cell? ⟨w1.heap.size, 1, none⟩ = some (.string id) := k9.cell rfl
  have q4 : W.cell? ⟨w.heap.size + 1, 0, none⟩ = some (.int .i64 a) := k7.cell rfl
  have q5 : W.cell? ⟨w.heap.size + 1, 1, none⟩ = some (.int .i64 b) := k7.cell rfl
  obtain ⟨D, hD, hk⟩ := hMV
  obtain ⟨V', hrun, hown', hgrown⟩ := hD.drew.update law87 Tryd.underlying83 hm hkl (valR_mk a b)
  have hfin := Hp.stored hkl rV hoV hbm hD hk hown' hgrown
  have htu : Turn base h w V' := by
    refine hVt.trans ⟨hgrown.os, hgrown.tape, hgrown.output, hgrown.size, fun k hs => hgrown.block k hs.1 ?_⟩
    intro e
    have hk_ : k = bm := by simpa using e
    rw [hk_] at hs
    rcases hs.2.2 with h9 | ⟨cs', t', fr, h9, h8⟩
    · omega
    · obtain ⟨es, cl, hb, _⟩ := hD
      rw [hb] at h9
      cases h9
  have Hfin := Lib.hid hfin; clear hfin
  have Htu := Lib.hid htu; clear htu
  clear hown' hgrown hVt rV k9 k7 hoV hD hk hoW hrW r7W rW hr r7 hr0 ho0
  go_region
  all_goals
    go_wp2
    go_ret
    exact ⟨rfl, Hfin.out, Htu.out⟩

/-- Set, where there is a place. -/
theorem Set_ok (k n a b : Int) (hkn : (Lit.int .i64 n).wf = true) (id : ByteArray) (hid : id.size ≤ maxLen) (w : World) (base h m : Nat) (hm : m < maxLen) (cs : List ByteArray) (f : Store) (H : Hp w base h cs m f) (o : Int) (hw : whereAt cs.length k n = (o, 0)) (hbase : base ≤ w.heap.size) :
    Calls Tryd.prog 31 #[.pointer (some ⟨h, 0, none⟩), val2 k n, .string id, val2 a b] w fun e w' => e = .returned (.int .i64 0) ∧ Hp w' base h cs (m + 1) (f.set o id (a, b)) ∧ Turn base h w w' := by
  have H' := H
  obtain ⟨p, c, mv, hr, ho, hmm⟩ := H
  rcases hmm with ⟨rfl, _⟩ | ⟨bm, rfl, _⟩
  · exact Set_first k n a b hkn id hid w base h m hm cs f H' o hw hbase (hr.cell rfl)
  · exact Set_more k n a b hkn id hid w base h m hm cs f H' o hw bm (hr.cell rfl)
theorem Hp.more {W : World} {base h m : Nat} {cs : List ByteArray} {f : Store} (H : Hp W base h cs m f) : Hp W base h cs (m + 1) f := by
  obtain ⟨p, c, mv, hr, ho, hmm⟩ := H
  refine ⟨p, c, mv, hr, ho, ?_⟩
  rcases hmm with e | ⟨b, e1, e2, D, ⟨es, cl, x1, x2, x3, x4⟩, hk⟩
  · exact .inl e
  · exact .inr ⟨b, e1, e2, D, ⟨es, cl, x1, x2, by omega, x4⟩, hk⟩
/-- What is stored behind Set. -/
def setOf (len : Nat) (f : Store) (k n : Int) (id : ByteArray) (x : Int × Int) : Store := if (whereAt len k n).2 = 0 then f.set (whereAt len k n).1 id x else f
theorem Set_any (k n a b : Int) (hkn : (Lit.int .i64 n).wf = true) (id : ByteArray) (hid : id.size ≤ maxLen) (w : World) (base h m : Nat) (hm : m < maxLen) (cs : List ByteArray) (f : Store) (H : Hp w base h cs m f) (hbase : base ≤ w.heap.size) :
    Calls Tryd.prog 31 #[.pointer (some ⟨h, 0, none⟩), val2 k n, .string id, val2 a b] w fun e w' => e = .returned (.int .i64 (whereAt cs.length k n).2) ∧ Hp w' base h cs (m + 1) (setOf cs.length f k n id (a, b)) ∧ Turn base h w w' := by
  by_cases he : (whereAt cs.length k n).2 = 0
  · have hs : setOf cs.length f k n id (a, b) = f.set (whereAt cs.length k n).1 id (a, b) := if_pos he
    rw [hs, he]
    exact Set_ok k n a b hkn id hid w base h m hm cs f H _ (whereAt_ok he) hbase
  · have hs : setOf cs.length f k n id (a, b) = f := if_neg he
    rw [hs]
    refine (Set_err k n a b id w base h m cs f H _ (whereAt_err he) he).mono fun e w' ⟨h1, h2⟩ => ?_
    exact ⟨h1, (H.later h2).more, turn_of_below h2⟩
end Go.Proofs.YtpaknaaainhgfaaDoor
