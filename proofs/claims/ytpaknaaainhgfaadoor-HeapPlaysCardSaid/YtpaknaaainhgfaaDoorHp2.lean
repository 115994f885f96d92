/-
  For the laws of heap: Make and Set, with what of the heap's own blocks they may write. Condition: at most 9,999 objects.
-/
import Derived.Test.YtpaknaaainhgfaaDoorHset
import Derived.Deep.AppendLies
namespace Go.Proofs.YtpaknaaainhgfaaDoor
open Go.RowKit Go.Maps Go.WideMaps Go.Shelf
set_option linter.unusedSimpArgs false
set_option linter.unusedVariables false

/-- The heap at h, with the block of its row of classes, and its map's. -/
def Hw (W : World) (base h : Nat) (cs : List ByteArray) (m : Nat) (f : Store) (ob mb : Option Nat) : Prop :=
  ∃ p c mv, RowAt W h 85 (hrow p cs.length c mv) ∧ W.ownsRow base 9 1 (.slice p cs.length c) cs.length (cs.map Value.string) ∧
    ((mv = .map none ∧ f = fun _ _ => none) ∨ ∃ b, mv = .map (some b) ∧ base ≤ b ∧ MapHas W b m f) ∧ ob = (Value.slice p cs.length c).ownBlock ∧ mv = .map mb
/-- Nothing but the heap at h, its row and its map has turned. -/
structure Tn (h : Nat) (ob mb : Option Nat) (W W' : World) : Prop where
  os : W'.os = W.os
  tape : W'.tape = W.tape
  output : W'.output = W.output
  size : W.heap.size ≤ W'.heap.size
  keep : ∀ k, k < W.heap.size → k ≠ h → some k ≠ ob → some k ≠ mb → W'.heap[k]? = W.heap[k]?
theorem Hw.hp {W : World} {base h m : Nat} {cs : List ByteArray} {f : Store} {ob mb : Option Nat} (H : Hw W base h cs m f ob mb) : Hp W base h cs m f := by
  obtain ⟨p, c, mv, h1, h2, h3, -, -⟩ := H
  exact ⟨p, c, mv, h1, h2, h3⟩
theorem tn_of_below {h : Nat} {ob mb : Option Nat} {W W' : World} (hb : Below W.heap.size W W') : Tn h ob mb W W' := ⟨hb.os, hb.tape, hb.output, hb.size, fun k hk _ _ _ => hb.block k hk⟩
theorem Hw.later {W W' : World} {base h m : Nat} {cs : List ByteArray} {f : Store} {ob mb : Option Nat} (H : Hw W base h cs m f ob mb) (hb : Below W.heap.size W W') : Hw W' base h cs m f ob mb := by
  obtain ⟨p, c, mv, hr, ho, hm, h4, h5⟩ := H
  refine ⟨p, c, mv, hr.later hb, owns_same ho (fun k hk => hb.block k (ho.lt k hk).2), ?_, h4, h5⟩
  rcases hm with hm | ⟨b, rfl, h1, hM⟩
  · exact .inl hm
  · exact .inr ⟨b, rfl, h1, hM.later (hb.block b hM.lt)⟩
/-- A heap stays where its blocks do. -/
theorem Hw.kept {W W' : World} {base h m : Nat} {cs : List ByteArray} {f : Store} {ob mb : Option Nat} (H : Hw W base h cs m f ob mb) (h1 : W'.heap[h]? = W.heap[h]?) (h2 : ∀ k, ob = some k → W'.heap[k]? = W.heap[k]?) (h3 : ∀ k, mb = some k → W'.heap[k]? = W.heap[k]?) : Hw W' base h cs m f ob mb := by
  obtain ⟨p, c, mv, hr, ho, hm, rfl, rfl⟩ := H
  refine ⟨p, c, _, hr.same h1, owns_same ho h2, ?_, rfl, rfl⟩
  rcases hm with hm | ⟨b, e, h4, hM⟩
  · exact .inl hm
  · exact .inr ⟨b, e, h4, hM.later (h3 b (by cases e; rfl))⟩
theorem Hw.made (w : World) (base : Nat) : Hw (w.alloc (.cells #[.slice none 0 0, .map none] 85)) base w.heap.size [] 0 (fun _ _ => none) none none :=
  ⟨none, 0, .map none, RowAt.new _ _ _, World.ownsRow_nil _ _ _ _, .inl ⟨rfl, rfl⟩, rfl, rfl⟩
set_option maxRecDepth 100000 in
set_option maxHeartbeats 2000000 in
theorem Make_in2 (s : ByteArray) (w : World) (base h m : Nat) (cs : List ByteArray) (f : Store) (ob mb : Option Nat) (hn : cs.length < 10000) (hbase : base ≤ w.heap.size) (H : Hw w base h cs m f ob mb) :
    Calls Tryd.prog 26 #[.pointer (some ⟨h, 0, none⟩), .string s] w fun e w' => e = .returned (.tuple #[val2 3 (cs.length + 1), .int .i64 0]) ∧ ∃ ob', Hw w' base h (cs ++ [s]) m f ob' mb ∧ Tn h ob mb w w' ∧ (ob' = ob ∨ ∃ g, ob' = some g ∧ w.heap.size ≤ g) := by
  have hlt := H.hp.lt
  obtain ⟨p, c, mv, hb, hown, hm, hob, hmb⟩ := H
  obtain ⟨n, hlen⟩ : ∃ n, cs.length = n := ⟨_, rfl⟩
  rw [hlen] at hb hown hn hob ⊢
  have Hob := Lib.hid hob
  have Hmb := Lib.hid hmb
  clear hob hmb
  have Hlen := Lib.hid hlen; clear hlen
  obtain ⟨i0, hi, hz0, hz1, hz2⟩ : ∃ i0, Tryd.prog.info? 9 = some i0 ∧ i0.zero = some (.string ⟨#[]⟩) ∧ i0.size = 1 ∧ i0.bytes = 16 := ⟨_, rfl, by kernel_rfl, by kernel_rfl, by kernel_rfl⟩
  have c0 : w.cell? ⟨h, 0, none⟩ = some (.slice p n c) := hb.cell rfl
  have hge : decide ((10000 : Int) ≤ (n : Int)) = false := by simp; omega
  go_enter Tryd.func26, Tryd.ntmps26
  go_wp2_with (at_builtin; refine wpList_append_lies _ rfl _ _ 39 rfl base 9 i0 (.string ⟨#[]⟩) 1 16 Tryd.underlying39 hi hz0 hz1 hz2 rfl (by decide) (.slice p n c) _ _ rfl ((hown.alloc _).alloc _) ⟨w.heap.size + 1, 0, none⟩ 1 1 [.string s] rfl rfl (cell_one_new2 _ _ _ _) (by simp [Value.oneCell']) (by decide) (by unfold maxLen; omega) (by omega) (by simp; omega) (w.heap.size + 2) (by simp) ?_; intro g' c' w1 hown' hgrow hat _; obtain ⟨p', hp'⟩ : ∃ p', p' = some (⟨g', 0, none⟩ : Addr) := ⟨_, rfl⟩; rw [← hp'] at hown'; rw [← hp']; have r1 : RowAt w1 h 85 #[.slice p n c, mv] := RowAt.same ((hb.alloc _).alloc _) (hgrow.block h (by simp; omega) (own_ne hown hb (by decide))); have c1 : w1.cell? ⟨h, 0, none⟩ = some (.slice p n c) := r1.cell rfl; have f1 := r1.frozen 0; have r2 : RowAt w1 w.heap.size 44 #[.int .i64 0, .int .i64 0] := RowAt.same ((RowAt.new _ _ _).alloc _) (hgrow.block w.heap.size (by simp; omega) (by intro e; have := (hown.lt _ e.symm).2; omega)); have d0 : w1.cell? ⟨w.heap.size, 0, none⟩ = some (.int .i64 0) := r2.cell rfl; have d1 : w1.cell? ⟨w.heap.size, 1, none⟩ = some (.int .i64 0) := r2.cell rfl; have d2 := r2.frozen 0; have d3 := r2.frozen 1)
  subst hp'
  have hhne : w.heap.size ≠ h := by omega
  refine bodyPost_ret (results_cell_row_tmp rfl _ _ w.heap.size 44 #[.int .i64 3, .int .i64 (n + 1)] (0, 0) _ rfl (((r2.other hhne _ _).set 0 _).set 1 _) Tryd.underlying44 rfl rfl) rfl ?_
  have n1 := own_ne hown' r1 (by decide)
  have n2 := own_ne hown' r2 (by decide)
  have hk : ∀ (u : Value) (k : Nat), k ≠ h → k ≠ w.heap.size → (((w1.setCell ⟨h, 0, none⟩ u).setCell ⟨w.heap.size, 0, none⟩ (.int .i64 3)).setCell ⟨w.heap.size, 1, none⟩ (.int .i64 (n + 1))).heap[k]? = w1.heap[k]? := fun u k h1 h2 =>
    ((Below.heap_setCell _ _ _ k (by simpa using h2)).trans (Below.heap_setCell _ _ _ k (by simpa using h2))).trans (Below.heap_setCell _ _ _ k (by simpa using h1))
  have hold : ∀ k, k < w.heap.size → some k ≠ (Value.slice p n c).ownBlock → w1.heap[k]? = w.heap[k]? := fun k h1 h2 => by
    rw [hgrow.block k (by simp; omega) h2, Below.heap_alloc _ _ k (by simp; omega), Below.heap_alloc _ _ k h1]
  refine ⟨rfl, some g', ⟨some ⟨g', 0, none⟩, c', mv, ?_, ?_, ?_, ?_, Hmb.out⟩, ⟨?_, ?_, ?_, ?_, ?_⟩, ?_⟩
  · have hl : (cs ++ [s]).length = n + 1 := by rw [List.length_append, Hlen.out]; rfl
    rw [hl]
    exact ((r1.set 0 _).other (show h ≠ w.heap.size by omega) _ _).other (show h ≠ w.heap.size by omega) _ _
  · have hl : (cs ++ [s]).length = n + 1 := by rw [List.length_append, Hlen.out]; rfl
    rw [hl, List.map_append]
    exact owns_same hown' (fun k e => hk _ k (by rintro rfl; exact n1 e.symm) (by rintro rfl; exact n2 e.symm))
  · rcases hm with hm | ⟨b, rfl, h1, hM⟩
    · exact .inl hm
    · refine .inr ⟨b, rfl, h1, hM.later ?_⟩
      have hl := hM.lt
      have hbh : b ≠ h := by
        rintro rfl
        obtain ⟨D, ⟨es, cl, hb', _⟩, _⟩ := hM
        unfold RowAt at hb
        rw [hb] at hb'
        cases hb'
      have hbo : some b ≠ (Value.slice p n c).ownBlock := by
        intro e
        obtain ⟨D, ⟨es, cl, hb', _⟩, _⟩ := hM
        rcases hown.2 with ⟨e1, _⟩ | ⟨g, cap, cur, e1, _, hg, _⟩
        · rw [e1] at e; cases e
        · rw [e1] at e
          simp [Value.ownBlock] at e
          subst e
          rw [hg] at hb'
          cases hb'
      rw [hk _ b hbh (by omega), hold b hl hbo]
  · rfl
  · exact hgrow.os
  · exact hgrow.tape
  · exact hgrow.output
  · have := hgrow.size
    simp at this ⊢
    omega
  · intro k s1 s2 s3 _
    rw [hk _ k s2 (by omega)]
    exact hold k s1 (by rw [← Hob.out]; exact s3)
  · rcases hat with hat | hat
    · exact .inl (by rw [Hob.out]; exact hat.symm)
    · exact .inr ⟨g', rfl, by omega⟩
/-- Behind a store into the map of a heap. -/
theorem Hw.stored {V V' : World} {base h m bm : Nat} {cs : List ByteArray} {f : Store} {p : Option Addr} {c : Nat} {o a b : Int} {id : ByteArray} {kl : Lit} {D : DataW Unit} (hkl : keyOf Tryd.prog 87 (plc o id) = some kl)
    (hr : RowAt V h 85 (hrow p cs.length c (.map (some bm)))) (ho : V.ownsRow base 9 1 (.slice p cs.length c) cs.length (cs.map Value.string)) (hbm : base ≤ bm)
    (hD : V.ownsMap Tryd.prog 87 valR bm m D) (hk : ∀ o id kl, keyOf Tryd.prog 87 (plc o id) = some kl → Maps.has D kl = (f o id).isSome ∧ D.atKey kl (dat 0 0) = dat ((f o id).getD (0, 0)).1 ((f o id).getD (0, 0)).2)
    (h1 : V'.ownsMap Tryd.prog 87 valR bm (m + 1) (D.put kl (dat a b))) (h2 : V.drew.grownBy V' (some bm)) : Hw V' base h cs (m + 1) (f.set o id (a, b)) (Value.slice p cs.length c).ownBlock (some bm) := by
  have hb' := hD
  obtain ⟨es, cl, hb, _⟩ := hb'
  have hhb : h ≠ bm := by
    rintro rfl
    unfold RowAt at hr
    rw [hr] at hb
    cases hb
  refine ⟨p, c, .map (some bm), hr.same (h2.block h hr.lt (by simpa using hhb)), owns_same ho (fun k hk' => h2.block k (ho.lt k hk').2 ?_), .inr ⟨bm, rfl, hbm, MapHas.put hkl a b hD.isMap hk h1⟩, rfl, rfl⟩
  intro e
  rcases ho.2 with ⟨e1, _⟩ | ⟨g, cap, cur, e1, _, hg, _⟩
  · rw [e1] at hk'; cases hk'
  · rw [e1] at hk'
    simp [Value.ownBlock] at hk'
    subst hk'
    have : g = bm := by simpa using e
    subst this
    rw [hg] at hb
    cases hb

set_option maxRecDepth 100000 in
set_option maxHeartbeats 4000000 in
theorem Set_first2 (k n a b : Int) (hkn : (Lit.int .i64 n).wf = true) (id : ByteArray) (hid : id.size ≤ maxLen) (w : World) (base h m : Nat) (hm : m < maxLen) (cs : List ByteArray) (f : Store) (ob mb : Option Nat) (H : Hw w base h cs m f ob mb) (o : Int) (hw : whereAt cs.length k n = (o, 0)) (hbase : base ≤ w.heap.size)
    (h1 : w.cell? ⟨h, 1, none⟩ = some (.map none)) :
    Calls Tryd.prog 31 #[.pointer (some ⟨h, 0, none⟩), val2 k n, .string id, val2 a b] w fun e w' => e = .returned (.int .i64 0) ∧ ∃ mb', Hw w' base h cs (m + 1) (f.set o id (a, b)) ob mb' ∧ Tn h ob mb w w' ∧ (mb' = mb ∨ ∃ g, mb' = some g ∧ w.heap.size ≤ g) := by
  have hbelow : Below w.heap.size w ((w.alloc (.cells #[.int .i64 k, .int .i64 n] 44)).alloc (.cells #[.int .i64 a, .int .i64 b] 44)) := ((Below.refl _ w).alloc (Nat.le_refl _) _).alloc (by simp) _
  have hH := H.hp.lt
  obtain ⟨p, c, mv, hr0, ho0, hmm0, hob, hmb⟩ := H
  obtain rfl : mv = .map none := by
    have e0 : w.cell? ⟨h, 1, none⟩ = some mv := hr0.cell rfl
    rw [h1] at e0
    exact (Option.some.inj e0).symm
  obtain rfl : f = fun _ _ => none := by
    rcases hmm0 with ⟨_, e⟩ | ⟨b', e, _⟩
    · exact e
    · cases e
  clear hmm0
  obtain rfl : none = mb := by injection hmb
  clear hmb
  have Hob := Lib.hid hob
  clear hob
  have keq := fun (W : World) (r : Option Nat) => run_eql_map_nil (P := Tryd.prog) W 83 87 44 r Tryd.underlying83
  go_enter Tryd.func31, Tryd.ntmps31
  go_wp2_with fail
  refine (At_any k n id _ base h m cs (fun _ _ => none) (Hp.later ⟨p, c, _, hr0, ho0, .inl ⟨rfl, rfl⟩⟩ hbelow)).mono ?_
  rw [hw, show plcOf (o, 0) id = plc o id from rfl]
  rintro e w1 ⟨rfl, hb1⟩
  have r7 : RowAt w1 (w.heap.size + 1) 44 #[.int .i64 a, .int .i64 b] := by
    have := (RowAt.new (w.alloc (.cells #[.int .i64 k, .int .i64 n] 44)) 44 #[.int .i64 a, .int .i64 b]).later hb1
    rw [World.size_alloc] at this
    exact this
  have hb01 : Below w.heap.size w w1 := hbelow.trans (hb1.mono (by simp; omega))
  have hl1 : w.heap.size + 1 < w1.heap.size := r7.lt
  have hr := hr0.later hb01
  have hrl := hr.lt
  have c1w : w1.cell? ⟨h, 1, none⟩ = some (.map none) := hr.cell rfl
  have f1w := hr.frozen 1
  have hwf := whereAt_wf hw hkn
  obtain ⟨kl, hkl⟩ := key_plc o id hwf hid
  obtain ⟨W, hW⟩ : ∃ W, Hid (w1.alloc (.cells #[.int .i64 o, .string id] 87) = W) := ⟨_, rfl⟩
  have hbW : Below w.heap.size w W := by rw [← hW.out]; exact hb01.alloc (by omega) _
  have rW : RowAt W w1.heap.size 87 #[.int .i64 o, .string id] := by rw [← hW.out]; exact RowAt.new _ _ _
  have r7W : RowAt W (w.heap.size + 1) 44 #[.int .i64 a, .int .i64 b] := by rw [← hW.out]; exact r7.alloc _
  have hrW : RowAt W h 85 (hrow p cs.length c (.map none)) := by rw [← hW.out]; exact hr.alloc _
  have hlW := hrW.lt
  have hsW := rW.lt
  have c1 : W.cell? ⟨h, 1, none⟩ = some (.map none) := hrW.cell rfl
  have f1 := hrW.frozen 1
  have hoW : W.ownsRow base 9 1 (.slice p cs.length c) cs.length (cs.map Value.string) := owns_same ho0 (fun k hk => hbW.block k (ho0.lt k hk).2)
  have hh7 : h ≠ w.heap.size + 1 := by omega
  have hh9 : h ≠ w1.heap.size := by omega
  have kmm := @run_makeMap Tryd.prog
  have f2 : ((w1.alloc (.cells #[.int .i64 o, .string id] 87)).alloc (.map #[] 0)).frozen? ⟨h, 1, none⟩ = false := ((hr.alloc _).alloc _).frozen 1
  have c2 : ((w1.alloc (.cells #[.int .i64 o, .string id] 87)).alloc (.map #[] 0)).cell? ⟨h, 1, none⟩ = some (.map none) := ((hr.alloc _).alloc _).cell rfl
  obtain ⟨bm, hbmE⟩ : ∃ x, w1.heap.size + 1 = x := ⟨_, rfl⟩
  have hbm : base ≤ bm := by omega
  obtain ⟨V, hV⟩ : ∃ V, Hid (((w1.alloc (.cells #[.int .i64 o, .string id] 87)).alloc (.map #[] 0)).setCell ⟨h, 1, none⟩ (.map (some bm)) = V) := ⟨_, rfl⟩
  have rV : RowAt V h 85 (hrow p cs.length c (.map (some bm))) := by rw [← hV.out]; exact ((hr.alloc _).alloc _).set 1 _
  have k9 : RowAt V w1.heap.size 87 #[.int .i64 o, .string id] := by
    rw [← hV.out]
    exact ((RowAt.new _ _ _).alloc _).other (Ne.symm hh9) _ _
  have k7 : RowAt V (w.heap.size + 1) 44 #[.int .i64 a, .int .i64 b] := by
    rw [← hV.out]
    exact ((r7.alloc _).alloc _).other (Ne.symm hh7) _ _
  have hVk : ∀ k, k ≠ h → k < w1.heap.size → V.heap[k]? = w1.heap[k]? := fun k h1 h2 => by
    rw [← hV.out, Below.heap_setCell _ _ _ k (by simpa using h1), Below.heap_alloc _ _ k (by simp; omega), Below.heap_alloc _ _ k h2]
  have hoV : V.ownsRow base 9 1 (.slice p cs.length c) cs.length (cs.map Value.string) :=
    owns_same (owns_same ho0 (fun k hk => hb01.block k (ho0.lt k hk).2)) (fun k hk => hVk k (by rintro rfl; exact own_ne ho0 hr0 (by decide) hk.symm) (by have := (ho0.lt k hk).2; omega))
  have hMV : MapHas V bm m (fun _ _ => none) := by
    have hM1 : MapHas ((w1.alloc (.cells #[.int .i64 o, .string id] 87)).alloc (.map #[] 0)) bm m (fun _ _ => none) := by
      obtain ⟨D, ⟨es, cl, e1, e2, e3, e4⟩, hk⟩ := MapHas.made (w1.alloc (.cells #[.int .i64 o, .string id] 87))
      rw [World.size_alloc, hbmE] at e1
      exact ⟨D, ⟨es, cl, e1, e2, by omega, e4⟩, hk⟩
    refine hM1.later ?_
    rw [← hV.out]
    exact Below.heap_setCell _ _ _ bm (by simp; omega)
  have hVt : Tn h ob none w V := by
    refine ⟨?_, ?_, ?_, ?_, fun k hk1 hk2 _ _ => ?_⟩
    · rw [← hV.out]; exact hb01.os
    · rw [← hV.out]; exact hb01.tape
    · rw [← hV.out]; exact hb01.output
    · rw [← hV.out]; simp; omega
    · rw [hVk k hk2 (by omega)]
      exact hb01.block k hk1
  go_wp2_with fail
  rw [hV.out]
  have hlV := rV.lt
  have h7V := k7.lt
  have h9V := k9.lt
  have q1 : V.cell? ⟨h, 1, none⟩ = some (.map (some bm)) := rV.cell rfl
  have q2 : V.cell? ⟨w1.heap.size, 0, none⟩ = some (.int .i64 o) := k9.cell rfl
  have q3 : V.cell? ⟨w1.heap.size, 1, none⟩ = some (.string id) := k9.cell rfl
  have q4 : V.cell? ⟨w.heap.size + 1, 0, none⟩ = some (.int .i64 a) := k7.cell rfl
  have q5 : V.cell? ⟨w.heap.size + 1, 1, none⟩ = some (.int .i64 b) := k7.cell rfl
  obtain ⟨D, hD, hk⟩ := hMV
  obtain ⟨V', hrun, hown', hgrown⟩ := hD.drew.update law87 Tryd.underlying83 hm hkl (valR_mk a b)
  have hfin := Hw.stored hkl rV hoV hbm hD hk hown' hgrown
  have htu : Tn h ob none w V' := by
    refine ⟨hgrown.os.trans hVt.os, hgrown.tape.trans hVt.tape, hgrown.output.trans hVt.output, Nat.le_trans hVt.size hgrown.size, fun k h1 h2 h3 h4 => ?_⟩
    refine (hgrown.block k (Nat.lt_of_lt_of_le h1 hVt.size) ?_).trans (hVt.keep k h1 h2 h3 h4)
    intro e
    have hk_ : k = bm := by simpa using e
    omega
  rw [← Hob.out] at hfin
  have Hbm := Lib.hid (show w.heap.size ≤ bm by omega)
  have Hfin := Lib.hid hfin; clear hfin
  have Htu := Lib.hid htu; clear htu
  clear hown' hgrown hVt rV k9 k7 hoV hD hk hoW hrW r7W rW hr r7 hr0 ho0
  go_region
  all_goals
    go_wp2
    go_ret
    exact ⟨rfl, _, Hfin.out, Htu.out, .inr ⟨_, rfl, Hbm.out⟩⟩

set_option maxRecDepth 100000 in
set_option maxHeartbeats 4000000 in
theorem Set_more2 (k n a b : Int) (hkn : (Lit.int .i64 n).wf = true) (id : ByteArray) (hid : id.size ≤ maxLen) (w : World) (base h m : Nat) (hm : m < maxLen) (cs : List ByteArray) (f : Store) (ob mb : Option Nat) (H : Hw w base h cs m f ob mb) (o : Int) (hw : whereAt cs.length k n = (o, 0)) 
    (bm : Nat) (h1 : w.cell? ⟨h, 1, none⟩ = some (.map (some bm))) :
    Calls Tryd.prog 31 #[.pointer (some ⟨h, 0, none⟩), val2 k n, .string id, val2 a b] w fun e w' => e = .returned (.int .i64 0) ∧ ∃ mb', Hw w' base h cs (m + 1) (f.set o id (a, b)) ob mb' ∧ Tn h ob mb w w' ∧ (mb' = mb ∨ ∃ g, mb' = some g ∧ w.heap.size ≤ g) := by
  have hbelow : Below w.heap.size w ((w.alloc (.cells #[.int .i64 k, .int .i64 n] 44)).alloc (.cells #[.int .i64 a, .int .i64 b] 44)) := ((Below.refl _ w).alloc (Nat.le_refl _) _).alloc (by simp) _
  have hH := H.hp.lt
  obtain ⟨p, c, mv, hr0, ho0, hmm0, hob, hmb⟩ := H
  obtain rfl : mv = .map (some bm) := by
    have e0 : w.cell? ⟨h, 1, none⟩ = some mv := hr0.cell rfl
    rw [h1] at e0
    exact (Option.some.inj e0).symm
  have hM0 : MapHas w bm m f ∧ base ≤ bm := by
    rcases hmm0 with ⟨e, _⟩ | ⟨b', e, e2, e3⟩
    · cases e
    · cases e; exact ⟨e3, e2⟩
  clear hmm0
  obtain rfl : some bm = mb := by injection hmb
  clear hmb
  have Hob := Lib.hid hob
  clear hob
  have keq := fun (W : World) (r : Option Nat) => run_eql_map_nil (P := Tryd.prog) W 83 87 44 r Tryd.underlying83
  go_enter Tryd.func31, Tryd.ntmps31
  go_wp2_with fail
  refine (At_any k n id _ base h m cs f (Hp.later ⟨p, c, _, hr0, ho0, .inr ⟨bm, rfl, hM0.2, hM0.1⟩⟩ hbelow)).mono ?_
  rw [hw, show plcOf (o, 0) id = plc o id from rfl]
  rintro e w1 ⟨rfl, hb1⟩
  have r7 : RowAt w1 (w.heap.size + 1) 44 #[.int .i64 a, .int .i64 b] := by
    have := (RowAt.new (w.alloc (.cells #[.int .i64 k, .int .i64 n] 44)) 44 #[.int .i64 a, .int .i64 b]).later hb1
    rw [World.size_alloc] at this
    exact this
  have hb01 : Below w.heap.size w w1 := hbelow.trans (hb1.mono (by simp; omega))
  have hl1 : w.heap.size + 1 < w1.heap.size := r7.lt
  have hr := hr0.later hb01
  have hrl := hr.lt
  have c1w : w1.cell? ⟨h, 1, none⟩ = some (.map (some bm)) := hr.cell rfl
  have f1w := hr.frozen 1
  have hwf := whereAt_wf hw hkn
  obtain ⟨kl, hkl⟩ := key_plc o id hwf hid
  obtain ⟨W, hW⟩ : ∃ W, Hid (w1.alloc (.cells #[.int .i64 o, .string id] 87) = W) := ⟨_, rfl⟩
  have hbW : Below w.heap.size w W := by rw [← hW.out]; exact hb01.alloc (by omega) _
  have rW : RowAt W w1.heap.size 87 #[.int .i64 o, .string id] := by rw [← hW.out]; exact RowAt.new _ _ _
  have r7W : RowAt W (w.heap.size + 1) 44 #[.int .i64 a, .int .i64 b] := by rw [← hW.out]; exact r7.alloc _
  have hrW : RowAt W h 85 (hrow p cs.length c (.map (some bm))) := by rw [← hW.out]; exact hr.alloc _
  have hlW := hrW.lt
  have hsW := rW.lt
  have c1 : W.cell? ⟨h, 1, none⟩ = some (.map (some bm)) := hrW.cell rfl
  have f1 := hrW.frozen 1
  have hoW : W.ownsRow base 9 1 (.slice p cs.length c) cs.length (cs.map Value.string) := owns_same ho0 (fun k hk => hbW.block k (ho0.lt k hk).2)
  have hh7 : h ≠ w.heap.size + 1 := by omega
  have hh9 : h ≠ w1.heap.size := by omega
  have hMV : MapHas W bm m f := hM0.1.later (hbW.block bm hM0.1.lt)
  have hbm := hM0.2
  have hVt : Tn h ob (some bm) w W := tn_of_below hbW
  have rV := hrW
  have k9 := rW
  have k7 := r7W
  have hoV := hoW
  go_wp2_with fail
  rw [hW.out]
  have hlV := rV.lt
  have h7V := k7.lt
  have h9V := k9.lt
  have q1 : W.cell? ⟨h, 1, none⟩ = some (.map (some bm)) := rV.cell rfl
  have q2 : W.cell? ⟨w1.heap.size, 0, none⟩ = some (.int .i64 o) := k9.cell rfl
  have q3 : W.cell? ⟨w1.heap.size, 1, none⟩ = some (.string id) := k9.cell rfl
  have q4 : W.cell? ⟨w.heap.size + 1, 0, none⟩ = some (.int .i64 a) := k7.cell rfl
  have q5 : W.cell? ⟨w.heap.size + 1, 1, none⟩ = some (.int .i64 b) := k7.cell rfl
  obtain ⟨D, hD, hk⟩ := hMV
  obtain ⟨V', hrun, hown', hgrown⟩ := hD.drew.update law87 Tryd.underlying83 hm hkl (valR_mk a b)
  have hfin := Hw.stored hkl rV hoV hbm hD hk hown' hgrown
  have htu : Tn h ob (some bm) w V' := by
    refine ⟨hgrown.os.trans hVt.os, hgrown.tape.trans hVt.tape, hgrown.output.trans hVt.output, Nat.le_trans hVt.size hgrown.size, fun k h1 h2 h3 h4 => ?_⟩
    refine (hgrown.block k (Nat.lt_of_lt_of_le h1 hVt.size) ?_).trans (hVt.keep k h1 h2 h3 h4)
    intro e
    have hk_ : k = bm := by simpa using e
    exact h4 (by rw [hk_])
  rw [← Hob.out] at hfin
  have Hfin := Lib.hid hfin; clear hfin
  have Htu := Lib.hid htu; clear htu
  clear hown' hgrown hVt rV k9 k7 hoV hD hk hoW hrW r7W rW hr r7 hr0 ho0
  go_region
  all_goals
    go_wp2
    go_ret
    exact ⟨rfl, _, Hfin.out, Htu.out, .inl rfl⟩

theorem Hw.more {W : World} {base h m : Nat} {cs : List ByteArray} {f : Store} {ob mb : Option Nat} (H : Hw W base h cs m f ob mb) : Hw W base h cs (m + 1) f ob mb := by
  obtain ⟨p, c, mv, hr, ho, hmm, h4, h5⟩ := H
  refine ⟨p, c, mv, hr, ho, ?_, h4, h5⟩
  rcases hmm with e | ⟨b, e1, e2, D, ⟨es, cl, x1, x2, x3, x4⟩, hk⟩
  · exact .inl e
  · exact .inr ⟨b, e1, e2, D, ⟨es, cl, x1, x2, by omega, x4⟩, hk⟩
theorem Set_any2 (k n a b : Int) (hkn : (Lit.int .i64 n).wf = true) (id : ByteArray) (hid : id.size ≤ maxLen) (w : World) (base h m : Nat) (hm : m < maxLen) (cs : List ByteArray) (f : Store) (ob mb : Option Nat) (H : Hw w base h cs m f ob mb) (hbase : base ≤ w.heap.size) :
    Calls Tryd.prog 31 #[.pointer (some ⟨h, 0, none⟩), val2 k n, .string id, val2 a b] w fun e w' => e = .returned (.int .i64 (whereAt cs.length k n).2) ∧ ∃ mb', Hw w' base h cs (m + 1) (setOf cs.length f k n id (a, b)) ob mb' ∧ Tn h ob mb w w' ∧ (mb' = mb ∨ ∃ g, mb' = some g ∧ w.heap.size ≤ g) := by
  by_cases he : (whereAt cs.length k n).2 = 0
  · have hs : setOf cs.length f k n id (a, b) = f.set (whereAt cs.length k n).1 id (a, b) := if_pos he
    rw [hs, he]
    have H' := H
    obtain ⟨p, c, mv, hr, ho, hmm, -, -⟩ := H
    rcases hmm with ⟨rfl, _⟩ | ⟨bm, rfl, _⟩
    · exact Set_first2 k n a b hkn id hid w base h m hm cs f ob mb H' _ (whereAt_ok he) hbase (hr.cell rfl)
    · exact Set_more2 k n a b hkn id hid w base h m hm cs f ob mb H' _ (whereAt_ok he) bm (hr.cell rfl)
  · have hs : setOf cs.length f k n id (a, b) = f := if_neg he
    rw [hs]
    refine (Set_err k n a b id w base h m cs f H.hp _ (whereAt_err he) he).mono fun e w' ⟨h1, h2⟩ => ?_
    exact ⟨h1, mb, (H.later h2).more, tn_of_below h2, .inl rfl⟩
end Go.Proofs.YtpaknaaainhgfaaDoor
