/-
  For the laws of decls: the table of files, or the first that is declared twice. Condition: at most 900,000 nodes; sizes as its theorem asks.
-/
import Derived.Test.YtbnbmjdjkadgoaaDoorDo
import Derived.Test.YtbnbmjdjkadgoaaDoorXSi
import Derived.RegionTactic
import Derived.ChangeAlike
namespace Go.Proofs.YtbnbmjdjkadgoaaDoor.D
open Go.RowKit Go.Shelf Go.Maps Go.WideMaps
set_option linter.unusedSimpArgs false
set_option linter.unusedVariables false
/-- A slice that reads as files: rows of nodes. -/
def FilesAt (W : World) (v : Value) (fs : List (List Nd)) : Prop := ∃ (a : Option Addr) (cap : Nat), v = .slice a fs.length cap ∧ fs.length ≤ cap ∧ cap ≤ maxLen ∧
  ∀ (k : Nat) (l : List Nd), fs[k]? = some l → ∃ b off kv, a = some ⟨b, off, none⟩ ∧ W.cell? ⟨b, off + k, none⟩ = some kv ∧ KidsAt W l kv
def total (fs : List (List Nd)) : Nat := (fs.map cntL).sum
theorem total_cons (l : List Nd) (fs : List (List Nd)) : total (l :: fs) = cntL l + total fs := by simp [total]
theorem clsEv_len (file : Int) (n : Nd) : (clsEv file n).length ≤ n.cnt := by
  unfold clsEv
  split
  · have h : ∀ l : List Nd, (l.flatMap (memEv file n.hd.text)).length ≤ cntL l := by
      intro l
      induction l with
      | nil => exact Nat.le_of_eq (by rw [cntL]; rfl)
      | cons x l ih =>
        rw [List.flatMap_cons, List.length_append, cntL]
        have := memEv_len file n.hd.text x
        omega
    rw [List.length_cons]
    have h1 := h n.kids
    have h2 := cnt_kids n
    omega
  · exact Nat.zero_le _
theorem filEv_cons (i : Int) (n : Nd) (l : List Nd) : filEv i (n :: l) = clsEv i n ++ filEv i l := by unfold filEv; rw [List.flatMap_cons]
theorem allEv_at {fs : List (List Nd)} {k : Nat} {l : List Nd} (h : fs[k]? = some l) : allEv k (fs.drop k) = filEv (k : Nat) l ++ allEv (k + 1) (fs.drop (k + 1)) := by
  obtain ⟨hl, rfl⟩ := List.getElem?_eq_some_iff.1 h
  rw [List.drop_eq_getElem_cons hl, allEv]
/-- All is as it should be. -/
structure Tt (W5 wr : World) (N bl bm bt mb : Nat) (R : List En × Option En) (E : List (En × Bool)) (c : Nat) (v' : Value) (ps' : List Pe) : Prop where
  add : AddSt wr N bl bm bt mb v' ps'
  tz : Tz bl bm mb none W5 wr
  ob : v'.ownBlock = none ∨ ∃ g, v'.ownBlock = some g ∧ W5.heap.size ≤ g
  run : R = runs (ps'.map (·.1)) E
  cnt : ps'.length + c ≤ 900000
section
variable {W5 wr W' : World} {N bl bm bt mb : Nat} {R : List En × Option En} {E E' : List (En × Bool)} {c : Nat} {v' v5 : Value} {ps' ps5 : List Pe}
theorem Tt.below (h : Tt W5 wr N bl bm bt mb R E c v' ps') (hb : Below wr.heap.size wr W') : Tt W5 W' N bl bm bt mb R E c v' ps' :=
  ⟨h.add.later hb, tz_drop h.tz hb.size hb.os hb.tape hb.output fun q hq => hb.block q (Nat.lt_of_lt_of_le hq h.tz.size), h.ob, h.run, h.cnt⟩
theorem Tt.next_ {file : Int} {n : Nd} {o : List En} (h : Tt W5 wr N bl bm bt mb R (clsEv file n ++ E) (n.cnt + c) v' ps') (ho : runs (ps'.map (·.1)) (clsEv file n) = (o, none)) (hp : ps5.map (·.1) = o) (ht : Tz bl bm mb v'.ownBlock wr W') (ha : AddSt W' N bl bm bt mb v5 ps5)
    (hob : v5.ownBlock = v'.ownBlock ∨ ∃ g, v5.ownBlock = some g ∧ wr.heap.size ≤ g) : Tt W5 W' N bl bm bt mb R E c v5 ps5 := by
  refine ⟨ha, h.tz.trans ht h.ob, ?_, ?_, ?_⟩
  · rcases hob with hob | ⟨g, h1, h2⟩
    · rw [hob]; exact h.ob
    · exact .inr ⟨g, h1, Nat.le_trans h.tz.size h2⟩
  · rw [h.run, runs_app, ho, hp]
    rfl
  · have h1 := h.cnt
    have h2 := runs_none (out := ps'.map (·.1)) (a := clsEv file n) (by rw [ho])
    rw [ho] at h2
    have h3 := congrArg List.length (hp.trans h2)
    rw [List.length_append, List.length_map, List.length_map, List.length_map] at h3
    have h4 := clsEv_len file n
    omega
theorem Tt.skip {file : Int} {n : Nd} (h : Tt W5 wr N bl bm bt mb R (clsEv file n ++ E) (n.cnt + c) v' ps') (hk : n.hd.kind ≠ 1) : Tt W5 wr N bl bm bt mb R E c v' ps' := by
  refine ⟨h.add, h.tz, h.ob, ?_, by have := h.cnt; omega⟩
  have h1 := h.run
  unfold clsEv at h1
  rw [if_neg (show ¬ kd n = 1 from hk)] at h1
  exact h1
theorem Tt.stop {file : Int} {n : Nd} {o : List En} {e : En} (h : Tt W5 wr N bl bm bt mb R (clsEv file n ++ E) (n.cnt + c) v' ps') (ho : runs (ps'.map (·.1)) (clsEv file n) = (o, some e)) : R = (o, some e) := by
  rw [h.run, runs_app, ho]
  rfl
end
/-- What Table answers. -/
def TableIs (R : List En × Option En) (lo : Nat) (e : Ending) (w' : World) : Prop := match R.2 with
  | none => ∃ v ps, e = .returned (.tuple #[v, .agg #[.int .i64 0, .int .i64 0, .int .i64 0]]) ∧ OwnE lo w' v ps ∧ ps.map (·.1) = R.1
  | some x => e = .returned (.tuple #[.slice none 0 0, .agg #[.int .i64 150, .int .i64 x.file, .int .i64 x.at_]])
theorem three_cells {U : World} {b : Nat} {a0 a1 a2 : Value} (R : RowAt U b 30 #[a0, a1, a2]) (v0 v1 v2 : Value) {V : World} (hV : ((U.setCell ⟨b, 0, none⟩ v0).setCell ⟨b, 1, none⟩ v1).setCell ⟨b, 2, none⟩ v2 = V) :
    RowAt V b 30 #[v0, v1, v2] ∧ V.heap.size = U.heap.size ∧ (∀ q, q ≠ b → V.heap[q]? = U.heap[q]?) ∧ ∀ B, B ≤ b → Below B U V := by
  have R9 := ((R.set 0 v0).set 1 v1).set 2 v2
  simp only [List.setIfInBounds_toArray, List.set_cons_zero, List.set_cons_succ] at R9
  subst hV
  refine ⟨R9, by simp [World.setCell], fun q hq => ?_, fun B hB => ?_⟩
  · iterate 3 rw [Below.heap_setCell _ _ _ q (by simpa using hq)]
  · exact (((Below.refl B U).setCell (p := ⟨b, 0, none⟩) hB v0).setCell (p := ⟨b, 1, none⟩) hB v1).setCell (p := ⟨b, 2, none⟩) hB v2
set_option maxRecDepth 100000 in
set_option maxHeartbeats 64000000 in
theorem Table_any (fs : List (List Nd)) (fv : Value) (w : World) (hf : FilesAt w fv fs)
    (P : Nd → Prop) (hP : ∀ t, P t → t.hd.text.length ≤ 10000000 ∧ t.kids.length ≤ 1000000 ∧ t.cnt ≤ 900000 ∧ ∀ k ∈ t.kids, P k) (hn : ∀ l ∈ fs, ∀ n ∈ l, P n) (hcnt : total fs ≤ 800000) (hpow : Pow w) :
    Calls Tryd.prog 8 #[fv] w fun e w' => TableIs (table fs) w.heap.size e w' ∧ Below w.heap.size w w' := by
  obtain ⟨R, hR⟩ : ∃ R, Hid (table fs = R) := ⟨_, Lib.hid rfl⟩
  rw [hR.out]
  obtain ⟨fa, fc, rfl, hfl, hfc, hfx⟩ := hf
  have HFX := Lib.hid hfx
  obtain ⟨fn, hfn⟩ : ∃ x, Hid (fs.length = x) := ⟨_, Lib.hid rfl⟩
  rw [hfn.out] at hfl ⊢
  unfold maxLen at hfc
  obtain ⟨H, hH⟩ : ∃ x, Hid (w.heap.size = x) := ⟨_, Lib.hid rfl⟩
  obtain ⟨W1, hW1⟩ : ∃ W1, Hid (w.alloc (.cells #[.int .i64 0, .int .i64 0, .int .i64 0] 30) = W1) := ⟨_, Lib.hid rfl⟩
  have S1 : Hid (W1.heap.size = H + 1) := Lib.hid (by rw [← hW1.out, World.size_alloc, hH.out])
  have RH1 : RowAt W1 H 30 #[.int .i64 0, .int .i64 0, .int .i64 0] := by rw [← hW1.out, ← hH.out]; exact RowAt.new w 30 _
  have B1 : Below w.heap.size w W1 := by rw [← hW1.out]; exact (Below.refl _ w).alloc (Nat.le_refl _) _
  obtain ⟨W2, hW2⟩ : ∃ W2, Hid (W1.alloc (.cells #[.slice none 0 0] 27) = W2) := ⟨_, Lib.hid rfl⟩
  have S2 : Hid (W2.heap.size = H + 2) := Lib.hid (by rw [← hW2.out, World.size_alloc, S1.out])
  have RL2 : RowAt W2 (H + 1) 27 #[.slice none 0 0] := by rw [← hW2.out, ← S1.out]; exact RowAt.new W1 27 _
  have B2 : Below W1.heap.size W1 W2 := by rw [← hW2.out]; exact (Below.refl _ W1).alloc (Nat.le_refl _) _
  obtain ⟨W3, hW3⟩ : ∃ W3, Hid (W2.alloc (.cells #[.int .i64 0, .int .i64 0, .int .i64 0] 30) = W3) := ⟨_, Lib.hid rfl⟩
  have S3 : Hid (W3.heap.size = H + 3) := Lib.hid (by rw [← hW3.out, World.size_alloc, S2.out])
  have RM3 : RowAt W3 (H + 2) 30 #[.int .i64 0, .int .i64 0, .int .i64 0] := by rw [← hW3.out, ← S2.out]; exact RowAt.new W2 30 _
  have B3 : Below W2.heap.size W2 W3 := by rw [← hW3.out]; exact (Below.refl _ W2).alloc (Nat.le_refl _) _
  obtain ⟨W5, hW5⟩ : ∃ W5, Hid ((W3.alloc (.map #[] 0)).alloc (.cells #[.map (some (H + 3))] 48) = W5) := ⟨_, Lib.hid rfl⟩
  have S5 : Hid (W5.heap.size = H + 5) := Lib.hid (by rw [← hW5.out, World.size_alloc, World.size_alloc, S3.out])
  have RT5 : RowAt W5 (H + 4) 48 #[.map (some (H + 3))] := by
    have h9 := RowAt.new (W3.alloc (.map #[] 0)) 48 #[.map (some (H + 3))]
    rw [World.size_alloc, S3.out] at h9
    rw [← hW5.out]
    exact h9
  have SM5 : SetHas W5 (H + 3) 0 [] := by
    have h9 := SetHas.made W3
    rw [S3.out] at h9
    rw [← hW5.out]
    exact h9.later (Below.heap_alloc _ _ _ (by rw [World.size_alloc, S3.out]; omega))
  have B5 : Below W3.heap.size W3 W5 := by rw [← hW5.out]; exact ((Below.refl _ W3).alloc (Nat.le_refl _) _).alloc (by simp) _
  have B25 : Below W2.heap.size W2 W5 := B3.trans (B5.mono B3.size)
  have B15 : Below W1.heap.size W1 W5 := B2.trans (B25.mono B2.size)
  have B05 : Hid (Below w.heap.size w W5) := Lib.hid (B1.trans (B15.mono B1.size))
  have RH5 : Hid (RowAt W5 H 30 #[.int .i64 0, .int .i64 0, .int .i64 0]) := Lib.hid (RH1.later B15)
  obtain ⟨bl, hbl⟩ : ∃ x, Hid (H + 1 = x) := ⟨_, Lib.hid rfl⟩
  obtain ⟨bm, hbm⟩ : ∃ x, Hid (H + 2 = x) := ⟨_, Lib.hid rfl⟩
  obtain ⟨mb, hmb⟩ : ∃ x, Hid (H + 3 = x) := ⟨_, Lib.hid rfl⟩
  obtain ⟨bt, hbt⟩ : ∃ x, Hid (H + 4 = x) := ⟨_, Lib.hid rfl⟩
  have A5 : Hid (AddSt W5 (H + 5) bl bm bt mb (.slice none 0 0) []) := Lib.hid (by
    rw [← hbl.out, ← hbm.out, ← hbt.out, ← hmb.out]
    exact ⟨RL2.later B25, RM3.later B5, RT5, OwnE.nil (by rw [S5.out]; exact Nat.le_refl _), ⟨0, Nat.le_refl _, SM5⟩, by omega, by omega, by omega, by omega⟩)
  have T5 : Hid (Tt W5 W5 (H + 5) bl bm bt mb R (allEv 0 (fs.drop 0)) (total (fs.drop 0)) (.slice none 0 0) []) := Lib.hid ⟨A5.out, ⟨rfl, rfl, rfl, Nat.le_refl _, fun _ _ _ _ _ _ => rfl⟩, .inl rfl, by
    rw [← hR.out, List.drop_zero]
    rfl, by rw [List.drop_zero]; show 0 + _ ≤ _; omega⟩
  have HTb : Hid (Tb w.heap.size (H + 5) bl bm bt mb) := Lib.hid (by
    have h1 := hbl.out
    have h2 := hbm.out
    have h3 := hmb.out
    have h4 := hH.out
    exact ⟨by omega, by omega, by omega, by omega⟩)
  have BTZ := Lib.hid (fun (wr : World) (h : Tz bl bm mb none W5 wr) => (show Below w.heap.size w wr from by
    have h1 := B05.out.trans (Tz.below (v := .slice none 0 0) (ps := []) h HTb.out A5.out.own (by rw [S5.out]; have := hH.out; omega))
    exact h1))
  have RHZ := Lib.hid (fun (wr : World) (h : Tz bl bm mb none W5 wr) => (show RowAt wr H 30 #[.int .i64 0, .int .i64 0, .int .i64 0] from by
    have h1 := hbl.out
    have h2 := hbm.out
    have h3 := hmb.out
    exact RH5.out.same (h.keep H RH5.out.lt (by omega) (by omega) (by omega) (by simp))))
  have HP := Lib.hid hP
  have HN := Lib.hid hn
  have HPow := Lib.hid hpow
  have kmm := @run_makeMap Tryd.prog
  clear hfx hP hn hpow hcnt RH1 B1 RL2 B2 RM3 B3 RT5 SM5 B5 B25 B15
  go_enter Tryd.func8, Tryd.ntmps8
  go_upto_region 1 with fail
  rw [hW1.out, hH.out]
  go_upto_region 2 with fail
  rw [hW2.out, S1.out]
  go_upto_region 3 with fail
  rw [hW3.out, S2.out]
  go_upto_region 4 with fail
  rw [S3.out]
  rw [hW5.out, show H + 3 + 1 = bt from hbt.out, hbl.out, hbm.out]
  go_wp2_with fail
  go_loopw [16] (fun c wr => ∃ (k : Nat) (v' : Value) (ps' : List Pe), c = .int .i64 k ∧ k ≤ fn ∧ Hid (Tt W5 wr (H + 5) bl bm bt mb R (allEv k (fs.drop k)) (total (fs.drop k)) v' ps')) (fun c _ => fn - (intOf c).toNat)
  case atStart => exact ⟨0, _, _, rfl, by omega, T5⟩
  case round =>
    clear T5
    obtain ⟨k, v', ps', rfl, hk, hT⟩ := hrel
    by_cases hlt : k < fn
    · obtain ⟨l, hl⟩ : ∃ x, fs[k]? = some x := ⟨_, List.getElem?_eq_getElem (by rw [hfn.out]; exact hlt)⟩
      obtain ⟨fb, fo, lv, hfa, lc, lks⟩ := HFX.out k l hl
      subst hfa
      obtain ⟨la, lcap, hlv, hll, hlcap, hlx⟩ := lks.get
      subst hlv
      have HLX := Lib.hid hlx
      have HNl := Lib.hid (HN.out l (List.mem_of_getElem? hl))
      obtain ⟨ln, hln⟩ : ∃ x, Hid (l.length = x) := ⟨_, Lib.hid rfl⟩
      rw [hln.out] at lc hll
      unfold maxLen at hlcap
      have lcw := ((BTZ.out wr hT.out.tz).cell (p := ⟨fb, fo + k, none⟩) (World.block_lt_of_cell? w _ lc)).trans lc
      have i1 : (0 : Int) ≤ (k : Int) := by omega
      have i2 : (k : Int) < (fn : Int) := by omega
      have hln1 : ln ≤ 900000 := by
        have h1 := hT.out.cnt
        have h2 : fs.drop k = l :: fs.drop (k + 1) := by
          obtain ⟨hh, rfl⟩ := List.getElem?_eq_some_iff.1 hl
          exact List.drop_eq_getElem_cons hh
        rw [h2, total_cons] at h1
        have h3 := cntL_len l
        rw [hln.out] at h3
        omega
      have hT2 : Hid (Tt W5 wr (H + 5) bl bm bt mb R (filEv (k : Nat) (l.drop 0) ++ allEv (k + 1) (fs.drop (k + 1))) (cntL (l.drop 0) + total (fs.drop (k + 1))) v' ps') := Lib.hid (by
        have h1 := hT.out
        have h2 : fs.drop k = l :: fs.drop (k + 1) := by
          obtain ⟨hh, rfl⟩ := List.getElem?_eq_some_iff.1 hl
          exact List.drop_eq_getElem_cons hh
        rw [allEv_at hl] at h1
        rw [h2, total_cons] at h1
        rw [List.drop_zero]
        exact h1)
      obtain ⟨E2, hE2⟩ : ∃ E2, Hid (allEv (k + 1) (fs.drop (k + 1)) = E2) := ⟨_, Lib.hid rfl⟩
      obtain ⟨c2, hc2⟩ : ∃ c2, Hid (total (fs.drop (k + 1)) = c2) := ⟨_, Lib.hid rfl⟩
      rw [hE2.out, hc2.out] at hT2
      clear lks hlx hl lc hT
      go_wp2_with fail
      go_loopw [23] (fun c wr => ∃ (j : Nat) (v' : Value) (ps' : List Pe), c = .int .i64 j ∧ j ≤ ln ∧ Hid (Tt W5 wr (H + 5) bl bm bt mb R (filEv (k : Nat) (l.drop j) ++ E2) (cntL (l.drop j) + c2) v' ps')) (fun c _ => ln - (intOf c).toNat)
      case atStart => exact ⟨0, v', ps', rfl, by omega, hT2⟩
      case round =>
        clear hT2 lcw
        obtain ⟨j, v', ps', rfl, hj, hT⟩ := hrel
        by_cases hlj : j < ln
        · obtain ⟨n, hn⟩ : ∃ x, l[j]? = some x := ⟨_, List.getElem?_eq_getElem (by rw [hln.out]; exact hlj)⟩
          obtain ⟨xb, xo, xv, hla, xcs, xks⟩ := HLX.out j n hn
          subst hla
          have Bw := Lib.hid (BTZ.out wr hT.out.tz)
          obtain ⟨ka, kc, hkv, -⟩ := xks.get
          subst hkv
          have HXK := Lib.hid xks
          obtain ⟨kn, hkn⟩ : ∃ y, Hid (n.kids.length = y) := ⟨_, Lib.hid rfl⟩
          rw [hkn.out] at xcs HXK
          obtain ⟨d0, d1, d2, d3, d4, d5, d6, d7, d8⟩ := xcs.later Bw.out
          obtain ⟨qb, hqb⟩ : ∃ b, Hid (wr.heap.size = b) := ⟨_, Lib.hid rfl⟩
          have j1 : (0 : Int) ≤ (j : Int) := by omega
          have j2 : (j : Int) < (ln : Int) := by omega
          have HPn : Hid (P n) := Lib.hid (HNl.out n (List.mem_of_getElem? hn))
          have hdr : l.drop j = n :: l.drop (j + 1) := drop_at hn
          have hT3 : Tt W5 wr (H + 5) bl bm bt mb R (clsEv (k : Nat) n ++ (filEv (k : Nat) (l.drop (j + 1)) ++ E2)) (n.cnt + (cntL (l.drop (j + 1)) + c2)) v' ps' := by
            have h1 := hT.out
            rw [hdr, filEv_cons, List.append_assoc, cntL, Nat.add_assoc] at h1
            exact h1
          have hpn : ps'.length + 2 + n.cnt ≤ 1000000 := by have := hT3.cnt; omega
          have HT3 := Lib.hid hT3
          clear xcs xks hn hdr hT3 hT
          go_upto_region 11 with fail
          refine X.wp_gen (fun V => RowAt V qb 55 (n.hd.vals (.slice ka kn kc)) ∧ Below wr.heap.size wr V) ⟨X.row_new hqb.out.symm, (Below.refl _ wr).alloc (Nat.le_refl _) _⟩ ?_
          rw [hqb.out]
          rintro V ⟨xq, xB⟩
          have xB' : Below wr.heap.size wr V := by rw [hqb.out]; exact xB
          have HTV := Lib.hid (HT3.out.below xB')
          have BX := Lib.hid (Bw.out.trans (xB'.mono Bw.out.size))
          have c0 : V.cell? ⟨qb, 0, none⟩ = some (.int .i64 n.hd.kind) := xq.cell (j := 0) rfl
          have c1 : V.cell? ⟨qb, 1, none⟩ = some (.string (bs n.hd.text)) := xq.cell (j := 1) rfl
          have c2 : V.cell? ⟨qb, 2, none⟩ = some (.string (bs n.hd.type)) := xq.cell (j := 2) rfl
          have c3 : V.cell? ⟨qb, 3, none⟩ = some (.int .i64 n.hd.n) := xq.cell (j := 3) rfl
          have c4 : V.cell? ⟨qb, 4, none⟩ = some (.int .i64 n.hd.fr) := xq.cell (j := 4) rfl
          have c5 : V.cell? ⟨qb, 5, none⟩ = some (.int .i64 n.hd.to_) := xq.cell (j := 5) rfl
          have c6 : V.cell? ⟨qb, 6, none⟩ = some (.int .i64 n.hd.at_) := xq.cell (j := 6) rfl
          have c7 : V.cell? ⟨qb, 7, none⟩ = some (.int .i64 n.hd.tat) := xq.cell (j := 7) rfl
          have c8 : V.cell? ⟨qb, 8, none⟩ = some (.slice ka kn kc) := xq.cell (j := 8) rfl
          clear d0 d1 d2 d3 d4 d5 d6 d7 d8 xq xB xB' HT3
          by_cases h1 : n.hd.kind = 1
          · have g1 : (n.hd.kind == 1) = true := by simpa using h1
            have CC : Hid (Calls Tryd.prog 22 #[.int .i64 (k : Nat), .agg #[.int .i64 n.hd.kind, .string (bs n.hd.text), .string (bs n.hd.type), .int .i64 n.hd.n, .int .i64 n.hd.fr, .int .i64 n.hd.to_, .int .i64 n.hd.at_, .int .i64 n.hd.tat, .slice ka kn kc], .func (.func 21) #[] #[.pointer (some ⟨bt, 0, none⟩), .pointer (some ⟨bm, 0, none⟩), .pointer (some ⟨bl, 0, none⟩)]] V fun e w' => RunIs V (H + 5) bl bm bt mb v' (runs (ps'.map (·.1)) (clsEv (k : Nat) n)) e w') := Lib.hid (class_any (k : Nat) n ka kn kc w V BX.out HXK.out P HP.out HPn.out h1 (H + 5) bl bm bt mb HTb.out v' ps' HTV.out.add hpn HPow.out)
            clear h1
            go_wp2_with fail
            refine CC.out.mono ?_
            intro e w5 hrun
            cases hr2 : runs (ps'.map (·.1)) (clsEv (k : Nat) n) with
            | mk o y =>
              rw [hr2] at hrun
              cases y with
              | none =>
                obtain ⟨tz5, rfl, v5, ps5, hp5, add5, ob5⟩ := hrun
                have HT5 := Lib.hid (HTV.out.next_ hr2 hp5 tz5 add5 ob5)
                clear tz5 hp5 add5 ob5 hr2
                go_wp2_with fail
                go_roundw
                case rel => exact ⟨j + 1, _, _, by go_num, by omega, HT5⟩
                case measure => simp [intOf]; omega
              | some y =>
                obtain ⟨tz5, rfl, rm5⟩ := hrun
                have HR2 := Lib.hid (HTV.out.stop hr2)
                have htz := HTV.out.tz.trans tz5 HTV.out.ob
                have RH := RHZ.out w5 htz
                have BF := Lib.hid (BTZ.out w5 htz)
                have m0 : w5.cell? ⟨bm, 0, none⟩ = some (.int .i64 150) := rm5.cell rfl
                have m1 : w5.cell? ⟨bm, 1, none⟩ = some (.int .i64 y.file) := rm5.cell rfl
                have m2 : w5.cell? ⟨bm, 2, none⟩ = some (.int .i64 y.at_) := rm5.cell rfl
                have s0 : w5.cell? ⟨H, 0, none⟩ = some (.int .i64 0) := RH.cell rfl
                have s1 : w5.cell? ⟨H, 1, none⟩ = some (.int .i64 0) := RH.cell rfl
                have s2 : w5.cell? ⟨H, 2, none⟩ = some (.int .i64 0) := RH.cell rfl
                have z0 := RH.frozen 0
                have z1 := RH.frozen 1
                have z2 := RH.frozen 2
                have KK := Lib.hid (@three_cells w5 H _ _ _ RH (.int .i64 150) (.int .i64 y.file) (.int .i64 y.at_) _ rfl)
                clear tz5 rm5 hr2 htz RH
                go_wp2_with fail
                go_region
                all_goals
                  go_wp2_with fail
                  exact bodyPost_ret (X.results_tc (P := Tryd.prog) (p := 2) (q := 3) rfl _ _ H 30 _ (0, 0) _ rfl KK.out.1 Tryd.underlying30 rfl rfl) rfl ⟨by rw [HR2.out]; exact rfl, below_drew (BF.out.trans (KK.out.2.2.2 _ (by have := hH.out; omega)))⟩
          · have g1 : (n.hd.kind == 1) = false := by rw [beq_eq_false_iff_ne]; exact h1
            have HT5 := Lib.hid (HTV.out.skip h1)
            clear h1
            go_wp2_with fail
            go_roundw
            case rel => exact ⟨j + 1, _, _, by go_num, by omega, HT5⟩
            case measure => simp [intOf]; omega
        · obtain rfl : j = ln := by omega
          have hT4 : Hid (Tt W5 wr (H + 5) bl bm bt mb R (allEv (k + 1) (fs.drop (k + 1))) (total (fs.drop (k + 1))) v' ps') := Lib.hid (by
            have h1 := hT.out
            rw [List.drop_eq_nil_of_le (by rw [hln.out]; exact Nat.le_refl _), cntL, Nat.zero_add] at h1
            rw [hE2.out, hc2.out]
            exact h1)
          go_wp2_with fail
          go_roundw
          case rel => exact ⟨k + 1, v', ps', by go_num, by omega, hT4⟩
          case measure => simp [intOf]; omega
    · obtain rfl : k = fn := by omega
      have hRf : Hid (R = (ps'.map (·.1), none)) := Lib.hid (by
        have h1 := hT.out.run
        rw [List.drop_eq_nil_of_le (by rw [hfn.out]; exact Nat.le_refl _)] at h1
        exact h1)
      have RH := RHZ.out wr hT.out.tz
      have BF := Lib.hid (BTZ.out wr hT.out.tz)
      have rm5 := hT.out.add.rm
      have m0 : wr.cell? ⟨bm, 0, none⟩ = some (.int .i64 0) := rm5.cell rfl
      have m1 : wr.cell? ⟨bm, 1, none⟩ = some (.int .i64 0) := rm5.cell rfl
      have m2 : wr.cell? ⟨bm, 2, none⟩ = some (.int .i64 0) := rm5.cell rfl
      have l0 : wr.cell? ⟨bl, 0, none⟩ = some v' := hT.out.add.rl.cell rfl
      have s0 : wr.cell? ⟨H, 0, none⟩ = some (.int .i64 0) := RH.cell rfl
      have s1 : wr.cell? ⟨H, 1, none⟩ = some (.int .i64 0) := RH.cell rfl
      have s2 : wr.cell? ⟨H, 2, none⟩ = some (.int .i64 0) := RH.cell rfl
      have z0 := RH.frozen 0
      have z1 := RH.frozen 1
      have z2 := RH.frozen 2
      have KK := Lib.hid (@three_cells wr H _ _ _ RH (.int .i64 0) (.int .i64 0) (.int .i64 0) _ rfl)
      have HOW : Hid (∀ V : World, V.heap.size = wr.heap.size → (∀ q, q ≠ H → V.heap[q]? = wr.heap[q]?) → OwnE w.heap.size V v' ps') := Lib.hid (fun V h1 h2 => by
        refine (owns_on hT.out.add.own (Nat.le_of_eq h1.symm) fun b _ _ hE => h2 b ?_).low (by have := hH.out; omega)
        rintro rfl
        obtain ⟨cs, t, fr, q1, q2⟩ := hE
        unfold RowAt at RH
        rw [RH] at q1
        cases q1
        rcases q2 with q2 | q2 <;> exact absurd q2 (by decide))
      clear rm5 RH
      go_wp2_with fail
      go_region
      all_goals
        go_wp2_with fail
        exact bodyPost_ret (X.results_tc (P := Tryd.prog) (p := 2) (q := 3) rfl _ _ H 30 _ (0, 0) _ rfl KK.out.1 Tryd.underlying30 rfl rfl) rfl ⟨by rw [hRf.out]; exact ⟨_, ps', rfl, HOW.out _ KK.out.2.1 KK.out.2.2.1, rfl⟩, below_drew (BF.out.trans (KK.out.2.2.2 _ (by have := hH.out; omega)))⟩
end Go.Proofs.YtbnbmjdjkadgoaaDoor.D
