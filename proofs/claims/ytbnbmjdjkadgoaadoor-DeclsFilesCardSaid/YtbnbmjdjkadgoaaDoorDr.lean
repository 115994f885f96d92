/-
  For the laws of decls: the classes of texts. Condition: none but the law's own.
-/
import Derived.Test.YtbnbmjdjkadgoaaDoorDp
import Derived.Test.YtbnbmjdjkadgoaaDoorXLe
namespace Go.Proofs.YtbnbmjdjkadgoaaDoor.D
open Go.RowKit Go.Shelf Go.Maps Go.WideMaps
set_option linter.unusedSimpArgs false
set_option linter.unusedVariables false
theorem infoRows : (Tryd.prog.info? 42).map (fun i => (i.zero, i.size, i.bytes)) = some (some (.slice none 0 0), 1, 24) := by kernel_rfl
/-- A text's classes are no more than its bytes. -/
theorem file_cnt (s : ByteArray) (hs : s.size ≤ 1048576) : cntL (X.fileR (tl s)).1 ≤ 1048577 := by
  unfold X.fileR
  by_cases h0 : (X.lexR 0 (tl s)).2.2 = 0
  · rw [if_neg (by simpa using h0)]
    have hG := X.goodT_lex s hs h0
    have hok := (X.filL_ok hG.e (X.fuelT (X.lexR 0 (tl s)).1) 0 [] hG.e.pos).2
    have hlen := hG.len
    generalize X.filLF (X.fuelT (X.lexR 0 (tl s)).1) (X.lexR 0 (tl s)).1 0 [] = q at hok
    unfold X.fileQ
    match q with
    | none => simp [cntL]
    | some (.bad p c) => simp [cntL]
    | some (.ok l m) =>
      obtain ⟨k1, k2, k3⟩ := hok l m rfl
      simp only
      cases l.find? (fun n => decide (200 < n.ht)) with
      | some n => simp [cntL]
      | none => simp only [cntL] at k3 ⊢; omega
  · rw [if_pos h0]
    simp [cntL]
/-- A row of files, each at rest on blocks of its own. -/
structure FsOwn (W : World) (base : Nat) (u : Value) (fs : List (List Nd × Value)) : Prop where
  row : W.ownsRow base 42 1 u fs.length (fs.map (·.2))
  bas : base ≤ W.heap.size
  sup : ∀ p ∈ fs, ∃ lo F, Sup W lo p.1 p.2 F ∧ ∀ b, F b → u.ownBlock ≠ some b
theorem FsOwn.below {W W' : World} {base : Nat} {u : Value} {fs : List (List Nd × Value)} (h : FsOwn W base u fs) (hb : Below W.heap.size W W') : FsOwn W' base u fs :=
  ⟨own_below h.row hb, Nat.le_trans h.bas hb.size, fun p hp => by
    obtain ⟨lo, F, h1, h2⟩ := h.sup p hp
    exact ⟨lo, F, h1.below hb, h2⟩⟩
theorem FsOwn.files {W : World} {base : Nat} {u : Value} {fs : List (List Nd × Value)} (h : FsOwn W base u fs) : FilesAt W u (fs.map (·.1)) := by
  rcases h.row.2 with ⟨rfl, h0⟩ | ⟨g, cap, cur, rfl, _, hg, h1, h2, h3, h4⟩
  · have : fs = [] := List.length_eq_zero_iff.1 h0
    subst this
    exact ⟨none, 0, rfl, Nat.le_refl _, Nat.zero_le _, fun k l hk => by simp at hk⟩
  · refine ⟨some ⟨g, 0, none⟩, cap, by rw [List.length_map], by rw [List.length_map]; exact h1, h2, fun k l hk => ?_⟩
    rw [List.getElem?_map] at hk
    cases hp : fs[k]? with
    | none => rw [hp] at hk; cases hk
    | some p =>
      rw [hp] at hk
      obtain rfl := Option.some.inj hk
      have hkl := (List.getElem?_eq_some_iff.1 hp).1
      obtain ⟨lo, F, hs, -⟩ := h.sup p (List.mem_of_getElem? hp)
      refine ⟨g, 0, p.2, rfl, ?_, hs.kids⟩
      have : (fs.map (·.2))[k]? = some p.2 := by rw [List.getElem?_map, hp]; rfl
      rw [← h4, List.getElem?_take_of_lt (by omega)] at this
      rw [Nat.zero_add]
      simp [World.cell?, hg]
      simpa using this
theorem fs_snoc {W w' : World} {base n g cap : Nat} {u : Value} {fs : List (List Nd × Value)} {p : List Nd × Value} {lo : Nat} {F : Nat → Prop} (h : FsOwn W base u fs) (hp : Sup W lo p.1 p.2 F) (hF : ∀ b, F b → u.ownBlock ≠ some b)
    (hown : w'.ownsRow base 42 1 (.slice (some ⟨g, 0, none⟩) n cap) (fs.length + 1) (fs.map (·.2) ++ [p.2])) (hgrow : W.grownBy w' u.ownBlock) (hat : u.ownBlock = some g ∨ g = W.heap.size) : FsOwn w' base (.slice (some ⟨g, 0, none⟩) n cap) (fs ++ [p]) := by
  have hs := hgrow.size
  have one : ∀ (q : List Nd × Value) (lo : Nat) (G : Nat → Prop), Sup W lo q.1 q.2 G → (∀ b, G b → u.ownBlock ≠ some b) → ∃ lo G', Sup w' lo q.1 q.2 G' ∧ ∀ b, G' b → (Value.slice (some ⟨g, 0, none⟩) n cap).ownBlock ≠ some b := fun q lo G hq hG => by
    refine ⟨lo, G, hq.keep hs fun b hb => hgrow.block b (hq.1 b hb).2 fun e => hG b hb e.symm, fun b hb e => ?_⟩
    obtain rfl : g = b := Option.some.inj e
    rcases hat with h1 | h1
    · exact hG _ hb h1
    · have := (hq.1 _ hb).2; omega
  refine ⟨by rw [List.length_append, List.map_append]; exact hown, Nat.le_trans h.bas hs, fun q hq => ?_⟩
  rcases List.mem_append.1 hq with hq | hq
  · obtain ⟨lo, G, h1, h2⟩ := h.sup q hq
    exact one q lo G h1 h2
  · obtain rfl := List.mem_singleton.1 hq
    exact one q lo F hp hF
theorem File_sup (s : ByteArray) (w : World) (hs : s.size ≤ 1048576) : Calls Tryd.prog 16 #[.string s] w fun e w' => (∃ (v : Value) (c at0 : Int) (F : Nat → Prop), e = .returned (.tuple #[v, .agg #[.int .i64 c, .int .i64 0, .int .i64 at0]]) ∧ Sup w' w.heap.size (X.fileR (tl s)).1 v F) ∧ Below w.heap.size w w' := by
  refine (X.file_any s w hs).mono ?_
  rintro e w' ⟨⟨v, ps, rfl, ho, hp⟩, hb⟩
  obtain ⟨F, hF⟩ := ho.sup
  rw [hp] at hF
  exact ⟨⟨v, _, _, F, rfl, hF⟩, hb⟩
theorem own_slice' {W : World} {base e size n : Nat} {v : Value} {xs : List Value} (h : W.ownsRow base e size v n xs) : ∃ p c, v = .slice p n c := by
  rcases h.2 with ⟨rfl, rfl⟩ | ⟨g, cap, cur, rfl, _⟩
  · exact ⟨_, _, rfl⟩
  · exact ⟨_, _, rfl⟩
/-- The classes of texts. -/
def filesR (ss : List B8) : List (List Nd) := ss.map fun s => (X.fileR s).1
def okTexts (ss : List B8) : Bool := decide (ss.length ≤ 6) && ss.all fun s => decide (s.length ≤ 1500)
/-- What parsed answers. -/
def ParsedIs (ss : List B8) (w : World) (e : Ending) (w' : World) : Prop :=
  if okTexts ss then ∃ u fs, e = .returned (.tuple #[u, .bool true]) ∧ FsOwn w' w.heap.size u fs ∧ fs.map (·.1) = filesR ss else e = .returned (.tuple #[.slice none 0 0, .bool false])
theorem ParsedIs.no {ss : List B8} {w w' : World} (h : okTexts ss = false) : ParsedIs ss w (.returned (.tuple #[.slice none 0 0, .bool false])) w' := by unfold ParsedIs; rw [if_neg (by rw [h]; exact Bool.false_ne_true)]
set_option maxRecDepth 100000 in
set_option maxHeartbeats 16000000 in
theorem parsed_any (v : Value) (ss : List B8) (w : World) (h : StrsAt w v ss) : Calls Tryd.prog 7 #[v] w fun e w' => ParsedIs ss w e w' ∧ Below w.heap.size w w' := by
  obtain ⟨a, cap, rfl, hc, hcap, hx⟩ := h
  have HX := Lib.hid hx
  clear hx
  obtain ⟨n, hn⟩ : ∃ n, Hid (ss.length = n) := ⟨_, Lib.hid rfl⟩
  rw [hn.out] at hc ⊢
  unfold maxLen at hcap
  obtain ⟨i0, hi, hz0, hz1, hz2⟩ := info_parts infoRows
  by_cases h6 : 6 < n
  · have f6 : decide ((n : Int) > 6) = true := decide_eq_true (by omega)
    have f6' : decide (6 < n) = true := decide_eq_true h6
    have hno : Hid (okTexts ss = false) := Lib.hid (by unfold okTexts; rw [hn.out, decide_eq_false (by omega)]; rfl)
    clear h6
    go_enter Tryd.func7, Tryd.ntmps7
    go_wp2_with fail
    go_ret2
    exact ⟨ParsedIs.no hno.out, Below.refl _ _⟩
  · have f6 : decide ((n : Int) > 6) = false := decide_eq_false (by omega)
    have f6' : decide (6 < n) = false := decide_eq_false h6
    have hn6 : n ≤ 6 := by omega
    have O1 : Hid (FsOwn w w.heap.size (.slice none 0 0) []) := Lib.hid ⟨World.ownsRow_nil _ _ _ _, Nat.le_refl _, fun p hp => by cases hp⟩
    clear h6
    go_enter Tryd.func7, Tryd.ntmps7
    go_wp2_with fail
    go_loopw [4, 5] (fun u z wr => ∃ (i : Nat) (fs : List (List Nd × Value)) (au : Option Addr) (cu : Nat), u = .slice au i cu ∧ z = .int .i64 i ∧ i ≤ n ∧ Hid (fs.length = i) ∧ Hid (fs.map (·.1) = filesR (ss.take i)) ∧ Hid ((ss.take i).all (fun s => decide (s.length ≤ 1500)) = true) ∧ Hid (FsOwn wr w.heap.size u fs) ∧ Hid (Below w.heap.size w wr)) (fun _ z _ => n - (intOf z).toNat)
    case atStart => exact ⟨0, [], none, 0, rfl, rfl, Nat.zero_le _, Lib.hid rfl, Lib.hid rfl, Lib.hid rfl, O1, Lib.hid (Below.refl _ _)⟩
    case round =>
      clear O1
      obtain ⟨i, fs, au, cu, rfl, rfl, hi_, hfl, hfs, hall, hO, hB⟩ := hrel
      have hso := hB.out.size
      by_cases hlt : i < n
      · obtain ⟨s, hs⟩ : ∃ s, ss[i]? = some s := ⟨_, List.getElem?_eq_getElem (by rw [hn.out]; exact hlt)⟩
        obtain ⟨g, o, rfl, c0⟩ := HX.out i s hs
        have hc0 : wr.cell? ⟨g, o + i, none⟩ = some (.string (bs s)) := (hB.out.cell (p := ⟨g, o + i, none⟩) (World.block_lt_of_cell? w _ c0)).trans c0
        have i1 : (i : Int) < (n : Int) := by omega
        have i0' : (0 : Int) ≤ (i : Int) := by omega
        have htk : Hid (ss.take (i + 1) = ss.take i ++ [s]) := Lib.hid (by rw [List.take_add_one, hs]; rfl)
        have hmem : Hid (s ∈ ss) := Lib.hid (List.mem_of_getElem? hs)
        obtain ⟨S, hS⟩ : ∃ S, Hid (bs s = S) := ⟨_, Lib.hid rfl⟩
        have hSs : Hid (s.length = S.size) := Lib.hid (by rw [← hS.out, bs_size])
        have hSt : Hid (tl S = s) := Lib.hid (by rw [← hS.out, tl_bs])
        rw [hS.out] at hc0
        clear hs c0
        by_cases h15 : 1500 < S.size
        · have f15 : decide ((S.size : Int) > 1500) = true := decide_eq_true (by omega)
          have f15' : decide (1500 < S.size) = true := decide_eq_true h15
          have hno : Hid (okTexts ss = false) := Lib.hid (by
            unfold okTexts
            rw [Bool.and_eq_false_iff]
            right
            rw [List.all_eq_false]
            exact ⟨s, hmem.out, by have := hSs.out; simp; omega⟩)
          clear h15
          go_wp2_with fail
          go_ret2
          exact ⟨ParsedIs.no hno.out, hB.out⟩
        · have f15 : decide ((S.size : Int) > 1500) = false := decide_eq_false (by omega)
          have f15' : decide (1500 < S.size) = false := decide_eq_false h15
          have hS15 : S.size ≤ 1048576 := by omega
          have hall2 : Hid ((ss.take (i + 1)).all (fun s => decide (s.length ≤ 1500)) = true) := Lib.hid (by
            rw [htk.out, List.all_append, hall.out]
            have := hSs.out
            simp
            omega)
          have call := Lib.hid (File_sup S wr hS15)
          rw [hSt.out] at call
          obtain ⟨l, hl⟩ : ∃ l, Hid ((X.fileR s).1 = l) := ⟨_, Lib.hid rfl⟩
          have hfs2 : Hid (∀ fv : Value, (fs ++ [(l, fv)]).map (·.1) = filesR (ss.take (i + 1))) := Lib.hid (fun fv => by
            rw [htk.out, List.map_append, hfs.out]
            unfold filesR
            rw [List.map_append, ← hl.out]
            rfl)
          rw [hl.out] at call
          clear h15
          go_wp2_with fail
          refine call.out.mono ?_
          rintro e w2 ⟨⟨fv, c, at0, F, rfl, hsup⟩, b2⟩
          obtain ⟨af, cf, rfl, -⟩ := hsup.kids.get
          have HS2 := Lib.hid hsup
          have O2 := Lib.hid (hO.out.below b2)
          have B2 := Lib.hid (hB.out.trans (b2.mono hso))
          have hs2 := b2.size
          clear hsup b2 call
          obtain ⟨nf, hnf⟩ : ∃ n, Hid (l.length = n) := ⟨_, Lib.hid rfl⟩
          rw [hnf.out] at HS2
          rw [hnf.out]
          go_upto_region 10 with fail
          refine YtbnbmjdjkadgoaaDoor.X.wp_gen (fun W => Below w2.heap.size w2 W) ((Below.refl _ w2).alloc (Nat.le_refl _) _) ?_
          intro W3 b3
          have HS3 := Lib.hid (HS2.out.below b3)
          have O3 := Lib.hid (O2.out.below b3)
          have B3 := Lib.hid (B2.out.trans (b3.mono B2.out.size))
          have hs3 := b3.size
          clear b3
          have bA : Hid (Below W3.heap.size W3 (W3.alloc (.cells #[.slice af nf cf] 42))) := Lib.hid ((Below.refl _ W3).alloc (Nat.le_refl _) _)
          have OA := Lib.hid (O3.out.below bA.out)
          have SA := Lib.hid (HS3.out.below bA.out)
          have OR := Lib.hid O3.out.row
          rw [hfl.out] at OR
          have hbs3 := O3.out.bas
          go_wp2_with (at_builtin; refine wpList_append_lies _ rfl _ _ 24 rfl w.heap.size 42 i0 _ 1 24 Tryd.underlying24 hi hz0 hz1 hz2 rfl (by decide) (.slice au i cu) i (fs.map (·.2)) rfl (OR.out.alloc _) ⟨W3.heap.size, 0, none⟩ 1 1 [.slice af nf cf] rfl rfl (World.news_of_block (heap_alloc_new W3 _)) (by simp [Value.oneCell']) (by decide) (by unfold maxLen; omega) (by omega) (by simp; omega) (W3.heap.size + 1) (by simp) ?_; intro g9 c9 w9 hown9 hg9 hor9 _)
          have O9 : Hid (FsOwn w9 w.heap.size (.slice (some ⟨g9, 0, none⟩) (i + 1) c9) (fs ++ [(l, .slice af nf cf)])) := Lib.hid (by
            refine fs_snoc (p := (l, .slice af nf cf)) OA.out SA.out (fun b hb e => ?_) (by rw [hfl.out]; exact hown9) hg9 (by rw [World.size_alloc]; exact hor9)
            have h1 := (SA.out.1 b hb).1
            have h2 := (hO.out.row.lt b e).2
            omega)
          have B9 : Hid (Below w.heap.size w w9) := Lib.hid (((B3.out.alloc B3.out.size _)).grown hg9 (by simp; have := B3.out.size; omega) (fun b e => by have := (hO.out.row.lt b e).1; omega))
          clear hown9 hg9 hor9
          go_wp2_with fail
          go_roundw
          case rel => exact ⟨i + 1, fs ++ [(l, .slice af nf cf)], _, c9, rfl, by go_num, by omega, Lib.hid (by rw [List.length_append, hfl.out]; rfl), Lib.hid (hfs2.out _), hall2, O9, B9⟩
          case measure => simp [intOf]; omega
      · obtain rfl : i = n := by omega
        have hfin : Hid (okTexts ss = true ∧ fs.map (·.1) = filesR ss) := Lib.hid (by
          have h1 := hall.out
          have h2 := hfs.out
          rw [List.take_of_length_le (Nat.le_of_eq hn.out)] at h1 h2
          refine ⟨?_, h2⟩
          unfold okTexts
          rw [hn.out, h1, decide_eq_true hn6]
          rfl)
        go_wp2_with fail
        go_ret2
        refine ⟨?_, hB.out⟩
        unfold ParsedIs
        rw [if_pos hfin.out.1]
        exact ⟨_, fs, rfl, hO.out, hfin.out.2⟩
end Go.Proofs.YtbnbmjdjkadgoaaDoor.D
/-
  For the laws of decls: the entities that one owns. Condition: at most 1,000,000 entities; none has more than 100,000,000 parameters.
-/
namespace Go.Proofs.YtbnbmjdjkadgoaaDoor.D
open Go.RowKit Go.Shelf Go.Maps Go.WideMaps
set_option linter.unusedSimpArgs false
set_option linter.unusedVariables false
def ofE (l : List En) (o : B8) : List En := l.filter fun e => e.owner == o && !o.isEmpty
theorem of_yes {l : List En} {k : Nat} {u : En} {o : B8} (h : l[k]? = some u) (h1 : u.owner = o) (h2 : o ≠ []) : ofE (l.take (k + 1)) o = ofE (l.take k) o ++ [u] := by
  unfold ofE
  rw [List.take_add_one, h, List.filter_append]
  cases o with
  | nil => exact absurd rfl h2
  | cons a o => simp [h1]
theorem of_no {l : List En} {k : Nat} {u : En} {o : B8} (h : l[k]? = some u) (h1 : u.owner ≠ o) : ofE (l.take (k + 1)) o = ofE (l.take k) o := by
  unfold ofE
  rw [List.take_add_one, h, List.filter_append]
  simp [h1]
theorem of_nil {l : List En} {o : B8} (h2 : o = []) : ofE l o = [] := by
  unfold ofE
  subst h2
  simp
theorem of_le (l : List En) (o : B8) (k : Nat) : (ofE (l.take k) o).length ≤ l.length := by
  unfold ofE
  exact Nat.le_trans (List.length_filter_le _ _) (by rw [List.length_take]; omega)
set_option maxRecDepth 100000 in
set_option maxHeartbeats 16000000 in
theorem Of_any (w : World) (v : Value) (l : List En) (h : EnsAt w v l) (hp : ∀ e ∈ l, e.params.length ≤ 100000000) (hl : l.length ≤ 1000000) (owner : ByteArray) :
    Calls Tryd.prog 14 #[v, .string owner] w fun e w' => (∃ v' ps, e = .returned v' ∧ OwnE w.heap.size w' v' ps ∧ ps.map (·.1) = ofE l (tl owner)) ∧ Below w.heap.size w w' := by
  obtain ⟨a, cap, rfl, hc, hcm, hx⟩ := h
  have Hx := Lib.hid hx
  have HP := Lib.hid hp
  clear hx hp
  obtain ⟨n, hn⟩ : ∃ n, Hid (l.length = n) := ⟨_, Lib.hid rfl⟩
  rw [hn.out] at hc hl ⊢
  obtain ⟨r, hr⟩ : ∃ r, Hid (ofE l (tl owner) = r) := ⟨_, Lib.hid rfl⟩
  rw [hr.out]
  unfold maxLen at hcm
  obtain ⟨i0, hi, hz0, hz1, hz2⟩ := info_parts infoEnt
  obtain ⟨be, hbe⟩ : ∃ b, (owner.toList == []) = b := ⟨_, rfl⟩
  have hbe2 : owner.toList.isEmpty = be := by rw [← hbe]; cases owner.toList <;> rfl
  have HBE : Hid (be = true → tl owner = []) := Lib.hid (fun h => by rw [h] at hbe; rw [beq_iff_eq, Lib.toList_data] at hbe; exact hbe)
  have HBF : Hid (be = false → tl owner ≠ []) := Lib.hid (fun h h2 => by rw [h] at hbe; rw [beq_eq_false_iff_ne, Lib.toList_data] at hbe; exact hbe h2)
  have O0 : Hid (OwnE w.heap.size w (.slice none 0 0) []) := Lib.hid (OwnE.nil (Nat.le_refl _))
  go_enter Tryd.func14, Tryd.ntmps14
  go_wp2_with fail
  go_loopw [5, 10] (fun u c wr => ∃ (k m : Nat) (ps : List Pe) (va : Option Addr) (vc : Nat), u = .slice va m vc ∧ c = .int .i64 k ∧ k ≤ n ∧ m ≤ n ∧ Hid (ps.length = m) ∧ Hid (ps.map (·.1) = ofE (l.take k) (tl owner)) ∧ Hid (OwnE w.heap.size wr u ps) ∧ Hid (Below w.heap.size w wr)) (fun _ c _ => n - (intOf c).toNat)
  case atStart => exact ⟨0, 0, [], none, 0, rfl, rfl, by omega, by omega, Lib.hid rfl, Lib.hid rfl, O0, Lib.hid (Below.refl _ _)⟩
  case round =>
    clear O0
    obtain ⟨k, m, ps, va, vc, rfl, rfl, hk, hm, hpl, hps, hO, hB⟩ := hrel
    have hsw := hB.out.size
    by_cases hlt : k < n
    · obtain ⟨u, hu⟩ : ∃ x, l[k]? = some x := ⟨_, List.getElem?_eq_getElem (by rw [hn.out]; exact hlt)⟩
      obtain ⟨b, off, pv, rfl, cs, hst⟩ := Hx.out k u hu
      obtain ⟨pa, pc, hpv, -⟩ : ∃ a c, pv = .slice a u.params.length c ∧ True := by obtain ⟨a, c, h, _⟩ := hst; exact ⟨a, c, h, trivial⟩
      subst hpv
      have HST := Lib.hid hst
      have HUP := Lib.hid (HP.out u (List.mem_of_getElem? hu))
      obtain ⟨pn, hpn⟩ : ∃ x, Hid (u.params.length = x) := ⟨_, Lib.hid rfl⟩
      rw [hpn.out] at cs HST
      obtain ⟨d0, d1, d2, d3, d4, d5, d6, d7, d8⟩ := cs.same fun j _ => hB.out.cell (p := ⟨b, off + k * 9 + j, none⟩) cs.lt
      have HU := Lib.hid hu
      have i1 : (0 : Int) ≤ (k : Int) := by omega
      have i2 : (k : Int) < (n : Int) := by omega
      obtain ⟨qb, hqb⟩ : ∃ x, Hid (wr.heap.size = x) := ⟨_, Lib.hid rfl⟩
      clear cs hst hu
      go_upto_region 5 with fail
      refine X.wp_gen (fun V => RowAt V qb 34 #[.int .i64 u.kind, .string (bs u.id), .string (bs u.name), .string (bs u.owner), .string (bs u.type), .bool u.stat, .slice pa pn pc, .int .i64 u.file, .int .i64 u.at_] ∧ Below wr.heap.size wr V) ⟨X.row_new hqb.out.symm, (Below.refl _ _).alloc (Nat.le_refl _) _⟩ ?_
      rw [hqb.out]
      rintro V ⟨rq, bv_⟩
      have bv2 : Below wr.heap.size wr V := by rw [hqb.out]; exact bv_
      have OV := Lib.hid (hO.out.below bv2)
      have BV := Lib.hid (hB.out.trans (bv2.mono hsw))
      have c0 : V.cell? ⟨qb, 0, none⟩ = some (.int .i64 u.kind) := rq.cell rfl
      have c1 : V.cell? ⟨qb, 1, none⟩ = some (.string (bs u.id)) := rq.cell rfl
      have c2 : V.cell? ⟨qb, 2, none⟩ = some (.string (bs u.name)) := rq.cell rfl
      have c3 : V.cell? ⟨qb, 3, none⟩ = some (.string (bs u.owner)) := rq.cell rfl
      have c4 : V.cell? ⟨qb, 4, none⟩ = some (.string (bs u.type)) := rq.cell rfl
      have c5 : V.cell? ⟨qb, 5, none⟩ = some (.bool u.stat) := rq.cell rfl
      have c6 : V.cell? ⟨qb, 6, none⟩ = some (.slice pa pn pc) := rq.cell rfl
      have c7 : V.cell? ⟨qb, 7, none⟩ = some (.int .i64 u.file) := rq.cell rfl
      have c8 : V.cell? ⟨qb, 8, none⟩ = some (.int .i64 u.at_) := rq.cell rfl
      clear d0 d1 d2 d3 d4 d5 d6 d7 d8 rq bv_ bv2
      by_cases he : u.owner = tl owner
      · have g1 : (u.owner == owner.toList) = true := by rw [he]; simp [tl, Lib.toList_data]
        cases be
        · have hyes := Lib.hid (of_yes HU.out he (HBF.out rfl))
          have HCp := Lib.hid (copied_any V u (.slice pa pn pc) (HST.out.below (by exact BV.out)) HUP.out)
          clear he
          go_wp2_with fail
          refine HCp.out.mono ?_
          rintro e w2 ⟨⟨pv', rfl, F, hF⟩, b2⟩
          obtain ⟨ax, cx, hpv, -⟩ : ∃ a c, pv' = .slice a u.params.length c ∧ True := by obtain ⟨a, c, h, _⟩ := hF.at_; exact ⟨a, c, h, trivial⟩
          rw [hpn.out] at hpv
          subst hpv
          have HF := Lib.hid (hF.low BV.out.size)
          have O2 := Lib.hid (OV.out.below b2)
          have B2 := Lib.hid (BV.out.trans (b2.mono BV.out.size))
          have hw2 := B2.out.size
          have OR := Lib.hid O2.out.1
          rw [hpl.out] at OR
          clear b2 hF
          go_wp2_with (at_builtin; refine wpList_append_lies _ rfl _ _ 27 rfl w.heap.size 34 i0 _ 9 120 Tryd.underlying27 hi hz0 hz1 hz2 rfl (by decide) (.slice va m vc) m (fe ps) rfl (OR.out.alloc _) ⟨w2.heap.size, 0, none⟩ 1 1 (rowE (u, .slice ax pn cx)) rfl rfl (World.news_of_block (heap_alloc_new w2 _)) (by simp [rowE, En.vals, Value.oneCell']) (by decide) (by unfold maxLen; omega) (by omega) (by simp; omega) (w2.heap.size + 1) (by simp) ?_; intro g9 c9 w9 hown9 hg9 hor9 _)
          have O9 : Hid (OwnE w.heap.size w9 (.slice (some ⟨g9, 0, none⟩) (m + 1) c9) (ps ++ [(u, .slice ax pn cx)])) := Lib.hid ((O2.out.below ((Below.refl _ w2).alloc (Nat.le_refl _) _)).snoc (p := (u, .slice ax pn cx)) (HF.out.below ((Below.refl _ w2).alloc (Nat.le_refl _) _)) (by rw [hpl.out]; exact hown9) hg9)
          have B9 : Hid (Below w.heap.size w w9) := Lib.hid ((B2.out.alloc hw2 _).grown hg9 (by simp; omega) (fun b e => by have := (O2.out.1.lt b e).1; omega))
          have hm9 : Hid (m + 1 ≤ n) := Lib.hid (by
            have h1 := of_le l (tl owner) (k + 1)
            rw [hyes.out, List.length_append, ← hps.out, List.length_map, hpl.out, hn.out] at h1
            exact h1)
          clear hown9 hg9 hor9
          go_wp2_with fail
          go_roundw
          case rel => exact ⟨k + 1, m + 1, _, _, c9, rfl, by go_num, by omega, hm9.out, Lib.hid (by rw [List.length_append, hpl.out]; rfl), Lib.hid (by rw [List.map_append, hps.out, hyes.out]; rfl), O9, B9⟩
          case measure => simp [intOf]; omega
        · have hnil := Lib.hid (HBE.out rfl)
          clear he
          go_wp2_with fail
          go_roundw
          case rel => exact ⟨k + 1, m, ps, va, vc, rfl, by go_num, by omega, hm, hpl, Lib.hid (by rw [hps.out, of_nil hnil.out, of_nil hnil.out]), OV, BV⟩
          case measure => simp [intOf]; omega
      · have g1 : (u.owner == owner.toList) = false := by
          rw [beq_eq_false_iff_ne]; intro h9; exact he (by rw [h9]; simp [tl, Lib.toList_data])
        have hno := Lib.hid (of_no HU.out he)
        clear he
        go_wp2_with fail
        go_roundw
        case rel => exact ⟨k + 1, m, ps, va, vc, rfl, by go_num, by omega, hm, hpl, Lib.hid (by rw [hno.out]; exact hps.out), OV, BV⟩
        case measure => simp [intOf]; omega
    · obtain rfl : k = n := by omega
      have hfin : Hid (ps.map (·.1) = r) := Lib.hid (by
        have h1 := hps.out
        rw [List.take_of_length_le (Nat.le_of_eq hn.out), hr.out] at h1
        exact h1)
      go_wp2_with fail
      go_ret
      exact ⟨⟨_, ps, rfl, hO.out, hfin.out⟩, hB.out⟩
end Go.Proofs.YtbnbmjdjkadgoaaDoor.D
