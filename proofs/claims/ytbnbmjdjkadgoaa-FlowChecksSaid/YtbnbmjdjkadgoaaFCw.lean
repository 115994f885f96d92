/-
  For the laws of flow: the walk of FlowChecks. No condition.
-/
import Derived.Test.YtbnbmjdjkadgoaaFAw
import Derived.Test.YtbnbmjdjkadgoaaSls
import Derived.DeepKeys
namespace Go.Proofs.Ytbnbmjdjkadgoaa.F
open Go.RowKit Go.Shelf
open Go.Proofs.Ytbnbmjdjkadgoaa.X (wp_gen three_row file_any)
set_option linter.unusedSimpArgs false
set_option linter.unusedVariables false

theorem infoRows : (Try.prog.info? 42).map (fun i => (i.zero, i.size, i.bytes)) = some (some (.slice none 0 0), 1, 24) := by kernel_rfl
theorem eqInt (d : Nat) (t : TypeId) (k : IntKind) (hu : Try.prog.underlying t = some (.int k)) (a : Int) (W : World) : (Op.equalIn (d + 1) t (.int .i64 a) (.int .i64 a)).run Try.prog W = .ok true W := by
  unfold Op.equalIn
  simp [Sem.run_bind, run_underlying hu, Result.andThen]
set_option maxRecDepth 100000 in
theorem eq34 (a b c : Int) (W : World) : (Op.equalIn 10000 34 (.agg #[.int .i64 a, .int .i64 b, .int .i64 c]) (.agg #[.int .i64 a, .int .i64 b, .int .i64 c])).run Try.prog W = .ok true W := by
  have p0 : (part 32 #[.int .i64 a, .int .i64 b, .int .i64 c] 0).run Try.prog W = .ok (.int .i64 a) W := rfl
  have p1 : (part 3 #[.int .i64 a, .int .i64 b, .int .i64 c] 1).run Try.prog W = .ok (.int .i64 b) W := rfl
  have p2 : (part 3 #[.int .i64 a, .int .i64 b, .int .i64 c] 2).run Try.prog W = .ok (.int .i64 c) W := rfl
  have e32 := eqInt 9998 32 .i64 Try.underlying32 a W
  have e3b := eqInt 9998 3 .i64 Try.underlying3 b W
  have e3c := eqInt 9998 3 .i64 Try.underlying3 c W
  show (Op.equalIn (9999 + 1) 34 _ _).run Try.prog W = _
  unfold Op.equalIn
  simp [Sem.run_bind, run_underlying Try.underlying34, Result.andThen, p0, p1, p2, e32, e3b, e3c]
/-- A text's classes are no more than its bytes. -/
theorem file_cnt (s : ByteArray) (hs : s.size ≤ 1048576) : cntL (X.fileR (tl s)).1 ≤ 1048577 := by
  unfold X.fileR
  by_cases h0 : (X.lexR 0 (tl s)).2.2 = 0
  · rw [if_neg (by simpa using h0)]
    have hG := X.goodT_lex s hs h0
    have hok := (X.filL_ok hG.e (X.fuelT (X.lexR 0 (tl s)).1) 0 [] hG.e.pos).2
    have hlen := hG.len
    generalize X.filLF (X.fuelT (X.lexR 0 (tl s)).1) (X.lexR 0 (tl s)).1 0 [] = q at hok
    unfold X.fileQ
    match q with
    | none => simp [cntL]
    | some (.bad p c) => simp [cntL]
    | some (.ok l m) =>
      obtain ⟨k1, k2, k3⟩ := hok l m rfl
      simp only
      cases l.find? (fun n => decide (200 < n.ht)) with
      | some n => simp [cntL]
      | none => simp only [cntL] at k3 ⊢; omega
  · rw [if_pos h0]
    simp [cntL]
/-- A row of files, each at rest on blocks of its own. -/
structure FsOwn (W : World) (base : Nat) (u : Value) (fs : List (List Nd × Value)) : Prop where
  row : W.ownsRow base 42 1 u fs.length (fs.map (·.2))
  bas : base ≤ W.heap.size
  sup : ∀ p ∈ fs, ∃ lo F, Sup W lo p.1 p.2 F ∧ ∀ b, F b → u.ownBlock ≠ some b
theorem FsOwn.below {W W' : World} {base : Nat} {u : Value} {fs : List (List Nd × Value)} (h : FsOwn W base u fs) (hb : Below W.heap.size W W') : FsOwn W' base u fs :=
  ⟨own_below h.row hb, Nat.le_trans h.bas hb.size, fun p hp => by
    obtain ⟨lo, F, h1, h2⟩ := h.sup p hp
    exact ⟨lo, F, h1.below hb, h2⟩⟩
theorem FsOwn.files {W : World} {base : Nat} {u : Value} {fs : List (List Nd × Value)} (h : FsOwn W base u fs) : FilesAt W u (fs.map (·.1)) := by
  rcases h.row.2 with ⟨rfl, h0⟩ | ⟨g, cap, cur, rfl, _, hg, h1, h2, h3, h4⟩
  · have : fs = [] := List.length_eq_zero_iff.1 h0
    subst this
    exact ⟨none, 0, rfl, Nat.le_refl _, Nat.zero_le _, fun k l hk => by simp at hk⟩
  · refine ⟨some ⟨g, 0, none⟩, cap, by rw [List.length_map], by rw [List.length_map]; exact h1, h2, fun k l hk => ?_⟩
    rw [List.getElem?_map] at hk
    cases hp : fs[k]? with
    | none => rw [hp] at hk; cases hk
    | some p =>
      rw [hp] at hk
      obtain rfl := Option.some.inj hk
      have hkl := (List.getElem?_eq_some_iff.1 hp).1
      obtain ⟨lo, F, hs, -⟩ := h.sup p (List.mem_of_getElem? hp)
      refine ⟨g, 0, p.2, rfl, ?_, hs.kids⟩
      have : (fs.map (·.2))[k]? = some p.2 := by rw [List.getElem?_map, hp]; rfl
      rw [← h4, List.getElem?_take_of_lt (by omega)] at this
      rw [Nat.zero_add]
      simp [World.cell?, hg]
      simpa using this
theorem fs_snoc {W w' : World} {base n g cap : Nat} {u : Value} {fs : List (List Nd × Value)} {p : List Nd × Value} {lo : Nat} {F : Nat → Prop} (h : FsOwn W base u fs) (hp : Sup W lo p.1 p.2 F) (hF : ∀ b, F b → u.ownBlock ≠ some b)
    (hown : w'.ownsRow base 42 1 (.slice (some ⟨g, 0, none⟩) n cap) (fs.length + 1) (fs.map (·.2) ++ [p.2])) (hgrow : W.grownBy w' u.ownBlock) (hat : u.ownBlock = some g ∨ g = W.heap.size) : FsOwn w' base (.slice (some ⟨g, 0, none⟩) n cap) (fs ++ [p]) := by
  have hs := hgrow.size
  have one : ∀ (q : List Nd × Value) (lo : Nat) (G : Nat → Prop), Sup W lo q.1 q.2 G → (∀ b, G b → u.ownBlock ≠ some b) → ∃ lo G', Sup w' lo q.1 q.2 G' ∧ ∀ b, G' b → (Value.slice (some ⟨g, 0, none⟩) n cap).ownBlock ≠ some b := fun q lo G hq hG => by
    refine ⟨lo, G, hq.keep hs fun b hb => hgrow.block b (hq.1 b hb).2 fun e => hG b hb e.symm, fun b hb e => ?_⟩
    obtain rfl : g = b := Option.some.inj e
    rcases hat with h1 | h1
    · exact hG _ hb h1
    · have := (hq.1 _ hb).2; omega
  refine ⟨by rw [List.length_append, List.map_append]; exact hown, Nat.le_trans h.bas hs, fun q hq => ?_⟩
  rcases List.mem_append.1 hq with hq | hq
  · obtain ⟨lo, G, h1, h2⟩ := h.sup q hq
    exact one q lo G h1 h2
  · obtain rfl := List.mem_singleton.1 hq
    exact one q lo F hp hF
theorem File_sup (s : ByteArray) (w : World) (hs : s.size ≤ 1048576) : Calls Try.prog 33 #[.string s] w fun e w' => (∃ (v : Value) (c at0 : Int) (F : Nat → Prop), e = .returned (.tuple #[v, .agg #[.int .i64 c, .int .i64 0, .int .i64 at0]]) ∧ Sup w' w.heap.size (X.fileR (tl s)).1 v F) ∧ Below w.heap.size w w' := by
  refine (file_any s w hs).mono ?_
  rintro e w' ⟨⟨v, ps, rfl, ho, hp⟩, hb⟩
  obtain ⟨F, hF⟩ := ho.sup
  rw [hp] at hF
  exact ⟨⟨v, _, _, F, rfl, hF⟩, hb⟩
theorem resM_ints (R : Option (Int × Nat × Int)) : ∃ a b c : Int, resM R = .agg #[.int .i64 a, .int .i64 b, .int .i64 c] := by
  cases R with
  | none => exact ⟨0, 0, 0, rfl⟩
  | some x => exact ⟨_, _, _, rfl⟩
set_option maxRecDepth 100000 in
set_option maxHeartbeats 16000000 in
theorem Checks_any (v : Value) (ss : List By) (w : World) (h : SlS w v ss) : Calls Try.prog 6 #[v] w fun e w' => e = .returned (.bool true) ∧ Below w.heap.size w w' := by
  obtain ⟨a, cap, rfl, hc, hcap, hx⟩ := h
  have HX := Lib.hid hx
  clear hx
  obtain ⟨n, hn⟩ : ∃ n, Hid (ss.length = n) := ⟨_, Lib.hid rfl⟩
  rw [hn.out] at hc
  rw [hn.out]
  unfold maxLen at hcap
  go_enter Try.func6, Try.ntmps6
  go_wp2_with fail
  refine (awake_any w).mono ?_
  rintro e w1 ⟨rfl, b1'⟩
  have B1 := Lib.hid b1'
  have hs1 := b1'.size
  clear b1'
  by_cases h6 : 6 < n
  · have f6 : decide ((n : Int) > 6) = true := decide_eq_true (by omega)
    have f6' : decide (6 < n) = true := decide_eq_true h6
    have H6 := Lib.hid h6
    clear h6
    go_wp2_with fail
    go_ret
    exact ⟨rfl, B1.out⟩
  · have f6 : decide ((n : Int) > 6) = false := decide_eq_false (by omega)
    have f6' : decide (6 < n) = false := decide_eq_false h6
    have hn6 : n ≤ 6 := by omega
    have H6 := Lib.hid h6
    clear h6
    have O1 : Hid (FsOwn w1 w1.heap.size (.slice none 0 0) []) := Lib.hid ⟨World.ownsRow_nil _ _ _ _, Nat.le_refl _, fun p hp => by cases hp⟩
    go_wp2_with fail
    go_loopw [4, 5] (fun u z wr => ∃ (i : Nat) (fs : List (List Nd × Value)), z = .int .i64 i ∧ i ≤ n ∧ fs.length = i ∧ Hid (∀ p ∈ fs, cntL p.1 ≤ 2000000) ∧ Hid (FsOwn wr w1.heap.size u fs) ∧ Hid (Below w.heap.size w wr)) (fun _ z _ => n - (intOf z).toNat)
    case atStart => exact ⟨0, [], rfl, Nat.zero_le _, rfl, Lib.hid (fun p hp => by cases hp), O1, B1⟩
    case round =>
      clear O1
      obtain ⟨i, fs, rfl, hi, hfl, hcn, hO, hB⟩ := hrel
      obtain ⟨wo, hwo⟩ : ∃ wo, wo = wr := ⟨_, rfl⟩
      subst hwo
      have hso := hB.out.size
      obtain ⟨au, nu, cu, rfl⟩ := own_slice hO.out.row
      have Hfl := Lib.hid hfl
      clear hfl
      by_cases hlt : i < n
      · obtain ⟨s, hs⟩ : ∃ s, ss[i]? = some s := ⟨_, List.getElem?_eq_getElem (by rw [hn.out]; exact hlt)⟩
        obtain ⟨g, o, rfl, c0⟩ := HX.out i s hs
        have hc0 : wo.cell? ⟨g, o + i, none⟩ = some (.string (bs s)) := (hB.out.cell (p := ⟨g, o + i, none⟩) (World.block_lt_of_cell? w _ c0)).trans c0
        have i1 : (i : Int) < (n : Int) := by omega
        have i0 : (0 : Int) ≤ (i : Int) := by omega
        obtain ⟨S, hS⟩ : ∃ S, Hid (bs s = S) := ⟨_, Lib.hid rfl⟩
        rw [hS.out] at hc0
        clear hs c0
        by_cases h15 : 1500 < S.size
        · have f15 : decide ((S.size : Int) > 1500) = true := decide_eq_true (by omega)
          have f15' : decide (1500 < S.size) = true := decide_eq_true h15
          have H15 := Lib.hid h15
          clear h15
          go_wp2_with fail
          go_ret
          exact ⟨rfl, hB.out⟩
        · have f15 : decide ((S.size : Int) > 1500) = false := decide_eq_false (by omega)
          have f15' : decide (1500 < S.size) = false := decide_eq_false h15
          have hS15 : S.size ≤ 1048576 := by omega
          have H15 := Lib.hid h15
          have call := Lib.hid (File_sup S wo hS15)
          have hcl := Lib.hid (file_cnt S hS15)
          obtain ⟨l, hl⟩ : ∃ l, Hid ((X.fileR (tl S)).1 = l) := ⟨_, Lib.hid rfl⟩
          rw [hl.out] at call hcl
          clear h15
          go_wp2_with fail
          refine call.out.mono ?_
          rintro e w2 ⟨⟨fv, c, at0, F, rfl, hsup⟩, b2⟩
          obtain ⟨af, cf, rfl, -⟩ := hsup.kids.get
          have HS2 := Lib.hid hsup
          have O2 := Lib.hid (hO.out.below b2)
          have B2 := Lib.hid (hB.out.trans (b2.mono hso))
          have hs2 := b2.size
          clear hsup b2 call
          obtain ⟨nf, hnf⟩ : ∃ n, Hid (l.length = n) := ⟨_, Lib.hid rfl⟩
          rw [hnf.out] at HS2
          rw [hnf.out]
          go_upto_region 13 with fail
          refine wp_gen (fun W => Below w2.heap.size w2 W) ((Below.refl _ w2).alloc (Nat.le_refl _) _) ?_
          intro W3 b3
          have HS3 := Lib.hid (HS2.out.below b3)
          have O3 := Lib.hid (O2.out.below b3)
          have B3 := Lib.hid (B2.out.trans (b3.mono B2.out.size))
          have hs3 := b3.size
          clear b3
          have Rb : Hid (RowAt (W3.alloc (.cells #[.slice af nf cf] 42)) W3.heap.size 42 #[.slice af nf cf]) := Lib.hid (RowAt.new W3 42 _)
          have bA : Hid (Below W3.heap.size W3 (W3.alloc (.cells #[.slice af nf cf] 42))) := Lib.hid ((Below.refl _ W3).alloc (Nat.le_refl _) _)
          have OA := Lib.hid (O3.out.below bA.out)
          have SA := Lib.hid (HS3.out.below bA.out)
          have OR := Lib.hid OA.out.row
          rw [Hfl.out] at OR
          have Hnews : Hid (∀ (q : Nat) (x : Value), [Value.slice af nf cf][q]? = some x → (W3.alloc (.cells #[.slice af nf cf] 42)).cell? ⟨W3.heap.size, q, none⟩ = some x) := Lib.hid (fun q x hq => Rb.out.cell (by simpa using hq))
          have Hone : Hid (∀ x ∈ [Value.slice af nf cf], x.oneCell' = true) := Lib.hid (fun x hx => by
            obtain rfl := List.mem_singleton.1 hx
            rfl)
          have hbs3 : w1.heap.size ≤ (W3.alloc (.cells #[.slice af nf cf] 42)).heap.size := OA.out.bas
          go_wp2_with (at_builtin; refine wpList_append_el2 (W := W3.alloc (.cells #[.slice af nf cf] 42)) (base := w1.heap.size) (n := i) rfl _ _ rfl Try.underlying50 infoRows rfl (by decide) (by decide) (.slice au nu cu) (fs.map (·.2)) [.slice af nf cf] rfl OR.out W3.heap.size rfl rfl Hnews.out Hone.out (by omega) hbs3 ?_; intro g9 c9 w9 hown9 hg9 hor9)
          have O9 : Hid (FsOwn w9 w1.heap.size (.slice (some ⟨g9, 0, none⟩) (i + 1) c9) (fs ++ [(l, .slice af nf cf)])) := Lib.hid (by
            refine fs_snoc (p := (l, .slice af nf cf)) OA.out SA.out (fun b hb e => ?_) (by rw [Hfl.out]; exact hown9) hg9 hor9
            have h1 := (SA.out.1 b hb).1
            have h2 := (hO.out.row.lt b e).2
            omega)
          have B9 : Hid (Below w.heap.size w w9) := Lib.hid (((B3.out.alloc B3.out.size _)).grown hg9 (by simp; have := B3.out.size; omega) (fun b e => by have := (hO.out.row.lt b e).1; omega))
          have hfl9 : (fs ++ [(l, Value.slice af nf cf)]).length = i + 1 := by rw [List.length_append, Hfl.out]; rfl
          have hcn9 : Hid (∀ p ∈ fs ++ [(l, Value.slice af nf cf)], cntL p.1 ≤ 2000000) := Lib.hid (fun p hp => by
            rcases List.mem_append.1 hp with hp | hp
            · exact hcn.out p hp
            · obtain rfl := List.mem_singleton.1 hp
              exact Nat.le_trans hcl.out (by omega))
          clear hown9 hg9 hor9
          go_wp2_with fail
          exact ⟨⟨i + 1, _, by go_num, by omega, hfl9, hcn9, O9, B9⟩, by simp [intOf]; omega⟩
      · have hin : i = n := by omega
        have hF := hO.out.files
        obtain ⟨L, hL⟩ : ∃ L, Hid (fs.map (·.1) = L) := ⟨_, Lib.hid rfl⟩
        rw [hL.out] at hF
        have hLl : L.length ≤ 1000 := by rw [← hL.out, List.length_map, Hfl.out]; omega
        have hLc : ∀ l ∈ L, cntL l ≤ 2000000 := fun l hl => by
          rw [← hL.out] at hl
          obtain ⟨p, hp, rfl⟩ := List.mem_map.1 hl
          exact hcn.out p hp
        have C34 := Lib.hid (Check_any _ L wo hLc hLl hF)
        have C35 := Lib.hid (fun U (hU : Below wo.heap.size wo U) => RefCheck_any _ L U hLc hLl (hF.below hU))
        obtain ⟨x, y, z, hxyz⟩ := resM_ints (filesM 0 L)
        rw [hxyz] at C34 C35
        have E := eq34 x y z
        have hni : ¬ ((i : Int) < (n : Int)) := by omega
        have Hin := Lib.hid hin
        clear hin hF hLl hLc hxyz hlt
        go_wp2_with fail
        refine C34.out.mono ?_
        rintro e w2 ⟨rfl, b2⟩
        have B2 := Lib.hid (hB.out.trans (b2.mono hso))
        have call := Lib.hid (C35.out w2 b2)
        clear b2
        go_wp2_with fail
        refine call.out.mono ?_
        rintro e w3 ⟨rfl, b3⟩
        have B3 := Lib.hid (B2.out.trans (b3.mono B2.out.size))
        clear b3
        go_wp2_with fail
        go_ret
        exact ⟨rfl, B3.out⟩
end Go.Proofs.Ytbnbmjdjkadgoaa.F
