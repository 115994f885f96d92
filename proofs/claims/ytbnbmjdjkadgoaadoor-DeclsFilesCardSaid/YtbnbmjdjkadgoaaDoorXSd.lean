/-
  For the laws on the parser: statements; parameters. Condition: the tokens are a text's.
-/
import Derived.Test.YtbnbmjdjkadgoaaDoorXSc
namespace Go.Proofs.YtbnbmjdjkadgoaaDoor.X
open Go.RowKit Go.Shelf
set_option linter.unusedSimpArgs false
set_option linter.unusedVariables false

/-- The rules of statements do what the document says. -/
theorem st_spec (v : Value) (T : List Tk) (hT : GoodT T) (f : Nat) : StSpec v T f := by
  induction f using Nat.strongRecOn with
  | ind f ih =>
  cases f with
  | zero =>
    refine ⟨fun a d r w hr => ?_, fun a d r w hr => ?_, fun a d r w hr => ?_⟩
    · unfold stF at hr; cases hr
    · unfold grdF at hr; cases hr
    · unfold blkF at hr; cases hr
  | succ f =>
    have ih' : ∀ f', f' ≤ f → StSpec v T f' := fun f' h => ih f' (by omega)
    exact ⟨fun a d r w hr ha hd h => statement_any v T hT f ih' a d r w hr ha hd h, fun a d r w hr ha hd h => guarded_any v T hT f ih' a d r w hr ha hd h, fun a d r w hr ha hd h => block_any v T hT f ih' a d r w hr ha hd h⟩
theorem kind_at {v : Value} {T : List Tk} {a : Nat} {w : World} {b : Bool} (h : Toks w v T) (hb : kindT T a = b) : Calls Tryd.prog 55 #[v, .int .i64 (a : Nat)] w fun e w' => e = .returned (.bool b) ∧ w' = w := by
  rw [← hb]; exact kind_any v T a w h
theorem own_of_q {P : Nat → Prop} {base : Nat} {W : World} {v : Value} {ps : List Pr} (h : OwnQ P base W v ps) : OwnS base W v ps :=
  ⟨h.row, h.bas, fun p hp => by obtain ⟨F, h1, h2⟩ := h.sup p hp; exact ⟨F, h1, fun b hb => (h2 b hb).1⟩⟩
set_option maxRecDepth 100000 in
set_option maxHeartbeats 16000000 in
theorem params_any (v : Value) (T : List Tk) (hT : GoodT T) (f : Nat) (a : Nat) (r : PR (List Nd)) (w : World) (hr : parF f T a = some r) (ha : a < T.length) (h : Toks w v T) :
    Calls Tryd.prog 56 #[v, .int .i64 (a : Nat)] w fun e w' => ListIs r w.heap.size e w' ∧ Below w.heap.size w w' := by
  have HT := Lib.hid (fun W (hW : Below w.heap.size w W) => h.below hW)
  have HG := Lib.hid hT
  have hTl := hT.len
  obtain ⟨tb, to_, cv, rfl, -, -, hcell⟩ := h.fix hT.e.pos
  have HC := Lib.hid hcell
  clear h hcell
  clear hT
  unfold parF at hr
  cases q1 : isT T a sR with
  | true =>
    rw [q1, if_pos rfl] at hr
    obtain rfl := Option.some.inj hr
    go_enter Tryd.func56, Tryd.ntmps56
    go_wp2_with fail
    refine calls_gen (fun W => RowAt W w.heap.size 68 #[.int .i64 0, .int .i64 0] ∧ Below w.heap.size w W) ⟨row_new rfl, (Below.refl _ w).alloc (Nat.le_refl _) _⟩ ?_
    rintro W1 ⟨h1, b1⟩
    have RH1 := Lib.hid h1
    have B1 := Lib.hid b1
    have hlt1 := h1.lt
    clear h1 b1
    have O1 : Hid (OwnS W1.heap.size W1 (.slice none 0 0) []) := Lib.hid (OwnS.nil (by omega))
    refine (is_at (s := ⟨#[41]⟩) (HT.out W1 B1.out) q1).mono ?_
    rintro e w' ⟨rfl, hw⟩
    have hw := hw.symm
    subst hw
    go_wp2_with fail
    refine (fine_any _).mono ?_
    rintro e w9 ⟨rfl, b9⟩
    have RH9 := RH1.out.later b9
    have B9 := Lib.hid (B1.out.trans (b9.mono B1.out.size))
    have O9 := Lib.hid (O1.out.below b9)
    have y0 := RH9.frozen 0
    have y1 := RH9.frozen 1
    have s0 : w9.cell? ⟨w.heap.size, 0, none⟩ = some (.int .i64 0) := RH9.cell rfl
    have s1 : w9.cell? ⟨w.heap.size, 1, none⟩ = some (.int .i64 0) := RH9.cell rfl
    have RH9' := Lib.hid RH9
    clear RH9 b9
    go_wp2_with fail
    obtain ⟨k2, k3, k4, k5⟩ := pair_row RH9'.out (-1) 0 rfl
    exact fin_list 4 5 6 rfl rfl k2 ⟨⟨_, [], rfl, own_past O9.out k3 k4 (by omega) (by omega), rfl⟩, B9.out.trans (k5 _ (Nat.le_refl _))⟩
  | false =>
    rw [q1, if_neg (by decide)] at hr
    go_enter Tryd.func56, Tryd.ntmps56
    go_wp2_with fail
    refine calls_gen (fun W => RowAt W w.heap.size 68 #[.int .i64 0, .int .i64 0] ∧ Below w.heap.size w W) ⟨row_new rfl, (Below.refl _ w).alloc (Nat.le_refl _) _⟩ ?_
    rintro W1 ⟨h1, b1⟩
    have RH1 := Lib.hid h1
    have B1 := Lib.hid b1
    have hlt1 := h1.lt
    clear h1 b1
    refine (is_at (s := ⟨#[41]⟩) (HT.out W1 B1.out) q1).mono ?_
    rintro e w' ⟨rfl, hw⟩
    have hw := hw.symm
    subst hw
    have OQ1 : Hid (OwnQ (fun _ => True) W1.heap.size W1 (.slice none 0 0) []) := Lib.hid (OwnQ.nil (Nat.le_refl _))
    have Hr := Lib.hid hr
    clear hr q1
    go_wp2_with fail
    go_loopw [1, 7] (fun c ov wr => ∃ (f' k : Nat) (ps : List Pr), c = .int .i64 k ∧ k < T.length ∧ ps.length ≤ k ∧ Hid (parLF f' T k (ps.map (·.1)) = some r) ∧ Hid (RowAt wr w.heap.size 68 #[.int .i64 0, .int .i64 0]) ∧ Hid (OwnQ (fun _ => True) W1.heap.size wr ov ps) ∧ Hid (Below w.heap.size w wr)) (fun c _ _ => T.length - (intOf c).toNat)
    case atStart => exact ⟨f, a, [], rfl, ha, Nat.zero_le _, Hr, RH1, OQ1, B1⟩
    case round =>
      obtain ⟨f', k, ps, rfl, hk, hpk, hrl, RH3, OQ3, B3⟩ := hrel
      obtain ⟨an, nn, cn, rfl⟩ := ownq_slice OQ3.out
      have hbase := OQ3.out.bas
      cases f' with
      | zero => have := hrl.out; unfold parLF at this; cases this
      | succ f' =>
      have hr := hrl.out
      unfold parLF at hr
      clear hrl
      cases q4 : kindT T k with
      | false =>
        rw [q4, Bool.false_and, if_neg (by decide)] at hr
        obtain rfl := Option.some.inj hr
        go_wp2_with fail
        refine (kind_at (HT.out wr B3.out) q4).mono ?_
        rintro e w' ⟨rfl, hw⟩
        have hw := hw.symm
        subst hw
        go_wp2_with fail
        refine (syntax_any _ _).mono ?_
        rintro e w9 ⟨rfl, b9⟩
        have RH9 := RH3.out.later b9
        have B9 := B3.out.trans (b9.mono B3.out.size)
        have y0 := RH9.frozen 0
        have y1 := RH9.frozen 1
        have s0 : w9.cell? ⟨w.heap.size, 0, none⟩ = some (.int .i64 0) := RH9.cell rfl
        have s1 : w9.cell? ⟨w.heap.size, 1, none⟩ = some (.int .i64 0) := RH9.cell rfl
        have RH9' := Lib.hid RH9
        have B9' := Lib.hid B9
        clear RH9 B9 b9
        go_wp2_with fail
        obtain ⟨k2, k3, k4, k5⟩ := pair_row RH9'.out ((k : Nat) : Int) 120 rfl
        exact fin_list 4 5 6 rfl rfl k2 ⟨rfl, B9'.out.trans (k5 _ (Nat.le_refl _))⟩
      | true =>
      cases q5 : isT T k sVoid with
      | true =>
        rw [q4, q5, if_neg (by decide)] at hr
        obtain rfl := Option.some.inj hr
        go_wp2_with fail
        refine (kind_at (HT.out wr B3.out) q4).mono ?_
        rintro e w' ⟨rfl, hw⟩
        have hw := hw.symm
        subst hw
        go_wp2_with fail
        refine (is_at (s := ⟨#[118, 111, 105, 100]⟩) (HT.out wr B3.out) q5).mono ?_
        rintro e w' ⟨rfl, hw⟩
        have hw := hw.symm
        subst hw
        go_wp2_with fail
        refine (syntax_any _ _).mono ?_
        rintro e w9 ⟨rfl, b9⟩
        have RH9 := RH3.out.later b9
        have B9 := B3.out.trans (b9.mono B3.out.size)
        have y0 := RH9.frozen 0
        have y1 := RH9.frozen 1
        have s0 : w9.cell? ⟨w.heap.size, 0, none⟩ = some (.int .i64 0) := RH9.cell rfl
        have s1 : w9.cell? ⟨w.heap.size, 1, none⟩ = some (.int .i64 0) := RH9.cell rfl
        have RH9' := Lib.hid RH9
        have B9' := Lib.hid B9
        clear RH9 B9 b9
        go_wp2_with fail
        obtain ⟨k2, k3, k4, k5⟩ := pair_row RH9'.out ((k : Nat) : Int) 120 rfl
        exact fin_list 4 5 6 rfl rfl k2 ⟨rfl, B9'.out.trans (k5 _ (Nat.le_refl _))⟩
      | false =>
      rw [q4, q5, if_pos (by decide)] at hr
      cases q6 : nmT T (k + 1) with
      | false =>
        rw [q6, if_neg (by decide)] at hr
        obtain rfl := Option.some.inj hr
        go_wp2_with fail
        refine (kind_at (HT.out wr B3.out) q4).mono ?_
        rintro e w' ⟨rfl, hw⟩
        have hw := hw.symm
        subst hw
        go_wp2_with fail
        refine (is_at (s := ⟨#[118, 111, 105, 100]⟩) (HT.out wr B3.out) q5).mono ?_
        rintro e w' ⟨rfl, hw⟩
        have hw := hw.symm
        subst hw
        go_wp2_with fail
        refine (name_1 (HT.out wr B3.out) q6).mono ?_
        rintro e w' ⟨rfl, hw⟩
        have hw := hw.symm
        subst hw
        go_wp2_with fail
        refine (syntax_any _ _).mono ?_
        rintro e w9 ⟨rfl, b9⟩
        have RH9 := RH3.out.later b9
        have B9 := B3.out.trans (b9.mono B3.out.size)
        have y0 := RH9.frozen 0
        have y1 := RH9.frozen 1
        have s0 : w9.cell? ⟨w.heap.size, 0, none⟩ = some (.int .i64 0) := RH9.cell rfl
        have s1 : w9.cell? ⟨w.heap.size, 1, none⟩ = some (.int .i64 0) := RH9.cell rfl
        have RH9' := Lib.hid RH9
        have B9' := Lib.hid B9
        clear RH9 B9 b9
        go_wp2_with fail
        obtain ⟨k2, k3, k4, k5⟩ := pair_row RH9'.out ((k + 1 : Nat) : Int) 120 rfl
        exact fin_list 4 5 6 rfl rfl k2 ⟨rfl, B9'.out.trans (k5 _ (Nat.le_refl _))⟩
      | true =>
        rw [q6, if_pos rfl] at hr
        have hk2 : k + 2 < T.length := nmT_lt HG.out.e q6
        go_wp2_with fail
        refine (kind_at (HT.out wr B3.out) q4).mono ?_
        rintro e w' ⟨rfl, hw⟩
        have hw := hw.symm
        subst hw
        go_wp2_with fail
        refine (is_at (s := ⟨#[118, 111, 105, 100]⟩) (HT.out wr B3.out) q5).mono ?_
        rintro e w' ⟨rfl, hw⟩
        have hw := hw.symm
        subst hw
        go_wp2_with fail
        refine (name_1 (HT.out wr B3.out) q6).mono ?_
        rintro e w' ⟨rfl, hw⟩
        have hw := hw.symm
        subst hw
        go_wp2_with fail
        refine (made_at (.slice (some ⟨tb, to_, none⟩) T.length cv) none 0 0 T HG.out 4 k (k + 2) hk (by omega) (by omega) wr (HT.out wr B3.out)).mono ?_
        rintro e w8 ⟨rfl, b8⟩
        have B8 := Lib.hid (B3.out.trans (b8.mono B3.out.size))
        have b38 := Lib.hid b8
        clear b8
        go_wp2_with fail
        obtain ⟨hq, hhq⟩ : ∃ hq, typedH T (madeH T 4 k (k + 2)) k = hq := ⟨_, rfl⟩
        have CT := typed_any (.slice (some ⟨tb, to_, none⟩) T.length cv) (madeH T 4 k (k + 2)) none 0 0 T k (by omega) (by omega) w8 (HT.out w8 B8.out)
        rw [hhq] at CT
        refine CT.mono ?_
        rintro e wt ⟨rfl, bt⟩
        have b3t := b38.out.trans (bt.mono b38.out.size)
        obtain ⟨W6, hW6⟩ : ∃ W6, wt = W6 := ⟨_, rfl⟩
        rw [hW6] at b3t ⊢
        have RH6 := Lib.hid (RH3.out.later b3t)
        have B6 := Lib.hid (B3.out.trans (b3t.mono B3.out.size))
        have OQ6 := Lib.hid (OQ3.out.below b3t)
        have hs6 := b3t.size
        clear CT bt b3t
        obtain ⟨A, hA⟩ : ∃ A, Hid (W6.alloc (.cells #[.int .i64 hq.kind, .string (bs hq.text), .string (bs hq.type), .int .i64 hq.n, .int .i64 hq.fr, .int .i64 hq.to_, .int .i64 hq.at_, .int .i64 hq.tat, .slice none 0 0] 55) = A) := ⟨_, Lib.hid rfl⟩
        have bA : Hid (Below W6.heap.size W6 A) := by rw [← hA.out]; exact Lib.hid ((Below.refl _ _).alloc (Nat.le_refl _) _)
        have hsA : A.heap.size = W6.heap.size + 1 := by rw [← hA.out]; simp
        have OA := Lib.hid (OQ6.out.below bA.out)
        have XA : Hid (OwnS wr.heap.size A (.slice (some ⟨W6.heap.size, 0, none⟩) 1 1) [(Nd.mk hq [], Value.slice none 0 0)]) := Lib.hid (own_build (ps := [(Nd.mk hq [], Value.slice none 0 0)]) (by rw [← hA.out]; exact row_new rfl) (by omega) (by show 1 ≤ maxLen; unfold maxLen; omega) (fun p hp => by
          obtain rfl := List.mem_singleton.1 hp
          exact ⟨fun _ => False, ⟨nofun, fun V _ => KidsAt.nil V⟩, nofun⟩))
        have hlo6 : Hid (∀ b, (Value.slice an nn cn).ownBlock = some b → b < wr.heap.size) := Lib.hid (fun b hb => (OQ3.out.row.lt b hb).2)
        have RHA := Lib.hid (RH6.out.later bA.out)
        have BA := Lib.hid (B6.out.trans (bA.out.mono B6.out.size))
        go_wp2_with (at_builtin; rw [hA.out]; refine wpList_append_q (w := A) (base := W1.heap.size) (lo := wr.heap.size) (P := fun _ => True) rfl _ _ rfl (Value.slice an nn cn) (.slice (some ⟨W6.heap.size, 0, none⟩) 1 1) ps [(Nd.mk hq [], Value.slice none 0 0)] rfl OA.out rfl XA.out hlo6.out (fun _ _ => trivial) (by omega) (by simp only [List.length_cons, List.length_nil]; omega) ?_; intro a7 n7 c7 w7 oq7 hg70)
        have hg7 : A.grownBy w7 (Value.slice an nn cn).ownBlock := hg70
        clear hg70
        have OQ7 := Lib.hid oq7
        have hkb : Hid (∀ b, (Value.slice an nn cn).ownBlock = some b → W1.heap.size ≤ b) := Lib.hid (fun b hb => (OQ6.out.row.lt b hb).1)
        have RH7 := Lib.hid (RowAt.same RHA.out (hg7.block _ RHA.out.lt (fun e => by have h9 := hkb.out _ e.symm; have h8 := B1.out.size; omega)))
        have B7 := Lib.hid (BA.out.grown hg7 (by have := BA.out.size; omega) (fun k e => by have h9 := hkb.out _ e; have h8 := B1.out.size; omega))
        have hs7 := hg7.size
        have hpm : Hid ((ps ++ [(Nd.mk hq [], Value.slice none 0 0)]).map (·.1) = ps.map (·.1) ++ [Nd.mk hq []]) := Lib.hid (by rw [List.map_append]; rfl)
        rw [hhq] at hr
        clear oq7 hg7
        cases q7 : isT T (k + 2) sR with
        | true =>
          rw [q7, if_pos rfl] at hr
          obtain rfl := Option.some.inj hr
          have O7 := Lib.hid (own_of_q OQ7.out)
          refine (is_2 (s := ⟨#[41]⟩) (HT.out w7 B7.out) q7).mono ?_
          rintro e w' ⟨rfl, hw⟩
          have hw := hw.symm
          subst hw
          go_wp2_with fail
          refine (fine_any _).mono ?_
          rintro e w9 ⟨rfl, b9⟩
          have RH9 := RH7.out.later b9
          have B9 := Lib.hid (B7.out.trans (b9.mono B7.out.size))
          have O9 := Lib.hid (O7.out.below b9)
          have y0 := RH9.frozen 0
          have y1 := RH9.frozen 1
          have s0 : w9.cell? ⟨w.heap.size, 0, none⟩ = some (.int .i64 0) := RH9.cell rfl
          have s1 : w9.cell? ⟨w.heap.size, 1, none⟩ = some (.int .i64 0) := RH9.cell rfl
          have RH9' := Lib.hid RH9
          clear RH9 b9
          go_wp2_with fail
          obtain ⟨k2, k3, k4, k5⟩ := pair_row RH9'.out (-1) 0 rfl
          exact fin_list 4 5 6 rfl rfl k2 ⟨⟨_, ps ++ [(Nd.mk hq [], Value.slice none 0 0)], rfl, own_past O9.out k3 k4 (by omega) (by omega), hpm.out⟩, B9.out.trans (k5 _ (Nat.le_refl _))⟩
        | false =>
          rw [q7, if_neg (by decide)] at hr
          cases q8 : isT T (k + 2) sCom with
          | false =>
            rw [q8, if_neg (by decide)] at hr
            obtain rfl := Option.some.inj hr
            refine (is_2 (s := ⟨#[41]⟩) (HT.out w7 B7.out) q7).mono ?_
            rintro e w' ⟨rfl, hw⟩
            have hw := hw.symm
            subst hw
            go_wp2_with fail
            refine (is_2 (s := ⟨#[44]⟩) (HT.out w7 B7.out) q8).mono ?_
            rintro e w' ⟨rfl, hw⟩
            have hw := hw.symm
            subst hw
            go_wp2_with fail
            refine (syntax_any _ _).mono ?_
            rintro e w9 ⟨rfl, b9⟩
            have RH9 := RH7.out.later b9
            have B9 := B7.out.trans (b9.mono B7.out.size)
            have y0 := RH9.frozen 0
            have y1 := RH9.frozen 1
            have s0 : w9.cell? ⟨w.heap.size, 0, none⟩ = some (.int .i64 0) := RH9.cell rfl
            have s1 : w9.cell? ⟨w.heap.size, 1, none⟩ = some (.int .i64 0) := RH9.cell rfl
            have RH9' := Lib.hid RH9
            have B9' := Lib.hid B9
            clear RH9 B9 b9
            go_wp2_with fail
            obtain ⟨k2, k3, k4, k5⟩ := pair_row RH9'.out ((k + 2 : Nat) : Int) 120 rfl
            exact fin_list 4 5 6 rfl rfl k2 ⟨rfl, B9'.out.trans (k5 _ (Nat.le_refl _))⟩
          | true =>
            rw [q8, if_pos rfl] at hr
            have hk3 : k + 3 < T.length := isT_lt HG.out.e q8
            refine (is_2 (s := ⟨#[41]⟩) (HT.out w7 B7.out) q7).mono ?_
            rintro e w' ⟨rfl, hw⟩
            have hw := hw.symm
            subst hw
            go_wp2_with fail
            refine (is_2 (s := ⟨#[44]⟩) (HT.out w7 B7.out) q8).mono ?_
            rintro e w' ⟨rfl, hw⟩
            have hw := hw.symm
            subst hw
            go_wp2_with fail
            exact ⟨⟨f', k + 3, ps ++ [(Nd.mk hq [], Value.slice none 0 0)], by go_num, hk3, by rw [List.length_append, List.length_singleton]; omega, Lib.hid (by rw [hpm.out]; exact hr), RH7, OQ7, B7⟩, by simp [intOf]; omega⟩
end Go.Proofs.YtbnbmjdjkadgoaaDoor.X
