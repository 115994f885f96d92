/-
  For the laws of decls: the parameters and locals of a method are added, one after the other. Condition: sizes as its theorem asks.
-/
import Derived.Test.YtbnbmjdjkadgoaaDoorDl
import Derived.Test.YtbnbmjdjkadgoaaDoorXPo
import Derived.Deep.LoopGhost
import Derived.Deep.CutBlock
import Derived.Deep.Cut
namespace Go.Proofs.YtbnbmjdjkadgoaaDoor.D
open Go.RowKit Go.Shelf Go.Maps Go.WideMaps
set_option linter.unusedSimpArgs false
set_option linter.unusedVariables false

theorem idL_bs (owner : ByteArray) (num : Nat) : bs (idL (tl owner) num) = owner ++ ⟨#[35]⟩ ++ bs (dgt num) := by
  apply ByteArray.ext
  simp [idL, tl]
theorem first_below (W : World) (a b : Nat) : Below W.heap.size W ((W.drewN a).drewN b) := below_draws (below_draws (Below.refl _ _) _) _
set_option maxRecDepth 100000 in
set_option maxHeartbeats 64000000 in
theorem locals_any (file : Int) (n : Nd) (ka : Option Addr) (kn kc : Nat) (owner : ByteArray) (ho : owner.size ≤ 50000000) (w0 w : World) (hw0 : Below w0.heap.size w0 w) (hk : KidsAt w0 n.kids (.slice ka kn kc))
    (P : Nd → Prop) (hP : ∀ t, P t → t.hd.text.length ≤ 50000000 ∧ t.kids.length ≤ 1000000 ∧ ∀ k ∈ t.kids, P k) (hn : P n) (hnl : isLoc n = false) (hcnt : n.cnt ≤ 900000)
    (N bl bm bt mb : Nat) (hT : Tb w0.heap.size N bl bm bt mb) (v : Value) (ps : List Pe) (hA : AddSt w N bl bm bt mb v ps) (hps : ps.length + n.cnt ≤ 1000000) (hpow : Pow w0) :
    Calls Tryd.prog 48 #[.int .i64 file, .agg #[.int .i64 n.hd.kind, .string (bs n.hd.text), .string (bs n.hd.type), .int .i64 n.hd.n, .int .i64 n.hd.fr, .int .i64 n.hd.to_, .int .i64 n.hd.at_, .int .i64 n.hd.tat, .slice ka kn kc], .string owner, .func (.func 21) #[] #[.pointer (some ⟨bt, 0, none⟩), .pointer (some ⟨bm, 0, none⟩), .pointer (some ⟨bl, 0, none⟩)]] w
      fun e w' => RunIs w N bl bm bt mb v (runs (ps.map (·.1)) (locs file (tl owner) 0 (evN [] n))) e w' := by
  obtain ⟨R, hR⟩ : ∃ R, Hid (runs (ps.map (·.1)) (locs file (tl owner) 0 (evN [] n)) = R) := ⟨_, Lib.hid rfl⟩
  rw [hR.out]
  obtain ⟨nb, hnb⟩ : ∃ x, w.heap.size = x := ⟨_, rfl⟩
  obtain ⟨W1, hW1⟩ : ∃ W1, Hid (w.alloc (.cells #[.int .i64 n.hd.kind, .string (bs n.hd.text), .string (bs n.hd.type), .int .i64 n.hd.n, .int .i64 n.hd.fr, .int .i64 n.hd.to_, .int .i64 n.hd.at_, .int .i64 n.hd.tat, .slice ka kn kc] 55) = W1) := ⟨_, Lib.hid rfl⟩
  have R1 : RowAt W1 nb 55 (n.hd.vals (.slice ka kn kc)) := by rw [← hW1.out, ← hnb]; exact RowAt.new w 55 _
  have B1 : Below w.heap.size w W1 := by rw [← hW1.out]; exact (Below.refl _ w).alloc (Nat.le_refl _) _
  have S1 : W1.heap.size = nb + 1 := by rw [← hW1.out, ← hnb]; simp
  obtain ⟨W2, hW2⟩ : ∃ W2, Hid (W1.alloc (.cells #[.pointer (some ⟨nb, 0, none⟩), .int .i64 0, .map none] 100) = W2) := ⟨_, Lib.hid rfl⟩
  have R2 : RowAt W2 (nb + 1) 100 #[.pointer (some ⟨nb, 0, none⟩), .int .i64 0, .map none] := by rw [← hW2.out, ← S1]; exact RowAt.new W1 100 _
  have B2 : Below W1.heap.size W1 W2 := by rw [← hW2.out]; exact (Below.refl _ W1).alloc (Nat.le_refl _) _
  have hs0 := hw0.size
  have HRow : RowSt W2 nb (nb + 1) 1 #[.pointer (some ⟨nb, 0, none⟩), .int .i64 0, .map none] [⟨nb, 0, 0, none, []⟩] := by
    have one : ∀ x : Bk, x ∈ [(⟨nb, 0, 0, none, []⟩ : Bk)] → x = ⟨nb, 0, 0, none, []⟩ := fun x hx => by simpa using hx
    refine ⟨R2, by omega, by simp, by unfold maxLen; omega, rfl, rfl, fun x hx => ?_, fun x hx b hb => ?_, by simp⟩
    · rw [one x hx]; exact .inl ⟨rfl, rfl⟩
    · rw [one x hx] at hb; cases hb
  have hME : Hid (Me w0 w W2 nb n (.slice ka kn kc) N bl bm bt mb v [⟨n, .slice ka kn kc, ⟨nb, 0, 0, none, []⟩⟩] (nb + 1) 1 #[.pointer (some ⟨nb, 0, none⟩), .int .i64 0, .map none] v ps) := Lib.hid {
    row := HRow
    node := fun f hf => by
      obtain rfl := List.mem_singleton.1 hf
      exact ⟨hk, .inr ⟨rfl, rfl, rfl, rfl⟩⟩
    root := R1.later B2
    add := (hA.later B1).later B2
    tz := tz_of_below (B1.trans (B2.mono B1.size))
    ob := .inl rfl
    hw := hnb
    hn := by have := hA.own.2.1; omega }
  have hPU : Hid (Pu R file (tl owner) P [⟨n, .slice ka kn kc, ⟨nb, 0, 0, none, []⟩⟩] 0 ps) := Lib.hid {
    run := by
      rw [← hR.out]
      show _ = runs _ (locs file (tl owner) 0 (evK (vis [⟨n, 0, []⟩]) (n.kids.drop 0) ++ []))
      rw [List.append_nil, List.drop_zero, evN_kids]
      rfl
    cnt := by
      show ps.length + (evK (vis [⟨n, 0, []⟩]) (n.kids.drop 0) ++ []).length ≤ _
      rw [List.append_nil, List.drop_zero]
      have h1 := evK_cnt (vis [⟨n, 0, []⟩]) n.kids
      have h2 := cnt_kids n
      omega
    num_ := by
      show 0 + (evK (vis [⟨n, 0, []⟩]) (n.kids.drop 0) ++ []).length ≤ _
      rw [List.append_nil, List.drop_zero]
      have h1 := evK_cnt (vis [⟨n, 0, []⟩]) n.kids
      have h2 := cnt_kids n
      omega
    pr := fun f hf => by
      obtain rfl := List.mem_singleton.1 hf
      exact hn
    last := fun f hf => by
      obtain rfl : (⟨n, .slice ka kn kc, ⟨nb, 0, 0, none, []⟩⟩ : Fk) = f := by simpa using hf
      exact hnl
    top := fun f r hf => by
      injection hf with h1 h2
      subst h1
      exact ⟨Nat.le_refl _, Nat.zero_le _⟩
    oth := fun f r hf f' hf' => by
      injection hf with h1 h2
      subst h2
      cases hf'
    wt_ := by
      show wt [⟨n, 0, []⟩] ≤ _
      rw [wt_cons]
      show 2 * cntL (n.kids.drop 0) + 1 + 0 ≤ _
      rw [List.drop_zero]
      have h2 := cnt_kids n
      omega }
  have HP := Lib.hid hP
  have HT := Lib.hid hT
  have HOw := Lib.hid hA.own
  have HW0 := Lib.hid hw0
  have HPow := Lib.hid hpow
  obtain ⟨i0, hi, hz0, hz1, hz2⟩ := info_parts infoBlk
  clear R1 B1 R2 B2 hA hps hpow hT hP hn hnl hcnt hk hw0 HRow
  go_enter Tryd.func48, Tryd.ntmps48
  go_upto_region 1 with fail
  rw [hW1.out]
  go_upto_region 2 with fail
  rw [hW2.out]
  go_wp2_with fail
  go_loopg [9, 10] (wt (frs [⟨n, .slice ka kn kc, ⟨nb, 0, 0, none, []⟩⟩])) (fun gk v9 v10 wr => ∃ fs g cap cs num v' ps' m, v9 = .slice (some ⟨g, 0, none⟩) m cap ∧ v10 = .int .i64 (num : Nat) ∧ Hid (fs.length = m) ∧ Hid (wt (frs fs) = gk) ∧ Hid (Me w0 w wr nb n (.slice ka kn kc) N bl bm bt mb v fs g cap cs v' ps') ∧ Hid (Pu R file (tl owner) P fs num ps'))
  case atStart => exact ⟨_, nb + 1, 1, _, 0, v, ps, 1, rfl, rfl, Lib.hid rfl, Lib.hid rfl, hME, hPU⟩
  case round =>
    clear hME hPU
    obtain ⟨fs, g, cap, cs, num, v', ps', m, rfl, rfl, hm, hgk, hM, hU⟩ := hrel
    cases fs with
    | nil =>
      obtain rfl : m = 0 := by have := hm.out; simpa using this.symm
      go_wp2_with fail
      go_ret
      exact RunIs.yes hM.out.tz hU.out.done hM.out.add hM.out.ob
    | cons f r =>
      obtain ⟨q, hq⟩ : ∃ q, Hid (r.length = q) := ⟨_, Lib.hid rfl⟩
      obtain rfl : m = q + 1 := by have h1 := hm.out; have h2 := hq.out; rw [List.length_cons] at h1; omega
      clear hm
      have hrow := hM.out.row
      rw [rev_cons] at hrow
      have hxat : (r.reverse.map (·.x) ++ [f.x])[q]? = some f.x := by
        rw [List.getElem?_append_right (by rw [rev_len, hq.out]; exact Nat.le_refl _), rev_len, hq.out, Nat.sub_self]
        rfl
      have hcap := hrow.cap_
      have hlen := hrow.len
      rw [List.length_append, rev_len, hq.out, List.length_singleton] at hlen
      have hql : q + 1 ≤ 2000000 := by
        have h1 := wt_len (frs (f :: r))
        have h2 := hU.out.wt_
        have h3 : (frs (f :: r)).length = q + 1 := by simp [frs, hq.out]
        omega
      unfold maxLen at hcap
      have t0 : wr.cell? ⟨g, q * 3, none⟩ = some (.pointer (some ⟨f.x.b, f.x.o, none⟩)) := (hrow.at_ q f.x hxat).1
      have t1 : wr.cell? ⟨g, q * 3 + 1, none⟩ = some (.int .i64 f.x.i) := (hrow.at_ q f.x hxat).2.1
      have Bw : Below w0.heap.size w0 wr := HW0.out.trans (hM.out.tz.below HT.out HOw.out HW0.out.size)
      have HBw := Lib.hid Bw
      have hnode := hM.out.node f (by simp)
      have hcs := hnode.cells Bw hM.out.root
      obtain ⟨fa, fc, hfk, hfl, hfcm, hfx⟩ := hnode.1.get
      have n8 := hcs.c8
      have n0 := hcs.c0
      have n1 := hcs.c1
      rw [hfk] at n8
      have HFX := Lib.hid hfx
      obtain ⟨fn, hfn⟩ : ∃ x, Hid (f.t.kids.length = x) := ⟨_, Lib.hid rfl⟩
      rw [hfn.out] at n8 hfl
      unfold maxLen at hfcm
      have htop := hU.out.top f r rfl
      have hPf := HP.out f.t (hU.out.pr f (by simp))
      have hfi : f.x.i ≤ fn := by rw [← hfn.out]; exact htop.2
      have hfs : f.x.s.length ≤ f.x.i := htop.1
      have hfn2 : fn ≤ 1000000 := by rw [← hfn.out]; exact hPf.2.1
      have htx := hPf.1
      obtain ⟨i, hi_⟩ : ∃ x, Hid (f.x.i = x) := ⟨_, Lib.hid rfl⟩
      rw [hi_.out] at t1 hfi hfs
      have j1 : (0 : Int) ≤ (i : Int) := by omega
      have j2 : (0 : Int) ≤ (q : Int) := by omega
      have j3 : (q : Int) < ((q + 1 : Nat) : Int) := by omega
      clear hrow hxat Bw hnode hcs hfk hfx htop hPf
      by_cases hlt : i < fn
      · have d1 : decide (i < fn) = true := decide_eq_true hlt
        have j4 : (i : Int) < (fn : Int) := by omega
        obtain ⟨k, hk⟩ : ∃ k, f.t.kids[i]? = some k := ⟨_, List.getElem?_eq_getElem (by rw [hfn.out]; exact hlt)⟩
        obtain ⟨kb, ko, kkv, rfl, kcs, kks⟩ := HFX.out i k hk
        have HK : Hid (f.t.kids[f.x.i]? = some k) := Lib.hid (by rw [hi_.out]; exact hk)
        have HKC := Lib.hid kcs
        have HKK := Lib.hid kks
        clear hk kcs kks
        obtain ⟨ka2, kc2, hkkv, -⟩ := HKK.out.get
        subst hkkv
        go_wp2_with fail
        go_quiet (fail)
        go_wp2_with fail
        go_quiet (fail)
        go_upto_region 7 with fail
        refine X.wp_gen (fun V => Below wr.heap.size wr V) (first_below _ _ _) ?_
        intro V bV
        have HBV := Lib.hid bV
        have hMV := hM.out.below bV
        have rV := hMV.row
        have t1V : V.cell? ⟨g, q * 3 + 1, none⟩ = some (.int .i64 i) := (bV.cell (p := ⟨g, q * 3 + 1, none⟩) hM.out.row.row.lt).trans t1
        have f1V := rV.row.frozen (q * 3 + 1)
        have HI := hMV.inc
        rw [hq.out, hi_.out] at HI
        have HI' := Lib.hid HI
        clear bV hMV rV HI t0 t1 n8
        go_upto_region 8 with fail
        refine X.wp_gen (fun U => ∃ cs', Me w0 w U nb n (.slice ka kn kc) N bl bm bt mb v (f.inc :: r) g cap cs' v' ps') HI'.out ?_
        rintro U ⟨cs2, hM2⟩
        have ME2 := Lib.hid hM2
        have BU := Lib.hid (HW0.out.trans (hM2.tz.below HT.out HOw.out HW0.out.size))
        have kcU := HKC.out.later BU.out
        have c0 := kcU.c0
        have hkb := HKC.out.lt
        have hsz0 := BU.out.size
        clear hM2 t1V f1V kcU HI' HBV
        obtain ⟨b4, hb4⟩ : ∃ b, (k.hd.kind == 4) = b := ⟨_, rfl⟩
        obtain ⟨b6, hb6⟩ : ∃ b, (k.hd.kind == 6) = b := ⟨_, rfl⟩
        have hloc : Hid (isLoc k = (b4 || b6)) := Lib.hid (by unfold isLoc kd; rw [hb4, hb6])
        cases b4
        · cases b6
          · go_upto_region 12 with fail
            have PU3 : Hid (Pu R file (tl owner) P (kidF k (.slice ka2 k.kids.length kc2) kb (ko + i * 9) :: f.inc :: r) num ps') := Lib.hid (hU.out.go (fun t ht => (HP.out t ht).2.2) HK.out hloc.out)
            clear c0 hb4 hb6
            refine X.wp_gen (fun X => Me w0 w X nb n (.slice ka kn kc) N bl bm bt mb v (f.inc :: r) g cap cs2 v' ps') ME2.out ?_
            intro X hM3
            have ME3 := Lib.hid hM3
            clear hM3
            have HRow2 := ME3.out.row
            have hown3 := HRow2.own
            rw [rev_len, show (f.inc :: r).length = q + 1 by rw [List.length_cons, hq.out]] at hown3
            have HOwn3 := Lib.hid hown3
            have hX1 := ME3.out.row.row.lt
            have hXb : nb ≤ X.heap.size := by have h1 := ME3.out.hw; have h2 := ME3.out.tz.size; omega
            clear HRow2 hown3
            go_wp2_with (at_builtin; refine wpList_append_lies _ rfl _ _ 101 rfl nb 100 i0 _ 3 24 Tryd.underlying101 hi hz0 hz1 hz2 rfl (by decide) (.slice (some ⟨g, 0, none⟩) (q + 1) cap) (q + 1) (bv ((f.inc :: r).reverse.map (·.x))) rfl (HOwn3.out.alloc _) ⟨X.heap.size, 0, none⟩ 1 1 [.pointer (some ⟨kb, ko + i * 9, none⟩), .int .i64 0, .map none] rfl rfl (World.news_of_block (heap_alloc_new X _)) (by simp [Value.oneCell']) (by decide) (by unfold maxLen; omega) (by omega) (by simp; omega) (X.heap.size + 1) (by simp) ?_; intro g' c' w1 hown hgrow hat hlt9; have HO9 := Lib.hid hown; have HG9 := Lib.hid hgrow; clear hown hgrow hat)
            obtain ⟨cs9, hME9⟩ := (ME3.out.below ((Below.refl _ X).alloc (Nat.le_refl _) (.cells #[.pointer (some ⟨kb, ko + i * 9, none⟩), .int .i64 0, .map none] 100))).app (k := k) (kkv := (.slice ka2 k.kids.length kc2)) (b := kb) (o := ko + i * 9) (g' := g') (c' := c') ⟨HKK.out, .inl HKC.out⟩ (by rw [show (f.inc :: r).length = q + 1 by rw [List.length_cons, hq.out]]; exact HO9.out) HG9.out
            have HM9 := Lib.hid hME9
            clear hME9
            go_roundg (wt (frs (kidF k (.slice ka2 k.kids.length kc2) kb (ko + i * 9) :: f.inc :: r)))
            case measure =>
              have h1 := wt_go (r := r) HK.out (.slice ka2 k.kids.length kc2) kb (ko + i * 9)
              have h2 := hgk.out
              omega
            case rel => exact ⟨_, g', c', cs9, num, v', ps', q + 1 + 1, rfl, rfl, Lib.hid (by rw [List.length_cons, List.length_cons, hq.out]), Lib.hid rfl, HM9, PU3⟩
          · have hl : Hid (isLoc k = true) := Lib.hid hloc.out
            go_upto_region 9 with fail
            have htxk := (HP.out k ((HP.out f.t (hU.out.pr f (by simp))).2.2 k (List.mem_of_getElem? HK.out))).1
            have hnum := hU.out.num_
            have hcntp := hU.out.cnt
            have hrp : 1 ≤ (rem (f :: r).length (frs (f :: r))).length := by
              rw [rem_go (r := r) HK.out (.map none) 0 0, if_pos hl.out]
              simp
            have hnum2 : num < 1000000 := by omega
            have hps1 : ps'.length ≤ 1000000 := by omega
            obtain ⟨tw, htw⟩ : ∃ b, Hid (decide (k.hd.text ∈ vis (frs (f :: r))) = b) := ⟨_, Lib.hid rfl⟩
            have hvis : Hid (hasN ((f.inc :: r).reverse.map (·.x)) (tl (bs k.hd.text)) = tw) := Lib.hid (by rw [← vis_frs, tl_bs, ← htw.out]; rfl)
            obtain ⟨idv, hidv⟩ : ∃ s, Hid (bs (idL (tl owner) num) = s) := ⟨_, Lib.hid rfl⟩
            have CLoc := Lib.hid (fun (p : InC U) => (Local_any owner num (by omega) hnum2 p.w (pow_below HPow.out (BU.out.trans (p.h.mono hsz0)))))
            have CLoc2 : Hid (∀ p : InC U, Calls Tryd.prog 18 #[.string owner, .int .i64 num] p.w fun e w' => e = .returned (.string idv) ∧ Below p.w.heap.size p.w w') := Lib.hid (fun p => by
              have h9 := CLoc.out p
              rw [← idL_bs, hidv.out] at h9
              exact h9)
            have CEnt : Hid (∀ p : InC U, Calls Tryd.prog 32 #[.int .i64 4, .int .i64 file, .agg #[.int .i64 k.hd.kind, .string (bs k.hd.text), .string (bs k.hd.type), .int .i64 k.hd.n, .int .i64 k.hd.fr, .int .i64 k.hd.to_, .int .i64 k.hd.at_, .int .i64 k.hd.tat, .slice ka2 k.kids.length kc2], .string idv, .string owner] p.w fun e w' => e = .returned (.agg #[.int .i64 4, .string idv, .string (bs k.hd.text), .string owner, .string (bs k.hd.type), .bool false, .slice none 0 0, .int .i64 file, .int .i64 k.hd.at_]) ∧ Below p.w.heap.size p.w w') := Lib.hid (fun p => entity_any 4 file k.hd ka2 k.kids.length kc2 idv owner p.w)
            have CVis : Hid (∀ p : InC U, Calls Tryd.prog 61 #[.slice (some ⟨g, 0, none⟩) (q + 1) cap, .string (bs k.hd.text)] p.w fun e w' => e = .returned (.bool tw) ∧ Below p.w.heap.size p.w w') := Lib.hid (fun p => by
              have h9 := visible_any ((f.inc :: r).reverse.map (·.x)) g cap (bs k.hd.text) (by rw [bs_size]; omega) ME2.out.row.len ME2.out.row.cap_ p.w (ME2.out.row.at_.below p.h)
              rw [hvis.out, rev_len, show (f.inc :: r).length = q + 1 by rw [List.length_cons, hq.out]] at h9
              exact h9)
            have CAdd : Hid (∀ U2, Below U.heap.size U U2 → Calls Tryd.prog 21 #[.agg #[.int .i64 4, .string idv, .string (bs k.hd.text), .string owner, .string (bs k.hd.type), .bool false, .slice none 0 0, .int .i64 file, .int .i64 k.hd.at_], .bool tw, .pointer (some ⟨bt, 0, none⟩), .pointer (some ⟨bm, 0, none⟩), .pointer (some ⟨bl, 0, none⟩)] U2 fun e w' => AddIs U2 N bl bm bt mb v' ps' (ent 4 file k (idL (tl owner) num) (tl owner), .slice none 0 0) tw e w') := Lib.hid (fun U2 hb2 => by
              have h9 := add_any (ent 4 file k (idL (tl owner) num) (tl owner)) none 0 0 tw U2 N bl bm bt mb v' ps' (ME2.out.add.later hb2) (by rfl) (by show (tl owner).length ≤ _; rw [tl_length]; omega) (by show k.hd.text.length ≤ _; omega) hps1 _ (SupT.nil U2 N)
              rw [show bs (ent 4 file k (idL (tl owner) num) (tl owner)).id = idv from hidv.out] at h9
              exact h9)
            have hkc := HKC.out
            have K0 : ∀ p : InC U, p.w.cell? ⟨kb, ko + i * 9, none⟩ = some (.int .i64 k.hd.kind) := fun p => (HKC.out.later (BU.out.trans (p.h.mono hsz0))).c0
            have K1 : ∀ p : InC U, p.w.cell? ⟨kb, ko + i * 9 + 1, none⟩ = some (.string (bs k.hd.text)) := fun p => (HKC.out.later (BU.out.trans (p.h.mono hsz0))).c1
            have K2 : ∀ p : InC U, p.w.cell? ⟨kb, ko + i * 9 + 2, none⟩ = some (.string (bs k.hd.type)) := fun p => (HKC.out.later (BU.out.trans (p.h.mono hsz0))).c2
            have K3 : ∀ p : InC U, p.w.cell? ⟨kb, ko + i * 9 + 3, none⟩ = some (.int .i64 k.hd.n) := fun p => (HKC.out.later (BU.out.trans (p.h.mono hsz0))).c3
            have K4 : ∀ p : InC U, p.w.cell? ⟨kb, ko + i * 9 + 4, none⟩ = some (.int .i64 k.hd.fr) := fun p => (HKC.out.later (BU.out.trans (p.h.mono hsz0))).c4
            have K5 : ∀ p : InC U, p.w.cell? ⟨kb, ko + i * 9 + 5, none⟩ = some (.int .i64 k.hd.to_) := fun p => (HKC.out.later (BU.out.trans (p.h.mono hsz0))).c5
            have K6 : ∀ p : InC U, p.w.cell? ⟨kb, ko + i * 9 + 6, none⟩ = some (.int .i64 k.hd.at_) := fun p => (HKC.out.later (BU.out.trans (p.h.mono hsz0))).c6
            have K7 : ∀ p : InC U, p.w.cell? ⟨kb, ko + i * 9 + 7, none⟩ = some (.int .i64 k.hd.tat) := fun p => (HKC.out.later (BU.out.trans (p.h.mono hsz0))).c7
            have K8 : ∀ p : InC U, p.w.cell? ⟨kb, ko + i * 9 + 8, none⟩ = some (.slice ka2 k.kids.length kc2) := fun p => (HKC.out.later (BU.out.trans (p.h.mono hsz0))).c8
            clear hkc c0 hb4 hb6 hrp htxk CLoc
            refine wp_tail_in U 16 (Below.refl _ _) (by kernel_rfl) (by kernel_rfl) ?_
            simp only [List.take_succ_cons, List.take_zero, List.drop_succ_cons, List.drop_zero]
            repeat (quiet_step (first | (go_at_call 18; with_reducible exact quiet_in (CLoc2.out _)) | (go_at_call 32; with_reducible exact quiet_in (CEnt.out _)) | (go_at_call 61; with_reducible exact quiet_in (CVis.out _))))
            refine wpQuiet_nil ?_
            intro U2 hw'
            have hU2 : Below U.heap.size U U2 := by obtain ⟨p, rfl⟩ := hw'; exact p.h
            clear hw' K0 K1 K2 K3 K4 K5 K6 K7 K8
            have ME2b := Lib.hid (ME2.out.below hU2)
            cases hst : step (ps'.map (·.1)) (ent 4 file k (idL (tl owner) num) (tl owner)) tw with
            | true =>
              have HST := Lib.hid (show step (ps'.map (·.1)) (ent 4 file k (idL (tl owner) num) (tl owner)) (decide (k.hd.text ∈ vis (frs (f :: r)))) = true by rw [htw.out]; exact hst)
              have hst' := Lib.hid hst
              clear hst
              go_wp2_with fail
              refine (CAdd.out U2 hU2).mono ?_
              intro e w5 hadd
              unfold AddIs at hadd
              rw [if_pos hst'.out] at hadd
              obtain ⟨tz5, rfl, rm5⟩ := hadd
              have HTZ5 := Lib.hid tz5
              have HRM5 := Lib.hid rm5
              clear tz5 rm5 hU2
              go_wp2_with fail
              go_ret
              exact RunIs.no (ME2b.out.tz.trans HTZ5.out ME2b.out.ob) (hU.out.stop HK.out hl.out HST.out) HRM5.out
            | false =>
              have HST := Lib.hid (show step (ps'.map (·.1)) (ent 4 file k (idL (tl owner) num) (tl owner)) (decide (k.hd.text ∈ vis (frs (f :: r)))) = false by rw [htw.out]; exact hst)
              have hst' := Lib.hid hst
              clear hst
              go_wp2_with fail
              refine (CAdd.out U2 hU2).mono ?_
              intro e w5 hadd
              unfold AddIs at hadd
              rw [if_neg (by rw [hst'.out]; exact Bool.false_ne_true)] at hadd
              obtain ⟨tz5, rfl, v5, add5, ob5⟩ := hadd
              have ME5 := Lib.hid (ME2b.out.more tz5 add5 ob5)
              clear tz5 add5 ob5 hU2
              go_upto_region 12 with fail
              have PU3 : Hid (Pu R file (tl owner) P (kidF k (.slice ka2 k.kids.length kc2) kb (ko + i * 9) :: f.inc :: r) (num + 1) (ps' ++ [(ent 4 file k (idL (tl owner) num) (tl owner), .slice none 0 0)])) := Lib.hid (hU.out.goLoc (fun t ht => (HP.out t ht).2.2) HK.out hl.out HST.out)
              refine X.wp_gen (fun X => Me w0 w X nb n (.slice ka kn kc) N bl bm bt mb v (f.inc :: r) g cap cs2 v5 (ps' ++ [(ent 4 file k (idL (tl owner) num) (tl owner), .slice none 0 0)])) ME5.out ?_
              intro X hM3
              have ME3 := Lib.hid hM3
              clear hM3
              have HRow2 := ME3.out.row
              have hown3 := HRow2.own
              rw [rev_len, show (f.inc :: r).length = q + 1 by rw [List.length_cons, hq.out]] at hown3
              have HOwn3 := Lib.hid hown3
              have hX1 := ME3.out.row.row.lt
              have hXb : nb ≤ X.heap.size := by have h1 := ME3.out.hw; have h2 := ME3.out.tz.size; omega
              clear HRow2 hown3
              go_wp2_with (at_builtin; refine wpList_append_lies _ rfl _ _ 101 rfl nb 100 i0 _ 3 24 Tryd.underlying101 hi hz0 hz1 hz2 rfl (by decide) (.slice (some ⟨g, 0, none⟩) (q + 1) cap) (q + 1) (bv ((f.inc :: r).reverse.map (·.x))) rfl (HOwn3.out.alloc _) ⟨X.heap.size, 0, none⟩ 1 1 [.pointer (some ⟨kb, ko + i * 9, none⟩), .int .i64 0, .map none] rfl rfl (World.news_of_block (heap_alloc_new X _)) (by simp [Value.oneCell']) (by decide) (by unfold maxLen; omega) (by omega) (by simp; omega) (X.heap.size + 1) (by simp) ?_; intro g' c' w1 hown hgrow hat hlt9; have HO9 := Lib.hid hown; have HG9 := Lib.hid hgrow; clear hown hgrow hat)
              obtain ⟨cs9, hME9⟩ := (ME3.out.below ((Below.refl _ X).alloc (Nat.le_refl _) (.cells #[.pointer (some ⟨kb, ko + i * 9, none⟩), .int .i64 0, .map none] 100))).app (k := k) (kkv := (.slice ka2 k.kids.length kc2)) (b := kb) (o := ko + i * 9) (g' := g') (c' := c') ⟨HKK.out, .inl HKC.out⟩ (by rw [show (f.inc :: r).length = q + 1 by rw [List.length_cons, hq.out]]; exact HO9.out) HG9.out
              have HM9 := Lib.hid hME9
              clear hME9
              go_roundg (wt (frs (kidF k (.slice ka2 k.kids.length kc2) kb (ko + i * 9) :: f.inc :: r)))
              case measure =>
                have h1 := wt_go (r := r) HK.out (.slice ka2 k.kids.length kc2) kb (ko + i * 9)
                have h2 := hgk.out
                omega
              case rel => exact ⟨_, g', c', cs9, num + 1, v5, (ps' ++ [(ent 4 file k (idL (tl owner) num) (tl owner), .slice none 0 0)]), q + 1 + 1, rfl, by go_num, Lib.hid (by rw [List.length_cons, List.length_cons, hq.out]), Lib.hid rfl, HM9, PU3⟩
        · have hl : Hid (isLoc k = true) := Lib.hid (by rw [hloc.out]; rfl)
          go_upto_region 9 with fail
          have htxk := (HP.out k ((HP.out f.t (hU.out.pr f (by simp))).2.2 k (List.mem_of_getElem? HK.out))).1
          have hnum := hU.out.num_
          have hcntp := hU.out.cnt
          have hrp : 1 ≤ (rem (f :: r).length (frs (f :: r))).length := by
            rw [rem_go (r := r) HK.out (.map none) 0 0, if_pos hl.out]
            simp
          have hnum2 : num < 1000000 := by omega
          have hps1 : ps'.length ≤ 1000000 := by omega
          obtain ⟨tw, htw⟩ : ∃ b, Hid (decide (k.hd.text ∈ vis (frs (f :: r))) = b) := ⟨_, Lib.hid rfl⟩
          have hvis : Hid (hasN ((f.inc :: r).reverse.map (·.x)) (tl (bs k.hd.text)) = tw) := Lib.hid (by rw [← vis_frs, tl_bs, ← htw.out]; rfl)
          obtain ⟨idv, hidv⟩ : ∃ s, Hid (bs (idL (tl owner) num) = s) := ⟨_, Lib.hid rfl⟩
          have CLoc := Lib.hid (fun (p : InC U) => (Local_any owner num (by omega) hnum2 p.w (pow_below HPow.out (BU.out.trans (p.h.mono hsz0)))))
          have CLoc2 : Hid (∀ p : InC U, Calls Tryd.prog 18 #[.string owner, .int .i64 num] p.w fun e w' => e = .returned (.string idv) ∧ Below p.w.heap.size p.w w') := Lib.hid (fun p => by
            have h9 := CLoc.out p
            rw [← idL_bs, hidv.out] at h9
            exact h9)
          have CEnt : Hid (∀ p : InC U, Calls Tryd.prog 32 #[.int .i64 4, .int .i64 file, .agg #[.int .i64 k.hd.kind, .string (bs k.hd.text), .string (bs k.hd.type), .int .i64 k.hd.n, .int .i64 k.hd.fr, .int .i64 k.hd.to_, .int .i64 k.hd.at_, .int .i64 k.hd.tat, .slice ka2 k.kids.length kc2], .string idv, .string owner] p.w fun e w' => e = .returned (.agg #[.int .i64 4, .string idv, .string (bs k.hd.text), .string owner, .string (bs k.hd.type), .bool false, .slice none 0 0, .int .i64 file, .int .i64 k.hd.at_]) ∧ Below p.w.heap.size p.w w') := Lib.hid (fun p => entity_any 4 file k.hd ka2 k.kids.length kc2 idv owner p.w)
          have CVis : Hid (∀ p : InC U, Calls Tryd.prog 61 #[.slice (some ⟨g, 0, none⟩) (q + 1) cap, .string (bs k.hd.text)] p.w fun e w' => e = .returned (.bool tw) ∧ Below p.w.heap.size p.w w') := Lib.hid (fun p => by
            have h9 := visible_any ((f.inc :: r).reverse.map (·.x)) g cap (bs k.hd.text) (by rw [bs_size]; omega) ME2.out.row.len ME2.out.row.cap_ p.w (ME2.out.row.at_.below p.h)
            rw [hvis.out, rev_len, show (f.inc :: r).length = q + 1 by rw [List.length_cons, hq.out]] at h9
            exact h9)
          have CAdd : Hid (∀ U2, Below U.heap.size U U2 → Calls Tryd.prog 21 #[.agg #[.int .i64 4, .string idv, .string (bs k.hd.text), .string owner, .string (bs k.hd.type), .bool false, .slice none 0 0, .int .i64 file, .int .i64 k.hd.at_], .bool tw, .pointer (some ⟨bt, 0, none⟩), .pointer (some ⟨bm, 0, none⟩), .pointer (some ⟨bl, 0, none⟩)] U2 fun e w' => AddIs U2 N bl bm bt mb v' ps' (ent 4 file k (idL (tl owner) num) (tl owner), .slice none 0 0) tw e w') := Lib.hid (fun U2 hb2 => by
            have h9 := add_any (ent 4 file k (idL (tl owner) num) (tl owner)) none 0 0 tw U2 N bl bm bt mb v' ps' (ME2.out.add.later hb2) (by rfl) (by show (tl owner).length ≤ _; rw [tl_length]; omega) (by show k.hd.text.length ≤ _; omega) hps1 _ (SupT.nil U2 N)
            rw [show bs (ent 4 file k (idL (tl owner) num) (tl owner)).id = idv from hidv.out] at h9
            exact h9)
          have hkc := HKC.out
          have K0 : ∀ p : InC U, p.w.cell? ⟨kb, ko + i * 9, none⟩ = some (.int .i64 k.hd.kind) := fun p => (HKC.out.later (BU.out.trans (p.h.mono hsz0))).c0
          have K1 : ∀ p : InC U, p.w.cell? ⟨kb, ko + i * 9 + 1, none⟩ = some (.string (bs k.hd.text)) := fun p => (HKC.out.later (BU.out.trans (p.h.mono hsz0))).c1
          have K2 : ∀ p : InC U, p.w.cell? ⟨kb, ko + i * 9 + 2, none⟩ = some (.string (bs k.hd.type)) := fun p => (HKC.out.later (BU.out.trans (p.h.mono hsz0))).c2
          have K3 : ∀ p : InC U, p.w.cell? ⟨kb, ko + i * 9 + 3, none⟩ = some (.int .i64 k.hd.n) := fun p => (HKC.out.later (BU.out.trans (p.h.mono hsz0))).c3
          have K4 : ∀ p : InC U, p.w.cell? ⟨kb, ko + i * 9 + 4, none⟩ = some (.int .i64 k.hd.fr) := fun p => (HKC.out.later (BU.out.trans (p.h.mono hsz0))).c4
          have K5 : ∀ p : InC U, p.w.cell? ⟨kb, ko + i * 9 + 5, none⟩ = some (.int .i64 k.hd.to_) := fun p => (HKC.out.later (BU.out.trans (p.h.mono hsz0))).c5
          have K6 : ∀ p : InC U, p.w.cell? ⟨kb, ko + i * 9 + 6, none⟩ = some (.int .i64 k.hd.at_) := fun p => (HKC.out.later (BU.out.trans (p.h.mono hsz0))).c6
          have K7 : ∀ p : InC U, p.w.cell? ⟨kb, ko + i * 9 + 7, none⟩ = some (.int .i64 k.hd.tat) := fun p => (HKC.out.later (BU.out.trans (p.h.mono hsz0))).c7
          have K8 : ∀ p : InC U, p.w.cell? ⟨kb, ko + i * 9 + 8, none⟩ = some (.slice ka2 k.kids.length kc2) := fun p => (HKC.out.later (BU.out.trans (p.h.mono hsz0))).c8
          clear hkc c0 hb4 hb6 hrp htxk CLoc
          refine wp_tail_in U 16 (Below.refl _ _) (by kernel_rfl) (by kernel_rfl) ?_
          simp only [List.take_succ_cons, List.take_zero, List.drop_succ_cons, List.drop_zero]
          repeat (quiet_step (first | (go_at_call 18; with_reducible exact quiet_in (CLoc2.out _)) | (go_at_call 32; with_reducible exact quiet_in (CEnt.out _)) | (go_at_call 61; with_reducible exact quiet_in (CVis.out _))))
          refine wpQuiet_nil ?_
          intro U2 hw'
          have hU2 : Below U.heap.size U U2 := by obtain ⟨p, rfl⟩ := hw'; exact p.h
          clear hw' K0 K1 K2 K3 K4 K5 K6 K7 K8
          have ME2b := Lib.hid (ME2.out.below hU2)
          cases hst : step (ps'.map (·.1)) (ent 4 file k (idL (tl owner) num) (tl owner)) tw with
          | true =>
            have HST := Lib.hid (show step (ps'.map (·.1)) (ent 4 file k (idL (tl owner) num) (tl owner)) (decide (k.hd.text ∈ vis (frs (f :: r)))) = true by rw [htw.out]; exact hst)
            have hst' := Lib.hid hst
            clear hst
            go_wp2_with fail
            refine (CAdd.out U2 hU2).mono ?_
            intro e w5 hadd
            unfold AddIs at hadd
            rw [if_pos hst'.out] at hadd
            obtain ⟨tz5, rfl, rm5⟩ := hadd
            have HTZ5 := Lib.hid tz5
            have HRM5 := Lib.hid rm5
            clear tz5 rm5 hU2
            go_wp2_with fail
            go_ret
            exact RunIs.no (ME2b.out.tz.trans HTZ5.out ME2b.out.ob) (hU.out.stop HK.out hl.out HST.out) HRM5.out
          | false =>
            have HST := Lib.hid (show step (ps'.map (·.1)) (ent 4 file k (idL (tl owner) num) (tl owner)) (decide (k.hd.text ∈ vis (frs (f :: r)))) = false by rw [htw.out]; exact hst)
            have hst' := Lib.hid hst
            clear hst
            go_wp2_with fail
            refine (CAdd.out U2 hU2).mono ?_
            intro e w5 hadd
            unfold AddIs at hadd
            rw [if_neg (by rw [hst'.out]; exact Bool.false_ne_true)] at hadd
            obtain ⟨tz5, rfl, v5, add5, ob5⟩ := hadd
            have ME5 := Lib.hid (ME2b.out.more tz5 add5 ob5)
            clear tz5 add5 ob5 hU2
            go_upto_region 12 with fail
            have PU3 : Hid (Pu R file (tl owner) P (kidF k (.slice ka2 k.kids.length kc2) kb (ko + i * 9) :: f.inc :: r) (num + 1) (ps' ++ [(ent 4 file k (idL (tl owner) num) (tl owner), .slice none 0 0)])) := Lib.hid (hU.out.goLoc (fun t ht => (HP.out t ht).2.2) HK.out hl.out HST.out)
            refine X.wp_gen (fun X => Me w0 w X nb n (.slice ka kn kc) N bl bm bt mb v (f.inc :: r) g cap cs2 v5 (ps' ++ [(ent 4 file k (idL (tl owner) num) (tl owner), .slice none 0 0)])) ME5.out ?_
            intro X hM3
            have ME3 := Lib.hid hM3
            clear hM3
            have HRow2 := ME3.out.row
            have hown3 := HRow2.own
            rw [rev_len, show (f.inc :: r).length = q + 1 by rw [List.length_cons, hq.out]] at hown3
            have HOwn3 := Lib.hid hown3
            have hX1 := ME3.out.row.row.lt
            have hXb : nb ≤ X.heap.size := by have h1 := ME3.out.hw; have h2 := ME3.out.tz.size; omega
            clear HRow2 hown3
            go_wp2_with (at_builtin; refine wpList_append_lies _ rfl _ _ 101 rfl nb 100 i0 _ 3 24 Tryd.underlying101 hi hz0 hz1 hz2 rfl (by decide) (.slice (some ⟨g, 0, none⟩) (q + 1) cap) (q + 1) (bv ((f.inc :: r).reverse.map (·.x))) rfl (HOwn3.out.alloc _) ⟨X.heap.size, 0, none⟩ 1 1 [.pointer (some ⟨kb, ko + i * 9, none⟩), .int .i64 0, .map none] rfl rfl (World.news_of_block (heap_alloc_new X _)) (by simp [Value.oneCell']) (by decide) (by unfold maxLen; omega) (by omega) (by simp; omega) (X.heap.size + 1) (by simp) ?_; intro g' c' w1 hown hgrow hat hlt9; have HO9 := Lib.hid hown; have HG9 := Lib.hid hgrow; clear hown hgrow hat)
            obtain ⟨cs9, hME9⟩ := (ME3.out.below ((Below.refl _ X).alloc (Nat.le_refl _) (.cells #[.pointer (some ⟨kb, ko + i * 9, none⟩), .int .i64 0, .map none] 100))).app (k := k) (kkv := (.slice ka2 k.kids.length kc2)) (b := kb) (o := ko + i * 9) (g' := g') (c' := c') ⟨HKK.out, .inl HKC.out⟩ (by rw [show (f.inc :: r).length = q + 1 by rw [List.length_cons, hq.out]]; exact HO9.out) HG9.out
            have HM9 := Lib.hid hME9
            clear hME9
            go_roundg (wt (frs (kidF k (.slice ka2 k.kids.length kc2) kb (ko + i * 9) :: f.inc :: r)))
            case measure =>
              have h1 := wt_go (r := r) HK.out (.slice ka2 k.kids.length kc2) kb (ko + i * 9)
              have h2 := hgk.out
              omega
            case rel => exact ⟨_, g', c', cs9, num + 1, v5, (ps' ++ [(ent 4 file k (idL (tl owner) num) (tl owner), .slice none 0 0)]), q + 1 + 1, rfl, by go_num, Lib.hid (by rw [List.length_cons, List.length_cons, hq.out]), Lib.hid rfl, HM9, PU3⟩
      · have d1 : decide (i < fn) = false := decide_eq_false hlt
        have HKN : Hid (f.t.kids[f.x.i]? = none) := Lib.hid (by rw [hi_.out, List.getElem?_eq_none]; rw [hfn.out]; omega)
        go_wp2_with fail
        go_quiet (fail)
        go_upto_region 13 with fail
        refine X.wp_gen (fun V => Below wr.heap.size wr V) (below_draws (Below.refl _ _) _) ?_
        intro V bV
        have MEV := Lib.hid (hM.out.below bV)
        have hrV := MEV.out.row
        have t0V : V.cell? ⟨g, q * 3, none⟩ = some (.pointer (some ⟨f.x.b, f.x.o, none⟩)) := (bV.cell (p := ⟨g, q * 3, none⟩) hM.out.row.row.lt).trans t0
        have hnb : f.x.b < wr.heap.size := World.block_lt_of_cell? wr _ n0
        have n0V : V.cell? ⟨f.x.b, f.x.o, none⟩ = some (.int .i64 f.t.hd.kind) := (bV.cell (p := ⟨f.x.b, f.x.o, none⟩) hnb).trans n0
        have HN1 : Hid (∀ p : InC V, p.w.cell? ⟨f.x.b, f.x.o + 1, none⟩ = some (.string (bs f.t.hd.text))) := Lib.hid (fun p => ((bV.trans (p.h.mono bV.size)).cell (p := ⟨f.x.b, f.x.o + 1, none⟩) hnb).trans n1)
        clear bV hrV t0 t1 n0 n1 n8 d1
        obtain ⟨b4, hb4⟩ : ∃ b, (f.t.hd.kind == 4) = b := ⟨_, rfl⟩
        obtain ⟨b6, hb6⟩ : ∃ b, (f.t.hd.kind == 6) = b := ⟨_, rfl⟩
        have hloc : Hid (isLoc f.t = (b4 || b6)) := Lib.hid (by unfold isLoc kd; rw [hb4, hb6])
        have j5 : (q : Int) ≤ (cap : Int) := by omega
        cases b4
        · cases b6
          · have PU3 := Lib.hid (hU.out.back HKN.out none)
            have hup : Hid (updF f.t none r = r) := Lib.hid (updF_no hloc.out r)
            rw [hup.out] at PU3
            go_wp2_with fail
            go_roundg (wt (frs r))
            case measure =>
              have h1 := wt_back (r := r) HKN.out none
              have h2 := hgk.out
              rw [hup.out] at h1
              omega
            case rel => exact ⟨r, g, cap, cs, num, v', ps', q, rfl, rfl, hq, Lib.hid rfl, Lib.hid MEV.out.pop, PU3⟩
          · have hl : Hid (isLoc f.t = true) := Lib.hid hloc.out
            cases r with
            | nil =>
              have h1 := hU.out.last f rfl
              have h2 := hl.out
              rw [h1] at h2
              cases h2
            | cons f2 r2 =>
              obtain ⟨q2, hq2⟩ : ∃ x, Hid (r2.length = x) := ⟨_, Lib.hid rfl⟩
              obtain rfl : q = q2 + 1 := by have h1 := hq.out; have h2 := hq2.out; rw [List.length_cons] at h1; omega
              have PU3 := Lib.hid (fun b' : Nat => hU.out.back HKN.out (some b'))
              have hoth := hU.out.oth f _ rfl f2 (by simp)
              have hk2 := (HP.out f2.t (hU.out.pr f2 (by simp))).2.1
              have hs2 : f2.x.s.length ≤ 2000000 := by omega
              have hi2 : (f2.x.i : Int) ≤ 2000000 := by omega
              have j6 : (0 : Int) ≤ (q2 : Int) := by omega
              have j7 : (q2 : Int) < ((q2 + 1 : Nat) : Int) := by omega
              have j8 : (q2 : Int) < (q2 : Int) + 1 := by omega
              have j9 : decide (q2 < q2 + 1) = true := decide_eq_true (by omega)
              have j0 : ((q2 : Int)).toNat = q2 := by omega
              clear hoth hk2
              have CDec : Hid (∀ U, Below V.heap.size V U → Calls Tryd.prog 62 #[.pointer (some ⟨g, q2 * 3, none⟩), .string (bs f.t.hd.text)] U fun e w' => e = .returned (.tuple #[]) ∧ ∃ b', Dc U g q2 cs f2.x (tl (bs f.t.hd.text)) b' w') := Lib.hid (fun U hbU => by
                have hm2 := (MEV.out.below hbU).pop
                have hr2 := hm2.row
                rw [rev_cons] at hr2
                have hx2 : (r2.reverse.map (·.x) ++ [f2.x])[q2]? = some f2.x := by
                  rw [List.getElem?_append_right (by rw [rev_len, hq2.out]; exact Nat.le_refl _), rev_len, hq2.out, Nat.sub_self]
                  rfl
                exact declare_any f2.x (bs f.t.hd.text) (by rw [bs_size]; omega) hs2 hi2 U g q2 cs hr2.row (hr2.cell hx2 1 (by omega)) (hr2.cell hx2 2 (by omega)) (hr2.ok f2.x (by simp)))
              go_upto_region 16 with fail
              have K1 := HN1.out
              have i1 : IntKind.i64.wrap ((q2 : Int) + 1 - 1) = (q2 : Int) := by rw [Int.add_sub_cancel]; exact Go.IntWalk.i64_in _ (by omega)
              have i2 : IntKind.i64.wrap (q2 : Int) = (q2 : Int) := Go.IntWalk.i64_in _ (by omega)
              clear t0V n0V hb4 hb6
              refine wp_tail_in V 9 (Below.refl _ _) (by kernel_rfl) (by kernel_rfl) ?_
              simp only [List.take_succ_cons, List.take_zero, List.drop_succ_cons, List.drop_zero]
              repeat (quiet_step (fail))
              refine wpQuiet_nil ?_
              intro U hw'
              have hU2 : Below V.heap.size V U := by obtain ⟨p, rfl⟩ := hw'; exact p.h
              clear hw' K1
              have ME2 := Lib.hid ((MEV.out.below hU2).pop)
              go_wp2_with fail
              refine (CDec.out U hU2).mono ?_
              rintro e w5 ⟨rfl, b', hD⟩
              rw [← hq2.out] at hD
              obtain ⟨cs5, hM5⟩ := ME2.out.dec hD
              have ME5 := Lib.hid hM5
              clear hM5 hD hU2
              have hup : Hid (updF f.t (some b') (f2 :: r2) = { f2 with x := { f2.x with mv := some b', s := tl (bs f.t.hd.text) :: f2.x.s } } :: r2) := Lib.hid (by rw [updF_yes hl.out, tl_bs])
              have PU5 := Lib.hid (PU3.out b')
              rw [hup.out] at PU5
              go_wp2_with fail
              go_roundg (wt (frs (updF f.t (some b') (f2 :: r2))))
              case measure =>
                have h1 := wt_back (r := f2 :: r2) HKN.out (some b')
                have h2 := hgk.out
                omega
              case rel => exact ⟨_, g, cap, cs5, num, v', ps', q2 + 1, rfl, rfl, Lib.hid (by rw [List.length_cons, hq2.out]), Lib.hid (by rw [hup.out]), ME5, Lib.hid PU5.out⟩
        · have hl : Hid (isLoc f.t = true) := Lib.hid (by rw [hloc.out]; rfl)
          cases r with
          | nil =>
            have h1 := hU.out.last f rfl
            have h2 := hl.out
            rw [h1] at h2
            cases h2
          | cons f2 r2 =>
            obtain ⟨q2, hq2⟩ : ∃ x, Hid (r2.length = x) := ⟨_, Lib.hid rfl⟩
            obtain rfl : q = q2 + 1 := by have h1 := hq.out; have h2 := hq2.out; rw [List.length_cons] at h1; omega
            have PU3 := Lib.hid (fun b' : Nat => hU.out.back HKN.out (some b'))
            have hoth := hU.out.oth f _ rfl f2 (by simp)
            have hk2 := (HP.out f2.t (hU.out.pr f2 (by simp))).2.1
            have hs2 : f2.x.s.length ≤ 2000000 := by omega
            have hi2 : (f2.x.i : Int) ≤ 2000000 := by omega
            have j6 : (0 : Int) ≤ (q2 : Int) := by omega
            have j7 : (q2 : Int) < ((q2 + 1 : Nat) : Int) := by omega
            have j8 : (q2 : Int) < (q2 : Int) + 1 := by omega
            have j9 : decide (q2 < q2 + 1) = true := decide_eq_true (by omega)
            have j0 : ((q2 : Int)).toNat = q2 := by omega
            clear hoth hk2
            have CDec : Hid (∀ U, Below V.heap.size V U → Calls Tryd.prog 62 #[.pointer (some ⟨g, q2 * 3, none⟩), .string (bs f.t.hd.text)] U fun e w' => e = .returned (.tuple #[]) ∧ ∃ b', Dc U g q2 cs f2.x (tl (bs f.t.hd.text)) b' w') := Lib.hid (fun U hbU => by
              have hm2 := (MEV.out.below hbU).pop
              have hr2 := hm2.row
              rw [rev_cons] at hr2
              have hx2 : (r2.reverse.map (·.x) ++ [f2.x])[q2]? = some f2.x := by
                rw [List.getElem?_append_right (by rw [rev_len, hq2.out]; exact Nat.le_refl _), rev_len, hq2.out, Nat.sub_self]
                rfl
              exact declare_any f2.x (bs f.t.hd.text) (by rw [bs_size]; omega) hs2 hi2 U g q2 cs hr2.row (hr2.cell hx2 1 (by omega)) (hr2.cell hx2 2 (by omega)) (hr2.ok f2.x (by simp)))
            go_upto_region 16 with fail
            have K1 := HN1.out
            have i1 : IntKind.i64.wrap ((q2 : Int) + 1 - 1) = (q2 : Int) := by rw [Int.add_sub_cancel]; exact Go.IntWalk.i64_in _ (by omega)
            have i2 : IntKind.i64.wrap (q2 : Int) = (q2 : Int) := Go.IntWalk.i64_in _ (by omega)
            clear t0V n0V hb4 hb6
            refine wp_tail_in V 9 (Below.refl _ _) (by kernel_rfl) (by kernel_rfl) ?_
            simp only [List.take_succ_cons, List.take_zero, List.drop_succ_cons, List.drop_zero]
            repeat (quiet_step (fail))
            refine wpQuiet_nil ?_
            intro U hw'
            have hU2 : Below V.heap.size V U := by obtain ⟨p, rfl⟩ := hw'; exact p.h
            clear hw' K1
            have ME2 := Lib.hid ((MEV.out.below hU2).pop)
            go_wp2_with fail
            refine (CDec.out U hU2).mono ?_
            rintro e w5 ⟨rfl, b', hD⟩
            rw [← hq2.out] at hD
            obtain ⟨cs5, hM5⟩ := ME2.out.dec hD
            have ME5 := Lib.hid hM5
            clear hM5 hD hU2
            have hup : Hid (updF f.t (some b') (f2 :: r2) = { f2 with x := { f2.x with mv := some b', s := tl (bs f.t.hd.text) :: f2.x.s } } :: r2) := Lib.hid (by rw [updF_yes hl.out, tl_bs])
            have PU5 := Lib.hid (PU3.out b')
            rw [hup.out] at PU5
            go_wp2_with fail
            go_roundg (wt (frs (updF f.t (some b') (f2 :: r2))))
            case measure =>
              have h1 := wt_back (r := f2 :: r2) HKN.out (some b')
              have h2 := hgk.out
              omega
            case rel => exact ⟨_, g, cap, cs5, num, v', ps', q2 + 1, rfl, rfl, Lib.hid (by rw [List.length_cons, hq2.out]), Lib.hid (by rw [hup.out]), ME5, Lib.hid PU5.out⟩
end Go.Proofs.YtbnbmjdjkadgoaaDoor.D
