/-
  For the laws of node: the reference's Shift. Condition: at most 2,000,000 nodes.
-/
import Derived.Test.YtpnfjiglphogoabRpl
import Derived.Test.YtpnfjiglphogoabClo
namespace Go.Proofs.Ytpnfjiglphogoab
open Go.RowKit Go.Shelf
set_option linter.unusedSimpArgs false
set_option linter.unusedVariables false

set_option maxRecDepth 100000 in
set_option maxHeartbeats 8000000 in
theorem RefShift_at (w : World) (by_ : Int) : ∀ (t : Nd) (kv : Value), KidsAt w t.kids kv → ∀ W, Below w.heap.size w W → t.cnt ≤ 2000000 → Calls Try.prog 21 #[.agg #[.int .i64 t.hd.kind, .string (bs t.hd.text), .string (bs t.hd.type), .int .i64 t.hd.n, .int .i64 t.hd.fr, .int .i64 t.hd.to_, .int .i64 t.hd.at_, .int .i64 t.hd.tat, kv], .int .i64 by_] W fun e w' => RMapIs (shH by_) W t e w' ∧ Below W.heap.size W w' := by
  refine kids_ind _ ?_
  intro t a cap hc hcap hK hx W hW hm
  have Hx := Lib.hid hx
  have HW := Lib.hid hW
  clear hx hK hW
  have hw0 := HW.out.size
  obtain ⟨ks, hks⟩ : ∃ ks, Hid (t.kids = ks) := ⟨_, Lib.hid rfl⟩
  have hcnt : cntL ks + 1 ≤ 2000000 := by rw [← hks.out, ← cnt_kids]; exact hm
  have hkl := cntL_len ks
  show Calls _ _ _ _ fun e w' => (∃ kv F, e = .returned (.agg #[.int .i64 (shH by_ t.hd).kind, .string (bs (shH by_ t.hd).text), .string (bs (shH by_ t.hd).type), .int .i64 (shH by_ t.hd).n, .int .i64 (shH by_ t.hd).fr, .int .i64 (shH by_ t.hd).to_, .int .i64 (shH by_ t.hd).at_, .int .i64 (shH by_ t.hd).tat, kv]) ∧ Sup w' W.heap.size (mapL (shH by_) t.kids) kv F) ∧ _
  obtain ⟨h2, hh2⟩ : ∃ h2, Hid (shH by_ t.hd = h2) := ⟨_, Lib.hid rfl⟩
  rw [hh2.out]
  rw [hks.out] at hc Hx
  rw [hks.out]
  obtain ⟨n, hn⟩ : ∃ n, Hid (ks.length = n) := ⟨_, Lib.hid rfl⟩
  rw [hn.out] at hc hkl
  rw [hn.out]
  obtain ⟨W1, hW1⟩ : ∃ W1, Hid ((W.alloc (.cells #[.int .i64 t.hd.kind, .string (bs t.hd.text), .string (bs t.hd.type), .int .i64 t.hd.n, .int .i64 t.hd.fr, .int .i64 t.hd.to_, .int .i64 t.hd.at_, .int .i64 t.hd.tat, .slice a n cap] 24)).alloc (.cells #[.int .i64 0, .string ⟨#[]⟩, .string ⟨#[]⟩, .int .i64 0, .int .i64 0, .int .i64 0, .int .i64 0, .int .i64 0, .slice none 0 0] 24) = W1) := ⟨_, Lib.hid rfl⟩
  have R1 : Hid (RowAt W1 W.heap.size 24 #[.int .i64 t.hd.kind, .string (bs t.hd.text), .string (bs t.hd.type), .int .i64 t.hd.n, .int .i64 t.hd.fr, .int .i64 t.hd.to_, .int .i64 t.hd.at_, .int .i64 t.hd.tat, .slice a n cap]) := by rw [← hW1.out]; exact Lib.hid ((RowAt.new W 24 #[.int .i64 t.hd.kind, .string (bs t.hd.text), .string (bs t.hd.type), .int .i64 t.hd.n, .int .i64 t.hd.fr, .int .i64 t.hd.to_, .int .i64 t.hd.at_, .int .i64 t.hd.tat, .slice a n cap]).alloc _)
  have Z1 : Hid (RowAt W1 (W.heap.size + 1) 24 #[.int .i64 0, .string ⟨#[]⟩, .string ⟨#[]⟩, .int .i64 0, .int .i64 0, .int .i64 0, .int .i64 0, .int .i64 0, .slice none 0 0]) := by
    rw [← hW1.out]
    have := RowAt.new (W.alloc (.cells #[.int .i64 t.hd.kind, .string (bs t.hd.text), .string (bs t.hd.type), .int .i64 t.hd.n, .int .i64 t.hd.fr, .int .i64 t.hd.to_, .int .i64 t.hd.at_, .int .i64 t.hd.tat, .slice a n cap] 24)) 24 #[.int .i64 0, .string ⟨#[]⟩, .string ⟨#[]⟩, .int .i64 0, .int .i64 0, .int .i64 0, .int .i64 0, .int .i64 0, .slice none 0 0]
    rw [World.size_alloc] at this
    exact Lib.hid this
  have B1 : Hid (Below W.heap.size W W1) := by rw [← hW1.out]; exact Lib.hid (((Below.refl _ W).alloc (Nat.le_refl _) _).alloc (by simp) _)
  have BW1 := Lib.hid (HW.out.trans (B1.out.mono hw0))
  have hs1 : W1.heap.size = W.heap.size + 2 := by rw [← hW1.out]; simp
  have hcap' := hcap
  unfold maxLen at hcap'
  obtain ⟨i0, hi0, hz0, hz1, hz2⟩ := info_parts infoNode
  go_enter Try.func21, Try.ntmps21
  go_wp2_with fail
  rw [hW1.out]
  go_loopw [5, 6] (fun u c wr => ∃ (k : Nat) (ps : List Pr), c = .int .i64 k ∧ k ≤ n ∧ Hid (ps.map (·.1) = mapL (shH by_) (ks.take k)) ∧ Hid (OwnS (W.heap.size + 2) wr u ps) ∧ Hid (Below W1.heap.size W1 wr)) (fun _ c _ => n - (intOf c).toNat)
  case atStart => exact ⟨0, [], rfl, by omega, Lib.hid (by simp [mapL]), Lib.hid (OwnS.nil (by omega)), Lib.hid (Below.refl _ _)⟩
  case round =>
    obtain ⟨k, ps, rfl, hk, hP, hO, hB⟩ := hrel
    have hbs := hB.out.size
    have BWr := Lib.hid (BW1.out.trans (hB.out.mono (by omega)))
    have hbox := R1.out.later hB.out
    have c8 : wr.cell? ⟨W.heap.size, 8, none⟩ = some (.slice a n cap) := hbox.cell (j := 8) rfl
    have hpl : ps.length = k := by
      have h1 := congrArg List.length hP.out
      rw [List.length_map, mapL_len, List.length_take, hn.out] at h1
      omega
    by_cases hlt : k < n
    · obtain ⟨x, hx⟩ : ∃ x, ks[k]? = some x := ⟨_, List.getElem?_eq_getElem (by rw [hn.out]; exact hlt)⟩
      obtain ⟨b, off, kv, rfl, cs, hk2, call⟩ := Hx.out k x hx
      obtain ⟨d0, d1, d2, d3, d4, d5, d6, d7, d8⟩ := cs.later BWr.out
      have hxc : x.cnt ≤ 2000000 := by have := cntL_mem (List.mem_of_getElem? hx); omega
      have Call := Lib.hid (call wr BWr.out hxc)
      have Htk := Lib.hid (mapL_take_succ (f := shH by_) hx)
      have p0 : (k : Int) < (n : Int) := by omega
      have p1 : (0 : Int) ≤ (k : Int) := by omega
      clear call cs hx hk2 hbox
      go_wp2_with fail
      refine Call.out.mono ?_
      rintro e w2 ⟨⟨kv2, F, rfl, hsup⟩, b2⟩
      obtain ⟨a2, c2, rfl, -⟩ := hsup.kids.get
      obtain ⟨xl, hxl⟩ : ∃ xl, Hid ((mapL (shH by_) x.kids).length = xl) := ⟨_, Lib.hid rfl⟩
      rw [hxl.out] at hsup
      rw [hxl.out]
      have B2 := Lib.hid (hB.out.trans (b2.mono hbs))
      have O2 := Lib.hid (hO.out.below b2)
      have hs2 := b2.size
      obtain ⟨p, hp⟩ : ∃ p : Pr, Hid (p = (Nd.mk (shH by_ x.hd) (mapL (shH by_) x.kids), Value.slice a2 xl c2)) := ⟨_, Lib.hid rfl⟩
      have hpx : Hid (p.1 = x.map (shH by_)) := Lib.hid (by rw [hp.out, map_kids])
      obtain ⟨A, hA⟩ : ∃ A, Hid (w2.alloc (.cells #[.int .i64 (shH by_ x.hd).kind, .string (bs (shH by_ x.hd).text), .string (bs (shH by_ x.hd).type), .int .i64 (shH by_ x.hd).n, .int .i64 (shH by_ x.hd).fr, .int .i64 (shH by_ x.hd).to_, .int .i64 (shH by_ x.hd).at_, .int .i64 (shH by_ x.hd).tat, .slice a2 xl c2] 24) = A) := ⟨_, Lib.hid rfl⟩
      have bA : Hid (Below w2.heap.size w2 A) := by rw [← hA.out]; exact Lib.hid ((Below.refl _ _).alloc (Nat.le_refl _) _)
      have hsA : A.heap.size = w2.heap.size + 1 := by rw [← hA.out]; simp
      have OA := Lib.hid (O2.out.below bA.out)
      have SA : Hid (Sup A (W.heap.size + 2) p.1.kids p.2 F) := Lib.hid (by
        have h1 := hsup.below bA.out
        rw [hp.out]
        exact ⟨fun b hb => ⟨by have := (h1.1 b hb).1; omega, (h1.1 b hb).2⟩, h1.2⟩)
      have hFn : Hid (∀ b, F b → u5.ownBlock ≠ some b) := Lib.hid (fun b hb e => by
        have h1 := (hO.out.1.lt b e).2
        have h2 := (hsup.1 b hb).1
        omega)
      have hnews : Hid (∀ (j : Nat) (u : Value), (rowP p)[j]? = some u → A.cell? ((⟨w2.heap.size, 0, none⟩ : Addr).add j) = some u) := Lib.hid (by
        rw [← hA.out, hp.out]
        exact row9_new w2 (Nd.mk (shH by_ x.hd) (mapL (shH by_) x.kids), Value.slice a2 xl c2) 24)
      have hone : Hid (∀ u ∈ rowP p, u.oneCell' = true) := Lib.hid (by
        rw [hp.out]
        intro u hu
        simp [rowP, Hd.vals, Nd.hd] at hu
        rcases hu with rfl | rfl | rfl | rfl | rfl | rfl | rfl | rfl | rfl <;> rfl)
      have B2A := Lib.hid (B2.out.trans (bA.out.mono (by omega)))
      clear b2 hsup
      go_wp2_with (at_builtin; rw [hA.out]; refine wpList_append_lies A rfl _ _ 22 rfl (W.heap.size + 2) 24 i0 _ 9 104 Try.underlying22 hi0 hz0 hz1 hz2 rfl (by decide) u5 ps.length (fv ps) rfl OA.out.1 ⟨w2.heap.size, 0, none⟩ 1 1 (rowP p) rfl rfl hnews.out hone.out (by omega) (by unfold maxLen; omega) (by omega) (by omega) A.heap.size rfl ?_; intro g5 cap5 w5 hown5 hg5 hat5 hlt5)
      have O5 : Hid (OwnS (W.heap.size + 2) w5 (.slice (some ⟨g5, 0, none⟩) (k + 1) cap5) (ps ++ [p])) := Lib.hid (by
        have := OA.out.snoc SA.out hFn.out hown5 hg5 hat5
        rw [hpl] at this
        exact this)
      have B5 : Hid (Below W1.heap.size W1 w5) := Lib.hid (B2A.out.grown hg5 (by omega) (fun k e => by have := (OA.out.1.lt k e).1; omega))
      clear hown5 hg5 hat5 hlt5
      go_wp2_with fail
      exact ⟨⟨k + 1, ps ++ [p], by go_num, by omega, Lib.hid (by rw [List.map_append, hP.out, Htk.out, List.map_singleton, hpx.out]), O5, B5⟩, by simp [intOf]; omega⟩
    · obtain rfl : k = n := by omega
      have hfin : Hid (ps.map (·.1) = mapL (shH by_) ks) := Lib.hid (by rw [hP.out, ← hn.out, List.take_length])
      obtain ⟨ao, uc, rfl⟩ : ∃ ao uc, u5 = .slice ao ps.length uc := by
        rcases hO.out.1.2 with ⟨e, h0⟩ | ⟨g, c, cur, e, -⟩
        · exact ⟨none, 0, by rw [e, h0]⟩
        · exact ⟨_, c, e⟩
      have ZR := Lib.hid (Z1.out.later hB.out)
      obtain ⟨Fs, hSup⟩ := hO.out.sup
      have HSup := Lib.hid hSup
      obtain ⟨d0, d1, d2, d3, d4, d5, d6, d7, d8⟩ := (show Cells wr W.heap.size 0 t.hd (.slice a k cap) from Cells.row hbox)
      obtain ⟨r0, r1, r2, r3, r4, r5, r6, r7, r8⟩ := (show Cells wr (W.heap.size + 1) 0 ⟨0, [], [], 0, 0, 0, 0, 0⟩ (.slice none 0 0) from Cells.row ZR.out)
      simp only [Nat.zero_add] at d1 d2 d3 d4 d5 d6 d7 r1 r2 r3 r4 r5 r6 r7 r8
      clear d8
      have z0 := ZR.out.frozen 0
      have z1 := ZR.out.frozen 1
      have z2 := ZR.out.frozen 2
      have z3 := ZR.out.frozen 3
      have z4 := ZR.out.frozen 4
      have z5 := ZR.out.frozen 5
      have z6 := ZR.out.frozen 6
      have z7 := ZR.out.frozen 7
      have z8 := ZR.out.frozen 8
      have y4 := hbox.frozen 4
      have y5 := hbox.frozen 5
      have y6 := hbox.frozen 6
      have y7 := hbox.frozen 7
      have y8 := hbox.frozen 8
      clear hSup
      rcases Classical.em (0 ≤ t.hd.at_) with ha | ha <;> rcases Classical.em (0 ≤ t.hd.tat) with hb | hb
      · have fa : decide (0 ≤ t.hd.at_) = true := decide_eq_true ha
        have fb : decide (0 ≤ t.hd.tat) = true := decide_eq_true hb
        replace ha := Lib.hid ha
        replace hb := Lib.hid hb
        go_wp2_with fail
        have U5 := (((((Upd.set wr W.heap.size 0 8 (by omega) (.slice ao k uc)).trans (Upd.set _ W.heap.size 0 4 (by omega) (.int .i64 (wrap64 (t.hd.fr + by_))))).trans (Upd.set _ W.heap.size 0 5 (by omega) (.int .i64 (wrap64 (t.hd.to_ + by_))))).trans (Upd.set _ W.heap.size 0 6 (by omega) (.int .i64 (wrap64 (t.hd.at_ + by_))))).trans (Upd.set _ W.heap.size 0 7 (by omega) (.int .i64 (wrap64 (t.hd.tat + by_)))))
        simp only [Nat.zero_add] at U5
        obtain rfl : h2 = ⟨t.hd.kind, t.hd.text, t.hd.type, t.hd.n, wrap64 (t.hd.fr + by_), wrap64 (t.hd.to_ + by_), wrap64 (t.hd.at_ + by_), wrap64 (t.hd.tat + by_)⟩ := by
          rw [← hh2.out]
          unfold shH
          rw [if_pos ha.out, if_pos hb.out]
        have NN := nine (RowAt.same ZR.out (U5.other _ (by omega))) ⟨t.hd.kind, t.hd.text, t.hd.type, t.hd.n, wrap64 (t.hd.fr + by_), wrap64 (t.hd.to_ + by_), wrap64 (t.hd.at_ + by_), wrap64 (t.hd.tat + by_)⟩ (.slice ao k uc)
        refine bodyPost_ret (results_cell_row (P := Try.prog) rfl _ _ (W.heap.size + 1) 24 (Hd.vals ⟨t.hd.kind, t.hd.text, t.hd.type, t.hd.n, wrap64 (t.hd.fr + by_), wrap64 (t.hd.to_ + by_), wrap64 (t.hd.at_ + by_), wrap64 (t.hd.tat + by_)⟩ (.slice ao k uc)) (0, 0) _ rfl NN.1 Try.underlying24 rfl rfl) rfl ?_
        have hsup2 := HSup.out
        rw [hfin.out, hpl] at hsup2
        have hsz := (NN.2.size.trans U5.size)
        refine ⟨⟨_, rfl, Fs, ?_⟩, (B1.out.trans (hB.out.mono (by omega))).trans ((U5.below _ (Nat.le_refl _)).trans (NN.2.below _ (by omega)))⟩
        have hsup3 := hsup2.keep (Nat.le_of_eq hsz.symm) (fun b hb => by
          have h1 := (hsup2.1 b hb).1
          exact (NN.2.other b (by omega)).trans (U5.other b (by omega)))
        exact ⟨fun b hb => ⟨by have := (hsup3.1 b hb).1; omega, (hsup3.1 b hb).2⟩, hsup3.2⟩
      · have fa : decide (0 ≤ t.hd.at_) = true := decide_eq_true ha
        have fb : decide (0 ≤ t.hd.tat) = false := decide_eq_false hb
        replace ha := Lib.hid ha
        replace hb := Lib.hid hb
        go_wp2_with fail
        have U5 := ((((Upd.set wr W.heap.size 0 8 (by omega) (.slice ao k uc)).trans (Upd.set _ W.heap.size 0 4 (by omega) (.int .i64 (wrap64 (t.hd.fr + by_))))).trans (Upd.set _ W.heap.size 0 5 (by omega) (.int .i64 (wrap64 (t.hd.to_ + by_))))).trans (Upd.set _ W.heap.size 0 6 (by omega) (.int .i64 (wrap64 (t.hd.at_ + by_)))))
        simp only [Nat.zero_add] at U5
        obtain rfl : h2 = ⟨t.hd.kind, t.hd.text, t.hd.type, t.hd.n, wrap64 (t.hd.fr + by_), wrap64 (t.hd.to_ + by_), wrap64 (t.hd.at_ + by_), t.hd.tat⟩ := by
          rw [← hh2.out]
          unfold shH
          rw [if_pos ha.out, if_neg (Int.not_le.2 hb.out)]
        have NN := nine (RowAt.same ZR.out (U5.other _ (by omega))) ⟨t.hd.kind, t.hd.text, t.hd.type, t.hd.n, wrap64 (t.hd.fr + by_), wrap64 (t.hd.to_ + by_), wrap64 (t.hd.at_ + by_), t.hd.tat⟩ (.slice ao k uc)
        refine bodyPost_ret (results_cell_row (P := Try.prog) rfl _ _ (W.heap.size + 1) 24 (Hd.vals ⟨t.hd.kind, t.hd.text, t.hd.type, t.hd.n, wrap64 (t.hd.fr + by_), wrap64 (t.hd.to_ + by_), wrap64 (t.hd.at_ + by_), t.hd.tat⟩ (.slice ao k uc)) (0, 0) _ rfl NN.1 Try.underlying24 rfl rfl) rfl ?_
        have hsup2 := HSup.out
        rw [hfin.out, hpl] at hsup2
        have hsz := (NN.2.size.trans U5.size)
        refine ⟨⟨_, rfl, Fs, ?_⟩, (B1.out.trans (hB.out.mono (by omega))).trans ((U5.below _ (Nat.le_refl _)).trans (NN.2.below _ (by omega)))⟩
        have hsup3 := hsup2.keep (Nat.le_of_eq hsz.symm) (fun b hb => by
          have h1 := (hsup2.1 b hb).1
          exact (NN.2.other b (by omega)).trans (U5.other b (by omega)))
        exact ⟨fun b hb => ⟨by have := (hsup3.1 b hb).1; omega, (hsup3.1 b hb).2⟩, hsup3.2⟩
      · have fa : decide (0 ≤ t.hd.at_) = false := decide_eq_false ha
        have fb : decide (0 ≤ t.hd.tat) = true := decide_eq_true hb
        replace ha := Lib.hid ha
        replace hb := Lib.hid hb
        go_wp2_with fail
        have U5 := ((((Upd.set wr W.heap.size 0 8 (by omega) (.slice ao k uc)).trans (Upd.set _ W.heap.size 0 4 (by omega) (.int .i64 (wrap64 (t.hd.fr + by_))))).trans (Upd.set _ W.heap.size 0 5 (by omega) (.int .i64 (wrap64 (t.hd.to_ + by_))))).trans (Upd.set _ W.heap.size 0 7 (by omega) (.int .i64 (wrap64 (t.hd.tat + by_)))))
        simp only [Nat.zero_add] at U5
        obtain rfl : h2 = ⟨t.hd.kind, t.hd.text, t.hd.type, t.hd.n, wrap64 (t.hd.fr + by_), wrap64 (t.hd.to_ + by_), t.hd.at_, wrap64 (t.hd.tat + by_)⟩ := by
          rw [← hh2.out]
          unfold shH
          rw [if_neg (Int.not_le.2 ha.out), if_pos hb.out]
        have NN := nine (RowAt.same ZR.out (U5.other _ (by omega))) ⟨t.hd.kind, t.hd.text, t.hd.type, t.hd.n, wrap64 (t.hd.fr + by_), wrap64 (t.hd.to_ + by_), t.hd.at_, wrap64 (t.hd.tat + by_)⟩ (.slice ao k uc)
        refine bodyPost_ret (results_cell_row (P := Try.prog) rfl _ _ (W.heap.size + 1) 24 (Hd.vals ⟨t.hd.kind, t.hd.text, t.hd.type, t.hd.n, wrap64 (t.hd.fr + by_), wrap64 (t.hd.to_ + by_), t.hd.at_, wrap64 (t.hd.tat + by_)⟩ (.slice ao k uc)) (0, 0) _ rfl NN.1 Try.underlying24 rfl rfl) rfl ?_
        have hsup2 := HSup.out
        rw [hfin.out, hpl] at hsup2
        have hsz := (NN.2.size.trans U5.size)
        refine ⟨⟨_, rfl, Fs, ?_⟩, (B1.out.trans (hB.out.mono (by omega))).trans ((U5.below _ (Nat.le_refl _)).trans (NN.2.below _ (by omega)))⟩
        have hsup3 := hsup2.keep (Nat.le_of_eq hsz.symm) (fun b hb => by
          have h1 := (hsup2.1 b hb).1
          exact (NN.2.other b (by omega)).trans (U5.other b (by omega)))
        exact ⟨fun b hb => ⟨by have := (hsup3.1 b hb).1; omega, (hsup3.1 b hb).2⟩, hsup3.2⟩
      · have fa : decide (0 ≤ t.hd.at_) = false := decide_eq_false ha
        have fb : decide (0 ≤ t.hd.tat) = false := decide_eq_false hb
        replace ha := Lib.hid ha
        replace hb := Lib.hid hb
        go_wp2_with fail
        have U5 := (((Upd.set wr W.heap.size 0 8 (by omega) (.slice ao k uc)).trans (Upd.set _ W.heap.size 0 4 (by omega) (.int .i64 (wrap64 (t.hd.fr + by_))))).trans (Upd.set _ W.heap.size 0 5 (by omega) (.int .i64 (wrap64 (t.hd.to_ + by_)))))
        simp only [Nat.zero_add] at U5
        obtain rfl : h2 = ⟨t.hd.kind, t.hd.text, t.hd.type, t.hd.n, wrap64 (t.hd.fr + by_), wrap64 (t.hd.to_ + by_), t.hd.at_, t.hd.tat⟩ := by
          rw [← hh2.out]
          unfold shH
          rw [if_neg (Int.not_le.2 ha.out), if_neg (Int.not_le.2 hb.out)]
        have NN := nine (RowAt.same ZR.out (U5.other _ (by omega))) ⟨t.hd.kind, t.hd.text, t.hd.type, t.hd.n, wrap64 (t.hd.fr + by_), wrap64 (t.hd.to_ + by_), t.hd.at_, t.hd.tat⟩ (.slice ao k uc)
        refine bodyPost_ret (results_cell_row (P := Try.prog) rfl _ _ (W.heap.size + 1) 24 (Hd.vals ⟨t.hd.kind, t.hd.text, t.hd.type, t.hd.n, wrap64 (t.hd.fr + by_), wrap64 (t.hd.to_ + by_), t.hd.at_, t.hd.tat⟩ (.slice ao k uc)) (0, 0) _ rfl NN.1 Try.underlying24 rfl rfl) rfl ?_
        have hsup2 := HSup.out
        rw [hfin.out, hpl] at hsup2
        have hsz := (NN.2.size.trans U5.size)
        refine ⟨⟨_, rfl, Fs, ?_⟩, (B1.out.trans (hB.out.mono (by omega))).trans ((U5.below _ (Nat.le_refl _)).trans (NN.2.below _ (by omega)))⟩
        have hsup3 := hsup2.keep (Nat.le_of_eq hsz.symm) (fun b hb => by
          have h1 := (hsup2.1 b hb).1
          exact (NN.2.other b (by omega)).trans (U5.other b (by omega)))
        exact ⟨fun b hb => ⟨by have := (hsup3.1 b hb).1; omega, (hsup3.1 b hb).2⟩, hsup3.2⟩
end Go.Proofs.Ytpnfjiglphogoab
