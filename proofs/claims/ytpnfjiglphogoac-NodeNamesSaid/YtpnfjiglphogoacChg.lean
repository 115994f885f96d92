/-
  For the laws of node: changed: every node of a tree changed, in new memory whose rows lie apart. Condition: at most 2,000,000 nodes.
-/
import Derived.Test.YtpnfjiglphogoacCl
namespace Go.Proofs.Ytpnfjiglphogoac
open Go.RowKit Go.Shelf
set_option linter.unusedSimpArgs false
set_option linter.unusedVariables false

theorem infoPtr : (Try.prog.info? 45).map (fun i => (i.zero, i.size, i.bytes)) = some (some (.pointer none), 1, 8) := by kernel_rfl
theorem Rw.of_rows {w0 W : World} {base g cap : Nat} {ps : List Pr} (h : OwnP w0 base W (.slice (some ⟨g, 0, none⟩) ps.length cap) ps) (hne : ps ≠ []) : base ≤ g ∧ Rw W g (ps.length * 9) := by
  obtain ⟨⟨hl, h⟩, -⟩ := h
  rcases h with ⟨h0, -⟩ | ⟨g', cap', cur, e, k1, hg, k2, k3, k4, k5⟩
  · cases h0
  · cases e
    exact ⟨k1, cur, hg, by rw [k4]; exact Nat.mul_le_mul_right _ k2⟩
/-- The copy is a new row of kids. -/
theorem newRow_own {w0 W WC : World} {v : Value} {ps : List Pr} (h : OwnP w0 W.heap.size WC v ps) : ∃ N, NewRow W WC ps v N := by
  obtain ⟨a, cap, rfl, h1, h2, hr⟩ := h.row
  cases ps with
  | nil => exact ⟨0, .inl ⟨rfl, a, cap, rfl, h2⟩⟩
  | cons y L =>
    obtain ⟨b, off, rfl, -⟩ := hr 0 y rfl
    have ho : off = 0 := by
      rcases h.1.2 with ⟨h0, -⟩ | ⟨g', cap', cur, e, -⟩
      · cases h0
      · cases e; rfl
    subst ho
    obtain ⟨k1, k2⟩ := Rw.of_rows h (by simp)
    refine ⟨b, .inr ⟨by simp, k1, cap, rfl, h1, h2, k2, fun k q hk => ?_⟩⟩
    obtain ⟨b', off', e, c, -⟩ := hr k q hk
    cases e
    simpa using c
theorem NewRow.keep {W WC WD : World} {ps : List Pr} {v : Value} {N : Nat} (h : NewRow W WC ps v N) (hb : N < WC.heap.size → W.heap.size ≤ N → WD.heap[N]? = WC.heap[N]?) : NewRow W WD ps v N := by
  rcases h with h0 | ⟨hne, h1, cap, e, h2, h3, h4, h5⟩
  · exact .inl h0
  · have := hb h4.lt h1
    exact .inr ⟨hne, h1, cap, e, h2, h3, h4.same this, fun k q hk => (h5 k q hk).same fun j _ => cell_same this _⟩
theorem NewRow.slice {W WC : World} {ps : List Pr} {v : Value} {N : Nat} (h : NewRow W WC ps v N) : ∃ a cap, v = .slice a ps.length cap ∧ ps.length ≤ cap ∧ cap ≤ maxLen := by
  rcases h with ⟨rfl, a, cap, e, h⟩ | ⟨hne, h1, cap, e, h2, h3, -⟩
  · exact ⟨a, cap, e, Nat.zero_le _, h⟩
  · exact ⟨_, cap, e, h2, h3⟩
/-- An own row, one element more. -/
theorem wpList_append_el {W : World} {base t e size bytes n : Nat} {ops : Array Oper} {rest : List Oper} {o : Oper} {a : Act} {Q : Exit → Act → World → Prop} (hgd : o.guard = none) (s x : Operand)
    (ho : o.op = .call { callee := .builtin .append, args := #[s, x], argTypes := #[t, t] }) (ht : Try.prog.underlying t = some (.slice e)) {z : Value} (hinfo : (Try.prog.info? e).map (fun i => (i.zero, i.size, i.bytes)) = some (some z, size, bytes))
    (hzs : z.cells.size = size) (hsz : 0 < size) (hby : bytes ≤ 1000) (v : Value) (xs news : List Value) (hs : a.eval s = v) (hown : W.ownsRow base e size v n xs) (gb : Nat) (hx : a.eval x = .slice (some ⟨gb, 0, none⟩) 1 1) (hl : news.length = size)
    (hnews : ∀ j u, news[j]? = some u → W.cell? ⟨gb, j, none⟩ = some u) (h1 : ∀ u ∈ news, u.oneCell' = true) (hn : n + 1 ≤ 5000000) (hbase : base ≤ W.heap.size)
    (h : ∀ v' w', w'.ownsRow base e size v' (n + 1) (xs ++ news) → W.grownBy w' v.ownBlock → wpList Try.prog ops Q rest (a.put o.dst v') w') : wpList Try.prog ops Q (o :: rest) a W := by
  obtain ⟨i0, hi, hz0, hz1, hz2⟩ := info_parts hinfo
  refine wpList_append_own W hgd s x t ho base e i0 z size bytes ht hi hz0 hz1 hz2 hzs hsz v n xs hs hown ⟨gb, 0, none⟩ 1 1 news hx (by omega) (fun j u hj => by rw [add_flat, Nat.zero_add]; exact hnews j u hj) h1 (by unfold maxLen; omega) ?_ hbase fun v' w' a1 a2 _ => h v' w' a1 a2
  exact Nat.le_trans (Nat.mul_le_mul hn hby) (by omega)
theorem own_same {W W' : World} {base e size n : Nat} {v : Value} {xs : List Value} (h : W.ownsRow base e size v n xs) (hb : ∀ g, v.ownBlock = some g → W'.heap[g]? = W.heap[g]?) : W'.ownsRow base e size v n xs := by
  refine ⟨h.1, ?_⟩
  rcases h.2 with h0 | ⟨g, cap, cur, e1, h1, hg, h2, h3, h4, h5⟩
  · exact .inl h0
  · exact .inr ⟨g, cap, cur, e1, h1, (hb g (by rw [e1]; rfl)).trans hg, h2, h3, h4, h5⟩
theorem own_type {W : World} {base e size n : Nat} {v : Value} {xs : List Value} (h : W.ownsRow base e size v n xs) {g : Nat} (hg : v.ownBlock = some g) : ∃ cur, W.heap[g]? = some (.cells cur e (0, 0)) := by
  rcases h.2 with ⟨rfl, -⟩ | ⟨g', cap, cur, e1, h1, h2, -⟩
  · cases hg
  · rw [e1] at hg
    obtain rfl : g' = g := Option.some.inj hg
    exact ⟨cur, h2⟩
/-- Rows of nodes are as they were. -/
def Grw (B : Nat) (W W' : World) : Prop := W.heap.size ≤ W'.heap.size ∧ Below B W W' ∧ ∀ (b : Nat) (cs : Array Value), W.heap[b]? = some (Obj.cells cs 24 (0, 0)) → W'.heap[b]? = some (Obj.cells cs 24 (0, 0))
theorem Grw.refl (B : Nat) (W : World) : Grw B W W := ⟨Nat.le_refl _, Below.refl _ _, fun _ _ h => h⟩
theorem Grw.trans {B : Nat} {W W' W'' : World} (h : Grw B W W') (k : Grw B W' W'') : Grw B W W'' := ⟨Nat.le_trans h.1 k.1, h.2.1.trans k.2.1, fun b cs hb => k.2.2 b cs (h.2.2 b cs hb)⟩
theorem Grw.alloc (B : Nat) (W : World) (o : Obj) (hB : B ≤ W.heap.size) : Grw B W (W.alloc o) := ⟨by simp, (Below.refl _ _).alloc hB _, fun b cs h => (Below.heap_alloc W o b (Array.getElem?_eq_some_iff.1 h).1).trans h⟩
theorem Grw.own {B : Nat} {W W' : World} {base e size n : Nat} {v : Value} {xs : List Value} (h : W.ownsRow base e size v n xs) (he : e ≠ 24) (hB : B ≤ base) (hbase : base ≤ W.heap.size) (hg : W.grownBy W' v.ownBlock) : Grw B W W' := by
  refine ⟨hg.size, (Below.refl B W).grown hg (by omega) fun k hk => Nat.le_trans hB (h.lt k hk).1, fun b cs hb => (hg.block b (Array.getElem?_eq_some_iff.1 hb).1 fun hk => ?_).trans hb⟩
  obtain ⟨cur, hc⟩ := own_type h hk.symm
  rw [hb] at hc
  cases hc
  exact he rfl
theorem kidP_take_succ {N : Nat} {ps : List Pr} {i : Nat} {q : Pr} (h : ps[i]? = some q) : kidP N (ps.take (i + 1)) = kidP N (ps.take i) ++ [⟨N, i * 9, q.1, q.2⟩] := by
  rw [← kidP_take, List.take_add_one, kidP_at h, kidP_take]
  rfl
set_option maxRecDepth 100000 in
set_option maxHeartbeats 8000000 in
theorem changed_any (fid : Nat) (caps : Array Value) (f : Hd → Hd) (T : Nd) (kv : Value) (w : World) (hen : ∀ args w, (callFunc fid args).run Try.prog w = .ok (.enter fid args) w) (hok : ChangeOk fid caps f w) (hm : T.cnt ≤ 2000000) (hk : KidsAt w T.kids kv) :
    Calls Try.prog 27 #[.agg #[.int .i64 T.hd.kind, .string (bs T.hd.text), .string (bs T.hd.type), .int .i64 T.hd.n, .int .i64 T.hd.fr, .int .i64 T.hd.to_, .int .i64 T.hd.at_, .int .i64 T.hd.tat, kv], .func (.func fid) #[] caps] w fun e w' => ChgIs f w T e w' := by
  have HK := Lib.hid hk
  have Hok := Lib.hid hok
  obtain ⟨a0, cap0, rfl, -⟩ := hk.get
  clear hk hok
  obtain ⟨n, hn⟩ : ∃ n, Hid (T.kids.length = n) := ⟨_, Lib.hid rfl⟩
  rw [hn.out] at HK
  rw [hn.out]
  obtain ⟨W1, hW1⟩ : ∃ W1, Hid (((w.alloc (.cells #[.int .i64 T.hd.kind, .string (bs T.hd.text), .string (bs T.hd.type), .int .i64 T.hd.n, .int .i64 T.hd.fr, .int .i64 T.hd.to_, .int .i64 T.hd.at_, .int .i64 T.hd.tat, .slice a0 n cap0] 24)).alloc (.cells #[.int .i64 0, .string ⟨#[]⟩, .string ⟨#[]⟩, .int .i64 0, .int .i64 0, .int .i64 0, .int .i64 0, .int .i64 0, .slice none 0 0] 24)).alloc (.cells #[.pointer (some ⟨w.heap.size, 0, none⟩)] 45) = W1) := ⟨_, Lib.hid rfl⟩
  have hC0 : Hid (CInv f w T [⟨w.heap.size, 0, T, .slice a0 n cap0⟩] (.slice (some ⟨w.heap.size + 1 + 1, 0, none⟩) 1 1) W1) := Lib.hid (by
    have R1 : RowAt W1 w.heap.size 24 (T.hd.vals (.slice a0 n cap0)) := by
      rw [← hW1.out]
      exact ((RowAt.new w 24 _).alloc _).alloc _
    have R2 : RowAt W1 (w.heap.size + 1) 24 #[.int .i64 0, .string ⟨#[]⟩, .string ⟨#[]⟩, .int .i64 0, .int .i64 0, .int .i64 0, .int .i64 0, .int .i64 0, .slice none 0 0] := by
      rw [← hW1.out]
      have := RowAt.new (w.alloc (.cells #[.int .i64 T.hd.kind, .string (bs T.hd.text), .string (bs T.hd.type), .int .i64 T.hd.n, .int .i64 T.hd.fr, .int .i64 T.hd.to_, .int .i64 T.hd.at_, .int .i64 T.hd.tat, .slice a0 n cap0] 24)) 24 #[.int .i64 0, .string ⟨#[]⟩, .string ⟨#[]⟩, .int .i64 0, .int .i64 0, .int .i64 0, .int .i64 0, .int .i64 0, .slice none 0 0]
      rw [World.size_alloc] at this
      exact this.alloc _
    have R3 : RowAt W1 (w.heap.size + 2) 45 #[.pointer (some ⟨w.heap.size, 0, none⟩)] := by
      rw [← hW1.out]
      have := RowAt.new ((w.alloc (.cells #[.int .i64 T.hd.kind, .string (bs T.hd.text), .string (bs T.hd.type), .int .i64 T.hd.n, .int .i64 T.hd.fr, .int .i64 T.hd.to_, .int .i64 T.hd.at_, .int .i64 T.hd.tat, .slice a0 n cap0] 24)).alloc (.cells #[.int .i64 0, .string ⟨#[]⟩, .string ⟨#[]⟩, .int .i64 0, .int .i64 0, .int .i64 0, .int .i64 0, .int .i64 0, .slice none 0 0] 24)) 45 #[.pointer (some ⟨w.heap.size, 0, none⟩)]
      rw [World.size_alloc, World.size_alloc] at this
      exact this
    have hs : W1.heap.size = w.heap.size + 3 := by rw [← hW1.out]; simp
    exact {
      own := ⟨rfl, .inr ⟨w.heap.size + 2, 1, _, rfl, Nat.le_refl _, R3, Nat.le_refl _, by unfold maxLen; omega, rfl, rfl⟩⟩
      apart := List.pairwise_singleton _ _
      holds := fun p hp => by
        obtain rfl := List.mem_singleton.1 hp
        exact ⟨⟨Nat.le_refl _, ⟨_, R1, Nat.le_refl _⟩, Cells.row R1, HK.out⟩, by show w.heap.size ≠ _; omega⟩
      wand := Wand.first (by omega)
      below := by rw [← hW1.out]; exact (((Below.refl _ w).alloc (Nat.le_refl _) _).alloc (by simp) _).alloc (by simp; omega) _
      size := by omega
      res := R2
      few := by rw [cntS_one]; exact hm })
  clear HK
  go_enter Try.func27, Try.ntmps27
  go_wp2_with fail
  rw [hW1.out]
  go_loopw [5] (fun u wr => ∃ S, Hid (CInv f w T S u wr)) (fun u wr => left f w T u wr)
  case atStart => exact ⟨_, hC0⟩
  case round =>
    obtain ⟨S, hC, hL⟩ := left_spec (by obtain ⟨S, h⟩ := hrel; exact ⟨S, h.out⟩)
    have HL := Lib.hid hL
    clear hrel hL
    rcases List.eq_nil_or_concat S with rfl | ⟨S0, p, rfl⟩
    · have HC := Lib.hid hC
      have ho := hC.own
      obtain ⟨ao, m', cap, hu⟩ := own_slice ho
      have hm0 : m' = 0 := by
        rcases ho.2 with ⟨e, -⟩ | ⟨g, cp, cur, e, -⟩
        · rw [hu] at e; cases e; rfl
        · rw [hu] at e; cases e; rfl
      subst hm0
      subst hu
      obtain ⟨F, kv', hF, hFn, hcs, hsep⟩ := hC.wand.last
      obtain ⟨ak, ck, hkv, -⟩ := hsep.kids.get
      have R := Lib.hid hC.res
      have Hout : Hid (F.Nodup ∧ (∀ N ∈ F, w.heap.size + 2 ≤ N) ∧ SepAt wr (mapL f T.kids) kv' F) := Lib.hid ⟨hF, hFn, hsep⟩
      have hB := Lib.hid hC.below
      subst hkv
      obtain ⟨km, hkm⟩ : ∃ km, Hid ((mapL f T.kids).length = km) := ⟨_, Lib.hid rfl⟩
      rw [hkm.out] at Hout hcs
      obtain ⟨d0, d1, d2, d3, d4, d5, d6, d7, d8⟩ := hcs
      simp only [Nat.zero_add] at d1 d2 d3 d4 d5 d6 d7 d8
      obtain ⟨h2, hh2⟩ : ∃ h2, Hid (f T.hd = h2) := ⟨_, Lib.hid rfl⟩
      rw [hh2.out] at d0 d1 d2 d3 d4 d5 d6 d7
      have z0 := R.out.frozen 0
      have z1 := R.out.frozen 1
      have z2 := R.out.frozen 2
      have z3 := R.out.frozen 3
      have z4 := R.out.frozen 4
      have z5 := R.out.frozen 5
      have z6 := R.out.frozen 6
      have z7 := R.out.frozen 7
      have z8 := R.out.frozen 8
      have r0 := R.out.cell (j := 0) rfl
      have r1 := R.out.cell (j := 1) rfl
      have r2 := R.out.cell (j := 2) rfl
      have r3 := R.out.cell (j := 3) rfl
      have r4 := R.out.cell (j := 4) rfl
      have r5 := R.out.cell (j := 5) rfl
      have r6 := R.out.cell (j := 6) rfl
      have r7 := R.out.cell (j := 7) rfl
      have r8 := R.out.cell (j := 8) rfl
      clear ho hC hF hFn hsep
      go_wp2_with fail
      have HE : Hid (∀ W9 : World, RowAt W9 (w.heap.size + 1) 24 (h2.vals (.slice ak km ck)) → Upd wr W9 (w.heap.size + 1) 0 → ChgIs f w T (.returned (h2.agg (.slice ak km ck))) W9) := Lib.hid (fun W9 R9 U9 => ⟨.slice ak km ck, F, by rw [hh2.out], Hout.out.2.2.keep fun b hb => U9.other b (by have := Hout.out.2.1 b hb; omega), Hout.out.1, fun N hN => by have := Hout.out.2.1 N hN; omega, hB.out.trans ((U9.below w.heap.size (by omega)))⟩)
      have R9 := ((((((((R.out.set 0 (.int .i64 h2.kind)).set 1 (.string (bs h2.text))).set 2 (.string (bs h2.type))).set 3 (.int .i64 h2.n)).set 4 (.int .i64 h2.fr)).set 5 (.int .i64 h2.to_)).set 6 (.int .i64 h2.at_)).set 7 (.int .i64 h2.tat)).set 8 (.slice ak km ck)
      have U9 := ((((((((Upd.set wr (w.heap.size + 1) 0 0 (by omega) (.int .i64 h2.kind)).trans (Upd.set _ (w.heap.size + 1) 0 1 (by omega) (.string (bs h2.text)))).trans (Upd.set _ (w.heap.size + 1) 0 2 (by omega) (.string (bs h2.type)))).trans (Upd.set _ (w.heap.size + 1) 0 3 (by omega) (.int .i64 h2.n))).trans (Upd.set _ (w.heap.size + 1) 0 4 (by omega) (.int .i64 h2.fr))).trans (Upd.set _ (w.heap.size + 1) 0 5 (by omega) (.int .i64 h2.to_))).trans (Upd.set _ (w.heap.size + 1) 0 6 (by omega) (.int .i64 h2.at_))).trans (Upd.set _ (w.heap.size + 1) 0 7 (by omega) (.int .i64 h2.tat))).trans (Upd.set _ (w.heap.size + 1) 0 8 (by omega) (.slice ak km ck))
      simp only [Nat.zero_add] at U9
      simp only [List.setIfInBounds_toArray, List.set_cons_zero, List.set_cons_succ] at R9
      obtain ⟨W9, hW9⟩ : ∃ W9, W9 = (((((((((wr.setCell ⟨w.heap.size + 1, 0, none⟩ (.int .i64 h2.kind)).setCell ⟨w.heap.size + 1, 1, none⟩ (.string (bs h2.text))).setCell ⟨w.heap.size + 1, 2, none⟩ (.string (bs h2.type))).setCell ⟨w.heap.size + 1, 3, none⟩ (.int .i64 h2.n)).setCell ⟨w.heap.size + 1, 4, none⟩ (.int .i64 h2.fr)).setCell ⟨w.heap.size + 1, 5, none⟩ (.int .i64 h2.to_)).setCell ⟨w.heap.size + 1, 6, none⟩ (.int .i64 h2.at_)).setCell ⟨w.heap.size + 1, 7, none⟩ (.int .i64 h2.tat)).setCell ⟨w.heap.size + 1, 8, none⟩ (.slice ak km ck)) := ⟨_, rfl⟩
      rw [← hW9] at R9 U9 ⊢
      clear hW9
      refine bodyPost_ret (results_cell_row rfl _ _ (w.heap.size + 1) 24 (h2.vals (.slice ak km ck)) (0, 0) _ rfl R9 Try.underlying24 rfl rfl) rfl ?_
      exact HE.out _ R9 U9
    · obtain ⟨wo, hwo⟩ : ∃ wo, wo = wr := ⟨_, rfl⟩
      subst hwo
      rw [List.concat_eq_append] at hC HL
      have hlen : (S0 ++ [p]).length = S0.length + 1 := by simp
      have ho := hC.own
      rw [ptrs_app, ptrs_one, hlen] at ho
      obtain ⟨m, hmS⟩ : ∃ m, Hid (S0.length = m) := ⟨_, Lib.hid rfl⟩
      rw [hmS.out] at ho
      obtain ⟨g, cap, cur, hu, hg1, hg2, hg3, hg4, hg5, hg6⟩ : ∃ g cap cur, u5 = .slice (some ⟨g, 0, none⟩) (m + 1) cap ∧ w.heap.size + 2 ≤ g ∧ wo.heap[g]? = some (.cells cur 45 (0, 0)) ∧ m + 1 ≤ cap ∧ cap ≤ maxLen ∧ cur.size = cap * 1 ∧ cur.toList.take ((m + 1) * 1) = ptrs S0 ++ [.pointer (some ⟨p.b, p.off, none⟩)] := by
        rcases ho.2 with ⟨-, h0⟩ | h
        · omega
        · exact h
      subst hu
      have hcnt : cntS (S0 ++ [p]) ≤ 2000000 := hC.few
      have hcs2 := cntS_app S0 [p]
      rw [cntS_one] at hcs2
      have hsl := cntS_len S0
      rw [hmS.out] at hsl
      have cg : wo.cell? ⟨g, m, none⟩ = some (.pointer (some ⟨p.b, p.off, none⟩)) := by
        have h1 : (ptrs S0 ++ [Value.pointer (some ⟨p.b, p.off, none⟩)])[m]? = some (.pointer (some ⟨p.b, p.off, none⟩)) := by
          rw [List.getElem?_append_right (by rw [ptrs_len, hmS.out]; exact Nat.le_refl _), ptrs_len, hmS.out, Nat.sub_self]; rfl
        rw [← hg6, List.getElem?_take_of_lt (by omega)] at h1
        simp [World.cell?, hg2]
        simpa using h1
      have HP := Lib.hid hC.holds
      have hHp := (hC.holds p (by simp)).1
      have hpn := (hC.holds p (by simp)).2
      obtain ⟨ps, ak, ck, hps, hkv, hc1, hc2, hr⟩ := hHp.2.2.2.rows
      obtain ⟨d0, d1, d2, d3, d4, d5, d6, d7, d8⟩ := hHp.2.2.1
      rw [hkv] at d8
      have hk2 := hHp.2.2.2
      have hmaxl := hg4
      unfold maxLen at hmaxl
      have p0 : (m : Int) < (m : Int) + 1 := by omega
      have p1 : (m : Int) < (cap : Int) := by omega
      have p2 : (0 : Int) ≤ (m : Int) := by omega
      have OwnPop := Lib.hid (own_pop (m := m) (by omega) ho)
      have HC := Lib.hid hC
      have Hps := Lib.hid hps
      have Hr := Lib.hid hr
      have Hhp := Lib.hid hHp
      clear ho hC hps hr hHp hg6 hk2
      have hpk : Hid (∀ q ∈ ps, KidsAt w q.1.kids q.2) := Lib.hid (fun q hq => by
        obtain ⟨k, hk⟩ := List.getElem?_of_mem hq
        obtain ⟨b, off, -, -, h⟩ := Hr.out k q hk
        exact h)
      have hpl : ps.length + 1 ≤ p.t.cnt := by
        have h1 := cntL_len p.t.kids
        rw [cnt_kids, ← Hps.out]
        rw [← Hps.out, List.length_map] at h1
        omega
      have hcl : cntL p.t.kids + 1 = p.t.cnt := (cnt_kids _).symm
      have Clone := Lib.hid (Clone_any w wo ak ck ps HC.out.below (Hr.out.below HC.out.below) hpk.out hc1 hc2 (by omega))
      have hbs := HC.out.below.size
      have hpb : p.b < wo.heap.size := Hhp.out.2.1.lt
      go_wp2_with fail
      refine Clone.out.mono ?_
      rintro e wc ⟨v2, rfl, hO2, hb2⟩
      obtain ⟨N, hnr⟩ := newRow_own hO2
      obtain ⟨a2, c2, rfl, hc3, hc4⟩ := hnr.slice
      have RWc : Hid (Rw wc p.b (p.off + 9)) := Lib.hid (Hhp.out.2.1.same (hb2.block _ hpb))
      have CSc : Hid (Cells wc p.b p.off p.t.hd p.kv) := Lib.hid (Hhp.out.2.2.1.later hb2)
      have z8 := RWc.out.frozen (p.off + 8)
      have e8 := CSc.out.c8
      rw [hkv] at e8
      have B2 := Lib.hid hb2
      have Hnr := Lib.hid hnr
      obtain ⟨W2, hW2⟩ : ∃ W2, Hid (wc.setCell ⟨p.b, p.off + 8, none⟩ (.slice a2 ps.length c2) = W2) := ⟨_, Lib.hid rfl⟩
      have U2 : Hid (Upd wc W2 p.b p.off) := Lib.hid (by rw [← hW2.out]; exact Upd.set wc p.b p.off 8 (by omega) _)
      have CS2 : Hid (Cells W2 p.b p.off p.t.hd (.slice a2 ps.length c2)) := Lib.hid (by
        obtain ⟨cs, hcs, hl⟩ := RWc.out
        have hlt := (Array.getElem?_eq_some_iff.1 hcs).1
        have h8 : W2.cell? ⟨p.b, p.off + 8, none⟩ = some (.slice a2 ps.length c2) := by rw [← hW2.out]; exact World.cell?_setCell_same _ _ _ e8
        have hj : ∀ j, j < 8 → W2.cell? ⟨p.b, p.off + j, none⟩ = wc.cell? ⟨p.b, p.off + j, none⟩ := fun j hj => by rw [← hW2.out]; exact World.cell?_setCell_other _ _ _ _ (by intro h; simp only [Addr.mk.injEq] at h; omega)
        have C := CSc.out
        exact ⟨(hj 0 (by omega)).trans C.c0, (hj 1 (by omega)).trans C.c1, (hj 2 (by omega)).trans C.c2, (hj 3 (by omega)).trans C.c3, (hj 4 (by omega)).trans C.c4, (hj 5 (by omega)).trans C.c5, (hj 6 (by omega)).trans C.c6, (hj 7 (by omega)).trans C.c7, h8⟩)
      have BW2 : Hid (Below w.heap.size w W2) := Lib.hid (HC.out.below.trans ((B2.out.mono hbs).trans (U2.out.below _ Hhp.out.1)))
      have Call := Lib.hid (Hok.out W2 p.b p.off p.t.hd a2 ps.length c2 BW2.out Hhp.out.1 (U2.out.rw RWc.out) CS2.out)
      clear hO2 hb2 hnr
      go_wp2_with fail
      rw [hW2.out]
      refine Call.out.mono ?_
      rintro e W3 ⟨⟨v3, rfl⟩, hU3, hcs3⟩
      have U3 := Lib.hid hU3
      have CS3 := Lib.hid hcs3
      clear hU3 hcs3
      have Uc3 := Lib.hid (U2.out.trans U3.out)
      have hgp : g ≠ p.b := by
        obtain ⟨cs, hcs, -⟩ := Hhp.out.2.1
        rintro rfl
        rw [hg2] at hcs
        cases hcs
      have hgl : g < wo.heap.size := (Array.getElem?_eq_some_iff.1 hg2).1
      have hKp : Hid (KeepP w wo [p] W3) := Lib.hid (fun b cs hb hwb => by
        have hbc := (B2.out.block b (Array.getElem?_eq_some_iff.1 hb).1).trans hb
        by_cases e : b = p.b
        · subst e
          obtain ⟨cs', e1, e2, e3⟩ := Uc3.out.row cs hbc
          exact ⟨cs', e1, e2, fun j hj => e3 j (hj p (by simp) rfl)⟩
        · exact ⟨cs, (Uc3.out.other b e).trans hbc, rfl, fun _ _ => rfl⟩)
      have Hnr3 : Hid (NewRow wo W3 ps (.slice a2 ps.length c2) N) := Lib.hid (Hnr.out.keep fun _ h2 => Uc3.out.other N (by omega))
      have O3 : Hid (W3.ownsRow (w.heap.size + 2) 45 1 (.slice (some ⟨g, 0, none⟩) m cap) m (ptrs S0)) := Lib.hid (by
        have h1 : ((ptrs S0 ++ [Value.pointer (some ⟨p.b, p.off, none⟩)]).take (m * 1)) = ptrs S0 := by
          rw [List.take_append_of_le_length (by rw [ptrs_len, hmS.out]; omega), List.take_of_length_le (by rw [ptrs_len, hmS.out]; omega)]
        have h2 := OwnPop.out
        rw [h1] at h2
        refine own_same h2 fun g' hg' => ?_
        obtain rfl : g = g' := Option.some.inj hg'
        exact (Uc3.out.other g hgp).trans (B2.out.block g hgl))
      have hs3 : Hid (wo.heap.size ≤ W3.heap.size) := Lib.hid (by rw [Uc3.out.size]; exact B2.out.size)
      have B3 : Hid (Below w.heap.size w W3) := Lib.hid (BW2.out.trans (U3.out.below _ Hhp.out.1))
      have Rw3 : Hid (Rw W3 p.b (p.off + 9)) := Lib.hid (Uc3.out.rw RWc.out)
      have q8 := CS3.out.c8
      obtain ⟨L, hL⟩ : ∃ L, Hid (ps.length = L) := ⟨_, Lib.hid rfl⟩
      rw [hL.out] at q8 hc3
      rw [hL.out] at Hnr3 CS3
      rw [hL.out] at hpl
      have hc4' := hc4
      unfold maxLen at hc4'
      have hcsz := HC.out.size
      clear z8 e8 d0 d1 d2 d3 d4 d5 d6 d7 d8 cg p0 p1 p2 Call Clone
      rw [hL.out]
      go_wp2_with fail
      go_loopw [5, 39] (fun u c w4 => ∃ i : Nat, c = .int .i64 i ∧ i ≤ L ∧ Hid (w4.ownsRow (w.heap.size + 2) 45 1 u (m + i) (ptrs S0 ++ ptrs (kidP N (ps.take i)))) ∧ Hid (Grw w.heap.size W3 w4)) (fun _ c _ => L - (intOf c).toNat)
      case atStart => exact ⟨0, rfl, by omega, Lib.hid (by simpa [kidP, ptrs] using O3.out), Lib.hid (Grw.refl _ _)⟩
      case round =>
        obtain ⟨i, rfl, hi, hO4, hG4⟩ := hrel
        have hs4 := hG4.out.1
        have hs3' := hs3.out
        by_cases hlt : i < L
        · obtain ⟨q, hq⟩ : ∃ q, Hid (ps[i]? = some q) := ⟨_, Lib.hid (List.getElem?_eq_getElem (by rw [hL.out]; exact hlt))⟩
          have hN : Hid (a2 = some ⟨N, 0, none⟩) := Lib.hid (by
            rcases Hnr3.out with ⟨h0, -⟩ | ⟨-, -, cp, e, -⟩
            · rw [h0] at hq; have := hq.out; simp at this
            · injection e)
          have hN2 := hN.out
          subst hN2
          have x8 : wr.cell? ⟨p.b, p.off + 8, none⟩ = some (.slice (some ⟨N, 0, none⟩) L c2) := by
            obtain ⟨cs, hcs, -⟩ := Rw3.out
            exact (cell_same ((hG4.out.2.2 _ cs hcs).trans hcs.symm) _).trans q8
          have p0 : (i : Int) < (L : Int) := by omega
          have p1 : (0 : Int) ≤ (i : Int) := by omega
          have Rb : Hid (RowAt (wr.alloc (.cells #[.pointer (some ⟨N, i * 9, none⟩)] 45)) wr.heap.size 45 #[.pointer (some ⟨N, i * 9, none⟩)]) := Lib.hid (RowAt.new wr 45 _)
          have GA := Lib.hid (Grw.alloc w.heap.size wr (.cells #[.pointer (some ⟨N, i * 9, none⟩)] 45) (by omega))
          have OA : Hid ((wr.alloc (.cells #[.pointer (some ⟨N, i * 9, none⟩)] 45)).ownsRow (w.heap.size + 2) 45 1 u5 (m + i) (ptrs S0 ++ ptrs (kidP N (ps.take i)))) := Lib.hid (own_same hO4.out fun g' hg' => by
            obtain ⟨cur', hc'⟩ := own_type hO4.out hg'
            exact Below.heap_alloc wr _ g' (Array.getElem?_eq_some_iff.1 hc').1)
          have Hks := Lib.hid (kidP_take_succ (N := N) hq.out)
          have Hnews : Hid (∀ (j : Nat) (u : Value), [Value.pointer (some ⟨N, i * 9, none⟩)][j]? = some u → (wr.alloc (.cells #[.pointer (some ⟨N, i * 9, none⟩)] 45)).cell? ⟨wr.heap.size, j, none⟩ = some u) := Lib.hid (fun j u hj => by
            have h0 : j = 0 := by have := (List.getElem?_eq_some_iff.1 hj).1; simp at this; omega
            subst h0
            obtain rfl := (Option.some.inj hj)
            exact Rb.out.cell rfl)
          have Hone : Hid (∀ u ∈ [Value.pointer (some ⟨N, i * 9, none⟩)], u.oneCell' = true) := Lib.hid (fun u hu => by
            obtain rfl := List.mem_singleton.1 hu
            rfl)
          go_wp2_with (at_builtin; refine wpList_append_el (W := wr.alloc (.cells #[.pointer (some ⟨N, i * 9, none⟩)] 45)) (base := w.heap.size + 2) (n := m + i) rfl _ _ rfl Try.underlying60 infoPtr rfl (by decide) (by decide) u5 (ptrs S0 ++ ptrs (kidP N (ps.take i))) [.pointer (some ⟨N, i * 9, none⟩)] rfl OA.out wr.heap.size rfl rfl Hnews.out Hone.out (by omega) (by simp; omega) ?_; intro v5 w5 hown5 hg5)
          have G5 := Lib.hid (Grw.own (B := w.heap.size) OA.out (by decide) (by omega) (by simp; omega) hg5)
          have O5 : Hid (w5.ownsRow (w.heap.size + 2) 45 1 v5 (m + (i + 1)) (ptrs S0 ++ ptrs (kidP N (ps.take (i + 1))))) := Lib.hid (by
            rw [Hks.out, ptrs_app, ← List.append_assoc]; exact hown5)
          clear hown5 hg5
          go_wp2_with fail
          exact ⟨⟨i + 1, by go_num, by omega, O5, Lib.hid (hG4.out.trans (GA.out.trans G5.out))⟩, by simp [intOf]; omega⟩
        · obtain rfl : i = L := by omega
          have hS' : Hid (CInv f w T (S0 ++ kidP N ps) u5 wr) := Lib.hid (by
            have hA : ∀ q ∈ S0, Apart q p := fun q hq => (List.pairwise_append.1 HC.out.apart).2.2 q hq p (by simp)
            have hH : ∀ q ∈ S0, HoldsP w wo q := fun q hq => (HP.out q (by simp [hq])).1
            have hnr : NewRow wo W3 ps (.slice a2 ps.length c2) N := by rw [hL.out]; exact Hnr3.out
            have hgk : ∀ b cs, W3.heap[b]? = some (.cells cs 24 (0, 0)) → w.heap.size ≤ b → wr.heap[b]? = some (.cells cs 24 (0, 0)) := fun b cs h _ => hG4.out.2.2 b cs h
            have hown := hO4.out
            rw [← hL.out, List.take_length, ← hmS.out, ← ptrs_app] at hown
            exact {
              own := by rw [List.length_append, kidP_len]; exact hown
              apart := step_apart hH (List.pairwise_append.1 HC.out.apart).1 hnr
              holds := fun q hq => by
                refine ⟨(step_holds hA hH hpk.out hbs hKp.out hnr q hq).grow hgk, ?_⟩
                rcases List.mem_append.1 hq with h | h
                · exact (HP.out q (by simp [h])).2
                · obtain ⟨k, r, h1, rfl⟩ := kidP_mem h
                  rcases hnr with ⟨h0, -⟩ | ⟨-, h2, -⟩
                  · rw [h0] at h1; simp at h1
                  · show N ≠ _; omega
              wand := (Wand.step HC.out.wand hA Hhp.out Hps.out hs3.out hbs hKp.out (by rw [hL.out]; exact CS3.out) hnr).grow hs4 hgk
              below := B3.out.trans hG4.out.2.1
              size := by omega
              res := hG4.out.2.2 _ _ ((Uc3.out.other _ (fun e => hpn e.symm)).trans ((B2.out.block _ (by omega)).trans HC.out.res))
              few := by rw [cntS_app, cntS_kidP, Hps.out]; omega })
          go_wp2_with fail
          refine ⟨⟨_, hS'⟩, ?_⟩
          have h1 := left_le hS'.out
          rw [cntS_app, cntS_kidP, Hps.out] at h1
          rw [← HL.out]
          omega
end Go.Proofs.Ytpnfjiglphogoac
