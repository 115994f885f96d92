/-
  For the laws of decls: one entity more, or the mistake. Condition: at most 1,000,000 entities; names of at most 100,000,000 bytes.
-/
import Derived.Test.YtbnbmjdjkadgoaaDoorDg
import Derived.Test.YtbnbmjdjkadgoaaDoorXPo
namespace Go.Proofs.YtbnbmjdjkadgoaaDoor.D
open Go.RowKit Go.Shelf Go.Maps Go.WideMaps
set_option linter.unusedSimpArgs false
set_option linter.unusedVariables false

theorem add_end {W V w1 : World} {N bl bm bt mb g cap : Nat} {v : Value} {ps : List Pe} {p : Pe} {F : Nat → Prop} {o : Obj} (tz : Tz bl bm mb v.ownBlock W V)
    (rl : RowAt V bl 27 #[v]) (rm : RowAt V bm 30 #[.int .i64 0, .int .i64 0, .int .i64 0]) (rt : RowAt V bt 48 #[.map (some mb)]) (own : OwnE N V v ps) (set : ∃ m, m ≤ ps.length + 1 ∧ SetHas V mb m (keysOf (ps.map (·.1) ++ [p.1])))
    (ll : bl < N) (lm : bm < N) (lt : bt < N) (lb : mb < N) (sup : SupT V N p.1.params p.2 F)
    (hown : w1.ownsRow N 34 9 (.slice (some ⟨g, 0, none⟩) (ps.length + 1) cap) (ps.length + 1) (fe ps ++ rowE p)) (hg : (V.alloc o).grownBy w1 v.ownBlock) (hat : v.ownBlock = some g ∨ g = V.heap.size + 1) :
    AddSt (w1.setCell ⟨bl, 0, none⟩ (.slice (some ⟨g, 0, none⟩) (ps.length + 1) cap)) N bl bm bt mb (.slice (some ⟨g, 0, none⟩) (ps.length + 1) cap) (ps ++ [p]) ∧
      Tz bl bm mb v.ownBlock W (w1.setCell ⟨bl, 0, none⟩ (.slice (some ⟨g, 0, none⟩) (ps.length + 1) cap)) ∧
      ((Value.slice (some ⟨g, 0, none⟩) (ps.length + 1) cap).ownBlock = v.ownBlock ∨ ∃ g', (Value.slice (some ⟨g, 0, none⟩) (ps.length + 1) cap).ownBlock = some g' ∧ W.heap.size ≤ g') := by
  obtain ⟨m, hm, hset⟩ := set
  obtain ⟨es, cl, hmap⟩ := hset.map
  have hl := rl.lt
  have hs1 := hg.size
  rw [World.size_alloc] at hs1
  have keep1 : ∀ k, k < V.heap.size → some k ≠ v.ownBlock → w1.heap[k]? = V.heap[k]? := fun k h1 h2 => by
    rw [hg.block k (by simp; omega) h2, Below.heap_alloc _ _ k h1]
  have nl : some bl ≠ v.ownBlock := own_ne own.1 rl (by decide)
  have nm : some bm ≠ v.ownBlock := own_ne own.1 rm (by decide)
  have nt : some bt ≠ v.ownBlock := own_ne own.1 rt (by decide)
  have nb : some mb ≠ v.ownBlock := fun e => by have := (own.1.lt _ e.symm).1; omega
  have rl1 : RowAt w1 bl 27 #[v] := rl.same (keep1 _ rl.lt nl)
  have rm1 : RowAt w1 bm 30 #[.int .i64 0, .int .i64 0, .int .i64 0] := rm.same (keep1 _ rm.lt nm)
  have rt1 : RowAt w1 bt 48 #[.map (some mb)] := rt.same (keep1 _ rt.lt nt)
  have own1 : OwnE N w1 (.slice (some ⟨g, 0, none⟩) (ps.length + 1) cap) (ps ++ [p]) := by
    have oa := own.below ((Below.refl _ V).alloc (Nat.le_refl _) o)
    exact oa.snoc (sup.below ((Below.refl _ V).alloc (Nat.le_refl _) o)) hown hg
  have set1 : SetHas w1 mb m (keysOf ((ps ++ [p]).map (·.1))) := by
    rw [List.map_append]
    exact hset.later (keep1 _ hset.lt nb)
  have mbl : bl ≠ bm := row_ne rl rm (by decide)
  have mbt : bl ≠ bt := row_ne rl rt (by decide)
  have mbb : bl ≠ mb := row_ne_map rl hmap
  have ko : ∀ k, k ≠ bl → (w1.setCell ⟨bl, 0, none⟩ (.slice (some ⟨g, 0, none⟩) (ps.length + 1) cap)).heap[k]? = w1.heap[k]? := fun k hk => Below.heap_setCell _ _ _ k (by simpa using hk)
  have ng : bl ≠ g := by
    rcases hat with h | h
    · intro e; exact nl (by rw [h, e])
    · omega
  refine ⟨⟨?_, rm1.same (ko _ (Ne.symm mbl)), rt1.same (ko _ (Ne.symm mbt)), owns_on own1 (by simp [World.setCell]) fun b _ _ hE => ko b ?_, ⟨m, by rw [List.length_append]; exact hm, set1.later (ko _ (Ne.symm mbb))⟩, ll, lm, lt, lb⟩, ?_, ?_⟩
  · have := rl1.set 0 (.slice (some ⟨g, 0, none⟩) (ps.length + 1) cap)
    exact this
  · rintro rfl
    obtain ⟨cs, t, fr, h1, h2⟩ := hE
    unfold RowAt at rl1
    rw [rl1] at h1
    cases h1
    rcases h2 with h2 | h2 <;> exact absurd h2 (by decide)
  · refine ⟨hg.os.trans tz.os, hg.tape.trans tz.tape, hg.output.trans tz.output, ?_, fun k k0 k1 k2 k3 k4 => ?_⟩
    · have := tz.size
      simp [World.setCell]
      omega
    · rw [ko k k1, keep1 k (Nat.lt_of_lt_of_le k0 tz.size) k4]
      exact tz.keep k k0 k1 k2 k3 k4
  · rcases hat with h | h
    · exact .inl h.symm
    · exact .inr ⟨g, rfl, by have := tz.size; omega⟩
/-- The mistake laid down. -/
theorem add_no {W V : World} {N bl bm bt mb : Nat} {v : Value} {a b c : Value} (tz : Tz bl bm mb v.ownBlock W V) (rm : RowAt V bm 30 #[a, b, c]) (x y z : Value) {U : World}
    (hU : ((V.setCell ⟨bm, 0, none⟩ x).setCell ⟨bm, 1, none⟩ y).setCell ⟨bm, 2, none⟩ z = U) : Tz bl bm mb v.ownBlock W U ∧ RowAt U bm 30 #[x, y, z] := by
  have R := ((rm.set 0 x).set 1 y).set 2 z
  simp only [List.setIfInBounds_toArray, List.set_cons_zero, List.set_cons_succ] at R
  subst hU
  refine ⟨⟨tz.os, tz.tape, tz.output, by have := tz.size; simp [World.setCell]; omega, fun k k0 k1 k2 k3 k4 => ?_⟩, R⟩
  iterate 3 rw [Below.heap_setCell _ _ _ k (by simpa using k2)]
  exact tz.keep k k0 k1 k2 k3 k4
set_option maxRecDepth 100000 in
set_option maxHeartbeats 8000000 in
theorem add_loc_no (e : En) (pa : Option Addr) (pn pc : Nat) (w : World) (N bl bm bt mb : Nat) (v : Value) (ps : List Pe) (h : AddSt w N bl bm bt mb v ps) (hk : e.kind = 4) :
    Calls Tryd.prog 21 #[.agg #[.int .i64 e.kind, .string (bs e.id), .string (bs e.name), .string (bs e.owner), .string (bs e.type), .bool e.stat, .slice pa pn pc, .int .i64 e.file, .int .i64 e.at_], .bool true, .pointer (some ⟨bt, 0, none⟩), .pointer (some ⟨bm, 0, none⟩), .pointer (some ⟨bl, 0, none⟩)] w
      fun en w' => AddIs w N bl bm bt mb v ps (e, .slice pa pn pc) true en w' := by
  have hst : Hid (step (ps.map (·.1)) e true = true) := Lib.hid (step_loc hk)
  have g0 : (e.kind != 4) = false := by simp [hk]
  obtain ⟨W1, hW1⟩ : ∃ W1, Hid (w.alloc (.cells #[.int .i64 e.kind, .string (bs e.id), .string (bs e.name), .string (bs e.owner), .string (bs e.type), .bool e.stat, .slice pa pn pc, .int .i64 e.file, .int .i64 e.at_] 34) = W1) := ⟨_, Lib.hid rfl⟩
  have R1 : RowAt W1 w.heap.size 34 #[.int .i64 e.kind, .string (bs e.id), .string (bs e.name), .string (bs e.owner), .string (bs e.type), .bool e.stat, .slice pa pn pc, .int .i64 e.file, .int .i64 e.at_] := by rw [← hW1.out]; exact RowAt.new w 34 _
  have B1 : Below w.heap.size w W1 := by rw [← hW1.out]; exact (Below.refl _ w).alloc (Nat.le_refl _) _
  have H1 := h.later B1
  have NN := Lib.hid (@add_no w W1 N bl bm bt mb v _ _ _ (tz_of_below B1) H1.rm (.int .i64 150) (.int .i64 e.file) (.int .i64 e.at_) _ rfl)
  have hm := H1.rm
  have c0 : W1.cell? ⟨w.heap.size, 0, none⟩ = some (.int .i64 e.kind) := R1.cell rfl
  have c7 : W1.cell? ⟨w.heap.size, 7, none⟩ = some (.int .i64 e.file) := R1.cell rfl
  have c8 : W1.cell? ⟨w.heap.size, 8, none⟩ = some (.int .i64 e.at_) := R1.cell rfl
  have m0 : W1.cell? ⟨bm, 0, none⟩ = some (.int .i64 0) := hm.cell rfl
  have m1 : W1.cell? ⟨bm, 1, none⟩ = some (.int .i64 0) := hm.cell rfl
  have m2 : W1.cell? ⟨bm, 2, none⟩ = some (.int .i64 0) := hm.cell rfl
  have f0 := hm.frozen 0
  have f1 := hm.frozen 1
  have f2 := hm.frozen 2
  clear R1 B1 H1 hm h hk
  go_enter Tryd.func21, Tryd.ntmps21
  go_upto_region 1 with fail
  rw [hW1.out]
  go_wp2_with fail
  go_ret
  exact AddIs.no hst.out NN.out.1 NN.out.2
set_option maxRecDepth 100000 in
set_option maxHeartbeats 16000000 in
theorem add_loc_yes (e : En) (pa : Option Addr) (pn pc : Nat) (w : World) (N bl bm bt mb : Nat) (v : Value) (ps : List Pe) (h : AddSt w N bl bm bt mb v ps) (hk : e.kind = 4) (hn : ps.length ≤ 1000000) (F : Nat → Prop) (hs : SupT w N e.params (.slice pa pn pc) F) :
    Calls Tryd.prog 21 #[.agg #[.int .i64 e.kind, .string (bs e.id), .string (bs e.name), .string (bs e.owner), .string (bs e.type), .bool e.stat, .slice pa pn pc, .int .i64 e.file, .int .i64 e.at_], .bool false, .pointer (some ⟨bt, 0, none⟩), .pointer (some ⟨bm, 0, none⟩), .pointer (some ⟨bl, 0, none⟩)] w
      fun en w' => AddIs w N bl bm bt mb v ps (e, .slice pa pn pc) false en w' := by
  have hst : Hid (step (ps.map (·.1)) e false = false) := Lib.hid (step_loc hk)
  have g0 : (e.kind != 4) = false := by simp [hk]
  obtain ⟨W1, hW1⟩ : ∃ W1, Hid (w.alloc (.cells #[.int .i64 e.kind, .string (bs e.id), .string (bs e.name), .string (bs e.owner), .string (bs e.type), .bool e.stat, .slice pa pn pc, .int .i64 e.file, .int .i64 e.at_] 34) = W1) := ⟨_, Lib.hid rfl⟩
  have R1 : RowAt W1 w.heap.size 34 #[.int .i64 e.kind, .string (bs e.id), .string (bs e.name), .string (bs e.owner), .string (bs e.type), .bool e.stat, .slice pa pn pc, .int .i64 e.file, .int .i64 e.at_] := by rw [← hW1.out]; exact RowAt.new w 34 _
  have B1 : Below w.heap.size w W1 := by rw [← hW1.out]; exact (Below.refl _ w).alloc (Nat.le_refl _) _
  have H1 := h.later B1
  obtain ⟨va, vc, rfl⟩ : ∃ a c, v = .slice a ps.length c := by
    rcases h.own.1.2 with ⟨rfl, h0⟩ | ⟨g, cap, cur, rfl, _⟩
    · exact ⟨_, _, by rw [h0]⟩
    · exact ⟨_, _, rfl⟩
  obtain ⟨i0, hi, hz0, hz1, hz2⟩ := info_parts infoEnt
  obtain ⟨vn, hvn⟩ : ∃ n, Hid (ps.length = n) := ⟨_, Lib.hid rfl⟩
  have c0 : W1.cell? ⟨w.heap.size, 0, none⟩ = some (.int .i64 e.kind) := R1.cell rfl
  have c1 : W1.cell? ⟨w.heap.size, 1, none⟩ = some (.string (bs e.id)) := R1.cell rfl
  have c2 : W1.cell? ⟨w.heap.size, 2, none⟩ = some (.string (bs e.name)) := R1.cell rfl
  have c3 : W1.cell? ⟨w.heap.size, 3, none⟩ = some (.string (bs e.owner)) := R1.cell rfl
  have c4 : W1.cell? ⟨w.heap.size, 4, none⟩ = some (.string (bs e.type)) := R1.cell rfl
  have c5 : W1.cell? ⟨w.heap.size, 5, none⟩ = some (.bool e.stat) := R1.cell rfl
  have c6 : W1.cell? ⟨w.heap.size, 6, none⟩ = some (.slice pa pn pc) := R1.cell rfl
  have c7 : W1.cell? ⟨w.heap.size, 7, none⟩ = some (.int .i64 e.file) := R1.cell rfl
  have c8 : W1.cell? ⟨w.heap.size, 8, none⟩ = some (.int .i64 e.at_) := R1.cell rfl
  have HR : Hid ((fun V => Tz bl bm mb (Value.slice va ps.length vc).ownBlock w V ∧ RowAt V bl 27 #[.slice va ps.length vc] ∧ RowAt V bm 30 #[.int .i64 0, .int .i64 0, .int .i64 0] ∧ RowAt V bt 48 #[.map (some mb)] ∧ OwnE N V (.slice va ps.length vc) ps ∧ (∃ m, m ≤ ps.length + 1 ∧ SetHas V mb m (keysOf (ps.map (·.1) ++ [e]))) ∧ SupT V N e.params (.slice pa pn pc) F ∧ RowAt V w.heap.size 34 #[.int .i64 e.kind, .string (bs e.id), .string (bs e.name), .string (bs e.owner), .string (bs e.type), .bool e.stat, .slice pa pn pc, .int .i64 e.file, .int .i64 e.at_]) W1) := Lib.hid ⟨tz_of_below B1, H1.rl, H1.rm, H1.rt, H1.own, by
    obtain ⟨m, h1, h2⟩ := H1.set
    refine ⟨m, by omega, ?_⟩
    rw [keysOf_snoc, if_neg (by simp [hk]), List.append_nil]
    exact h2, hs.below B1, R1⟩
  have ll := h.ll
  have lm := h.lm
  have lt := h.lt
  have lb := h.lb
  clear R1 B1 H1 h hk
  go_enter Tryd.func21, Tryd.ntmps21
  go_upto_region 1 with fail
  rw [hW1.out]
  go_upto_region 8 with fail
  clear c0 c1 c2 c3 c4 c5 c6 c7 c8
  refine X.wp_gen (fun V => Tz bl bm mb (Value.slice va ps.length vc).ownBlock w V ∧ RowAt V bl 27 #[.slice va ps.length vc] ∧ RowAt V bm 30 #[.int .i64 0, .int .i64 0, .int .i64 0] ∧ RowAt V bt 48 #[.map (some mb)] ∧ OwnE N V (.slice va ps.length vc) ps ∧ (∃ m, m ≤ ps.length + 1 ∧ SetHas V mb m (keysOf (ps.map (·.1) ++ [e]))) ∧ SupT V N e.params (.slice pa pn pc) F ∧ RowAt V w.heap.size 34 #[.int .i64 e.kind, .string (bs e.id), .string (bs e.name), .string (bs e.owner), .string (bs e.type), .bool e.stat, .slice pa pn pc, .int .i64 e.file, .int .i64 e.at_]) HR.out ?_
  rintro V ⟨tz, rl, rm, rt, own, set, sup, re⟩
  have HEND := Lib.hid (fun (g cap : Nat) (w1 : World) => @add_end w V w1 N bl bm bt mb g cap (.slice va ps.length vc) ps (e, .slice pa pn pc) F (.cells #[.int .i64 e.kind, .string (bs e.id), .string (bs e.name), .string (bs e.owner), .string (bs e.type), .bool e.stat, .slice pa pn pc, .int .i64 e.file, .int .i64 e.at_] 34) tz rl rm rt own set ll lm lt lb sup)
  have HL := Lib.hid rl
  have l0 : V.cell? ⟨bl, 0, none⟩ = some (.slice va ps.length vc) := rl.cell rfl
  have hnl : Hid (some bl ≠ (Value.slice va ps.length vc).ownBlock) := Lib.hid (own_ne own.1 rl (by decide))
  have HO := Lib.hid own
  have c0 : V.cell? ⟨w.heap.size, 0, none⟩ = some (.int .i64 e.kind) := re.cell rfl
  have c1 : V.cell? ⟨w.heap.size, 1, none⟩ = some (.string (bs e.id)) := re.cell rfl
  have c2 : V.cell? ⟨w.heap.size, 2, none⟩ = some (.string (bs e.name)) := re.cell rfl
  have c3 : V.cell? ⟨w.heap.size, 3, none⟩ = some (.string (bs e.owner)) := re.cell rfl
  have c4 : V.cell? ⟨w.heap.size, 4, none⟩ = some (.string (bs e.type)) := re.cell rfl
  have c5 : V.cell? ⟨w.heap.size, 5, none⟩ = some (.bool e.stat) := re.cell rfl
  have c6 : V.cell? ⟨w.heap.size, 6, none⟩ = some (.slice pa pn pc) := re.cell rfl
  have c7 : V.cell? ⟨w.heap.size, 7, none⟩ = some (.int .i64 e.file) := re.cell rfl
  have c8 : V.cell? ⟨w.heap.size, 8, none⟩ = some (.int .i64 e.at_) := re.cell rfl
  have hbase := own.2.1
  clear tz rl rm rt own set sup re
  go_wp2_with (at_builtin; refine wpList_append_lies _ rfl _ _ 27 rfl N 34 i0 _ 9 120 Tryd.underlying27 hi hz0 hz1 hz2 rfl (by decide) (.slice va ps.length vc) ps.length (fe ps) rfl (HO.out.1.alloc _) ⟨V.heap.size, 0, none⟩ 1 1 (rowE (e, .slice pa pn pc)) rfl rfl (World.news_of_block (heap_alloc_new V _)) (by simp [rowE, En.vals, Value.oneCell']) (by decide) (by unfold maxLen; omega) (by omega) (by simp; omega) (V.heap.size + 1) (by simp) ?_; intro g cap w1 hown hgrow hat hlt; have HE := Lib.hid (HEND.out g cap w1 hown hgrow hat); have k1 := RowAt.same (HL.out.alloc _) (hgrow.block bl (HL.out.alloc _).lt hnl.out); have l1 : w1.cell? ⟨bl, 0, none⟩ = some (.slice va ps.length vc) := k1.cell rfl; have lf := k1.frozen 0; clear hown hgrow hat k1)
  go_ret
  exact AddIs.yes hst.out HE.out.2.1 HE.out.1 HE.out.2.2
set_option maxRecDepth 100000 in
set_option maxHeartbeats 16000000 in
theorem add_not_no (e : En) (pa : Option Addr) (pn pc : Nat) (w : World) (N bl bm bt mb : Nat) (v : Value) (ps : List Pe) (h : AddSt w N bl bm bt mb v ps) (tw : Bool) (hk : e.kind ≠ 4) (hw : (Lit.int .i64 e.kind).wf = true) (h1 : e.owner.length ≤ 100000000) (h2 : e.name.length ≤ 100000000) (hn : ps.length ≤ 1000000) (hin : e.key ∈ keysOf (ps.map (·.1))) :
    Calls Tryd.prog 21 #[.agg #[.int .i64 e.kind, .string (bs e.id), .string (bs e.name), .string (bs e.owner), .string (bs e.type), .bool e.stat, .slice pa pn pc, .int .i64 e.file, .int .i64 e.at_], .bool tw, .pointer (some ⟨bt, 0, none⟩), .pointer (some ⟨bm, 0, none⟩), .pointer (some ⟨bl, 0, none⟩)] w
      fun en w' => AddIs w N bl bm bt mb v ps (e, .slice pa pn pc) tw en w' := by
  have hst : Hid (step (ps.map (·.1)) e tw = true) := Lib.hid (by rw [step_not hk]; exact decide_eq_true hin)
  have g0 : (e.kind != 4) = true := by simp [hk]
  obtain ⟨W1, hW1⟩ : ∃ W1, Hid (w.alloc (.cells #[.int .i64 e.kind, .string (bs e.id), .string (bs e.name), .string (bs e.owner), .string (bs e.type), .bool e.stat, .slice pa pn pc, .int .i64 e.file, .int .i64 e.at_] 34) = W1) := ⟨_, Lib.hid rfl⟩
  have R1 : RowAt W1 w.heap.size 34 #[.int .i64 e.kind, .string (bs e.id), .string (bs e.name), .string (bs e.owner), .string (bs e.type), .bool e.stat, .slice pa pn pc, .int .i64 e.file, .int .i64 e.at_] := by rw [← hW1.out]; exact RowAt.new w 34 _
  have B1 : Below w.heap.size w W1 := by rw [← hW1.out]; exact (Below.refl _ w).alloc (Nat.le_refl _) _
  have H1 := h.later B1
  obtain ⟨W2, hW2⟩ : ∃ W2, Hid (W1.alloc (.cells #[.int .i64 e.kind, .string (bs e.owner), .string (bs e.name)] 50) = W2) := ⟨_, Lib.hid rfl⟩
  have R2 : RowAt W2 W1.heap.size 50 #[.int .i64 e.kind, .string (bs e.owner), .string (bs e.name)] := by rw [← hW2.out]; exact RowAt.new W1 50 _
  have B2 : Below W1.heap.size W1 W2 := by rw [← hW2.out]; exact (Below.refl _ W1).alloc (Nat.le_refl _) _
  have H2 := H1.later B2
  have R12 := R1.later B2
  obtain ⟨m, hm, hset⟩ := H2.set
  have e1 : tl (bs e.owner) = e.owner := tl_bs _
  have e2 : tl (bs e.name) = e.name := tl_bs _
  have s1 : (bs e.owner).size ≤ maxLen := by rw [bs_size]; unfold maxLen; omega
  have s2 : (bs e.name).size ≤ maxLen := by rw [bs_size]; unfold maxLen; omega
  have run1 := hset.look e.kind (bs e.owner) (bs e.name) hw s1 s2
  rw [e1, e2, show decide ((⟨e.kind, e.owner, e.name⟩ : Key) ∈ keysOf (ps.map (·.1))) = true from decide_eq_true hin] at run1
  obtain ⟨W3, run2, set3, grow3⟩ := hset.put e.kind (bs e.owner) (bs e.name) hw s1 s2 (by unfold maxLen; omega)
  rw [e1, e2] at set3
  obtain ⟨es, cl, hmap⟩ := hset.map
  have sz1 : W1.heap.size = w.heap.size + 1 := by rw [← hW1.out]; simp
  have tz2 : Tz bl bm mb v.ownBlock w W2 := tz_of_below (B1.trans (B2.mono B1.size))
  have tz3 : Tz bl bm mb v.ownBlock w W3 := ⟨grow3.os.trans tz2.os, grow3.tape.trans tz2.tape, grow3.output.trans tz2.output, Nat.le_trans tz2.size grow3.size, fun k k0 k1 k2 k3 k4 => (grow3.block k (Nat.lt_of_lt_of_le k0 tz2.size) (by simpa using k3)).trans (tz2.keep k k0 k1 k2 k3 k4)⟩
  have r3 : RowAt W3 w.heap.size 34 #[.int .i64 e.kind, .string (bs e.id), .string (bs e.name), .string (bs e.owner), .string (bs e.type), .bool e.stat, .slice pa pn pc, .int .i64 e.file, .int .i64 e.at_] := R12.same (grow3.block _ R12.lt (by have := row_ne_map R12 hmap; simpa using this))
  have m3 : RowAt W3 bm 30 #[.int .i64 0, .int .i64 0, .int .i64 0] := H2.rm.same (grow3.block _ H2.rm.lt (by have := row_ne_map H2.rm hmap; simpa using this))
  have k0 : W2.cell? ⟨w.heap.size + 1, 0, none⟩ = some (.int .i64 e.kind) := by rw [← sz1]; exact R2.cell rfl
  have k1 : W2.cell? ⟨w.heap.size + 1, 1, none⟩ = some (.string (bs e.owner)) := by rw [← sz1]; exact R2.cell rfl
  have k2 : W2.cell? ⟨w.heap.size + 1, 2, none⟩ = some (.string (bs e.name)) := by rw [← sz1]; exact R2.cell rfl
  have t0 : W2.cell? ⟨bt, 0, none⟩ = some (.map (some mb)) := H2.rt.cell rfl
  have c0 : W1.cell? ⟨w.heap.size, 0, none⟩ = some (.int .i64 e.kind) := R1.cell rfl
  have c2 : W1.cell? ⟨w.heap.size, 2, none⟩ = some (.string (bs e.name)) := R1.cell rfl
  have c3 : W1.cell? ⟨w.heap.size, 3, none⟩ = some (.string (bs e.owner)) := R1.cell rfl
  have c7 : W3.cell? ⟨w.heap.size, 7, none⟩ = some (.int .i64 e.file) := r3.cell rfl
  have c8 : W3.cell? ⟨w.heap.size, 8, none⟩ = some (.int .i64 e.at_) := r3.cell rfl
  have NN := Lib.hid (@add_no w W3 N bl bm bt mb v _ _ _ tz3 m3 (.int .i64 150) (.int .i64 e.file) (.int .i64 e.at_) _ rfl)
  have m0 : W3.cell? ⟨bm, 0, none⟩ = some (.int .i64 0) := m3.cell rfl
  have m1 : W3.cell? ⟨bm, 1, none⟩ = some (.int .i64 0) := m3.cell rfl
  have m2 : W3.cell? ⟨bm, 2, none⟩ = some (.int .i64 0) := m3.cell rfl
  have f0 := m3.frozen 0
  have f1 := m3.frozen 1
  have f2 := m3.frozen 2
  clear R1 B1 H1 h hk hin R2 R12 B2 H2 hset hmap set3 grow3 tz2 tz3 r3 m3 e1 e2 hm
  go_enter Tryd.func21, Tryd.ntmps21
  go_upto_region 1 with fail
  rw [hW1.out]
  go_upto_region 3 with fail
  rw [hW2.out]
  go_wp2_with fail
  go_ret
  exact AddIs.no hst.out NN.out.1 NN.out.2
set_option maxRecDepth 100000 in
set_option maxHeartbeats 16000000 in
theorem add_not_yes (e : En) (pa : Option Addr) (pn pc : Nat) (w : World) (N bl bm bt mb : Nat) (v : Value) (ps : List Pe) (h : AddSt w N bl bm bt mb v ps) (tw : Bool) (hk : e.kind ≠ 4) (hw : (Lit.int .i64 e.kind).wf = true) (h1 : e.owner.length ≤ 100000000) (h2 : e.name.length ≤ 100000000) (hn : ps.length ≤ 1000000) (hin : e.key ∉ keysOf (ps.map (·.1))) (F : Nat → Prop) (hs : SupT w N e.params (.slice pa pn pc) F) :
    Calls Tryd.prog 21 #[.agg #[.int .i64 e.kind, .string (bs e.id), .string (bs e.name), .string (bs e.owner), .string (bs e.type), .bool e.stat, .slice pa pn pc, .int .i64 e.file, .int .i64 e.at_], .bool tw, .pointer (some ⟨bt, 0, none⟩), .pointer (some ⟨bm, 0, none⟩), .pointer (some ⟨bl, 0, none⟩)] w
      fun en w' => AddIs w N bl bm bt mb v ps (e, .slice pa pn pc) tw en w' := by
  have hst : Hid (step (ps.map (·.1)) e tw = false) := Lib.hid (by rw [step_not hk]; exact decide_eq_false hin)
  have g0 : (e.kind != 4) = true := by simp [hk]
  obtain ⟨W1, hW1⟩ : ∃ W1, Hid (w.alloc (.cells #[.int .i64 e.kind, .string (bs e.id), .string (bs e.name), .string (bs e.owner), .string (bs e.type), .bool e.stat, .slice pa pn pc, .int .i64 e.file, .int .i64 e.at_] 34) = W1) := ⟨_, Lib.hid rfl⟩
  have R1 : RowAt W1 w.heap.size 34 #[.int .i64 e.kind, .string (bs e.id), .string (bs e.name), .string (bs e.owner), .string (bs e.type), .bool e.stat, .slice pa pn pc, .int .i64 e.file, .int .i64 e.at_] := by rw [← hW1.out]; exact RowAt.new w 34 _
  have B1 : Below w.heap.size w W1 := by rw [← hW1.out]; exact (Below.refl _ w).alloc (Nat.le_refl _) _
  have H1 := h.later B1
  obtain ⟨va, vc, rfl⟩ : ∃ a c, v = .slice a ps.length c := by
    rcases h.own.1.2 with ⟨rfl, h0⟩ | ⟨g, cap, cur, rfl, _⟩
    · exact ⟨_, _, by rw [h0]⟩
    · exact ⟨_, _, rfl⟩
  obtain ⟨i0, hi, hz0, hz1, hz2⟩ := info_parts infoEnt
  obtain ⟨vn, hvn⟩ : ∃ n, Hid (ps.length = n) := ⟨_, Lib.hid rfl⟩
  obtain ⟨W2, hW2⟩ : ∃ W2, Hid (W1.alloc (.cells #[.int .i64 e.kind, .string (bs e.owner), .string (bs e.name)] 50) = W2) := ⟨_, Lib.hid rfl⟩
  have R2 : RowAt W2 W1.heap.size 50 #[.int .i64 e.kind, .string (bs e.owner), .string (bs e.name)] := by rw [← hW2.out]; exact RowAt.new W1 50 _
  have B2 : Below W1.heap.size W1 W2 := by rw [← hW2.out]; exact (Below.refl _ W1).alloc (Nat.le_refl _) _
  have H2 := H1.later B2
  have R12 := R1.later B2
  obtain ⟨m, hm, hset⟩ := H2.set
  have e1 : tl (bs e.owner) = e.owner := tl_bs _
  have e2 : tl (bs e.name) = e.name := tl_bs _
  have s1 : (bs e.owner).size ≤ maxLen := by rw [bs_size]; unfold maxLen; omega
  have s2 : (bs e.name).size ≤ maxLen := by rw [bs_size]; unfold maxLen; omega
  have run1 := hset.look e.kind (bs e.owner) (bs e.name) hw s1 s2
  rw [e1, e2, show decide ((⟨e.kind, e.owner, e.name⟩ : Key) ∈ keysOf (ps.map (·.1))) = false from decide_eq_false hin] at run1
  obtain ⟨W3, run2, set3, grow3⟩ := hset.put e.kind (bs e.owner) (bs e.name) hw s1 s2 (by unfold maxLen; omega)
  rw [e1, e2] at set3
  obtain ⟨es, cl, hmap⟩ := hset.map
  have sz1 : W1.heap.size = w.heap.size + 1 := by rw [← hW1.out]; simp
  have tz2 : Tz bl bm mb (Value.slice va ps.length vc).ownBlock w W2 := tz_of_below (B1.trans (B2.mono B1.size))
  have tz3 : Tz bl bm mb (Value.slice va ps.length vc).ownBlock w W3 := ⟨grow3.os.trans tz2.os, grow3.tape.trans tz2.tape, grow3.output.trans tz2.output, Nat.le_trans tz2.size grow3.size, fun k k0 k1 k2 k3 k4 => (grow3.block k (Nat.lt_of_lt_of_le k0 tz2.size) (by simpa using k3)).trans (tz2.keep k k0 k1 k2 k3 k4)⟩
  have r3 : RowAt W3 w.heap.size 34 #[.int .i64 e.kind, .string (bs e.id), .string (bs e.name), .string (bs e.owner), .string (bs e.type), .bool e.stat, .slice pa pn pc, .int .i64 e.file, .int .i64 e.at_] := R12.same (grow3.block _ R12.lt (by have := row_ne_map R12 hmap; simpa using this))
  have m3 : RowAt W3 bm 30 #[.int .i64 0, .int .i64 0, .int .i64 0] := H2.rm.same (grow3.block _ H2.rm.lt (by have := row_ne_map H2.rm hmap; simpa using this))
  have k0 : W2.cell? ⟨w.heap.size + 1, 0, none⟩ = some (.int .i64 e.kind) := by rw [← sz1]; exact R2.cell rfl
  have k1 : W2.cell? ⟨w.heap.size + 1, 1, none⟩ = some (.string (bs e.owner)) := by rw [← sz1]; exact R2.cell rfl
  have k2 : W2.cell? ⟨w.heap.size + 1, 2, none⟩ = some (.string (bs e.name)) := by rw [← sz1]; exact R2.cell rfl
  have t0 : W2.cell? ⟨bt, 0, none⟩ = some (.map (some mb)) := H2.rt.cell rfl
  have c0 : W1.cell? ⟨w.heap.size, 0, none⟩ = some (.int .i64 e.kind) := R1.cell rfl
  have c2 : W1.cell? ⟨w.heap.size, 2, none⟩ = some (.string (bs e.name)) := R1.cell rfl
  have c3 : W1.cell? ⟨w.heap.size, 3, none⟩ = some (.string (bs e.owner)) := R1.cell rfl
  have l3 : RowAt W3 bl 27 #[.slice va ps.length vc] := H2.rl.same (grow3.block _ H2.rl.lt (by have := row_ne_map H2.rl hmap; simpa using this))
  have t3 : RowAt W3 bt 48 #[.map (some mb)] := H2.rt.same (grow3.block _ H2.rt.lt (by have := row_ne_map H2.rt hmap; simpa using this))
  have et : ∀ b, b < W2.heap.size → Et W2 b → W3.heap[b]? = W2.heap[b]? := fun b hb hE => grow3.block b hb (by
    intro e9
    obtain rfl := Option.some.inj e9
    obtain ⟨cs, t, fr, q1, _⟩ := hE
    rw [hmap] at q1
    cases q1)
  have HR : Hid ((fun V => Tz bl bm mb (Value.slice va ps.length vc).ownBlock w V ∧ RowAt V bl 27 #[.slice va ps.length vc] ∧ RowAt V bm 30 #[.int .i64 0, .int .i64 0, .int .i64 0] ∧ RowAt V bt 48 #[.map (some mb)] ∧ OwnE N V (.slice va ps.length vc) ps ∧ (∃ m, m ≤ ps.length + 1 ∧ SetHas V mb m (keysOf (ps.map (·.1) ++ [e]))) ∧ SupT V N e.params (.slice pa pn pc) F ∧ RowAt V w.heap.size 34 #[.int .i64 e.kind, .string (bs e.id), .string (bs e.name), .string (bs e.owner), .string (bs e.type), .bool e.stat, .slice pa pn pc, .int .i64 e.file, .int .i64 e.at_]) W3) := Lib.hid ⟨tz3, l3, m3, t3, owns_on H2.own grow3.size fun b _ h5 h6 => et b h5 h6, ⟨m + 1, by omega, by
      rw [keysOf_snoc, if_pos hk]
      exact set3.congr fun k => by simp [En.key, or_comm]⟩, ((hs.below B1).below B2).keep fun b hb => by
        obtain ⟨_, cs, fr, h6⟩ := ((hs.below B1).below B2).1 b hb
        exact et b (((hs.below B1).below B2).lt hb) ⟨_, _, _, h6, .inr rfl⟩, r3⟩
  have ll := h.ll
  have lm := h.lm
  have lt := h.lt
  have lb := h.lb
  clear R1 B1 H1 h hk hin R2 R12 B2 H2 hset hmap set3 grow3 tz2 tz3 r3 m3 l3 t3 et e1 e2 hm
  go_enter Tryd.func21, Tryd.ntmps21
  go_upto_region 1 with fail
  rw [hW1.out]
  go_upto_region 3 with fail
  rw [hW2.out]
  go_upto_region 8 with fail
  clear c0 c2 c3 k0 k1 k2 t0 run1 run2
  refine X.wp_gen (fun V => Tz bl bm mb (Value.slice va ps.length vc).ownBlock w V ∧ RowAt V bl 27 #[.slice va ps.length vc] ∧ RowAt V bm 30 #[.int .i64 0, .int .i64 0, .int .i64 0] ∧ RowAt V bt 48 #[.map (some mb)] ∧ OwnE N V (.slice va ps.length vc) ps ∧ (∃ m, m ≤ ps.length + 1 ∧ SetHas V mb m (keysOf (ps.map (·.1) ++ [e]))) ∧ SupT V N e.params (.slice pa pn pc) F ∧ RowAt V w.heap.size 34 #[.int .i64 e.kind, .string (bs e.id), .string (bs e.name), .string (bs e.owner), .string (bs e.type), .bool e.stat, .slice pa pn pc, .int .i64 e.file, .int .i64 e.at_]) HR.out ?_
  rintro V ⟨tz, rl, rm, rt, own, set, sup, re⟩
  have HEND := Lib.hid (fun (g cap : Nat) (w1 : World) => @add_end w V w1 N bl bm bt mb g cap (.slice va ps.length vc) ps (e, .slice pa pn pc) F (.cells #[.int .i64 e.kind, .string (bs e.id), .string (bs e.name), .string (bs e.owner), .string (bs e.type), .bool e.stat, .slice pa pn pc, .int .i64 e.file, .int .i64 e.at_] 34) tz rl rm rt own set ll lm lt lb sup)
  have HL := Lib.hid rl
  have l0 : V.cell? ⟨bl, 0, none⟩ = some (.slice va ps.length vc) := rl.cell rfl
  have hnl : Hid (some bl ≠ (Value.slice va ps.length vc).ownBlock) := Lib.hid (own_ne own.1 rl (by decide))
  have HO := Lib.hid own
  have c0 : V.cell? ⟨w.heap.size, 0, none⟩ = some (.int .i64 e.kind) := re.cell rfl
  have c1 : V.cell? ⟨w.heap.size, 1, none⟩ = some (.string (bs e.id)) := re.cell rfl
  have c2 : V.cell? ⟨w.heap.size, 2, none⟩ = some (.string (bs e.name)) := re.cell rfl
  have c3 : V.cell? ⟨w.heap.size, 3, none⟩ = some (.string (bs e.owner)) := re.cell rfl
  have c4 : V.cell? ⟨w.heap.size, 4, none⟩ = some (.string (bs e.type)) := re.cell rfl
  have c5 : V.cell? ⟨w.heap.size, 5, none⟩ = some (.bool e.stat) := re.cell rfl
  have c6 : V.cell? ⟨w.heap.size, 6, none⟩ = some (.slice pa pn pc) := re.cell rfl
  have c7 : V.cell? ⟨w.heap.size, 7, none⟩ = some (.int .i64 e.file) := re.cell rfl
  have c8 : V.cell? ⟨w.heap.size, 8, none⟩ = some (.int .i64 e.at_) := re.cell rfl
  have hbase := own.2.1
  clear tz rl rm rt own set sup re
  go_wp2_with (at_builtin; refine wpList_append_lies _ rfl _ _ 27 rfl N 34 i0 _ 9 120 Tryd.underlying27 hi hz0 hz1 hz2 rfl (by decide) (.slice va ps.length vc) ps.length (fe ps) rfl (HO.out.1.alloc _) ⟨V.heap.size, 0, none⟩ 1 1 (rowE (e, .slice pa pn pc)) rfl rfl (World.news_of_block (heap_alloc_new V _)) (by simp [rowE, En.vals, Value.oneCell']) (by decide) (by unfold maxLen; omega) (by omega) (by simp; omega) (V.heap.size + 1) (by simp) ?_; intro g cap w1 hown hgrow hat hlt; have HE := Lib.hid (HEND.out g cap w1 hown hgrow hat); have k1 := RowAt.same (HL.out.alloc _) (hgrow.block bl (HL.out.alloc _).lt hnl.out); have l1 : w1.cell? ⟨bl, 0, none⟩ = some (.slice va ps.length vc) := k1.cell rfl; have lf := k1.frozen 0; clear hown hgrow hat k1)
  go_ret
  exact AddIs.yes hst.out HE.out.2.1 HE.out.1 HE.out.2.2
end Go.Proofs.YtbnbmjdjkadgoaaDoor.D
